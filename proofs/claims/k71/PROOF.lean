import PyProof.Rows.All
import Wide.All
import OpenK.AllK
import Wide.FinOn
import Lean
import PyProof.EqAt
import PyProof.EqKinds
import PyProof.TupleCall
import KE.KIntText
import KE.KDictList
import PyProof.StationsW
import PyProof.ExcClass2
import OpenK.KRaise
import OpenK.KOwn
import KE.KTryMore
import PyProof.NsDelKeeps
import PyProof.Rows.Catch
import PyProof.ExcArgs
import PyProof.AttrMissHeap
import KE.KDictOf
import KE.KPairComp
import PyProof.P3In
import KE.KSortTup
import PyProof.EnumFor
import PyProof.EnumMake
import PyProof.EnumStmt
import PyProof.Rows.EnumRows
import PyProof.StrCalls
import PyProof.NeData
import PyProof.ExcInit
import PyProof.InstStoreFacts
import PyProof.StrOps2
import PyProof.Rows.StrNews2
import PySem.Challenge.RW_dykelengths_k71_what_writes_no_roll
set_option linter.all false
set_option compiler.extract_closed false
set_option genSizeOf false
set_option bootstrap.genMatcherCode false
set_option maxRecDepth 100000
set_option Elab.async false
set_option maxHeartbeats 16000000
noncomputable section
local macro_rules
|`(tactic|lia)=>`(tactic|lia -abstractProof)
local macro_rules
|`(tactic|trivial)=>`(tactic|decide +kernel)
open PySem renaming wpAny_bind->Aa,Value->Ac,Shared->Ad,wpAny_pure->Af,Addr->Ag,PyData->Aj,Program->Ar,boot_len->Av,FuncData->Ay,Around->AK,wpAny_ite_false->AM,World->AW,Heap->Bb,Expr->Bf,wpAny_holding->Bg,wpAny_mono->Bt,Stmt->BA,wpAny_newObj_type->BH,strKind->BJ,wpAny_ite_true->BV,wpAny_truthy_bool->BX,wpAny_isInstance->Cb,mem_of_lookup->Cc,wpAny_typeOf->Cf,codeAny_builtin->Ck,wpAny_call_entry->Ct,wpAny_callSpecial?_slot->CB,wpAny_call->CC,wpAny_setField->CO,Scope->CV,codeAny_mono->C2,codeAny_call_builtin->C3,SetTable->Dd,wpAny_of_eq->Dj,wpAny_Call_Name_kw->Dn,wpAny_passesOwn->Dr,wpAny_standAt->Ds,wpAny_attempt->Dt,wpAny_setState_of->Dz,wpAny_rule->DF,wpAny_askSetting->DH,Model->DM,wpAny_setEntries_of->DO,wpAny_execs_nil->DP,wpAny_getItem_str_slice->DZ,sizeLine_eq->D0,wpAny_loadPart_at->D9,Runs->Eb,NameKind->Ec,plainId_quiet->Ep,Ctx->Er,wpAny_field->Et,wpAny_specialOf->Ez,Keyword->EK,typeIs_str->EO,GenState->EU,fits_of_scanBound->E5,call_meets->Fl,IsPart->Fs,wpAny_updateSeq->Fv,wpAny_loadPart'->Fw,post_val_or_str->Fx,codeAny_of_tree->Fy,wpAny_runValue->FR,wpAny_fieldsOf->FS,tupleKind_room_in1->Gb,wpAny_pyIter_list->Gm,ExcBaseFacts->Gs,BindsTo->Gu,wpAny_execs_cons->Gw,noFill_tuple_add->Gx,Paired->Gz,Str->GQ,IsRangeIter->G8,CmpOp->G9,isSubtype_type->He,Result->Hh,wpAny_newList->Hm,seq_tuple_add->Hn,evalPart_none->Ho,call->Hq,Drawn->Hw,concat_meets->Hz,seqIndex_of->HP
open List renaming length_map->Ab,getElem?_eq_getElem->Ai,map_append->Al,length_append->Am,length_cons->An,mem_cons->Ao,size_toArray->Au,not_mem_nil->AB,getElem?_map->AF,mem_of_getElem?->AG,length_take->AJ,mem_cons_of_mem->AN,getElem?_eq_some_iff->AO,mem_cons_self->AQ,all_eq_true->AR,range->AY,take_add_one->A0,getElem?_eq_none->A2,mem_append->A4,mem_append_right->A5,map_cons->A6,eq_nil_of_length_eq_zero->A8,getD_eq_getElem?_getD->Ba,mem_singleton->Bd,take_length->Bh,take_of_length_le->Bi,mem_map->Bn,lookup_cons->BI,append_assoc->B2,append_nil->B5,length_drop->B7,getElem_mem->B8,mem_range->Ce,getElem?_append_left->Cg,drop_eq_getElem_cons->Ci,eraseIdx_sublist->Cj,mem_filterMap->Cm,sum_cons->Co,map_map->Cp,mem_append_left->Cs,ext_getElem?->Cv,getLast?_eq_getElem?->CN,length_range->CQ,flatMap_cons->CS,map_take->CZ,getElem?_range->C4,replicate->C5,drop_zero->C6,nodup_cons->Dg,all_cons->Di,take_append_drop->Dm,pairwise_map->Do,nodup_append->Dp,not_lt->Du,mem_of_mem_take->Dv,getElem?_append_right->Dw,mem_or_eq_of_mem_set->DB,length_reverse->DC,filterMap_cons->DD,map_drop->DG,find?_cons->DI,all_append->DJ,map_nil->DS,drop_eq_nil_of_le->DT,all_map->DU,length_singleton->D3,cons_prefix_cons->D5,take->D6,mapIdx_cons->D7,any_eq_true->D8,getElem?_of_mem->Eg,range_succ->Ek,length_nil->El,forIn_cons->Em,pairwise_cons->Ew,length_eraseIdx_of_lt->Ex,filter_append->Ey,pairwise_iff_getElem->EF,range'->EI,length->EJ,getElem?_take_of_lt->EM,any_cons->EN,le_antisymm->EW,getElem_inj->EX,getElem?_set_self->E6,length_set->E9,length_replicate->Fd,reverse_reverse->Fh,mem_iff_getElem->Fi,lookup->Fj,getElem?_set_ne->Fk,map_eq_nil_iff->FC,map_congr_left->FD,length_pos_iff->FE,reverse_cons->FV,map_set->FW,mem_toArray->F4,mem_flatMap->F7,getElem_map->F8,of_mem_zip->Gi,foldl_cons->Gj,lt_irrefl->Gv,take_nil->GZ,map->Hl
open PySem.W renaming Frag->Ae,nsIn->AC,keepIn->AS,mg_of->AX,mg_none_of->Bk,kitOne->Bm,fnOf->BC,codeIn->BP,findIn->B0,kia_one->B3,kas_sort->Dc,looks_findIn->EG,callWith_K->Fp,specialIn->FF,methodObj->FH,isFn->FJ,hasDictIn->FM,instObj->FY,OpenLaw->FZ,lookIn->Gd,mroIn->Gq,looks_mroIn->GJ,kas_tail3->Hu,kas_count->Hv,kas_rev->Hx,kas_descPart->Hy,hideAll_get->HQ,Looks->HR,KasT->HU
open PySem.Heap renaming get?_push_of_some->Ah,lt_size->Az,get?_push_size->AE,get?_update_self->Bo,get?_update_ne->BB,get?_update_other->BO,size_push->B4,SameBut->DV,size_update->F9
open Sum renaming inr->Ak,inl->FA
open Nat renaming le_refl->Ap,le_trans->AH,ne_of_lt->AU,lt_of_lt_of_le->AZ,zero_le->A3,lt_succ_of_lt->Bz,toDigits->BW,lt_succ_self->B9,lt_irrefl->Cd,ne_of_gt->CD,le_succ->CU,le_of_eq->DA,lt_trans->DW,le_of_lt->DX,toDigits_append_toDigits->En,lt_of_le_of_lt->ED,min_eq_left->Fc,lt_of_succ_lt->F0,min_eq_right->Ge,add_assoc->Hb,sub_zero->Hi,pow_succ->Hj,lt_or_ge->Hk,mul_one->Hs,log2_lt->Ht,mod_lt->HM
open Bool renaming false_ne_true->Aq,and_eq_true->Aw,true_and->Ax,and_false->A1,false_and->Bq,eq_iff_iff->BR,and_true->FO,not_eq_true'->FX,not_eq_true->Ga,or_eq_true->Gk
open PySem.Txt renaming split->AA,startswith->Bl,join->Dy,slice->Ea,join->EZ,slice_le->E8,partition->Ha,upper->Hc
open PySem.PyData renaming keyHash->AD,str->Bj,tuple->Ca,shown->Ej,depth->FP,showable->F3,int->Gh,strOk->GV
open PySem.Str renaming length_append->AI,ofString->Be,join->By
open Array renaming length_toList->AL,getD_eq_getD_getElem?->Bw,getElem?_eq_getElem->BZ,toList_inj->CF,getElem?_eq_none->E4
open PySem.Value renaming ref->AV,type->Bc,str->BG,int->BN,none->BY,builtin->De,isStrOf_shape->Fo,isStrOf->Fz,bool->Gn,float->Hf
open PySem.F renaming plainAttrs_list->A7,plainAttrs_str->A9,type_list_append->Bu,slot_list_append->Bv,type_str_split->BL,slot_str_split->BM,called_set->Cu,type_str_join->CG,slot_str_join->CH,type_list_pop->DQ,slot_list_pop->DR,excAttr_ValueError->Eo,type_list_insert->EA,slot_list_insert->EB,args_tuple_add_2->EC,entry_tuple_add->EH,slot_tuple_add->ER,plain_list_iadd->EY,slot_dict_get->E2,args_str_split_2->F1,entry_str_split->Gf,slot_str_split->Gr
open Or renaming inl->Bp,inr->FU
open PySem.NameKind renaming free->Br,cell->DY
open PySem.SetTable renaming fresh->Bs,grown->Dk,below->DL
open PySem.Obj renaming mapSeq->Bx,data_mapFields->BQ,isFreed_of_fields->CL,mapFields->ES,putSet->HL
open Option renaming map_eq_some_iff->BD,some->BS
open False renaming elim->BE
open Int renaming toNat_natCast->BK,toNat->CI,emod_lt_of_pos->CK,emod_nonneg->CT,toNat_of_nonneg->C7,le_refl->Ft,mul_nonneg->GC
open PyProof.Rows renaming slot_tuple_getitem->BU,callWith_type1->Cr,split_pos->CW,envOfC->Dl,split_weight->Ef,SortKind->Eu,AllBare->EL,Keyed->ET,IsTup->E7,listUpdate_at->F2,assignInOrder_cons->Gc,SortSt->Gy,Subscript_->Hg,StrsAre->HK,IntsAre->HN
open PySem.PassesOwn renaming never->B1
open PySem.Heap.SameBut renaming update->B6
open PySem.Sem renaming wp->Cn
open PySem.Around renaming under_plainId->Cq,under->FQ
open True renaming intro->Cw
open PySem.StrLaws renaming join_length_le->Cy,split_free->C8,join_split->C9,subAt_eq->FT
open PySem.W.KIN renaming signs_num->Cz
open PySem.Data renaming set->CA,seq->Ei,fields->Gg
open ForInStep renaming yield->CJ
open PySem.Builtin.Range renaming rangeSize->CM,small->EV
open PySem.Builtin.Frozenset renaming updateFrom->CP
open Ne renaming symm->CY
open Char renaming toNat->C1
open PySem.Builtin.List renaming listExtendWith->Da,listItems->DE,listUpdate->Es
open PyProof.Rows.F renaming plain_set_update_loop->Df
open PySem.Builtin.Slice renaming slicePlaces->Dh,sliceAdjust->Ee
open PySem.Builtin.Tuple renaming tupleExact->Dq
open List.Perm renaming refl->DK
open PySem.Code renaming quiet_builtin->DN,isFrame->Hd
open PySem.Builtin renaming divisionGoesByPylong->Ed
open List.Pairwise renaming nil->Eh
open PySem.Shared renaming TypeIs->EE
open PySem.Calls renaming callWith_builtin->E3,evalArgs_plain->Fe,spliced_cons->FN
open PySem.SeqAt.EqAt renaming str_str->Fb
open PySem.Builtin.Str renaming subAt->Ff,glued->Fg
open PySem.Paired renaming length->Fq
open Decidable renaming em->Fu
open PySem.SeqAt renaming EqAt->Gp
open Eq renaming symm->GE
open PySem.Walks renaming toS->GM
open PUnit renaming unit->Hr
open Prod renaming ext->HV
open PySem.Flow renaming ret->HX
def Ia{c:Prop}{h:Decidable c}(n:¬c){α:Sort u}{t e:α}:ite c t e=e:=if_neg n
def Ib{c:Prop}{h:Decidable c}(n:c){α:Sort u}{t e:α}:ite c t e=t:=if_pos n
def Ic{p:Prop}[s:Decidable p](h:p):decide p=true:=decide_eq_true h
def Ie{p:Prop}[s:Decidable p](h:¬p):decide p=false:=decide_eq_false h
def Ig{p:Prop}[s:Decidable p](h:decide p=true):p:=of_decide_eq_true h
def Ih{α:Sort u}{β:Sort v}{γ:Sort w}{f:α->β->γ}:∀a b,f a b=f a b:=fun _ _=>rfl
abbrev Ii:=List (PySem.Addr×PySem.Obj)
namespace L2
open PySem PySem.Spec PyProof.Rows
variable{P:Ar}{w:AW}{H H':Hp}{h h':Bb}{e:Bf}{X:Cx}{dl:Ii}{σ:St}{s:Ad}{pos:Pos}{E:Ac->Ad->Prop}{te:TE}{A:AK}{C f:Ag}{es:List Bf}
inductive Ex3{α β γ:Type}(p:α->β->γ->Prop):Prop
 | mk (a:α) (b:β) (c:γ) (h:p a b c):Ex3 p
inductive Aw3(a b c:Prop):Prop
 | mk (h:a) (i:b) (j:c):Aw3 a b c
inductive Aw6(a b c d e f:Prop):Prop
 | mk (h:a) (i:b) (j:c) (k:d) (l:e) (m:f):Aw6 a b c d e f
def aLE{α:Type}{J:List α}(h:J.length=1):∃ a0,J=[a0]:=by
 cases J with
 | nil=>simp at h
 | cons a0 r0=>
  cases r0 with
  | nil=>exact⟨a0,rfl⟩
  | cons _ _=>simp at h
def aIS{α:Type}{J:List α}(h:J.length=2):∃ a0 a1,J=[a0,a1]:=by
 cases J with
 | nil=>simp at h
 | cons a0 r0=>
  cases r0 with
  | nil=>simp at h
  | cons a1 r1=>
   cases r1 with
   | nil=>exact⟨a0,a1,rfl⟩
   | cons _ _=>simp at h
def aIT{α:Type}{J:List α}(h:J.length=3):∃ a0 a1 a2,J=[a0,a1,a2]:=by
 cases J with
 | nil=>simp at h
 | cons a0 r0=>
  cases r0 with
  | nil=>simp at h
  | cons a1 r1=>
   cases r1 with
   | nil=>simp at h
   | cons a2 r2=>
    cases r2 with
    | nil=>exact⟨a0,a1,a2,rfl⟩
    | cons _ _=>simp at h
def aKx{α:Type}{J:List α}(h:J.length=4):∃ a0 a1 a2 a3,J=[a0,a1,a2,a3]:=by
 cases J with
 | nil=>simp at h
 | cons a0 r0=>
  cases r0 with
  | nil=>simp at h
  | cons a1 r1=>
   cases r1 with
   | nil=>simp at h
   | cons a2 r2=>
    cases r2 with
    | nil=>simp at h
    | cons a3 r3=>
     cases r3 with
     | nil=>exact⟨a0,a1,a2,a3,rfl⟩
     | cons _ _=>simp at h
def aMH{α:Type}{J:List α}(h:J.length=5):∃ a0 a1 a2 a3 a4,J=[a0,a1,a2,a3,a4]:=by
 cases J with
 | nil=>simp at h
 | cons a0 r0=>
  cases r0 with
  | nil=>simp at h
  | cons a1 r1=>
   cases r1 with
   | nil=>simp at h
   | cons a2 r2=>
    cases r2 with
    | nil=>simp at h
    | cons a3 r3=>
     cases r3 with
     | nil=>simp at h
     | cons a4 r4=>
      cases r4 with
      | nil=>exact⟨a0,a1,a2,a3,a4,rfl⟩
      | cons _ _=>simp at h
abbrev Key:=Sum Int Str
def vK:Key->Ac->Bool
 | .inl k,v=>Value.isInt k v
 | .inr x,v=>Fz x v
def aKy(w:AW):Key->Int
 | .inl k=>hashInt k
 | .inr x=>hashStr w x
def fQ:∀{k:Key}{v:Ac},vK k v=true->(∃ i t,k=FA i/\v=BN i t)\/(∃ x t,k=Ak x/\v=BG x t)
 | .inl i,v,h=>by
  obtain⟨t,e⟩:=Value.isInt_shape (k:=i) (v:=v) h;exact .inl ⟨i,t,rfl,e⟩
 | .inr x,v,h=>by
  obtain⟨t,e⟩:=Fo (x:=x) (v:=v) h;exact .inr ⟨x,t,rfl,e⟩
def aFb(i:Int)(t:Tok):vK (.inl i) (.int i t)=true:=by simp[vK,Value.isInt]
def aFc(x:Str)(t:Tok):vK (.inr x) (.str x t)=true:=by simp[vK,Fz]
def aKz(a b:Int):decide ((FA a:Key)=FA b)=(a==b):=by
 by_cases e:a=b
 .subst e;simp
 .have h:¬ (FA a:Key)=FA b:=fun q=>e (FA.inj q);rw[Ie h];exact(beq_eq_false_iff_ne.mpr e).symm
def aKA(a b:Str):decide ((Ak a:Key)=Ak b)=decide (a=b):=by
 by_cases e:a=b
 .subst e;simp
 .have h:¬ (Ak a:Key)=Ak b:=fun q=>e (Ak.inj q);rw[Ie h,Ie e]
def aKB(a:Int)(b:Str):decide ((FA a:Key)=Ak b)=false:=Ie (fun q=>nomatch q)
def aKC(a:Str)(b:Int):decide ((Ak a:Key)=FA b)=false:=Ie (fun q=>nomatch q)
def cV(prog:Ar)(w:AW):PySem.KeyKind prog w Key where
 is:=vK
 hash:=aKy w
 inj:=fun v a b ha hb=>by
  rcases fQ ha with⟨i,t,rfl,rfl⟩|⟨x,t,rfl,rfl⟩
  .rcases fQ hb with⟨j,u,rfl,e⟩|⟨y,u,rfl,e⟩
   .injection e with e1 _;rw[e1]
   .exact nomatch e
  .rcases fQ hb with⟨j,u,rfl,e⟩|⟨y,u,rfl,e⟩
   .exact nomatch e
   .injection e with e1 _;rw[e1]
 byValue:=fun k v h=>by
  rcases fQ h with⟨i,t,rfl,rfl⟩|⟨x,t,rfl,rfl⟩<;>rfl
 pyHash:=fun hv h=>by
  rcases fQ hv with⟨i,t,rfl,rfl⟩|⟨x,t,rfl,rfl⟩
  .exact wpAny_pyHash_int h
  .exact wpAny_pyHash_str h
 eqBool:=fun hu hv h=>by
  rcases fQ hu with⟨i,t,rfl,rfl⟩|⟨x,t,rfl,rfl⟩
  .rcases fQ hv with⟨j,u,rfl,rfl⟩|⟨y,u,rfl,rfl⟩
   .rw[aKz]at h;exact wpAny_eqBool_int h
   .rw[aKB]at h;exact SeqAt.EqAt.int_str i t y u _ _ _ _ h
  .rcases fQ hv with⟨j,u,rfl,rfl⟩|⟨y,u,rfl,rfl⟩
   .rw[aKC]at h;exact SeqAt.EqAt.str_int x t j u _ _ _ _ h
   .rw[aKA]at h;exact wpAny_eqBool_str h
 «strs»:=fun k x t v h=>by
  rcases fQ h with⟨i,u,rfl,e⟩|⟨y,u,rfl,e⟩
  .exact nomatch e
  .injection e with e1 _;subst e1;cases v<;>rfl
def aBm(prog:Ar)(w:AW)(i:Int)(t:Tok):(cV prog w).is (.inl i) (.int i t)=true:=aFb i t
def aBn(prog:Ar)(w:AW)(x:Str)(t:Tok):(cV prog w).is (.inr x) (.str x t)=true:=aFc x t
inductive V where
 | non|bl (b:Bool)|int (i:Int)|str (x:Str)|byt (b:Array UInt8)|flt (b:UInt64)|ref (a:Ag)|ty (n:String)
 deriving DecidableEq
def cQ:V->Ac->Prop
 | .non,u=>u=BY
 | .bl b,u=>u=Gn b
 | .int i,u=>∃ t,u=BN i t
 | .str x,u=>∃ t,u=BG x t
 | .byt b,u=>∃ t,u=Value.bytes b t
 | .flt b,u=>∃ t,u=Hf b t
 | .ref a,u=>u=AV a
 | .ty n,u=>u=Bc n
abbrev cE:List V->List Ac->Prop:=Gz cQ
def cE.length{xs:List V}{J:List Ac}(r:cE xs J):xs.length=J.length:=Fq r
theorem cE.get:∀{xs:List V}{J:List Ac}{i:Nat}{x:V},cE xs J->xs[i]?=some x->∃ u,J[i]?=some u/\cQ x u
 | _,_,_,_,.nil,e=>by simp at e
 | _,_,0,_,.cons r _,e=>by simp at e;subst e;exact⟨_,rfl,r⟩
 | _,_,i+1,x,.cons _ t,e=>by
  obtain⟨u,h1,h2⟩:=cE.get (i:=i) (x:=x) t (by simpa using e);exact⟨u,by simpa using h1,h2⟩
theorem cE.set{x:V}{u:Ac}(r:cQ x u):∀{xs:List V}{J:List Ac} (i:Nat),cE xs J->cE (xs.set i x) (J.set i u)
 | _,_,_,.nil=>.nil
 | _,_,0,.cons _ t=>.cons r t
 | _,_,i+1,.cons q t=>.cons q (cE.set r i t)
theorem cE.append:∀{xs ys:List V}{J ws:List Ac},cE xs J->cE ys ws->cE (xs++ys) (J++ws)
 | _,_,_,_,.nil,s=>s
 | _,_,_,_,.cons r t,s=>.cons r (cE.append t s)
theorem cE.take:∀{xs:List V}{J:List Ac} (n:Nat),cE xs J->cE (xs.take n) (J.take n)
 | _,_,0,_=>.nil
 | _,_,_+1,.nil=>.nil
 | _,_,n+1,.cons r t=>.cons r (cE.take n t)
theorem cE.drop:∀{xs:List V}{J:List Ac} (n:Nat),cE xs J->cE (xs.drop n) (J.drop n)
 | _,_,0,r=>r
 | _,_,_+1,.nil=>.nil
 | _,_,n+1,.cons _ t=>cE.drop n t
def pP:Option V->Option Ac->Prop
 | some v,some u=>cQ v u
 | none,none=>True
 | _,_=>False
def KV{κ:Type}:List (κ×V)->List (κ×Ac)->Prop:=Gz fun(p:κ×V) (q:κ×Ac)=>p.1=q.1/\cQ p.2 q.2
def kV:Key->V
 | .inl i=>.int i
 | .inr x=>.str x
inductive HO where
  | lst (xs:List V)
  | tup (xs:List V)
  | dK (ee:List (Key×V))|dT (ee:List (List Key×V))
  | set (S:Int->Bool) (n:Nat)
  | ins (C dx:Ag) (fs:List (Str×V))
  | own (x:Ag)
  | xd (fs:List (Str×V))
  | met (f x:Ag)
  | rng (lo hi:Int)
  | frz (o:Obj) (u:HO)
  | tbl (ps:Array Ac)
  | ext (φ:Bb->Prop)
abbrev Hp:=Ag->Option HO
def upd(H:Hp)(a:Ag)(o:HO):Hp:=fun b=>if b=a then some o else H b
def aH{H:Hp}{a:Ag}{o:HO}:upd H a o a=some o:=by unfold upd;rw[Ib rfl]
def bE{H:Hp}{a b:Ag}{o:HO}(h:b≠a):upd H a o b=H b:=by unfold upd;rw[Ia h]
def aAq{H:Hp}{a:Ag}{o u:HO}:upd (upd H a o) a u=upd H a u:=by
 funext b;unfold upd;split<;>rfl
def aGa{H:Hp}{a b:Ag}{o u:HO}(h:H a=some o)(h':H b=some u)(d:o≠u):a≠b:=by
 intro e;subst e;rw[h]at h';exact d (BS.inj h')
def aZ{H:Hp}{a b:Ag}{o:HO}(h:H a=some o)(h':H b=none):a≠b:=by
 intro e;subst e;rw[h]at h';cases h'
section
variable(P:Ar)(w:AW)
def nU(h:Bb)(a:Ag)(items:Array Ac):Prop:=∃ o,h.get? a=some o/\(o.cls=.type "tuple"/\∃ n,o.data=.seq items n)/\o.dict=none
def nU.tup{h:Bb}{a:Ag}{items:Array Ac}(x:nU h a items):E7 h a items:=by
 obtain⟨o,e,c,_⟩:=x;exact⟨o,e,c⟩
instance nU.coe{h:Bb}{a:Ag}{items:Array Ac}:Coe (nU h a items) (E7 h a items):=⟨nU.tup⟩
def nU.lt{h:Bb}{a:Ag}{items:Array Ac}(x:nU h a items):a<h.objs.size:=x.tup.lt
def cZ(H:Hp)(h:Bb)(a:Ag):HO->Prop
 | .lst xs=>xs.length<=sizeLine/\∃(its:List Ac) (n:Nat),cE xs its/\h.get? a=some { cls:=.type "list",data:=.seq its.toArray n }
 | .tup xs=>xs.length<=sizeLine/\∃ its:List Ac,cE xs its/\nU h a its.toArray
 | .dK ee=>ee.length<=sizeLine/\(a==sysModules)=false/\∃ vs,KV ee vs/\h.DictOf (cV P w) a vs
 | .dT ee=>ee.length<=sizeLine/\(a==sysModules)=false/\∃ xs:List (List Key×Ag×Ac),
   Gz (fun(p:List Key×V) (q:List Key×Ag×Ac)=>p.1=q.1/\H q.2.1=some (.tup (p.1.map kV))/\cQ p.2 q.2.2) ee xs/\
   ∃ o es ep,h.get? a=some o/\o.ExactDict/\o.data=.dict es ep/\es.toList=xs.map (entryOfKey (tupleKind (cV P w)))/\(xs.map (·.1)).Nodup
 | .set S n=>h.SetOf (intKind P w) a S n
 | .ins C dx fs=>H dx=some (.own a)/\fs.length<=1000/\dx≠a/\h.get? a=some (FY C dx)/\
   ∃ mA,h.Ns1 dx mA/\(∀ f,pP (fs.lookup f) (mA f))/\PySem.Within mA (fs.map (·.1))
 | .own _=>∃ o,h.get? a=some o
 | .xd fs=>∃ mA,h.Ns1 a mA/\∀ f,pP (fs.lookup f) (mA f)
 | .rng lo hi=>∃ t u v,h.get? a=some { cls:=.type "range",data:=.fields #[.int lo t,.int hi u,.int 1 v] }
 | .frz o u=>h.get? a=some o/\cZ H h a u
 | .tbl ps=>h.get? a=some { cls:=.none,data:=.fields ps }
 | .met f x=>h.get? a=some (FH (.ref f) (.ref x))
 | .ext φ=>φ h/\(∃ o,h.get? a=some o)/\∀ h1 h2:Bb,φ h1->(∀ o,h1.get? a=some o->h2.get? a=some o)->φ h2
def HOk(H:Hp)(h:Bb):Prop:=∀ a o,H a=some o->cZ P w H h a o
end
section
variable{a:Ag}{o:HO}
def cZ.lt(x:cZ P w H h a o):a<h.objs.size:=by
 cases o with
 | lst xs=>obtain⟨_,_,_,_,e⟩:=x;exact Az e
 | tup xs=>obtain⟨_,_,_,p⟩:=x;exact p.lt
 | dK ee=>obtain⟨_,_,_,_,o,_,_,e,_⟩:=x;exact Az e
 | dT ee=>obtain⟨_,_,_,_,o,_,_,e,_⟩:=x;exact Az e
 | set S n=>obtain⟨o,_,_,_,e,_⟩:=x;exact Az e
 | ins C dx fs=>obtain⟨_,_,_,e,_⟩:=x;exact Az e
 | own y=>obtain⟨_,e⟩:=x;exact Az e
 | xd fs=>obtain⟨_,⟨_,_,_,e,_⟩,_⟩:=x;exact Az e
 | rng lo hi=>obtain⟨_,_,_,e⟩:=x;exact Az e
 | frz ob u=>obtain⟨e,_⟩:=x;exact Az e
 | tbl ps=>exact Az (show h.get? a=some _ from x)
 | met f y=>exact Az (show h.get? a=some _ from x)
 | ext φ=>obtain⟨_,⟨_,e⟩,_⟩:=x;exact Az e
theorem Paired.mapP{α β:Type}{F G:α->β->Prop}:∀{J:List α}{O:List β},Gz F J O->(∀ a b,F a b->G a b)->Gz G J O
 | _,_,.nil,_=>.nil
 | _,_,.cons r t,f=>.cons (f _ _ r) (Paired.mapP t f)
def cZ.stay(x:cZ P w H h a o)(k:∀ b u,(b=a\/H b=some (.own a))->h.get? b=some u->h'.get? b=some u)
  (O:∀ b,H b=some (.own a)->H' b=some (.own a)) (ht:∀ b xs,H b=some (.tup xs)->H' b=some (.tup xs)):cZ P w H' h' a o:=by
 induction o with
 | lst xs=>obtain⟨z,its,n,r,e⟩:=x;exact⟨z,its,n,r,k _ _ (.inl rfl) e⟩
 | tup xs=>obtain⟨z,its,r,ob,e,c⟩:=x;exact⟨z,its,r,ob,k _ _ (.inl rfl) e,c⟩
 | dK ee=>obtain⟨z,y,vs,r,ob,es,ep,e,c⟩:=x;exact⟨z,y,vs,r,ob,es,ep,k _ _ (.inl rfl) e,c⟩
 | dT ee=>
  obtain⟨z,y,xs,r,ob,es,ep,e,c⟩:=x;exact⟨z,y,xs,Paired.mapP r fun p q z=>⟨z.1,ht _ _ z.2.1,z.2.2⟩,ob,es,ep,k _ _ (.inl rfl) e,c⟩
 | set S n=>obtain⟨ob,es,ep,t,e,c⟩:=x;exact⟨ob,es,ep,t,k _ _ (.inl rfl) e,c⟩
 | ins C dx fs=>
  obtain⟨d,z,ne,e,mA,⟨od,es,ep,e2,c⟩,r⟩:=x;exact⟨O _ d,z,ne,k _ _ (.inl rfl) e,mA,⟨od,es,ep,k _ _ (.inr d) e2,c⟩,r⟩
 | own y=>obtain⟨ob,e⟩:=x;exact⟨ob,k _ _ (.inl rfl) e⟩
 | xd fs=>obtain⟨mA,⟨od,es,ep,e,c⟩,r⟩:=x;exact⟨mA,⟨od,es,ep,k _ _ (.inl rfl) e,c⟩,r⟩
 | rng lo hi=>obtain⟨t,u,v,e⟩:=x;exact⟨t,u,v,k _ _ (.inl rfl) e⟩
 | frz ob u J=>obtain⟨e,q⟩:=x;exact⟨k _ _ (.inl rfl) e,J q⟩
 | tbl ps=>
  have e:h.get? a=some { cls:=.none,data:=.fields ps }:=x;show h'.get? a=some { cls:=.none,data:=.fields ps };exact k a _ (.inl rfl) e
 | met f y=>
  have e:h.get? a=some (FH (.ref f) (.ref y)):=x;show h'.get? a=some (FH (.ref f) (.ref y));exact k a _ (.inl rfl) e
 | ext φ=>obtain⟨p,⟨o,e⟩,st⟩:=x;exact⟨st _ _ p fun o q=>k _ _ (.inl rfl) q,⟨o,k _ _ (.inl rfl) e⟩,st⟩
def HOk.lt(x:HOk P w H h)(e:H a=some o):a<h.objs.size:=(x a o e).lt
def HOk.fresh(x:HOk P w H h)(e:h.objs.size<=a):H a=none:=by
 cases q:H a with
 | none=>rfl
 | some u=>exact absurd (AZ (x.lt q) e) (Cd _)
def HOk.kept(x:HOk P w H h)(k:∀ b u,h.get? b=some u->h'.get? b=some u):HOk P w H h':=fun a o e=>
 (x a o e).stay (fun b u _ q=>k b u q) (fun _ q=>q) fun _ _ q=>q
def HOk.laid(x:HOk P w H h)(k:∀ b u,h.get? b=some u->h'.get? b=some u)(O:h.objs.size<=a)(new:cZ P w (upd H a o) h' a o):HOk P w (upd H a o) h':=fun b u e=>by
 have hn:=x.fresh O;by_cases J:b=a
 .subst J;rw[aH]at e;cases e;exact new
 .rw[bE J]at e;exact(x b u e).stay (fun c v _ q=>k c v q) (fun c q=>by rw[bE (aZ q hn)];exact q) fun c xs q=>by rw[bE (aZ q hn)];exact q
end
def Rd(H:Hp)(a:Ag)(u:HO):Prop:=H a=some u\/∃ o,H a=some (.frz o u)
def Rd.ok{P:Ar}{w:AW}{H:Hp}{h:Bb}{a:Ag}{u:HO}(r:Rd H a u)(x:HOk P w H h):cZ P w H h a u:=by
 rcases r with r|⟨o,r⟩
 .exact x a u r
 .obtain⟨_,q⟩:=x a _ r;exact q
def Mut:Option HO->Prop
 | some (.lst _)=>True
 | some (.dK _)=>True
 | some (.dT _)=>True
 | some (.set _ _)=>True
 | some (.ins _ _ _)=>True
 | some (.ext _)=>True
 | _=>False
section
variable{x e:Ag}{o':HO}
def HOk.write(ok:HOk P w H h)(Y:Mut (H x))(he:e=x\/H e=some (.own x))(k:∀ b u,b≠e->h.get? b=some u->h'.get? b=some u)(Z:∃ u,h'.get? e=some u)
  (new:cZ P w (upd H x o') h' x o'):HOk P w (upd H x o') h':=fun b u q=>by
 have O:∀ c y,H c=some (.own y)->c≠x:=fun c y r z=>by subst z;rw[r]at Y;exact Y
 have U:∀ c xs,H c=some (.tup xs)->c≠x:=fun c xs r z=>by subst z;rw[r]at Y;exact Y
 by_cases W:b=x
 .subst W;rw[aH]at q;cases q;exact new
 .rw[bE W]at q;by_cases J:b=e
  .have q':H b=some (.own x):=by
    rcases he with z|z
    .exact absurd (J.trans z) W
    .rw[J];exact z
   rw[q]at q';cases q';obtain⟨v,hv⟩:=Z;exact⟨v,by rw[J];exact hv⟩
  .refine(ok b u q).stay (fun c v hc r=>k c v ?_ r) (fun c r=>by rw[bE (O c b r)];exact r) fun c xs r=>by rw[bE (U c xs r)];exact r
   rcases hc with rfl|hc
   .exact J
   .rintro rfl;rcases he with z|z
    .exact O c b hc z
    .rw[hc]at z;cases z;exact W rfl
end
structure Un(fs ex:List Ag)(H H':Hp)(h h':Bb):Prop where
 keep:∀ b o,h.get? b=some o->H b=none->b∉fs->b∉ex->h'.get? b=some o
 slot:∀ b o,h.get? b=some o->H b=none->b∈fs->b∉ex->∃ sl,h'.get? b=some { o with slots:=sl }
 free:∀ b o,h.get? b=some o->H b=none->b∉ex->H' b=none
 there:∀ b o,h.get? b=some o->b∉ex->∃ o',h'.get? b=some o'
 tups:∀ b xs,H b=some (.tup xs)->H' b=some (.tup xs)
 frzs:∀ b o u,H b=some (.frz o u)->H' b=some (.frz o u)
 tbls:∀ b ps,H b=some (.tbl ps)->∃ more,H' b=some (.tbl (ps++more))
section
variable{fs fs' ex ex':List Ag}{H1 H2:Hp}{h1 h2:Bb}{a x e:Ag}{o:HO}
def Un.any(u:Un fs ex H H1 h h1){b:Ag}{ob:Obj}(q:h.get? b=some ob)(n:H b=none)(J:b∉ex):∃ U,h1.get? b=some { ob with slots:=U }:=by
 by_cases O:b∈fs
 .exact u.slot b ob q n O J
 .exact⟨ob.slots,u.keep b ob q n O J⟩
def Un.kept(k:∀ b u,h.get? b=some u->h'.get? b=some u):Un fs ex H H h h':=
 ⟨fun b ob q _ _ _=>k b ob q,fun b ob q _ _ _=>⟨ob.slots,k b ob q⟩,fun _ _ _ n _=>n,fun b ob q _=>⟨ob,k b ob q⟩,fun _ _ q=>q,fun _ _ _ q=>q,fun _ ps q=>⟨#[],by rw[q];simp⟩⟩
def Un.refl:Un fs ex H H h h:=Un.kept fun _ _ q=>q
def Un.laid(k:∀ b u,h.get? b=some u->h'.get? b=some u)(J:h.objs.size<=a)(hn:H a=none):Un fs ex H (upd H a o) h h' where
 keep:=fun b u q _ _ _=>k b u q
 slot:=fun b u q _ _ _=>⟨u.slots,k b u q⟩
 free:=fun b u q n _=>by rw[bE (AU (AZ (Az q) J))];exact n
 there:=fun b u q _=>⟨u,k b u q⟩
 tups:=fun b xs q=>by rw[bE (aZ q hn)];exact q
 frzs:=fun b u xs q=>by rw[bE (aZ q hn)];exact q
 tbls:=fun b ps q=>⟨#[],by rw[bE (aZ q hn),q];simp⟩
def Un.write(O:Mut (H x))(Z:e=x\/H e=some (.own x))(k:∀ b u,b≠e->h.get? b=some u->h'.get? b=some u)(U:∃ u,h'.get? e=some u):Un fs ex H (upd H x o) h h':=by
 have W:∀ b,H b=none->b≠x:=fun b n z=>by subst z;rw[n]at O;exact O
 have Y:∀ b,H b=none->b≠e:=fun b n z=>by
  subst z;rcases Z with r|r
  .exact W b n r
  .rw[n]at r;cases r
 have hm:∀ b u,H b=some u->¬ Mut (some u)->b≠x:=fun b u q nm z=>by subst z;rw[q]at O;exact nm O
 refine⟨fun b u q n _ _=>k b u (Y b n) q,fun b u q n _ _=>⟨u.slots,k b u (Y b n) q⟩,fun b u q n _=>by rw[bE (W b n)];exact n,fun b u q _=>?_,
  fun b xs q=>by rw[bE (hm b _ q fun z=>z)];exact q,fun b u xs q=>by rw[bE (hm b _ q fun z=>z)];exact q,fun b ps q=>⟨#[],by rw[bE (hm b _ q fun z=>z),q];simp⟩⟩
 by_cases J:b=e
 .subst J;exact U
 .exact⟨u,k b u J q⟩
end
def trk(h:Bb)(H:Hp):List Ag:=(AY h.objs.size).filter fun a=>(H a).isSome
def aAr(h:Bb)(H:Hp):Bb:=PySem.W.hideAll h (trk h H)
def aFd(h:Bb)(H:Hp):(aAr h H).objs.size=h.objs.size:=PySem.W.hideAll_size _ _
def aGb{h:Bb}{H:Hp}{b:Ag}{o:Obj}(e:h.get? b=some o)(n:H b=none):(aAr h H).get? b=some o:=
 PySem.W.hideAll_get _ e fun hm=>by
  have q:(H b).isSome=true:=(List.mem_filter.mp hm).2;rw[n]at q;simp at q
def aIU{h:Bb}{H:Hp}{b:Ag}{o:Obj}(e:(aAr h H).get? b=some o):h.get? b=some o/\H b=none:=by
 have J:h.get? b=some o:=PySem.W.of_hideAll (trk h H) e;refine⟨J,?_⟩;cases q:H b with
 | none=>rfl
 | some x=>
  have hm:b∈trk h H:=List.mem_filter.mpr ⟨Ce.mpr (Az J),by simp[q]⟩;have z:(aAr h H).get? b=none:=PySem.W.hideAll_none (trk h H) hm;rw[z]at e;cases e
def aIV(g h:Bb)(L:Ag):Ii:=(AY h.objs.size).filterMap fun a=>if a=L\/(g.get? a).isSome=true then none else(h.get? a).map fun o=>(a,o)
def aY(g h:Bb)(L d:Ag):Ii:=(aIV g h L).filter fun p=>decide (p.1≠d)
structure Mod(K:Ae)(mg:Str->Option Ac)(base:Bb):Prop where
 kin:K.In base
 glob:base.Ns mainGlobals mg
 blt:∃ mb,base.Ns builtinsNs mb/\∀ x:Str,x≠"__name__"->mb x=bootBuiltins x
 nolimit:base.NoLimit
structure Cx where
 prog:Ar
 w:AW
 K:Ae
 mg:Str->Option Ac
 base:Bb
 A:AK
 N:List Str
 s₀:Ad
 H₀:Hp
 env:Env
 outer:List Env
 stack:List Env
 ex:List Ag
 fn:Str->Bool
 calm:Bool
 pn:Ii
 xe:Ac->Ad->Prop
def frs(l:List Env):List Ag:=l.filterMap (·.frame)
abbrev Cx.fs(X:Cx):List Ag:=frs X.outer
def Vis(sc:CV)(x:Str):Prop:=sc.names.lookup x=some .local\/sc.names.lookup x=some .cell\/sc.names.lookup x=some .free
def Loc(sc:CV)(x:Str):Prop:=sc.names.lookup x=some .local\/sc.names.lookup x=some .cell
def aMI(env:Env)(h:Bb)(m:Str->Option Ac)(x:Str)(u:Ac):Prop:=
 (env.kindOf x=some .local/\m x=some u)\/((env.kindOf x=some .cell\/env.kindOf x=some .free)/\∃ c,env.cells.lookup x=some c/\h.IsCell c (some u))
structure Cx.Ok(X:Cx):Prop where
 mod:Mod X.K X.mg X.base
 kind:X.env.scope.kind=.function
 glob:X.env.globals=mainGlobals
 blt:X.env.builtins=builtinsNs
 above:X.s₀.heap.objs.size<=X.env.locals
 inj:∀ x y c,X.env.cells.lookup x=some c->X.env.cells.lookup y=some c->x=y
 has:∀ x,(X.env.kindOf x=some .cell\/X.env.kindOf x=some .free)->∃ c,X.env.cells.lookup x=some c
 cab:∀ x c,X.fn x=true->X.env.cells.lookup x=some c->X.s₀.heap.objs.size<=c
 hd:X.calm=true->X.A.handled=none
 frames:X.A.frames=some X.stack
 stk:X.stack=X.outer\/(X.stack=X.env::X.outer/\X.env.frame=some X.env.locals)
 exf:∀ b∈X.ex,b≠X.env.locals/\∀ x c,X.env.cells.lookup x=some c->c≠b
 bs:∀ b o,X.base.get? b=some o->X.s₀.heap.get? b=some o/\X.H₀ b=none
 bsz:X.base.objs.size<=X.s₀.heap.objs.size
 noex:∀ b o,X.base.get? b=some o->b∉X.ex
 exfs:∀ b∈X.ex,b∉X.fs
 funs:X.s₀.heap.FunFrames X.base X.outer
 frf:∀ b∈X.fs,X.H₀ b=none
structure Inv(X:Cx)(dl:Ii)(σ:List (Option V))(H:Hp)(s:Ad):Prop where
 ok:X.Ok
 os:s.os=X.s₀.os
 bare:EL s.gens
 base:Un X.fs X.ex X.H₀ H X.s₀.heap s.heap
 loc:∃ m,s.heap.Ns X.env.locals m/\∀(i:Nat) (x:Str) (v:V),X.N[i]?=some x->σ[i]?=some (some v)->Vis X.env.scope x->∃ u,cQ v u/\aMI X.env s.heap m x u
 cell:∀ x c,X.env.cells.lookup x=some c->∃ v,s.heap.IsCell c v
 free:H X.env.locals=none
 freeC:∀ x c,X.env.cells.lookup x=some c->H c=none
 pin:∀ p∈X.pn++dl,s.heap.get? p.1=some p.2/\H p.1=none/\p.1≠X.env.locals/\p.1∉X.fs/\∀ v,p.2.data≠.cell v
 hok:HOk X.prog X.w H s.heap
 len:σ.length=X.N.length
section
variable{σ:List (Option V)}
def Cx.Ok.nofr(ok:X.Ok){b:Ag}{o:Obj}(e:X.base.get? b=some o):b∉X.fs:=fun J=>by
 have:=(ok.funs.mem J).1;rw[e]at this;cases this
def Inv.bs(I:Inv X dl σ H s):∀ b o,X.base.get? b=some o->s.heap.get? b=some o/\H b=none:=fun b o e=>
 ⟨I.base.keep b o (I.ok.bs b o e).1 (I.ok.bs b o e).2 (I.ok.nofr e) (I.ok.noex b o e),I.base.free b o (I.ok.bs b o e).1 (I.ok.bs b o e).2 (I.ok.noex b o e)⟩
def Inv.bk(I:Inv X dl σ H s):∀ b o,X.base.get? b=some o->s.heap.get? b=some o:=fun b o e=>(I.bs b o e).1
def Inv.mod(I:Inv X dl σ H s):Mod X.K X.mg X.base:=I.ok.mod
def Inv.kIn(I:Inv X dl σ H s):X.K.In s.heap:=I.ok.mod.kin.keeps I.bk
def Inv.lt(I:Inv X dl σ H s):X.env.locals<s.heap.objs.size:=let ⟨_,hn,_⟩:=I.loc;hn.lt
def Inv.sz(I:Inv X dl σ H s):X.s₀.heap.objs.size<=s.heap.objs.size:=AH I.ok.above (DX I.lt)
def Inv.nofs(I:Inv X dl σ H s){a:Ag}(h:s.heap.objs.size<=a):a∉X.fs:=fun J=>by
 obtain⟨_,o,ho,_⟩:=I.ok.funs.mem J;exact absurd (AZ (Az ho) (AH I.sz h)) (Cd _)
def Inv.cne(I:Inv X dl σ H s):∀ x c,X.env.cells.lookup x=some c->c≠X.env.locals:=fun x c e z=>by
 obtain⟨v,o,ho,hd⟩:=I.cell x c e;obtain⟨m,⟨o',es,ep,ho',hd',_⟩,_⟩:=I.loc;rw[z,ho']at ho;cases ho;rw[hd']at hd;cases hd
def Inv.funs(I:Inv X dl σ H s):s.heap.FunFrames X.base X.outer:=by
 have all:∀(l:List Env),(∀ b∈frs l,b∈X.fs)->X.s₀.heap.FunFrames X.base l->s.heap.FunFrames X.base l:=by
  intro l
  induction l with
  | nil=>intro _ _;trivial
  | cons env r Y=>
   intro U W;obtain⟨hk,⟨L,o,hf,hn,ho,hd⟩,hr⟩:=W;have O:L∈X.fs:=U L (by unfold frs;rw[DD,hf];exact AQ);obtain⟨sl,e⟩:=I.base.slot L o ho (I.ok.frf L O) O fun z=>I.ok.exfs L z O;exact⟨hk,⟨L,_,hf,hn,e,hd⟩,Y (fun b J=>U b (by unfold frs;rw[DD,hf];exact AN _ J)) hr⟩
 exact all X.outer (fun _ J=>J) I.ok.funs
def Inv.stack(I:Inv X dl σ H s):s.heap.FunFrames X.base X.stack:=by
 rcases I.ok.stk with e|⟨e,J⟩
 .rw[e];exact I.funs
 .rw[e];obtain⟨m,hn,_⟩:=I.loc;refine .cons (by rw[I.ok.kind];decide) J hn ?_ I.funs;exact Heap.get?_none_of_le (AH I.ok.bsz I.ok.above)
def Inv.stkSub(I:Inv X dl σ H s):∀ b∈frs X.stack,b∈X.env.locals::X.fs:=fun b J=>by
 rcases I.ok.stk with e|⟨e,O⟩
 .rw[e]at J;exact AN _ J
 .rw[e]at J;unfold frs at J;rw[DD,O]at J;exact J
def Inv.stkFree(I:Inv X dl σ H s):∀ b∈frs X.stack,H b=none:=fun b J=>by
 rcases Ao.mp (I.stkSub b J)with e|J
 .rw[e];exact I.free
 .obtain⟨_,o,ho,_⟩:=I.ok.funs.mem J;exact I.base.free b o ho (I.ok.frf b J) fun z=>I.ok.exfs b z J
def Inv.step{g':Array EU}{t':Nat}{d':Hw}{ch:List Ag}(I:Inv X dl σ H s)
  (W:∀ b∈ch,(b∈X.ex\/X.s₀.heap.objs.size<=b)/\b≠X.env.locals/\(∀ x c,X.env.cells.lookup x=some c->c≠b)/\∀ p∈X.pn++dl,p.1≠b)
  (keep:∀ b o,b≠X.env.locals->b∉X.fs->b∉ch->s.heap.get? b=some o->H b=none->h'.get? b=some o)
  (slot:∀ b o,b≠X.env.locals->b∈X.fs->b∉ch->s.heap.get? b=some o->H b=none->∃ sl,h'.get? b=some { o with slots:=sl }) (free:∀ b o,b∉ch->s.heap.get? b=some o->H b=none->H' b=none)
  (there:∀ b o,b∉ch->s.heap.get? b=some o->∃ o',h'.get? b=some o')
  (tups:∀ b xs,H b=some (.tup xs)->H' b=some (.tup xs)) (frzs:∀ b o u,H b=some (.frz o u)->H' b=some (.frz o u)) (tbls:∀ b ps,H b=some (.tbl ps)->∃ ac,H' b=some (.tbl (ps++ac)))
  (ns:∀ m,s.heap.Ns X.env.locals m->h'.Ns X.env.locals m) (hok:HOk X.prog X.w H' h') (hg:EL g'):
  Inv X dl σ H' { s with heap:=h',gens:=g',drawn:=d',toks:=t' }:=by
 have ad:∀ b o,X.s₀.heap.get? b=some o->b≠X.env.locals:=fun b o e=>AU (AZ (Az e) I.ok.above);have Y:∀ b o,X.s₀.heap.get? b=some o->b∉X.ex->b∉ch:=fun b o e J Z=>by
  rcases(W b Z).1 with z|z
  .exact J z
  .exact absurd (AZ (Az e) z) (Cd _)
 have O:∀ x c,X.env.cells.lookup x=some c->∀ v,s.heap.IsCell c v->h'.IsCell c v:=fun x c e v ⟨o,ho,hd⟩=>by
  have U:c∉ch:=fun z=>(W c z).2.2.1 x c e rfl;by_cases hc:c∈X.fs
  .obtain⟨sl,q⟩:=slot c o (I.cne x c e) hc U ho (I.freeC x c e);exact⟨_,q,hd⟩
  .exact⟨o,keep c o (I.cne x c e) hc U ho (I.freeC x c e),hd⟩
 refine⟨I.ok,I.os,hg,⟨fun b o e n Z J=>?_,fun b o e n Z J=>?_,fun b o e n J=>?_,fun b o e J=>?_,fun b xs e=>tups b xs (I.base.tups b xs e),fun b o xs e=>frzs b o xs (I.base.frzs b o xs e),fun b ps e=>?_⟩,?_,fun x c e=>?_,?_,fun x c e=>?_,fun p hp=>?_,hok,I.len⟩
 .exact keep b o (ad b o e) Z (Y b o e J) (I.base.keep b o e n Z J) (I.base.free b o e n J)
 .obtain⟨sl,e1⟩:=I.base.slot b o e n Z J;obtain⟨sl',e2⟩:=slot b _ (ad b o e) Z (Y b o e J) e1 (I.base.free b o e n J);exact⟨sl',e2⟩
 .obtain⟨o',e1⟩:=I.base.there b o e J;exact free b o' (Y b o e J) e1 (I.base.free b o e n J)
 .obtain⟨o',e1⟩:=I.base.there b o e J;exact there b o' (Y b o e J) e1
 .obtain⟨m1,e1⟩:=I.base.tbls b ps e;obtain⟨m2,e2⟩:=tbls b _ e1;exact⟨m1++m2,by rw[e2,Array.append_assoc]⟩
 .obtain⟨m,hn,hl⟩:=I.loc;refine⟨m,ns m hn,fun i x v e1 e2 e3=>?_⟩;have⟨u,r,l⟩:=hl i x v e1 e2 e3;refine⟨u,r,?_⟩;rcases l with l|⟨k,c,e,z⟩
  .exact .inl l
  .exact .inr ⟨k,c,e,O x c e _ z⟩
 .obtain⟨v,z⟩:=I.cell x c e;exact⟨v,O x c e v z⟩
 .obtain⟨m,⟨o,_,_,ho,_⟩,_⟩:=I.loc;exact free _ o (fun z=>(W _ z).2.1 rfl) ho I.free
 .obtain⟨v,o,ho,hd⟩:=I.cell x c e;exact free c o (fun z=>(W c z).2.2.1 x c e rfl) ho (I.freeC x c e)
 .obtain⟨e,n,ne,nf,d⟩:=I.pin p hp;have U:p.1∉ch:=fun z=>(W p.1 z).2.2.2 p hp rfl;exact⟨keep p.1 p.2 ne nf U e n,free p.1 p.2 U e n,ne,nf,d⟩
def Inv.un{t':Nat}(I:Inv X dl σ H s)(u:Un X.fs [] H H' s.heap h')(hok:HOk X.prog X.w H' h'):Inv X dl σ H' { s with heap:=h',toks:=t' }:=by
 obtain⟨m,⟨o,es,ep,ho,r⟩,_⟩:=id I.loc;obtain⟨sl,hL⟩:=u.any ho I.free (by simp);exact I.step (g':=s.gens) (d':=s.drawn) (ch:=[]) (fun _ z=>nomatch z) (fun b o _ J _ e n=>u.keep b o e n J (by simp)) (fun b o _ J _ e n=>u.slot b o e n J (by simp)) (fun b o _ e n=>u.free b o e n (by simp)) (fun b o _ e=>u.there b o e (by simp)) u.tups u.frzs u.tbls (fun O hm=>by
  obtain⟨o',es',ep',ho',r'⟩:=hm;rw[ho]at ho';cases ho';exact⟨_,es',ep',hL,r'⟩) hok I.bare
def Inv.call{g':Array EU}{t':Nat}{d':Hw}{ch:List Ag}(I:Inv X dl σ H s)(u:Un (frs X.stack) ch H H' s.heap h')(hok:HOk X.prog X.w H' h')(W:EL g')
  (J:∀ b∈ch,(b∈X.ex\/X.s₀.heap.objs.size<=b)/\b≠X.env.locals/\(∀ x c,X.env.cells.lookup x=some c->c≠b)/\∀ p∈X.pn++dl,p.1≠b):
  Inv X dl σ H' { s with heap:=h',gens:=g',drawn:=d',toks:=t' }:=by
 obtain⟨m,⟨o,es,ep,ho,r⟩,_⟩:=id I.loc;obtain⟨sl,O⟩:=u.any ho I.free fun z=>(J _ z).2.1 rfl;exact I.step (ch:=ch) J (fun b o O U hc e n=>u.keep b o e n (fun z=>(Ao.mp (I.stkSub b z)).elim O U) hc) (fun b o _ _ hc e n=>u.any e n hc) (fun b o hc e n=>u.free b o e n hc) (fun b o hc e=>u.there b o e hc) u.tups u.frzs u.tbls (fun Y hm=>by
  obtain⟨o',es',ep',ho',r'⟩:=hm;rw[ho]at ho';cases ho';exact⟨_,es',ep',O,r'⟩) hok W
def Inv.turned{t':Nat}{it:Ag}(I:Inv X dl σ H s)(k:∀ b o,b≠it->s.heap.get? b=some o->h'.get? b=some o)(hn:H it=none)(O:it≠X.env.locals)
  (h1:it∈X.ex\/X.s₀.heap.objs.size<=it) (h2:∀ x c,X.env.cells.lookup x=some c->c≠it) (W:∀ p∈X.pn++dl,p.1≠it):Inv X dl σ H { s with heap:=h',toks:=t' }:=by
 have J:∀ b u,H b=some u->b≠it:=fun b u e z=>by rw[z,hn]at e;cases e
 refine I.step (g':=s.gens) (d':=s.drawn) (ch:=[it]) (fun b U=>?_) (fun b o _ _ hc e _=>k b o (fun z=>hc (by simp[z])) e) (fun b o _ _ hc e _=>⟨o.slots,k b o (fun z=>hc (by simp[z])) e⟩) (fun _ _ _ _ n=>n)
  (fun b o hc e=>⟨o,k b o (fun z=>hc (by simp[z])) e⟩) (fun _ _ e=>e) (fun _ _ _ e=>e) (fun b ps e=>⟨#[],by rw[e];simp⟩) (fun m hm=>?_) (fun b u e=>?_) I.bare
 .have e:b=it:=by simpa using U
  subst e;exact⟨h1,O,h2,W⟩
 .obtain⟨o,es,ep,ho,r⟩:=hm;exact⟨o,es,ep,k _ o (CY O) ho,r⟩
 .refine(I.hok b u e).stay (fun c v hc q=>k c v ?_ q) (fun _ q=>q) fun _ _ q=>q;rcases hc with z|z
  .rw[z];exact J b u e
  .exact J c _ z
def Inv.tok(I:Inv X dl σ H s)(t:Nat):Inv X dl σ H { s with toks:=t }:=I.un (h':=s.heap) (t':=t) Un.refl I.hok
def Inv.kept{t':Nat}(I:Inv X dl σ H s)(k:∀ b u,s.heap.get? b=some u->h'.get? b=some u):Inv X dl σ H { s with heap:=h',toks:=t' }:=I.un (Un.kept k) (I.hok.kept k)
def Inv.laid{a:Ag}{o:HO}{t':Nat}(I:Inv X dl σ H s)(k:∀ b u,s.heap.get? b=some u->h'.get? b=some u)(J:s.heap.objs.size<=a)(new:cZ X.prog X.w (upd H a o) h' a o):
  Inv X dl σ (upd H a o) { s with heap:=h',toks:=t' }:=I.un (Un.laid k J (I.hok.fresh J)) (I.hok.laid k J new)
def Inv.write{x e:Ag}{o:HO}{t':Nat}(I:Inv X dl σ H s)(U:Mut (H x))(O:e=x\/H e=some (.own x))(k:∀ b u,b≠e->s.heap.get? b=some u->h'.get? b=some u)(J:∃ u,h'.get? e=some u)
  (new:cZ X.prog X.w (upd H x o) h' x o):Inv X dl σ (upd H x o) { s with heap:=h',toks:=t' }:=I.un (Un.write U O k J) (I.hok.write U O k J new)
def Inv.pins_of{J:Ii}(I:Inv X dl σ H s)(h:∀ p∈J,s.heap.get? p.1=some p.2/\H p.1=none/\p.1≠X.env.locals/\p.1∉X.fs/\∀ v,p.2.data≠.cell v):Inv X J σ H s:=
 ⟨I.ok,I.os,I.bare,I.base,I.loc,I.cell,I.free,I.freeC,fun p O=>(A4.mp O).elim (fun z=>I.pin p (Cs _ z)) (h p),I.hok,I.len⟩
def vL{N:List Str}(hN:N.Nodup){i j:Nat}{x:Str}(a:N[i]?=some x)(b:N[j]?=some x):i=j:=by
 obtain⟨h1,e1⟩:=AO.mp a;obtain⟨h2,e2⟩:=AO.mp b;exact(EX hN).mp (e1.trans e2.symm)
def yH{M:DM}{A:AK}{E:Ac->Ad->Prop}{i:Nat}{x:Str}{v:V}{u:Ac}{Q:Unit->Ad->Prop}(I:Inv X dl σ H s)(hN:X.N.Nodup)(hi:X.N[i]?=some x)(U:Loc X.env.scope x)(r:cQ v u)
  (h:∀ s',Inv X dl (σ.set i (some v)) H s'->(∃ a,DV a s.heap s'.heap/\(a=X.env.locals\/X.env.cells.lookup x=some a))->Q () s') (hf:X.fn x=true\/X.env.scope.names.lookup x=some .local:=by first|exact .inl rfl|exact .inr rfl|assumption):wpAny M A (storeName X.env x u) Q E s:=by
 have⟨m,hn,hl⟩:=id I.loc;have ac:(X.env.scope.kind==.class||(X.env.scope.kind==.module&&X.env.locals != X.env.globals))=false:=by rw[I.ok.kind];rfl
 have ad:i<σ.length:=by rw[I.len];exact(AO.mp hi).1
 have cne:=I.cne;have O:∀{a:Ag} {h':Bb},(∃ o,s.heap.get? a=some o/\H a=none)->DV a s.heap h'->HOk X.prog X.w H h':=fun{a h'} ha J b ob e=>by
  have⟨_,_,hfree⟩:=ha;refine(I.hok b ob e).stay (fun c w' hc q=>(J.2 c ?_).trans q) (fun _ q=>q) fun _ _ q=>q;rintro rfl;rcases hc with rfl|hc
  .rw[hfree]at e;cases e
  .rw[hfree]at hc;cases hc
 rcases U with W|W
 .refine wpAny_storeName_local W hn (fun h' ak J=>?_) ac;obtain⟨oL,_,_,hoL,_⟩:=id hn;refine h _ ⟨I.ok,I.os,I.bare,⟨fun b o e n Y U=>?_,fun b o e n Y U=>?_,I.base.free,fun b o e U=>?_,I.base.tups,I.base.frzs,I.base.tbls⟩,⟨_,ak,fun j y v' e1 e2 e3=>?_⟩,fun y c e=>?_,I.free,I.freeC,fun p hp=>?_,O ⟨oL,hoL,I.free⟩ J,by simpa using I.len⟩ ⟨_,J,.inl rfl⟩
  .exact(J.2 b (AU (AZ (Az e) I.ok.above))).trans (I.base.keep b o e n Y U)
  .obtain⟨sl,e1⟩:=I.base.slot b o e n Y U;exact⟨sl,(J.2 b (AU (AZ (Az e) I.ok.above))).trans e1⟩
  .obtain⟨o',e1⟩:=I.base.there b o e U;exact⟨o',(J.2 b (AU (AZ (Az e) I.ok.above))).trans e1⟩
  .by_cases hj:j=i
   .subst hj;rw[hi]at e1;cases e1;rw[E6 ad]at e2;cases e2;exact⟨u,r,.inl ⟨W,by simp⟩⟩
   .rw[Fk (CY hj)]at e2;have⟨u',r',q⟩:=hl j y v' e1 e2 e3;refine⟨u',r',?_⟩;rcases q with⟨k,e⟩|⟨k,c,e,z⟩
    .refine .inl ⟨k,?_⟩;have:y≠x:=fun e=>hj (vL hN e1 (e▸hi));simp[this,e]
    .exact .inr ⟨k,c,e,z.sameBut J (cne y c e)⟩
  .obtain⟨w',z⟩:=I.cell y c e;exact⟨w',z.sameBut J (cne y c e)⟩
  .obtain⟨e,n,ne,nf,d⟩:=I.pin p hp;exact⟨(J.2 p.1 ne).trans e,n,ne,nf,d⟩
 .have Z:X.fn x=true:=by
   rcases hf with z|z
   .exact z
   .rw[z]at W;cases W
  obtain⟨c,hc⟩:=I.ok.has x (.inl W);obtain⟨w',z⟩:=I.cell x c hc;refine wpAny_storeName_cell I.ok.kind W hc z (fun h' ae J=>?_);have⟨oc,hoc,hocd⟩:=id z;refine h { s with heap:=h' } ⟨I.ok,I.os,I.bare,⟨fun b o e n Y U=>?_,fun b o e n Y U=>?_,I.base.free,fun b o e U=>?_,I.base.tups,I.base.frzs,I.base.tbls⟩,⟨m,hn.sameBut J (CY (cne x c hc)),fun j y v' e1 e2 e3=>?_⟩,fun y c' e=>?_,I.free,I.freeC,fun p hp=>?_,O ⟨oc,hoc,I.freeC x c hc⟩ J,by simpa using I.len⟩ ⟨c,J,.inr hc⟩
  .exact(J.2 b (AU (AZ (Az e) (I.ok.cab x c Z hc)))).trans (I.base.keep b o e n Y U)
  .obtain⟨sl,e1⟩:=I.base.slot b o e n Y U;exact⟨sl,(J.2 b (AU (AZ (Az e) (I.ok.cab x c Z hc)))).trans e1⟩
  .obtain⟨o',e1⟩:=I.base.there b o e U;exact⟨o',(J.2 b (AU (AZ (Az e) (I.ok.cab x c Z hc)))).trans e1⟩
  .by_cases hj:j=i
   .subst hj;rw[hi]at e1;cases e1;rw[E6 ad]at e2;cases e2;exact⟨u,r,.inr ⟨.inl W,c,hc,ae⟩⟩
   .rw[Fk (CY hj)]at e2;have⟨u',r',q⟩:=hl j y v' e1 e2 e3;refine⟨u',r',?_⟩;rcases q with q|⟨k,c',e,z'⟩
    .exact .inl q
    .refine .inr ⟨k,c',e,z'.sameBut J ?_⟩;rintro rfl;exact hj (vL hN e1 (I.ok.inj _ _ _ e hc▸hi))
  .by_cases af:c'=c
   .subst af;exact⟨_,ae⟩
   .obtain⟨w2,z2⟩:=I.cell y c' e;exact⟨w2,z2.sameBut J af⟩
  .obtain⟨e,n,ne,nf,d⟩:=I.pin p hp;refine⟨(J.2 p.1 ?_).trans e,n,ne,nf,d⟩;intro q;rw[q,hoc]at e;have q':oc=p.2:=BS.inj e;exact d w' (by rw[<- q'];exact hocd)
def kT{M:DM}{A:AK}{E:Ac->Ad->Prop}{i:Nat}{x:Str}{v:V}{u:Ac}{Q:Unit->Ad->Prop}(I:Inv X dl σ H s)(hN:X.N.Nodup)(hi:X.N[i]?=some x)(J:Loc X.env.scope x)(r:cQ v u)
  (h:∀ s',Inv X dl (σ.set i (some v)) H s'->Q () s') (U:X.fn x=true\/X.env.scope.names.lookup x=some .local:=by first|exact .inl rfl|exact .inr rfl|assumption):wpAny M A (storeName X.env x u) Q E s:=
 yH I hN hi J r (fun s' O _=>h s' O) U
def Inv.call'{s':Ad}{ch:List Ag}(I:Inv X dl σ H s)(U:s'.os=s.os)(u:Un (frs X.stack) ch H H' s.heap s'.heap)(hok:HOk X.prog X.w H' s'.heap)(O:EL s'.gens)
  (J:∀ b∈ch,(b∈X.ex\/X.s₀.heap.objs.size<=b)/\b≠X.env.locals/\(∀ x c,X.env.cells.lookup x=some c->c≠b)/\∀ p∈X.pn++dl,p.1≠b):Inv X dl σ H' s':=by
 obtain⟨h',g',d',t',o'⟩:=s';have e:o'=s.os:=U;subst e;exact I.call (g':=g') (t':=t') (d':=d') u hok O J
end
abbrev XK:=Ac->Option Ag->Hp->Prop
abbrev St:=List (Option V)
abbrev VK:=V->Hp->Prop
abbrev TE:=St->Hp->VK->Prop
abbrev TT:=St->Hp->(Bool->Hp->Prop)->Prop
abbrev TA:=St->Hp->(List V->Hp->Prop)->Prop
structure lY where
 nx:St->Hp->Prop
 rt:VK
 bk:St->Hp->Prop:=fun _ _=>False
 ct:St->Hp->Prop:=fun _ _=>False
abbrev TS:=lY->St->Hp->Prop
inductive aLF(X:Cx)(dl:Ii)(σ:St)(Q:VK)(u:Ac)(s':Ad):Prop
 | mk (v:_) (H':_) (q0:Inv X dl σ H' s') (q1:cQ v u) (q2:Q v H'):aLF X dl σ Q u s'
def EP(X:Cx)(dl:Ii)(σ:St)(Q:VK)(u:Ac)(s':Ad):Prop:=aLF X dl σ Q u s'
def TP(X:Cx)(dl:Ii)(σ:St)(Q:Bool->Hp->Prop)(b:Bool)(s':Ad):Prop:=∃ H',Inv X dl σ H' s'/\Q b H'
inductive aLG(X:Cx)(dl:Ii)(σ:St)(Q:List V->Hp->Prop)(us:List Ac)(s':Ad):Prop
 | mk (vs:_) (H':_) (q0:Inv X dl σ H' s') (q1:cE vs us) (q2:Q vs H'):aLG X dl σ Q us s'
def AP(X:Cx)(dl:Ii)(σ:St)(Q:List V->Hp->Prop)(us:List Ac)(s':Ad):Prop:=aLG X dl σ Q us s'
def SP(X:Cx)(dl:Ii)(D:lY)(f:Flow)(s':Ad):Prop:=
 match f with
 | .next=>∃ σ' H',Inv X dl σ' H' s'/\D.nx σ' H'
 | .brk=>∃ σ' H',Inv X dl σ' H' s'/\D.bk σ' H'
 | .cont=>∃ σ' H',Inv X dl σ' H' s'/\D.ct σ' H'
 | .ret u=>∃ v σ' H',Inv X dl σ' H' s'/\cQ v u/\D.rt v H'
structure PE(X:Cx)(e:Bf)(t:TE):Prop where
 run:
  ∀(dl:Ii) (s:Ad) (σ:St) (H:Hp) (Q:VK),Inv X dl σ H s->t σ H Q->wpAny (model X.prog X.w) X.A (eval e X.env) (EP X dl σ Q) X.xe s
instance{X:Cx}{e:Bf}{t:TE}:CoeFun (PE X e t) (fun _=>
 ∀(dl:Ii) (s:Ad) (σ:St) (H:Hp) (Q:VK),Inv X dl σ H s->t σ H Q->wpAny (model X.prog X.w) X.A (eval e X.env) (EP X dl σ Q) X.xe s):=⟨fun h=>h.run⟩
structure PT(X:Cx)(e:Bf)(t:TT):Prop where
 run:
  ∀(dl:Ii) (s:Ad) (σ:St) (H:Hp) (Q:Bool->Hp->Prop),Inv X dl σ H s->t σ H Q->wpAny (model X.prog X.w) X.A (isTrue e X.env (eval e X.env)) (TP X dl σ Q) X.xe s
instance{X:Cx}{e:Bf}{t:TT}:CoeFun (PT X e t) (fun _=>
 ∀(dl:Ii) (s:Ad) (σ:St) (H:Hp) (Q:Bool->Hp->Prop),Inv X dl σ H s->t σ H Q->wpAny (model X.prog X.w) X.A (isTrue e X.env (eval e X.env)) (TP X dl σ Q) X.xe s):=⟨fun h=>h.run⟩
structure PW(X:Cx)(e:Bf)(t:TT):Prop where
 run:
  ∀(whole:Sem Ac) (dl:Ii) (s:Ad) (σ:St) (H:Hp) (Q:Bool->Hp->Prop),Inv X dl σ H s->t σ H Q->wpAny (model X.prog X.w) X.A (isTrue e X.env whole) (TP X dl σ Q) X.xe s
instance{X:Cx}{e:Bf}{t:TT}:CoeFun (PW X e t) (fun _=>
 ∀(whole:Sem Ac) (dl:Ii) (s:Ad) (σ:St) (H:Hp) (Q:Bool->Hp->Prop),Inv X dl σ H s->t σ H Q->wpAny (model X.prog X.w) X.A (isTrue e X.env whole) (TP X dl σ Q) X.xe s):=⟨fun h=>h.run⟩
def PW.pt{X:Cx}{e:Bf}{t:TT}(h:PW X e t):PT X e t:=⟨h.run _⟩
structure PA(X:Cx)(es:List Bf)(t:TA):Prop where
 run:
  ∀(pos:Pos) (dl:Ii) (s:Ad) (σ:St) (H:Hp) (Q:List V->Hp->Prop),Inv X dl σ H s->t σ H Q->wpAny (model X.prog X.w) X.A (spliced (backTo pos (starEach es X.env))) (AP X dl σ Q) X.xe s
instance{X:Cx}{es:List Bf}{t:TA}:CoeFun (PA X es t) (fun _=>
 ∀(pos:Pos) (dl:Ii) (s:Ad) (σ:St) (H:Hp) (Q:List V->Hp->Prop),Inv X dl σ H s->t σ H Q->wpAny (model X.prog X.w) X.A (spliced (backTo pos (starEach es X.env))) (AP X dl σ Q) X.xe s):=⟨fun h=>h.run⟩
structure PS(X:Cx)(st:BA)(t:TS):Prop where
 run:
  ∀(dl:Ii) (s:Ad) (σ:St) (H:Hp) (D:lY),Inv X dl σ H s->t D σ H->wpAny (model X.prog X.w) X.A (exec st X.env) (SP X dl D) X.xe s
instance{X:Cx}{st:BA}{t:TS}:CoeFun (PS X st t) (fun _=>
 ∀(dl:Ii) (s:Ad) (σ:St) (H:Hp) (D:lY),Inv X dl σ H s->t D σ H->wpAny (model X.prog X.w) X.A (exec st X.env) (SP X dl D) X.xe s):=⟨fun h=>h.run⟩
structure PSs(X:Cx)(st:List BA)(t:TS):Prop where
 run:
  ∀(dl:Ii) (s:Ad) (σ:St) (H:Hp) (D:lY),Inv X dl σ H s->t D σ H->wpAny (model X.prog X.w) X.A (execs st X.env) (SP X dl D) X.xe s
instance{X:Cx}{st:List BA}{t:TS}:CoeFun (PSs X st t) (fun _=>
 ∀(dl:Ii) (s:Ad) (σ:St) (H:Hp) (D:lY),Inv X dl σ H s->t D σ H->wpAny (model X.prog X.w) X.A (execs st X.env) (SP X dl D) X.xe s):=⟨fun h=>h.run⟩
def thn{α:Type}{t:Sem α}{Q J:α->Ad->Prop}{M:DM}{A:AK}{E:Ac->Ad->Prop}{s:Ad}(h:wpAny M A t Q E s)(O:∀ a s,Q a s->J a s):wpAny M A t J E s:=Bt h O fun _ _ x=>x
section
inductive aGc(i:Nat)(σ:St)(H:Hp)(Q:VK):Prop
 | mk (v:_) (q0:σ[i]?=some (some v)) (q1:Q v H):aGc i σ H Q
def xY(i:Nat):TE:=fun σ H Q=>aGc i σ H Q
def tC(v:V):TE:=fun _ H Q=>Q v H
def aKD{i:Nat}{x:Str}{pos:Pos}(hN:X.N[i]?=some x)(W:Vis X.env.scope x)(hd:(x==("__debug__":Str))=false:=by decide)(U:(x==("__classdict__":Str))=false:=by decide):PE X (.Name x pos) (xY i):=by
 constructor;intro dl s σ H Q I h;obtain⟨v,e,h⟩:=h;obtain⟨m,hn,hl⟩:=I.loc;obtain⟨u,r,l⟩:=hl i x v hN e W;have O:EP X dl σ Q u s:=⟨v,H,I,r,h⟩
 rcases l with⟨J,hm⟩|⟨J,c,hc,hcell⟩
 .exact wpAny_Name (wpAny_loadName_local I.ok.kind J hn hm O) hd
 .rcases J with J|J
  .exact wpAny_Name (wpAny_loadName_cell I.ok.kind J hc hcell O) hd
  .exact wpAny_Name (wpAny_loadName_free I.ok.kind J hc hcell O U) hd
def aD{i j pos}:PE X (.Constant (.int i) j pos) (tC (.int i)):=⟨fun _ _ _ H _ I h=>wpAny_Constant_int ⟨.int i,H,I.tok _,⟨_,rfl⟩,h⟩⟩
def eZ{b j pos}:PE X (.Constant (.bool b) j pos) (tC (.bl b)):=⟨fun _ _ _ H _ I h=>Constant_bool ⟨.bl b,H,I,rfl,h⟩⟩
def gG{j pos}:PE X (.Constant .none j pos) (tC .non):=⟨fun _ _ _ H _ I h=>Constant_none ⟨.non,H,I,rfl,h⟩⟩
def aO{x j pos}:PE X (.Constant (.str x) j pos) (tC (.str x)):=⟨fun _ _ _ H _ I h=>Calls.Constant_str ⟨.str x,H,I.tok _,⟨_,rfl⟩,h⟩⟩
def Gl(X:Cx)(x:Str):Prop:=X.env.kindOf x=some .globalImplicit
def uV{E:Ac->Ad->Prop}{dl:Ii}{s:Ad}{σ:St}{H:Hp}{x:Str}{u:Ac}{pos:Pos}{Q:Ac->Ad->Prop}(I:Inv X dl σ H s)(J:Gl X x)(hm:X.mg x=some u)(h:Q u s)
  (hd:(x==("__debug__":Str))=false:=by decide):wpAny (model X.prog X.w) X.A (eval (.Name x pos) X.env) Q E s:=
 Calls.Name_function_global I.ok.kind J (Calls.loadGlobal_global (by rw[I.ok.glob];exact I.mod.glob.keeps I.bk) hm h) hd
def nV{E:Ac->Ad->Prop}{dl:Ii}{s:Ad}{σ:St}{H:Hp}{x:Str}{u:Ac}{pos:Pos}{Q:Ac->Ad->Prop}(I:Inv X dl σ H s)(J:Gl X x)(hm:X.mg x=none)(O:bootBuiltins x=some u)(h:Q u s)
  (hn:x≠"__name__":=by decide) (hd:(x==("__debug__":Str))=false:=by decide):wpAny (model X.prog X.w) X.A (eval (.Name x pos) X.env) Q E s:=by
 obtain⟨mb,h1,h2⟩:=I.mod.blt;exact Calls.Name_function_global I.ok.kind J (Calls.loadGlobal_builtin (by rw[I.ok.glob];exact I.mod.glob.keeps I.bk) hm (by rw[I.ok.blt];exact h1.keeps I.bk) ((h2 x hn).trans O) h) hd
def cG{x:Str}{v:V}{u:Ac}{pos:Pos}(J:Gl X x)(hm:X.mg x=some u)(r:cQ v u)(hd:(x==("__debug__":Str))=false:=by decide):PE X (.Name x pos) (tC v):=
 ⟨fun _ _ _ H _ I h=>uV I J hm ⟨v,H,I,r,h⟩ hd⟩
def fF{x:Str}{v:V}{u:Ac}{pos:Pos}(J:Gl X x)(hm:X.mg x=none)(O:bootBuiltins x=some u)(r:cQ v u)(hn:x≠"__name__":=by decide)(hd:(x==("__debug__":Str))=false:=by decide):PE X (.Name x pos) (tC v):=
 ⟨fun _ _ _ H _ I h=>nV I J hm O ⟨v,H,I,r,h⟩ hn hd⟩
variable{a b:Bf}{ta tb:TE}
structure PC(X:Cx)(op:G9)(a b:Bf)(t:TE):Prop where
 run:
  ∀(dl:Ii) (s:Ad) (σ:St) (H:Hp) (Q:VK),Inv X dl σ H s->t σ H Q->
   wpAny (model X.prog X.w) X.A (eval a X.env) (fun v s₁=>wpAny (model X.prog X.w) X.A (eval b X.env) (fun u s₂=>wpAny (model X.prog X.w) X.A (compareOp op v u) (EP X dl σ Q) X.xe s₂) X.xe s₁) X.xe s
instance{X:Cx}{op:G9}{a b:Bf}{t:TE}:CoeFun (PC X op a b t) (fun _=>
 ∀(dl:Ii) (s:Ad) (σ:St) (H:Hp) (Q:VK),Inv X dl σ H s->t σ H Q->
  wpAny (model X.prog X.w) X.A (eval a X.env) (fun v s₁=>wpAny (model X.prog X.w) X.A (eval b X.env) (fun u s₂=>wpAny (model X.prog X.w) X.A (compareOp op v u) (EP X dl σ Q) X.xe s₂) X.xe s₁) X.xe s):=⟨fun h=>h.run⟩
def aGd(b:Bf){op:G9}(h:op≠.In)(h2:op≠.NotIn):behindInMarks op b=false:=by
 have e1:(op==CmpOp.In)=false:=by cases op<;>first|rfl|exact absurd rfl h
 have e2:(op==CmpOp.NotIn)=false:=by cases op<;>first|rfl|exact absurd rfl h2
 cases b<;>simp[behindInMarks,e1,e2]
def aMJ(ta:TE):TE:=fun σ H Q=>ta σ H fun x H1=>Q (.bl (decide (x=.non))) H1
def cQ.none_iff{x:V}{v:Ac}(r:cQ x v):(v==BY)=decide (x=.non):=by
 cases x with
 | non=>cases r;rfl
 | bl _=>cases r;rfl
 | int _=>obtain⟨t,rfl⟩:=r;rfl
 | str _=>obtain⟨t,rfl⟩:=r;rfl
 | byt _=>obtain⟨t,rfl⟩:=r;rfl
 | flt _=>obtain⟨t,rfl⟩:=r;rfl
 | ref _=>cases r;rfl
 | ty _=>cases r;rfl
def aCQ{j ff}(ha:PE X a ta):PC X .Is a (.Constant .none j ff) (aMJ ta):=by
 constructor;intro dl s σ H Q I h;refine thn (ha dl s σ H _ I h) fun v s1 ⟨x,H1,O,r1,J⟩=>?_;exact Constant_none (is_none_gen ⟨.bl _,H1,O,by rw[r1.none_iff];rfl,J⟩)
inductive As{α:Type}(f:α->V)(x:V)(Q:α->Prop):Prop
 | mk (c:α) (h:x=f c) (q:Q c):As f x Q
def tB(t:TE):TT:=fun σ H Q=>t σ H fun x H1=>As V.bl x fun c=>Q c H1
def aCR{op:G9}{t:TE}(h:PC X op a b t)(h1:behindInMarks op b=false:=by first|exact aGd _ (by decide) (by decide)|rfl):PT X (.Compare a [op] [b] pos) (tB t):=by
 constructor;intro dl s σ H Q I hw;refine wpAny_isTrue_Compare1 (thn (h dl s σ H _ I hw) fun v s1 h1=>thn h1 fun u s2 h2=>thn h2 fun c s3 ⟨x,H1,O,r1,J⟩=>?_) h1;obtain⟨d,rfl,q⟩:=J;cases r1;exact BX ⟨H1,O,q⟩
def cJ{e:Bf}{t:TE}(h:PE X e t)(O:∀ J,isTrue e X.env J=(do let v <- J;standAt e.pos;holding [v] (truthy v)):=by intro _;rfl):PT X e (tB t):=by
 constructor;intro dl s σ H Q I hw;refine isTrue_plain (thn (h dl s σ H _ I hw) fun v s1 ⟨x,H1,W,r1,U⟩=>?_) (O _);obtain⟨d,rfl,q⟩:=U;cases r1;exact BX ⟨H1,W,q⟩
variable{tA ft:TT}{aY:List Bf}
def aMK(t u:TT):TT:=fun σ H Q=>t σ H fun c H1=>if c=true then u σ H1 Q else Q false H1
def tOr(t u:TT):TT:=fun σ H Q=>t σ H fun c H1=>if c=true then Q true H1 else u σ H1 Q
def aML(t:TT):TT:=fun σ H Q=>t σ H fun c H1=>Q (!c) H1
def jQ(ha:PT X a tA):PW X (.BoolOp .And [a] pos) tA:=by
 constructor;intro J dl s σ H Q I h;refine isTrue_and (thn (ha dl s σ H Q I h) fun c s1 e=>?_);cases c with
 | true=>exact isTrue_and_nil e
 | false=>exact e
def dW(ha:PT X a tA):PW X (.BoolOp .Or [a] pos) tA:=by
 constructor;intro J dl s σ H Q I h;refine isTrue_or (thn (ha dl s σ H Q I h) fun c s1 e=>?_);cases c with
 | false=>exact isTrue_or_nil e
 | true=>exact e
def kH(ha:PT X a tA)(U:PW X (.BoolOp .And (b::aY) pos) ft):PW X (.BoolOp .And (a::b::aY) pos) (aMK tA ft):=by
 constructor;intro W dl s σ H Q I h;refine isTrue_and (thn (ha dl s σ H _ I h) fun c s1 ⟨H1,O,J⟩=>?_);cases c with
 | true=>exact U W dl s1 σ H1 Q O J
 | false=>exact⟨H1,O,J⟩
def dL(ha:PT X a tA)(U:PW X (.BoolOp .Or (b::aY) pos) ft):PW X (.BoolOp .Or (a::b::aY) pos) (tOr tA ft):=by
 constructor;intro W dl s σ H Q I h;refine isTrue_or (thn (ha dl s σ H _ I h) fun c s1 ⟨H1,O,J⟩=>?_);cases c with
 | true=>exact⟨H1,O,J⟩
 | false=>exact U W dl s1 σ H1 Q O J
def cO(ha:PT X a tA):PT X (.UnaryOp .Not a pos) (aML tA):=by
 constructor;intro dl s σ H Q I h;exact isTrue_not (ha dl s σ H (fun c H1=>Q (!c) H1) I h)
def aLH(ta tb:TE):TE:=fun σ H Q=>ta σ H fun x H1=>As V.bl x fun c=>if c=true then tb σ H1 Q else Q (.bl false) H1
def aMM(ta tb:TE):TE:=fun σ H Q=>ta σ H fun x H1=>∃ c,x=.bl c/\if c=true then Q (.bl true) H1 else tb σ H1 Q
def aLI(ta:TE):TE:=fun σ H Q=>ta σ H fun x H1=>As V.bl x fun c=>Q (.bl (!c)) H1
def dR{op}{t:TE}(h:PE X a t):PE X (.BoolOp op [a] pos) t:=⟨fun dl s σ H Q I hw=>BoolOp_one (h dl s σ H Q I hw)⟩
def dA(ha:PE X a ta)(U:PE X (.BoolOp .And (b::aY) pos) tb):PE X (.BoolOp .And (a::b::aY) pos) (aLH ta tb):=by
 constructor;intro dl s σ H Q I h;refine BoolOp_and (thn (ha dl s σ H _ I h) fun v s1 ⟨x,H1,O,r1,J⟩=>?_);obtain⟨c,rfl,J⟩:=J;cases r1;refine BX ?_;cases c with
 | true=>exact U dl s1 σ H1 Q O J
 | false=>exact⟨.bl false,H1,O,rfl,J⟩
def aGe(ha:PE X a ta)(U:PE X (.BoolOp .Or (b::aY) pos) tb):PE X (.BoolOp .Or (a::b::aY) pos) (aMM ta tb):=by
 constructor;intro dl s σ H Q I h;refine BoolOp_or (thn (ha dl s σ H _ I h) fun v s1 ⟨x,H1,O,r1,J⟩=>?_);obtain⟨c,rfl,J⟩:=J;cases r1;refine BX ?_;cases c with
 | false=>exact U dl s1 σ H1 Q O J
 | true=>exact⟨.bl true,H1,O,rfl,J⟩
def aGf(ha:PE X a ta):PE X (.UnaryOp .Not a pos) (aLI ta):=by
 constructor;intro dl s σ H Q I h;refine UnaryOp_ (thn (ha dl s σ H _ I h) fun v s1 ⟨x,H1,O,r1,J⟩=>?_);obtain⟨c,rfl,J⟩:=J;cases r1;exact not_of (BX ⟨.bl (!c),H1,O,rfl,J⟩)
def tIf(t:TT)(ta tb:TE):TE:=fun σ H Q=>t σ H fun c H1=>if c=true then ta σ H1 Q else tb σ H1 Q
def qM{c:Bf}(hc:PT X c tA)(ha:PE X a ta)(U:PE X b tb):PE X (.IfExp c a b pos) (tIf tA ta tb):=by
 constructor;intro dl s σ H Q I h;refine wpAny_IfExp (thn (hc dl s σ H _ I h) fun d s1 ⟨H1,O,J⟩=>?_);cases d with
 | true=>exact ha dl s1 σ H1 Q O J
 | false=>exact U dl s1 σ H1 Q O J
end
def SqL(K:Ae)(H:Hp)(a:Ag)(xs:List V):Prop:=
 Rd H a (.lst xs)\/
  ∃(o:Obj) (its:Array Ac) (n:Nat),K.lookup a=some o/\o.cls=.type "list"/\o.dict=none/\o.data=.seq its n/\its.size<=sizeLine/\cE xs its.toList
def SqT(K:Ae)(H:Hp)(a:Ag)(xs:List V):Prop:=
 Rd H a (.tup xs)\/
  ∃(o:Obj) (its:Array Ac) (n:Nat),K.lookup a=some o/\o.cls=.type "tuple"/\o.data=.seq its n/\its.size<=sizeLine/\cE xs its.toList
def aMN:Ac->Option V
 | .none=>some .non
 | .bool b=>some (.bl b)
 | .int i _=>some (.int i)
 | .str x _=>some (.str x)
 | .bytes b _=>some (.byt b)
 | .float b _=>some (.flt b)
 | .ref a=>some (.ref a)
 | .type n=>some (.ty n)
 | _=>none
def cQ.abs{x:V}{u:Ac}(r:cQ x u):aMN u=some x:=by
 cases x with
 | non=>cases r;rfl
 | bl _=>cases r;rfl
 | int _=>obtain⟨t,rfl⟩:=r;rfl
 | str _=>obtain⟨t,rfl⟩:=r;rfl
 | byt _=>obtain⟨t,rfl⟩:=r;rfl
 | flt _=>obtain⟨t,rfl⟩:=r;rfl
 | ref _=>cases r;rfl
 | ty _=>cases r;rfl
def cQ.inj{x y:V}{u:Ac}(r:cQ x u)(q:cQ y u):x=y:=BS.inj (r.abs.symm.trans q.abs)
theorem cE.inj:∀{xs ys:List V}{J:List Ac},cE xs J->cE ys J->xs=ys
 | _,_,_,.nil,.nil=>rfl
 | _,_,_,.cons r t,.cons O t'=>by rw[r.inj O,cE.inj t t']
section
variable{a:Ag}{xs ys:List V}
def aP{K:Ae}(h:H a=some (.lst xs)):SqL K H a xs:=.inl (.inl h)
def aV{K:Ae}(h:H a=some (.tup xs)):SqT K H a xs:=.inl (.inl h)
def Inv.list(I:Inv X dl σ H s)(h:SqL X.K H a xs):∃ its:List Ac,cE xs its/\PlainL s.heap a its.toArray/\xs.length<=sizeLine:=by
 rcases h with h|⟨o,its,n,O,hc,hd,J,hz,r⟩
 .obtain⟨z,its,n,r,e⟩:=h.ok I.hok;exact⟨its,r,⟨_,n,e,rfl,rfl,rfl⟩,z⟩
 .refine⟨its.toList,r,⟨o,n,I.kIn a o O,hc,hd,by simpa using J⟩,?_⟩;have e:=r.length;simp only[AL]at e;lia
def Inv.tuple(I:Inv X dl σ H s)(h:SqT X.K H a xs):∃ its:List Ac,cE xs its/\E7 s.heap a its.toArray/\xs.length<=sizeLine:=by
 rcases h with h|⟨o,its,n,O,hc,J,hz,r⟩
 .obtain⟨z,its,r,p⟩:=h.ok I.hok;exact⟨its,r,p.tup,z⟩
 .refine⟨its.toList,r,⟨o,I.kIn a o O,hc,n,by simpa using J⟩,?_⟩;have e:=r.length;simp only[AL]at e;lia
def Inv.list_inj(I:Inv X dl σ H s)(h:SqL X.K H a xs)(h':SqL X.K H a ys):xs=ys:=by
 obtain⟨its,r,⟨o,n,e,_,_,d⟩,_⟩:=I.list h;obtain⟨its',r',⟨o',n',e',_,_,d'⟩,_⟩:=I.list h';rw[e]at e';cases e';rw[d]at d';injection d' with d1 _;have:its=its':=by simpa using congrArg Array.toList d1
 subst this;exact r.inj r'
def Inv.tuple_inj(I:Inv X dl σ H s)(h:SqT X.K H a xs)(h':SqT X.K H a ys):xs=ys:=by
 obtain⟨its,r,⟨o,e,_,n,d⟩,_⟩:=I.tuple h;obtain⟨its',r',⟨o',e',_,n',d'⟩,_⟩:=I.tuple h';rw[e]at e';cases e';rw[d]at d';injection d' with d1 _;have:its=its':=by simpa using congrArg Array.toList d1
 subst this;exact r.inj r'
end
abbrev Cx.wish(X:Cx)(E:Ac->Ad->Prop):Cx:={ X with xe:=E }
abbrev Cx.nox(X:Cx):Cx:=X.wish fun _ _=>False
def Cx.Ok.wish{X:Cx}(ok:X.Ok)(E:Ac->Ad->Prop):(X.wish E).Ok:=
 ⟨ok.mod,ok.kind,ok.glob,ok.blt,ok.above,ok.inj,ok.has,ok.cab,ok.hd,ok.frames,ok.stk,ok.exf,ok.bs,ok.bsz,ok.noex,ok.exfs,ok.funs,ok.frf⟩
def Cx.Ok.unwish{X:Cx}{E:Ac->Ad->Prop}(ok:(X.wish E).Ok):X.Ok:=
 ⟨ok.mod,ok.kind,ok.glob,ok.blt,ok.above,ok.inj,ok.has,ok.cab,ok.hd,ok.frames,ok.stk,ok.exf,ok.bs,ok.bsz,ok.noex,ok.exfs,ok.funs,ok.frf⟩
def Inv.wish(I:Inv X dl σ H s)(E:Ac->Ad->Prop):Inv (X.wish E) dl σ H s:=⟨I.ok.wish E,I.os,I.bare,I.base,I.loc,I.cell,I.free,I.freeC,I.pin,I.hok,I.len⟩
def Inv.unwish(I:Inv (X.wish E) dl σ H s):Inv X dl σ H s:=⟨I.ok.unwish,I.os,I.bare,I.base,I.loc,I.cell,I.free,I.freeC,I.pin,I.hok,I.len⟩
def SP.unwish{D:lY}{f:Flow}{s':Ad}(h:SP (X.wish E) dl D f s'):SP X dl D f s':=by
 cases f with
 | next=>obtain⟨σ',H',I,q⟩:=h;exact⟨σ',H',I.unwish,q⟩
 | brk=>obtain⟨σ',H',I,q⟩:=h;exact⟨σ',H',I.unwish,q⟩
 | cont=>obtain⟨σ',H',I,q⟩:=h;exact⟨σ',H',I.unwish,q⟩
 | ret u=>obtain⟨v,σ',H',I,r,q⟩:=h;exact⟨v,σ',H',I.unwish,r,q⟩
def PSs.nox{st:List BA}{t:TS}(h:PSs X.nox st t):PSs X st t:=⟨fun dl s σ H D I hw=>
 Bt (h dl s σ H D (I.wish _) hw) (fun _ _ q=>q.unwish) fun _ _ z=>BE z⟩
section
variable{st:BA}{aY:List BA}{t u:TS}
def aJ2:TS:=fun D σ H=>D.nx σ H
def aLJ(t u:TS):TS:=fun D σ H=>t { D with nx:=u D } σ H
def bA:PSs X [] aJ2:=⟨fun _ _ σ H _ I h=>DP ⟨σ,H,I,h⟩⟩
def aK(h1:PS X st t)(h2:PSs X aY u):PSs X (st::aY) (aLJ t u):=by
 constructor;intro dl s σ H D I h;refine Gw (thn (h1 dl s σ H { D with nx:=u D } I h) fun f s1 q=>?_);cases f with
 | next=>
  obtain⟨σ',H',I',q⟩:=q;exact h2 dl s1 σ' H' D I' q
 | ret v=>exact q
 | brk=>exact q
 | cont=>exact q
def aN(h1:PS X st t):PSs X [st] t:=by
 constructor;intro dl s σ H D I h;refine Gw (thn (h1 dl s σ H D I h) fun f s1 q=>?_);cases f with
 | next=>exact DP q
 | ret v=>exact q
 | brk=>exact q
 | cont=>exact q
def Inv.quiet{dl:Ii}{σ:St}{H:Hp}{s:Ad}(I:Inv X dl σ H s):interactive X.env=false:=by simp[interactive,I.ok.kind]
def aLK(te:TE):TS:=fun D σ H=>te σ H fun _ H1=>D.nx σ H1
def fZ(J:PE X e te)(O:swapsWith e none pos.line X.env=pure false:=by rfl):PS X (.Expr e pos) (aLK te):=by
 constructor;intro dl s σ H D I h;exact wpAny_Expr_any (thn (J dl s σ H _ I h) fun v s1 ⟨x,H1,W,r1,U⟩=>⟨σ,H1,W,U⟩) I.quiet O
def aIW(te:TE):TS:=fun D σ H=>te σ H D.rt
def aT(J:PE X e te):PS X (.Return (some e) pos) (aIW te):=by
 constructor;intro dl s σ H D I h;exact wpAny_Return_some (thn (J dl s σ H _ I h) fun v s1 ⟨x,H1,U,r1,O⟩=>⟨x,σ,H1,U,r1,O⟩)
def aLL(c:TT)(t u:TS):TS:=fun D σ H=>c σ H fun b H1=>if b=true then t D σ H1 else u D σ H1
def bX{c:Bf}{a b:List BA}{tc:TT}(hc:PT X c tc)(ha:PSs X a t)(U:PSs X b u):PS X (.If c a b pos) (aLL tc t u):=by
 constructor;intro dl s σ H D I h;refine wpAny_If (thn (hc dl s σ H _ I h) fun d s1 ⟨H1,O,J⟩=>?_);cases d with
 | true=>exact ha dl s1 σ H1 D O J
 | false=>exact U dl s1 σ H1 D O J
end
abbrev TG:=V->St->Hp->(St->Hp->Prop)->Prop
abbrev TGs:=List V->St->Hp->(St->Hp->Prop)->Prop
structure PG(X:Cx)(target:Bf)(t:TG):Prop where
 run:
  ∀(dl:Ii) (s:Ad) (σ:St) (H:Hp) (v:V) (u:Ac) (Q:St->Hp->Prop),Inv X dl σ H s->cQ v u->t v σ H Q->
   wpAny (model X.prog X.w) X.A (assign target X.env u) (fun _ s'=>∃ σ' H',Inv X dl σ' H' s'/\Q σ' H') X.xe s
instance{X:Cx}{target:Bf}{t:TG}:CoeFun (PG X target t) (fun _=>
 ∀(dl:Ii) (s:Ad) (σ:St) (H:Hp) (v:V) (u:Ac) (Q:St->Hp->Prop),Inv X dl σ H s->cQ v u->t v σ H Q->
  wpAny (model X.prog X.w) X.A (assign target X.env u) (fun _ s'=>∃ σ' H',Inv X dl σ' H' s'/\Q σ' H') X.xe s):=⟨fun h=>h.run⟩
structure PGs(X:Cx)(ts:List Bf)(t:TGs):Prop where
 run:
  ∀(dl:Ii) (s:Ad) (σ:St) (H:Hp) (vs:List V) (us:List Ac) (Q:St->Hp->Prop),Inv X dl σ H s->cE vs us->t vs σ H Q->
   wpAny (model X.prog X.w) X.A (assignInOrder ((assignEach ts X.env).map (·.2)) us) (fun _ s'=>∃ σ' H',Inv X dl σ' H' s'/\Q σ' H') X.xe s
instance{X:Cx}{ts:List Bf}{t:TGs}:CoeFun (PGs X ts t) (fun _=>
 ∀(dl:Ii) (s:Ad) (σ:St) (H:Hp) (vs:List V) (us:List Ac) (Q:St->Hp->Prop),Inv X dl σ H s->cE vs us->t vs σ H Q->
  wpAny (model X.prog X.w) X.A (assignInOrder ((assignEach ts X.env).map (·.2)) us) (fun _ s'=>∃ σ' H',Inv X dl σ' H' s'/\Q σ' H') X.xe s):=⟨fun h=>h.run⟩
abbrev aKE:=V->V->V->Hp->(Hp->Prop)->Prop
def aLM(X:Cx)(t:aKE):Prop:=
 ∀(dl:Ii) (s:Ad) (σ:St) (H:Hp) (o i v:V) (ov iv u:Ac) (Q:Hp->Prop),Inv X dl σ H s->cQ o ov->cQ i iv->cQ v u->t o i v H Q->
  wpAny (model X.prog X.w) X.A (setItem ov iv u) (fun _ s'=>∃ H',Inv X dl σ H' s'/\Q H') X.xe s
def bT(i:Nat):TG:=fun v σ H Q=>Q (σ.set i (some v)) H
def bW{i:Nat}{x:Str}(hN:X.N.Nodup)(hi:X.N[i]?=some x)(J:Loc X.env.scope x)(U:X.fn x=true\/X.env.scope.names.lookup x=some .local:=by first|exact .inl rfl|exact .inr rfl|assumption):PG X (.Name x pos) (bT i):=by
 constructor;intro dl s σ H v u Q I r h;exact wpAny_assign_Name (kT I hN hi J r (fun s' O=>⟨_,H,O,h⟩) U)
def aIX:TGs:=fun vs σ H Q=>vs=[]/\Q σ H
inductive aDO(t:TG)(u:TGs)(vs:List V)(σ:St)(H:Hp)(Q:(St->Hp->Prop)):Prop
 | mk (v:_) (r:_) (q0:vs=v::r) (q1:t v σ H fun σ' H'=>u r σ' H' Q):aDO t u vs σ H Q
def vM(t:TG)(u:TGs):TGs:=fun vs σ H Q=>aDO t u vs σ H Q
def lZ:PGs X [] aIX:=by
 constructor;intro dl s σ H vs J Q I r h;obtain⟨e,h⟩:=h;subst e;cases r;exact assignInOrder_nil ⟨σ,H,I,h⟩
def dN{e:Bf}{es:List Bf}{t:TG}{u:TGs}(h1:PG X e t)(h2:PGs X es u)
  (O:(assignEach (e::es) X.env).map (·.2)=assign e X.env::(assignEach es X.env).map (·.2):=by rfl):PGs X (e::es) (vM t u):=by
 constructor;intro dl s σ H vs Y Q I r h;obtain⟨v,vr,e1,h⟩:=h;subst e1;cases r with
 | cons r J=>
  rw[O];refine Gc (thn (h1 dl s σ H _ _ _ I r h) fun _ s1 ⟨σ1,H1,W,U⟩=>?_);exact h2 dl s1 σ1 H1 _ _ Q W J U
inductive aGg(K:Ae)(n:Nat)(t:TGs)(v:V)(σ:St)(H:Hp)(Q:(St->Hp->Prop)):Prop
 | mk (a:_) (xs:_) (q0:v=.ref a) (q1:SqT K H a xs) (q2:xs.length=n) (q3:t xs σ H Q):aGg K n t v σ H Q
def aIY(K:Ae)(n:Nat)(t:TGs):TG:=fun v σ H Q=>aGg K n t v σ H Q
def pZ{es:List Bf}{k:Nat}{t:TGs}{n:Nat}(hc:X.calm=true)(h:PGs X es t)
  (hn:(assignEach es X.env).length=n:=by rfl) (J:(assignEach es X.env).findIdx? (·.1)=none:=by rfl):PG X (.Tuple es k pos) (aIY X.K n t):=by
 constructor;intro dl s σ H v u Q I r hw;obtain⟨a,xs,e1,hq,hl,hw⟩:=hw;subst e1;cases r;obtain⟨its,rv,ht,hz⟩:=I.tuple hq;refine assign_Tuple_tuple (I.ok.hd hc) ht (by simp[hn,<- hl,rv.length]) J fun h' O=>?_;have U:Inv X dl σ H { s with heap:=h' }:=I.kept (t':=s.toks) fun b o e=>O b o (AU (Az e)) e;exact h dl _ σ H xs _ Q U (by simpa using rv) hw
def aMO(to ti:TE)(t:aKE):TG:=fun v σ H Q=>to σ H fun o H1=>ti σ H1 fun i H2=>t o i v H2 fun H3=>Q σ H3
def aAs{o i:Bf}{to O:TE}{t:aKE}(ho:PE X o to)(hi:PE X i O)(Z:aLM X t)
  (ha:∀ v,assign (.Subscript o i pos) X.env v=(do
   let ov <- holding [v] (eval o X.env)
   let J <- holding [v,ov] (eval i X.env)
   standAt pos
   holding [v,ov,J] (setItem ov J v)
   release [v,ov,J] []):=by intro _;rfl):PG X (.Subscript o i pos) (aMO to O t):=by
 constructor;intro dl s σ H v u Q I r h;rw[ha];refine Aa (Bg (thn (ho dl s σ H _ I h) fun ov s1 ⟨x,H1,I1,r1,q1⟩=>?_));refine Aa (Bg (thn (hi dl s1 σ H1 _ I1 q1) fun J s2 ⟨y,H2,U,r2,q2⟩=>?_));refine Aa (Ds (Aa (Bg (thn (Z dl s2 σ H2 x y v ov J u _ U r1 r2 r q2) fun _ s3 ⟨H3,Y,W⟩=>?_))));exact wpAny_release ⟨σ,H3,Y,W⟩
def aIZ(te:TE)(g:TG):TS:=fun D σ H=>te σ H fun x H1=>g x σ H1 D.nx
def nX{tg e:Bf}{te:TE}{g:TG}(J:PE X e te)(O:PG X tg g)(U:swapsWithSole [tg] e pos.line X.env=pure false:=by rfl)(hw:swappedStores [tg] e X.env=pure none:=by rfl)
  (h1:(assignEach [tg] X.env).map (·.2)=[assign tg X.env]:=by rfl):PS X (.Assign [tg] e pos) (aIZ te g):=by
 constructor;intro dl s σ H D I h;refine wpAny_Assign_stores (thn (J dl s σ H _ I h) fun v s1 ⟨x,H1,Y,r1,W⟩=>?_) U hw;rw[h1];exact thn (O dl s1 σ H1 x v _ Y r1 W) fun _ s2 q=>q
def sV{i:Nat}{x:Str}{e:Bf}{te:TE}{ff:Pos}(hN:X.N.Nodup)(hi:X.N[i]?=some x)(U:Loc X.env.scope x)(O:PE X e te)(W:swapsWith e (some (.Name x ff)) pos.line X.env=pure false:=by rfl)(hf:X.fn x=true\/X.env.scope.names.lookup x=some .local:=by first|exact .inl rfl|exact .inr rfl|assumption):
  PS X (.Assign [.Name x ff] e pos) (aIZ te (bT i)):=by
 constructor;intro dl s σ H D I h;refine wpAny_Assign_Name (thn (O dl s σ H _ I h) fun v s1 ⟨y,H1,Z,r1,Y⟩=>?_) W;exact kT Z hN hi U r1 (fun s2 J=>⟨_,H1,J,Y⟩) hf
def aMP(i j:Nat)(ta:TA):TS:=fun D σ H=>ta σ H fun vs H1=>∃ v w,vs=[v,w]/\D.nx ((σ.set i (some v)).set j (some w)) H1
def aKF{i j:Nat}{x y:Str}{a b:Bf}{ta:TA}{O Y pt:Pos}{kt k2 pt2}(hc:X.calm=true)(hN:X.N.Nodup)(hi:X.N[i]?=some x)(hj:X.N[j]?=some y)(W:i≠j)
  (hx:X.env.scope.names.lookup x=some .local) (hy:X.env.scope.names.lookup y=some .local) (ha:PA X [a,b] ta)
  (hw:swappedStores [.Tuple [.Name x O,.Name y Y] kt pt] (.Tuple [a,b] k2 pt2) X.env=pure (some [x,y]))
  (hs:swapsWithSole [.Tuple [.Name x O,.Name y Y] kt pt] (.Tuple [a,b] k2 pt2) pos.line X.env=pure false:=by rfl):
  PS X (.Assign [.Tuple [.Name x O,.Name y Y] kt pt] (.Tuple [a,b] k2 pt2) pos) (aMP i j ta):=by
 constructor;intro dl s σ H D I h;rw[exec_Assign_arm];refine Aa (Ds ?_);rw[hs];refine Aa (Af ?_);rw[Ia (by decide)];refine Aa (Tuple_ (thn (ha _ dl s σ H _ I h) fun us s1 ⟨vs,H1,I1,r1,U⟩=>?_));obtain⟨v,w,e1,U⟩:=U;subst e1;obtain⟨u1,u2,rfl,rv,rw'⟩:∃ u1 u2,us=[u1,u2]/\cQ v u1/\cQ w u2:=by
  cases r1 with
  | cons p q=>
   cases q with
   | cons p' q'=>
    cases q';exact⟨_,_,rfl,p,p'⟩
 refine BH ?_ (by show 2<=sizeLine;decide);have I2:Inv X dl σ H1 { s1 with heap:=s1.heap.push { cls:=.type "tuple",data:=.seq [u1,u2].toArray } }:=I1.kept (t':=s1.toks) fun b o e=>Ah _ e;rw[hw];refine Aa (Af ?_);show wpAny (model X.prog X.w) X.A (do rule "assign.swapped-stores";let items <- unpackItems (.ref s1.heap.objs.size) 2 none;assignInOrder [fun v=>bindName X.env y v,fun v=>bindName X.env x v] items.reverse;pure Flow.next) _ _ _;refine Aa (DF (Aa (unpackItems_tuple (items:=#[u1,u2]) (I.ok.hd hc) (IsTup.new s1.heap _) fun h' J=>?_)));have I3:=I2.kept (h':=h') (t':=s1.toks) fun b o e=>J b o (AU (Az e)) e;show wpAny _ _ (assignInOrder [fun v=>bindName X.env y v,fun v=>bindName X.env x v] [u2,u1] >>= fun _=>pure Flow.next) _ _ _;refine Aa (Gc (wpAny_bindName (kT I3 hN hj (.inl hy) rw' (fun s2 I4=>?_) (.inr hy))));refine Gc (wpAny_bindName (kT I4 hN hi (.inl hx) rv (fun s3 Z=>assignInOrder_nil (Af ?_)) (.inr hx)));rw[List.set_comm _ _ (CY W)]at Z;exact⟨_,H1,Z,U⟩
inductive aBo(c:TT)(tb:TS)(D:lY)(σ:St)(H:Hp):Prop
 | mk (W:Nat->St->Hp->Prop) (q0:(∃ m,W m σ H)) (q1:∀ m σ H,W m σ H->
 c σ H fun b H1=>if b=true then∃ N:St->Hp->Prop,(∀ σ' H',N σ' H'->∃ m',m'<m/\W m' σ' H')/\tb { D with nx:=N,ct:=N,bk:=D.nx } σ H1 else D.nx σ H1):aBo c tb D σ H
def aKG(c:TT)(tb:TS):TS:=fun D σ H=>aBo c tb D σ H
def aGh{c:Bf}{J:List BA}{tc:TT}{tb:TS}(hp:PassesOwn (model X.prog X.w) X.A X.env X.xe)(hc:PT X c tc)(hb:PSs X J tb):PS X (.While c J [] pos) (aKG tc tb):=by
 constructor;intro dl s σ H D I h;obtain⟨W,⟨m0,w0⟩,turn⟩:=h;refine wpAny_While (codeAny_whileLoop (fun n s'=>∃ Z H',Inv X dl Z H' s'/\W n Z H') ?_ m0 ⟨σ,H,I,w0⟩);rintro n s1 ⟨σ1,H1,I1,w1⟩;refine Dr hp (thn (hc dl s1 σ1 H1 _ I1 (turn n σ1 H1 w1)) fun b s2 ⟨H2,Y,U⟩=>?_);cases b with
 | true=>
  obtain⟨N,hN,U⟩:=U;rw[Ib rfl];refine Dr hp (thn (hb dl s2 σ1 H2 _ Y U) fun f s3 O=>?_);cases f with
  | next=>
   obtain⟨σ3,H3,I3,n3⟩:=O;obtain⟨m',hm,w3⟩:=hN σ3 H3 n3;exact⟨m',hm,σ3,H3,I3,w3⟩
  | cont=>
   obtain⟨σ3,H3,I3,n3⟩:=O;obtain⟨m',hm,w3⟩:=hN σ3 H3 n3;exact⟨m',hm,σ3,H3,I3,w3⟩
  | brk=>exact O
  | ret v=>exact O
 | false=>
  rw[Ia Aq];exact DP ⟨σ1,H2,Y,U⟩
structure It where
 go:Nat->Hp->Prop
 yld:Nat->Hp->V->Hp->Prop
 stop:Nat->Hp->Prop
def nS(X:Cx)(dl:Ii)(H:Hp)(b:Ag):Prop:=
 H b=none/\b≠X.env.locals/\b∉X.fs/\(b∈X.ex\/X.s₀.heap.objs.size<=b)/\(∀ x c,X.env.cells.lookup x=some c->c≠b)/\∀ p∈X.pn++dl,p.1≠b
def Inv.fpOk{X:Cx}{dl:Ii}{σ:St}{H H':Hp}{s:Ad}{b:Ag}(I:Inv X dl σ H s)(J:s.heap.objs.size<=b)(hn:H' b=none):nS X dl H' b:=by
 refine⟨hn,CD (AZ I.lt J),I.nofs J,.inr (AH I.sz J),fun x c e z=>?_,fun p O z=>?_⟩
 .obtain⟨v,q⟩:=I.cell x c e;exact absurd (AZ q.lt (by rw[z];exact J)) (Cd _)
 .exact absurd (AZ (Az (I.pin p O).1) (by rw[z];exact J)) (Cd _)
structure aBp(P:Ar)(w:AW)(K:Ae)(tg:Bf)(J:It)(fp:List Ag)(it:Ag)(tn:Nat->Bb->Prop):Prop where
 mem:it∈fp
 obj:∀ i h,tn i h->∀ b∈fp,∃ o,h.get? b=some o/\∀ v,o.data≠.cell v
 keep:∀ i h h',tn i h->(∀ b∈fp,∀ o,h.get? b=some o->h'.get? b=some o)->tn i h'
 item:∀(X:Cx),X.prog=P->X.w=w->X.K=K->X.calm=true->∀(i:Nat) (dl:Ii) (s:Ad) (σ:St) (H:Hp) (E:Ac->Ad->Prop),Inv X dl σ H s->(∀ b∈fp,nS X dl H b)->tn i s.heap->J.go i H->
  wpAny (model P w) X.A (pyNext (.ref it)) (fun r s1=>∃ u,r=some u/\
   wpAny (model P w) X.A (letOwnedTupleGo tg (.ref it) u) (fun _ s2=>∃ x H',Inv X dl σ H' s2/\cQ x u/\J.yld i H x H'/\tn (i+1) s2.heap/\∀ b∈fp,H' b=none) E s1) E s
 done:∀(X:Cx),X.prog=P->X.w=w->X.K=K->X.calm=true->∀(i:Nat) (dl:Ii) (s:Ad) (σ:St) (H:Hp) (E:Ac->Ad->Prop),Inv X dl σ H s->(∀ b∈fp,nS X dl H b)->tn i s.heap->J.stop i H->
  wpAny (model P w) X.A (pyNext (.ref it)) (fun r s1=>r=none/\Inv X dl σ H s1) E s
 self:∀(A:AK) (i:Nat) (s:Ad) (Q:Ac->Ad->Prop) (E:Ac->Ad->Prop),tn i s.heap->Q (.ref it) s->wpAny (model P w) A (pyIter (.ref it)) Q E s
abbrev TI:=St->Hp->(It->Hp->Prop)->Prop
inductive aJ3(X:Cx)(dl:Ii)(σ:St)(tg:Bf)(R:It->Hp->Prop)(itv:Ac)(s2:Ad):Prop
 | mk (it:Ag) (fp:List Ag) (tn:Nat->Bb->Prop) (J:It) (H':Hp) (q0:itv=.ref it) (q1:Inv X dl σ H' s2) (q2:aBp X.prog X.w X.K tg J fp it tn) (q3:tn 0 s2.heap) (q4:(∀ b∈fp,nS X dl H' b)) (q5:R J H'):aJ3 X dl σ tg R itv s2
def PIE(X:Cx)(dl:Ii)(σ:St)(tg:Bf)(R:It->Hp->Prop)(itv:Ac)(s2:Ad):Prop:=aJ3 X dl σ tg R itv s2
structure PI(X:Cx)(tg iter:Bf)(wi:TI):Prop where
 run:
  ∀(dl:Ii) (s:Ad) (σ:St) (H:Hp) (R:It->Hp->Prop),Inv X dl σ H s->wi σ H R->
   wpAny (model X.prog X.w) X.A (eval iter X.env) (fun v s1=>wpAny (model X.prog X.w) X.A (pyIter v) (PIE X dl σ tg R) X.xe s1) X.xe s
instance{X:Cx}{tg iter:Bf}{wi:TI}:CoeFun (PI X tg iter wi) (fun _=>
 ∀(dl:Ii) (s:Ad) (σ:St) (H:Hp) (R:It->Hp->Prop),Inv X dl σ H s->wi σ H R->
  wpAny (model X.prog X.w) X.A (eval iter X.env) (fun v s1=>wpAny (model X.prog X.w) X.A (pyIter v) (PIE X dl σ tg R) X.xe s1) X.xe s):=⟨fun h=>h.run⟩
def aBq{M : DM}{A : AK}{E : Ac -> Ad -> Prop}{s : Ad}{tg : Bf}{it : Ag}{u : Ac}{o : Obj}{n : String}{vs : Array Ac}{Q : Unit -> Ad -> Prop}(O : s.heap.get? it = some o)(hc : o.cls = .type n)(hd : o.data = .fields vs)
    (hn : ["enumerate", "zip", "dict_itemiterator", "dict_reverseitemiterator", "odict_iterator", "itertools.zip_longest", "itertools.pairwise"].contains n = false) (J : Q () s) : wpAny M A (letOwnedTupleGo tg (.ref it) u) Q E s := by
  unfold letOwnedTupleGo;cases tg<;>first
    | exact Af J
    | (cases u<;>first
        | exact Af J
        | (refine Aa (wpAny_load O ?_)
           rw[hc, hd];show wpAny M A (if (["enumerate", "zip", "dict_itemiterator", "dict_reverseitemiterator", "odict_iterator", "itertools.zip_longest", "itertools.pairwise"].contains n&&vs[0]?==some (rawInt _)) = true then _ else _) Q E s;rw[Ia (by intro h;rw[hn, Bq]at h;cases h)];exact Af J))
def Itl(K:Ae)(a:Ag):It:=
 ⟨fun i H=>∃ xs x,SqL K H a xs/\xs[i]?=some x,fun i H x H'=>H'=H/\∀ xs,SqL K H a xs->xs[i]?=some x,fun i H=>∃ xs,SqL K H a xs/\xs.length<=i⟩
def Itt(K:Ae)(a:Ag):It:=
 ⟨fun i H=>∃ xs x,SqT K H a xs/\xs[i]?=some x,fun i H x H'=>H'=H/\∀ xs,SqT K H a xs->xs[i]?=some x,fun i H=>∃ xs,SqT K H a xs/\xs.length<=i⟩
def Itr(lo:Int)(n:Nat):It:=⟨fun i _=>i<n,fun i H x H'=>H'=H/\x=.int (lo+i),fun i _=>n<=i⟩
def aFe{P:Ar}{w:AW}{K:Ae}{tg:Bf}(a it:Ag):aBp P w K tg (Itl K a) [it] it (fun i h=>h.IsListIter it a i) where
 mem:=by simp
 obj:=fun i h st b J=>by
  have e:b=it:=by simpa using J
  subst e;obtain⟨o,e,c,d⟩:=st;exact⟨o,e,fun v z=>by rw[d]at z;cases z⟩
 keep:=fun i h h' st k=>st.at fun o e=>k it (by simp) o e
 item:=by
  intro X Y hw Z hc i dl s σ H E I U st W;subst Y hw Z;obtain⟨xs,x,hq,hx⟩:=W;obtain⟨its,rv,p,hz⟩:=I.list hq;obtain⟨u,hu,ru⟩:=rv.get hx;obtain⟨f0,f1,f2,f3,f4,f5⟩:=U it (by simp);refine wpAny_pyNext_list_item st p.isList (x:=u) (by simpa using hu) fun h' O sb=>?_;have I1:Inv X dl σ H { s with heap:=h' }:=I.turned (t':=s.toks) (fun b o J e=>(sb.2 b J).trans e) f0 f1 f3 f4 f5;obtain⟨o,e,c,d⟩:=id O;exact⟨u,rfl,aBq (s:={ s with heap:=h' }) e c d (by decide) ⟨x,H,I1,ru,⟨rfl,fun ys hy=>by rw[I.list_inj hy hq];exact hx⟩,O,fun b J=>(U b J).1⟩⟩
 done:=by
  intro X Y hw Z hc i dl s σ H E I U st W;subst Y hw Z;obtain⟨xs,hq,hx⟩:=W;obtain⟨its,rv,p,hz⟩:=I.list hq;obtain⟨f0,f1,f2,f3,f4,f5⟩:=U it (by simp);have hl:=rv.length;exact wpAny_pyNext_list_end (I.ok.hd hc) st p.isList (by simp;lia) fun h' eb=>⟨rfl,I.turned (t':=s.toks) (fun b o J e=>eb b o J e) f0 f1 f3 f4 f5⟩
 self:=fun _ _ _ _ _ st h=>wpAny_pyIter_listiter st h
def aCS{P:Ar}{w:AW}{K:Ae}{tg:Bf}(a it:Ag):aBp P w K tg (Itt K a) [it] it (fun i h=>h.IsTupleIter it a i) where
 mem:=by simp
 obj:=fun i h st b J=>by
  have e:b=it:=by simpa using J
  subst e;obtain⟨o,e,c,d⟩:=st;exact⟨o,e,fun v z=>by rw[d]at z;cases z⟩
 keep:=fun i h h' st k=>st.at fun o e=>k it (by simp) o e
 item:=by
  intro X Y hw Z hc i dl s σ H E I U st W;subst Y hw Z;obtain⟨xs,x,hq,hx⟩:=W;obtain⟨its,rv,p,hz⟩:=I.tuple hq;obtain⟨u,hu,ru⟩:=rv.get hx;obtain⟨f0,f1,f2,f3,f4,f5⟩:=U it (by simp);refine wpAny_pyNext_tuple_item st (show s.heap.IsTuple a its.toArray from p) (x:=u) (by simpa using hu) fun h' O sb=>?_;have I1:Inv X dl σ H { s with heap:=h' }:=I.turned (t':=s.toks) (fun b o J e=>(sb.2 b J).trans e) f0 f1 f3 f4 f5;obtain⟨o,e,c,d⟩:=id O;exact⟨u,rfl,aBq (s:={ s with heap:=h' }) e c d (by decide) ⟨x,H,I1,ru,⟨rfl,fun ys hy=>by rw[I.tuple_inj hy hq];exact hx⟩,O,fun b J=>(U b J).1⟩⟩
 done:=by
  intro X Y hw Z hc i dl s σ H E I U st W;subst Y hw Z;obtain⟨xs,hq,hx⟩:=W;obtain⟨its,rv,p,hz⟩:=I.tuple hq;obtain⟨f0,f1,f2,f3,f4,f5⟩:=U it (by simp);have hl:=rv.length;exact wpAny_pyNext_tuple_end (I.ok.hd hc) st (show s.heap.IsTuple a its.toArray from p) (by simp;lia) fun h' eb=>⟨rfl,I.turned (t':=s.toks) (fun b o J e=>eb b o J e) f0 f1 f3 f4 f5⟩
 self:=fun _ _ _ _ _ st h=>wpAny_pyIter_tupleiter st h
def aCT{P:Ar}{w:AW}{K:Ae}{tg:Bf}(it:Ag)(lo:Int)(n:Nat):aBp P w K tg (Itr lo n) [it] it (fun i h=>G8 h it (lo+(i:Nat)*1) ((n:Int)-(i:Nat)) 1) where
 mem:=by simp
 obj:=fun i h st b J=>by
  have e:b=it:=by simpa using J
  subst e;exact⟨_,st,fun v z=>by
   have z':Gg _=Data.cell v:=z;cases z'⟩
 keep:=fun i h h' st k=>k it (by simp) _ st
 item:=by
  intro X Z hw hK hc i dl s σ H E I U st Y;subst Z hw hK;obtain⟨f0,f1,f2,f3,f4,f5⟩:=U it (by simp);have W:=Walks.range (prog:=X.prog) (w:=X.w) (I.ok.hd hc) it lo 1 n;refine W.item i s _ _ Y st fun v h' tk hv O kk=>?_;obtain⟨t,rfl⟩:=hv;have I1:Inv X dl σ H { s with heap:=h',toks:=tk }:=I.turned (fun b o J e=>kk b o (by simpa using J) e) f0 f1 f3 f4 f5;refine⟨_,rfl,aBq (s:={ s with heap:=h',toks:=tk }) (n:="range_iterator") O rfl rfl (by decide) ⟨.int (lo+i),H,I1,⟨t,?_⟩,⟨rfl,rfl⟩,O,fun b J=>(U b J).1⟩⟩;rw[Int.mul_one]
 done:=by
  intro X Z hw hK hc i dl s σ H E I U st Y;subst Z hw hK;obtain⟨f0,f1,f2,f3,f4,f5⟩:=U it (by simp);exact wpAny_pyNext_range_end (I.ok.hd hc) st (by have:n<=i:=Y;lia) fun h' eb=>⟨rfl,I.turned (t':=s.toks) (fun b o J e=>eb b o J e) f0 f1 f3 f4 f5⟩
 self:=fun _ _ _ _ _ st h=>wpAny_pyIter_rangeiter st h
section
variable{tg:Bf}
def aLN(K:Ae)(tl:TE):TI:=fun σ H R=>tl σ H fun x H1=>As V.ref x fun a=>(∃ xs,SqL K H1 a xs)/\R (Itl K a) H1
def aLO(K:Ae)(tl:TE):TI:=fun σ H R=>tl σ H fun x H1=>As V.ref x fun a=>(∃ xs,SqT K H1 a xs)/\R (Itt K a) H1
def hZ{l:Bf}{tl:TE}(O:PE X l tl):PI X tg l (aLN X.K tl):=by
 constructor;intro dl s σ H R I h;refine thn (O dl s σ H _ I h) fun v s1 ⟨x,H1,J,r1,W⟩=>?_;obtain⟨a,e,⟨xs,hq⟩,q⟩:=W;subst e;cases r1;obtain⟨its,rv,p,hz⟩:=J.list hq;refine Gm p.isList ?_;refine⟨s1.heap.objs.size,[s1.heap.objs.size],_,_,H1,rfl,J.kept (t':=s1.toks) fun b o e=>Ah _ e,aFe a _,⟨_,AE _ rfl,rfl,rfl⟩,fun b U=>?_,q⟩;have e:b=s1.heap.objs.size:=by simpa using U
 subst e;exact J.fpOk (Ap _) (J.hok.fresh (Ap _))
def kJ{l:Bf}{tl:TE}(O:PE X l tl):PI X tg l (aLO X.K tl):=by
 constructor;intro dl s σ H R I h;refine thn (O dl s σ H _ I h) fun v s1 ⟨x,H1,J,r1,W⟩=>?_;obtain⟨a,e,⟨xs,hq⟩,q⟩:=W;subst e;cases r1;obtain⟨its,rv,p,hz⟩:=J.tuple hq;refine wpAny_pyIter_tuple (show s1.heap.IsTuple a its.toArray from p) ?_;refine⟨s1.heap.objs.size,[s1.heap.objs.size],_,_,H1,rfl,J.kept (t':=s1.toks) fun b o e=>Ah _ e,aCS a _,⟨_,AE _ rfl,rfl,rfl⟩,fun b U=>?_,q⟩;have e:b=s1.heap.objs.size:=by simpa using U
 subst e;exact J.fpOk (Ap _) (J.hok.fresh (Ap _))
def aBr{dl:Ii}{σ:St}{H:Hp}{s:Ad}{R:It->Hp->Prop}{E:Ac->Ad->Prop}{lo hi:Int}{t u v:Tok}{tk:Nat}(I:Inv X dl σ H s)(h1:-(2^62)<=lo)(h2:lo<2^62)(W:-(2^62)<=hi)(O:hi<2^62)
  (q:R (Itr lo (hi-lo).toNat) H):wpAny (model X.prog X.w) X.A (pyIter (.ref s.heap.objs.size)) (PIE X dl σ tg R) E { s with heap:=s.heap.push { cls:=.type "range",data:=.fields #[.int lo t,.int hi u,.int 1 v] },toks:=tk }:=by
 refine wpAny_pyIter_range (IsRange.new ..) (small_one h1 h2 W O) ?_;have J:Inv X dl σ H { s with heap:=s.heap.push { cls:=.type "range",data:=.fields #[.int lo t,.int hi u,.int 1 v] },toks:=tk }:=I.kept fun b o e=>Ah _ e;refine⟨(s.heap.push { cls:=.type "range",data:=.fields #[.int lo t,.int hi u,.int 1 v] }).objs.size,[(s.heap.push { cls:=.type "range",data:=.fields #[.int lo t,.int hi u,.int 1 v] }).objs.size],_,_,H,rfl,
  J.kept (t':=tk) fun b o e=>Ah _ e,aCT _ lo (hi-lo).toNat,?_,fun b U=>?_,q⟩
 .have e1:lo+((0:Nat):Int)*1=lo:=by simp
  have e2:(((hi-lo).toNat:Nat):Int)-((0:Nat):Int)=CM lo hi 1:=by rw[rangeSize_one];split<;>lia
  show G8 _ _ (lo+((0:Nat):Int)*1) ((((hi-lo).toNat:Nat):Int)-((0:Nat):Int)) 1;rw[e1,e2];exact AE _ rfl
 .have e:b=(s.heap.push { cls:=.type "range",data:=.fields #[.int lo t,.int hi u,.int 1 v] }).objs.size:=by simpa using U
  subst e;exact J.fpOk (Ap _) (J.hok.fresh (Ap _))
def aLP(ta:TA):TI:=fun σ H R=>ta σ H fun vs H1=>∃ j:Int,vs=[.int j]/\-(2^62)<=j/\j<2^62/\R (Itr 0 j.toNat) H1
def aLQ(ta:TA):TI:=fun σ H R=>ta σ H fun vs H1=>∃ i j:Int,vs=[.int i,.int j]/\(-(2^62)<=i/\i<2^62/\-(2^62)<=j/\j<2^62)/\R (Itr i (j-i).toNat) H1
def iK{a:Bf}{ta:TA}{p pos:Pos}(U:Gl X "range")(hm:X.mg "range"=none)(ha:PA X [a] ta)(W:starEach [a] X.env=[(false,eval a X.env)]:=by rfl):PI X tg (.Call (.Name "range" p) [a] [] pos) (aLP ta):=by
 constructor;intro dl s σ H R I h;refine Call_ (nV I U hm boot_range (Cr (thn (ha pos dl s σ H _ I h) fun Z s1 ⟨vs,H1,Y,r1,J⟩=>?_) W rfl));obtain⟨j,e,J,q2,q⟩:=J;subst e;cases r1 with
 | cons r O=>
  cases O;obtain⟨t,rfl⟩:=r;exact call_range_1 (aBr Y (by lia) (by lia) J q2 (by simpa using q))
def aFf{a b:Bf}{ta:TA}{p pos:Pos}(W:Gl X "range")(hm:X.mg "range"=none)(ha:PA X [a,b] ta)(Y:starEach [a,b] X.env=[(false,eval a X.env),(false,eval b X.env)]:=by rfl)(J:starEach [b] X.env=[(false,eval b X.env)]:=by rfl):
  PI X tg (.Call (.Name "range" p) [a,b] [] pos) (aLQ ta):=by
 constructor;intro dl s σ H R I h;refine Call_ (nV I W hm boot_range (Cr (thn (ha pos dl s σ H _ I h) fun us s1 ⟨vs,H1,I1,r1,U⟩=>?_) (by rw[Y,J]) (by rw[J];rfl)));obtain⟨i,j,e,⟨U,q2,q3,q4⟩,q⟩:=U;subst e;cases r1 with
 | cons r O=>
  cases O with
  | cons Z O=>
   cases O;obtain⟨t,rfl⟩:=r;obtain⟨t',rfl⟩:=Z;exact call_range_2 (aBr I1 U q2 q3 q4 q)
def aMQ(wi:TI)(g:TG)(tb:TS):TS:=fun D σ H=>wi σ H fun J H1=>∃ W:Nat->Nat->St->Hp->Prop,(∃ m,W 0 m σ H1)/\∀ i m σ H,W i m σ H->
 (J.stop i H/\D.nx σ H)\/(J.go i H/\∃ N:St->Hp->Prop,(∀ σ' H',N σ' H'->∃ m',m'<m/\W (i+1) m' σ' H')/\∀ x H',J.yld i H x H'->g x σ H' fun σ2 H2=>tb { D with nx:=N,ct:=N,bk:=D.nx } σ2 H2)
def qA(fp:List Ag)(h:Bb):Ii:=fp.filterMap fun b=>(h.get? b).map fun o=>(b,o)
def mC{fp:List Ag}{h:Bb}{b:Ag}{o:Obj}(J:b∈fp)(e:h.get? b=some o):(b,o)∈qA fp h:=Cm.mpr ⟨b,J,by rw[e];rfl⟩
def yI{fp:List Ag}{h:Bb}{p:Ag×Obj}(J:p∈qA fp h):p.1∈fp/\h.get? p.1=some p.2:=by
 obtain⟨b,hb,e⟩:=Cm.mp J;cases q:h.get? b with
 | none=>rw[q]at e;cases e
 | some o=>
  rw[q]at e;have O:(b,o)=p:=BS.inj e;subst O;exact⟨hb,q⟩
def Inv.pinned{dl:Ii}{σ:St}{H:Hp}{s:Ad}{fp:List Ag}(I:Inv X dl σ H s)(J:∀ b∈fp,nS X dl H b)(U:∀ b∈fp,∃ o,s.heap.get? b=some o/\∀ v,o.data≠.cell v):Inv X (dl++qA fp s.heap) σ H s:=
 I.pins_of fun p O=>(A4.mp O).elim (fun z=>I.pin p (A5 _ z)) fun z=>by
  obtain⟨hb,e⟩:=yI z;obtain⟨f0,f1,f2,_⟩:=J p.1 hb;obtain⟨o,e',d⟩:=U p.1 hb;rw[e]at e';cases e';exact⟨e,f0,f1,f2,d⟩
def Inv.unpinned{dl pl:Ii}{σ:St}{H:Hp}{s:Ad}(I:Inv X (dl++pl) σ H s):Inv X dl σ H s:=I.pins_of fun p J=>I.pin p (A5 _ (Cs _ J))
def jG{Y:Bf}{ac:List BA}{wi:TI}{g:TG}{tb:TS}{pos:Pos}(hp:PassesOwn (model X.prog X.w) X.A X.env X.xe)(hc:X.calm=true)(hi:PI X tg Y wi)(hg:PG X tg g)(O:PSs X ac tb)
  (hs:∀ x,foldedSetIterable Y X.env x=pure x:=by intro _;rfl):PS X (.For tg Y ac [] pos) (aMQ wi g tb):=by
 constructor;intro dl s σ H D I h;refine wpAny_For (thn (hi dl s σ H _ I h) fun v s1 h1=>thn h1 fun aw s2 h2=>?_) hs;obtain⟨it,fp,tn,J,H2,e,I2,T,st2,f2,W,⟨m0,w0⟩,turn⟩:=h2;subst e;have Z:∀{H':Hp},(∀ b∈fp,H' b=none)->∀ b∈fp,nS X dl H' b:=fun hn b O=>⟨hn b O,(f2 b O).2⟩
 refine codeAny_forLoop_any (fun n s'=>∃ i σ' H',Inv X dl σ' H' s'/\tn i s'.heap/\(∀ b∈fp,H' b=none)/\W i n σ' H') ?_ m0 ⟨0,σ,H2,I2,st2,fun b O=>(f2 b O).1,w0⟩;rintro n s3 ⟨i,σ3,H3,I3,af,ah,w3⟩;rcases turn i n σ3 H3 w3 with⟨stop,qn⟩|⟨go,N,hN,step⟩
 .refine Dr hp (thn (T.done X rfl rfl rfl hc i dl s3 σ3 H3 X.xe I3 (Z ah) af stop) fun r s4 ⟨hr,I4⟩=>?_);subst hr;exact DP ⟨σ3,H3,I4,qn⟩
 .refine Dr hp (thn (T.item X rfl rfl rfl hc i dl s3 σ3 H3 X.xe I3 (Z ah) af go) fun r s4 ⟨u,hr,h4⟩=>?_);subst hr;refine Dr hp (thn h4 fun _ s5 ⟨x,H5,I5,r5,y5,ad,am⟩=>?_);have an:=I5.pinned (Z am) (T.obj _ _ ad);refine Dr hp (thn (hg _ s5 σ3 H5 x u _ an r5 (step x H5 y5)) fun _ s6 ⟨σ6,H6,I6,q6⟩=>?_);refine Dr hp (thn (O _ s6 σ6 H6 _ I6 q6) fun f s7 q7=>?_);have again:∀{U:St} {H7:Hp},Inv X (dl++qA fp s5.heap) U H7 s7->N U H7->∃ m,m<n/\∃ i σ' H',Inv X dl σ' H' s7/\tn i s7.heap/\(∀ b∈fp,H' b=none)/\W i m σ' H':=fun{U H7} I7 n7=>by
   obtain⟨m',hm,w7⟩:=hN U H7 n7;refine⟨m',hm,i+1,U,H7,I7.unpinned,T.keep _ _ _ ad fun b O o e=>(I7.pin (b,o) (A5 _ (A5 _ (mC O e)))).1,fun b O=>?_,w7⟩;obtain⟨o,e,d⟩:=T.obj _ _ ad b O;exact(I7.pin (b,o) (A5 _ (A5 _ (mC O e)))).2.1
  cases f with
  | next=>obtain⟨U,H7,I7,n7⟩:=q7;exact again I7 n7
  | cont=>obtain⟨U,H7,I7,n7⟩:=q7;exact again I7 n7
  | brk=>obtain⟨U,H7,I7,q7⟩:=q7;exact⟨U,H7,I7.unpinned,q7⟩
  | ret v=>obtain⟨x7,U,H7,I7,r7,q7⟩:=q7;exact⟨x7,U,H7,I7.unpinned,r7,q7⟩
end
def aGi{K:Ae}{a:Ag}{xs:List V}{g:TG}{tb:TS}{D:lY}{σ:St}{H:Hp}(J:Nat->St->Hp->Prop)(h0:J 0 σ H)(hl:∀ i σ H,i<=xs.length->J i σ H->SqL K H a xs)
  (hs:∀ i x σ H,xs[i]?=some x->J i σ H->g x σ H fun Y H2=>tb { D with nx:=J (i+1),ct:=J (i+1),bk:=D.nx } Y H2) (hd:∀ σ H,J xs.length σ H->D.nx σ H):
  ∃ W:Nat->Nat->St->Hp->Prop,(∃ m,W 0 m σ H)/\∀ i m σ H,W i m σ H->
   ((Itl K a).stop i H/\D.nx σ H)\/((Itl K a).go i H/\∃ N:St->Hp->Prop,(∀ U H',N U H'->∃ Z,Z<m/\W (i+1) Z U H')/\∀ x H',(Itl K a).yld i H x H'->g x σ H' fun Y H2=>tb { D with nx:=N,ct:=N,bk:=D.nx } Y H2):=by
 refine⟨fun i m σ H=>m=xs.length-i/\i<=xs.length/\J i σ H,⟨xs.length,by simp,A3 _,h0⟩,?_⟩;rintro i m σ H ⟨rfl,hi,p⟩;have q:=hl i σ H hi p;by_cases O:i<xs.length
 .refine .inr ⟨⟨xs,xs[i],q,by simp[O]⟩,J (i+1),fun U H' p'=>⟨xs.length-(i+1),by lia,rfl,O,p'⟩,fun x H' y=>?_⟩;obtain⟨e,y⟩:=y;subst e;exact hs i x σ _ (y xs q) p
 .have e:i=xs.length:=by lia
  subst e;exact .inl ⟨⟨xs,q,Ap _⟩,hd σ H p⟩
def aAt{K:Ae}{a:Ag}{xs:List V}{g:TG}{tb:TS}{D:lY}{σ:St}{H:Hp}(J:Nat->St->Hp->Prop)(h0:J 0 σ H)(hl:∀ i σ H,i<=xs.length->J i σ H->SqT K H a xs)
  (hs:∀ i x σ H,xs[i]?=some x->J i σ H->g x σ H fun Y H2=>tb { D with nx:=J (i+1),ct:=J (i+1),bk:=D.nx } Y H2) (hd:∀ σ H,J xs.length σ H->D.nx σ H):
  ∃ W:Nat->Nat->St->Hp->Prop,(∃ m,W 0 m σ H)/\∀ i m σ H,W i m σ H->
   ((Itt K a).stop i H/\D.nx σ H)\/((Itt K a).go i H/\∃ N:St->Hp->Prop,(∀ U H',N U H'->∃ Z,Z<m/\W (i+1) Z U H')/\∀ x H',(Itt K a).yld i H x H'->g x σ H' fun Y H2=>tb { D with nx:=N,ct:=N,bk:=D.nx } Y H2):=by
 refine⟨fun i m σ H=>m=xs.length-i/\i<=xs.length/\J i σ H,⟨xs.length,by simp,A3 _,h0⟩,?_⟩;rintro i m σ H ⟨rfl,hi,p⟩;have q:=hl i σ H hi p;by_cases O:i<xs.length
 .refine .inr ⟨⟨xs,xs[i],q,by simp[O]⟩,J (i+1),fun U H' p'=>⟨xs.length-(i+1),by lia,rfl,O,p'⟩,fun x H' y=>?_⟩;obtain⟨e,y⟩:=y;subst e;exact hs i x σ _ (y xs q) p
 .have e:i=xs.length:=by lia
  subst e;exact .inl ⟨⟨xs,q,Ap _⟩,hd σ H p⟩
def oZ{lo:Int}{n:Nat}{g:TG}{tb:TS}{D:lY}{σ:St}{H:Hp}(O:Nat->St->Hp->Prop)(h0:O 0 σ H)
  (hs:∀ i σ H,i<n->O i σ H->g (.int (lo+i)) σ H fun Y H2=>tb { D with nx:=O (i+1),ct:=O (i+1),bk:=D.nx } Y H2) (hd:∀ σ H,O n σ H->D.nx σ H):
  ∃ W:Nat->Nat->St->Hp->Prop,(∃ m,W 0 m σ H)/\∀ i m σ H,W i m σ H->
   ((Itr lo n).stop i H/\D.nx σ H)\/((Itr lo n).go i H/\∃ N:St->Hp->Prop,(∀ U H',N U H'->∃ Z,Z<m/\W (i+1) Z U H')/\∀ x H',(Itr lo n).yld i H x H'->g x σ H' fun Y H2=>tb { D with nx:=N,ct:=N,bk:=D.nx } Y H2):=by
 refine⟨fun i m σ H=>m=n-i/\i<=n/\O i σ H,⟨n,by simp,A3 _,h0⟩,?_⟩;rintro i m σ H ⟨rfl,hi,p⟩;by_cases J:i<n
 .refine .inr ⟨J,O (i+1),fun U H' p'=>⟨n-(i+1),by lia,rfl,J,p'⟩,fun x H' y=>?_⟩;obtain⟨e,y⟩:=y;subst e y;exact hs i σ _ J p
 .have e:i=n:=by lia
  subst e;exact .inl ⟨Ap _,hd σ H p⟩
abbrev R2:=V->V->Hp->VK->Prop
def OpR(X:Cx)(f:Ac->Ac->Sem Ac)(r:R2):Prop:=
 ∀(dl:Ii) (s:Ad) (σ:St) (H:Hp) (x y:V) (v u:Ac) (Q:VK),Inv X dl σ H s->cQ x v->cQ y u->r x y H Q->
  wpAny (model X.prog X.w) X.A (f v u) (EP X dl σ Q) X.xe s
def UnR(X:Cx)(f:Ac->Sem Ac)(r:V->Hp->VK->Prop):Prop:=
 ∀(dl:Ii) (s:Ad) (σ:St) (H:Hp) (x:V) (v:Ac) (Q:VK),Inv X dl σ H s->cQ x v->r x H Q->
  wpAny (model X.prog X.w) X.A (f v) (EP X dl σ Q) X.xe s
def gR(X:Cx)(f:Ac)(r:List V->Hp->VK->Prop):Prop:=
 ∀(dl:Ii) (s:Ad) (σ:St) (H:Hp) (xs:List V) (us:List Ac) (Q:VK),Inv X dl σ H s->cE xs us->r xs H Q->
  wpAny (model X.prog X.w) X.A (call f us) (EP X dl σ Q) X.xe s
def aMR(X:Cx)(r:V->Hp->(Bool->Hp->Prop)->Prop):Prop:=
 ∀(dl:Ii) (s:Ad) (σ:St) (H:Hp) (x:V) (v:Ac) (Q:Bool->Hp->Prop),Inv X dl σ H s->cQ x v->r x H Q->
  wpAny (model X.prog X.w) X.A (truthy v) (TP X dl σ Q) X.xe s
def tOp(r:R2)(ta tb:TE):TE:=fun σ H Q=>ta σ H fun x H1=>tb σ H1 fun y H2=>r x y H2 Q
def tUn(r:V->Hp->VK->Prop)(ta:TE):TE:=fun σ H Q=>ta σ H fun x H1=>r x H1 Q
inductive aLR(C:Int->Int->Prop)(g:Int->Int->V)(x:V)(y:V)(H:Hp)(Q:VK):Prop
 | mk (i:_) (j:_) (q0:x=.int i) (q1:y=.int j) (q2:C i j) (q3:Q (g i j) H):aLR C g x y H Q
def rI(C:Int->Int->Prop)(g:Int->Int->V):R2:=fun x y H Q=>aLR C g x y H Q
inductive aJ4(g:Int->Int->V)(x:V)(y:V)(H:Hp)(Q:VK):Prop
 | mk (i:_) (j:_) (q0:x=.int i) (q1:y=.int j) (q2:Q (g i j) H):aJ4 g x y H Q
def rI0(g:Int->Int->V):R2:=fun x y H Q=>aJ4 g x y H Q
inductive aLS(g:Int->V)(x:V)(H:Hp)(Q:VK):Prop
 | mk (i:_) (q0:x=.int i) (q1:Q (g i) H):aLS g x H Q
def rU(g:Int->V):V->Hp->VK->Prop:=fun x H Q=>aLS g x H Q
section
variable{a b c:Bf}{ta tb tc:TE}
def aKH(ha:PE X a ta)(J:PE X b tb){dl:Ii}{s:Ad}{σ:St}{H:Hp}{R:V->V->Hp->Prop}(I:Inv X dl σ H s)
  (h:ta σ H fun x H1=>tb σ H1 fun y H2=>R x y H2) {Q:Ac->Ad->Prop} {f:Ac->Ac->Sem Ac}
  (Z:∀ v u s2 x y H2,Inv X dl σ H2 s2->cQ x v->cQ y u->R x y H2->wpAny (model X.prog X.w) X.A (f v u) Q X.xe s2):
  wpAny (model X.prog X.w) X.A (eval a X.env) (fun v s₁=>wpAny (model X.prog X.w) X.A (eval b X.env) (fun u Y=>wpAny (model X.prog X.w) X.A (f v u) Q X.xe Y) X.xe s₁) X.xe s:=by
 refine thn (ha dl s σ H _ I h) fun v s1 ⟨x,H1,W,r1,U⟩=>?_;refine thn (J dl s1 σ H1 _ W U) fun u s2 ⟨y,H2,O,r2,q2⟩=>?_;exact Z v u s2 x y H2 O r1 r2 q2
def aW{op:Operator}{r:R2}(U:OpR X (binaryOp op) r)(ha:PE X a ta)(J:PE X b tb):PE X (.BinOp a op b pos) (tOp r ta tb):=by
 constructor;intro dl s σ H Q I h;exact wpAny_BinOp (aKH ha J I h fun v u s2 x y H2 O W Y q=>U dl s2 σ H2 x y v u Q O W Y q)
def pR{op:UnaryOp}{r:V->Hp->VK->Prop}(U:UnR X (unaryOp op) r)(ha:PE X a ta):PE X (.UnaryOp op a pos) (tUn r ta):=by
 constructor;intro dl s σ H Q I h;exact UnaryOp_ (thn (ha dl s σ H _ I h) fun v s1 ⟨x,H1,O,r1,J⟩=>U dl s1 σ H1 x v Q O r1 J)
def opI{f:Ac->Ac->Sem Ac}{C:Int->Int->Prop}{g:Int->Int->Int}
  (J:∀(i j:Int) (t u:Tok) (s:Ad) (Q:Ac->Ad->Prop) (E:Ac->Ad->Prop),C i j->Q (.int (g i j) s.toks) { s with toks:=s.toks+1 }->wpAny (model X.prog X.w) X.A (f (.int i t) (.int j u)) Q E s):
  OpR X f (rI C fun i j=>.int (g i j)):=by
 intro dl s σ H x y v u Q I O U h;obtain⟨i,j,rfl,rfl,hc,q⟩:=h;obtain⟨t,rfl⟩:=O;obtain⟨t',rfl⟩:=U;exact J i j t t' s _ _ hc ⟨.int (g i j),H,I.tok _,⟨_,rfl⟩,q⟩
def aLT{f:Ac->Ac->Sem Ac}{g:Int->Int->Int}
  (J:∀(i j:Int) (t u:Tok) (s:Ad) (Q:Ac->Ad->Prop) (E:Ac->Ad->Prop),Q (.int (g i j) s.toks) { s with toks:=s.toks+1 }->wpAny (model X.prog X.w) X.A (f (.int i t) (.int j u)) Q E s):
  OpR X f (rI0 fun i j=>.int (g i j)):=by
 intro dl s σ H x y v u Q I O U h;obtain⟨i,j,rfl,rfl,q⟩:=h;obtain⟨t,rfl⟩:=O;obtain⟨t',rfl⟩:=U;exact J i j t t' s _ _ ⟨.int (g i j),H,I.tok _,⟨_,rfl⟩,q⟩
def aI0{f:Ac->Ac->Sem Ac}{g:Int->Int->Bool}
  (J:∀(i j:Int) (t u:Tok) (s:Ad) (Q:Ac->Ad->Prop) (E:Ac->Ad->Prop),Q (.bool (g i j)) s->wpAny (model X.prog X.w) X.A (f (.int i t) (.int j u)) Q E s):
  OpR X f (rI0 fun i j=>.bl (g i j)):=by
 intro dl s σ H x y v u Q I O U h;obtain⟨i,j,rfl,rfl,q⟩:=h;obtain⟨t,rfl⟩:=O;obtain⟨t',rfl⟩:=U;exact J i j t t' s _ _ ⟨.bl (g i j),H,I,rfl,q⟩
def aMS(i j:Int):Prop:=0<j/\j<1073741824
def aFg(i j:Int):Prop:=0<=j/\j<=1000000/\i.natAbs<2^64
def aKI(i j:Int):Prop:=(-(2^64)<i/\i<2^64)\/(-(2^64)<j/\j<2^64)
def aKI.ok{i j:Int}(h:aKI i j):IntMulOk i j:=by
 rcases h with⟨h1,h2⟩|⟨h1,h2⟩
 .exact .of_left (intBits_le_64 h1 h2)
 .exact .of_right (intBits_le_64 h1 h2)
def dF:OpR X (binaryOp .Add) (rI0 fun i j=>.int (i+j)):=aLT fun _ _ _ _ _ _ _ q=>add_int q
def qB:OpR X (binaryOp .Sub) (rI0 fun i j=>.int (i-j)):=aLT fun _ _ _ _ _ _ _ q=>sub_int q
def mE:OpR X (binaryOp .Mult) (rI aKI fun i j=>.int (i*j)):=opI fun _ _ _ _ _ _ _ hc q=>mul_int q hc.ok
def aAu:OpR X (binaryOp .FloorDiv) (rI aMS fun i j=>.int (i/j)):=opI fun i j _ _ _ _ _ hc q=>by
 have h1:(0:Int)<j:=hc.1;have h2:j<1073741824:=hc.2;exact floordiv_int (by lia) (by rw[Int.fdiv_eq_ediv_of_nonneg i (by lia)];exact q) (.inl (PyProof.noPylong_small (by lia)))
def gT:OpR X (binaryOp .Mod) (rI (fun _ j=>0<j) fun i j=>.int (i%j)):=opI fun i j _ _ _ _ _ hc q=>by
 have h1:(0:Int)<j:=hc;exact mod_int' (by lia) (by rw[Int.fmod_eq_emod_of_nonneg i (by lia)];exact q)
def gH:OpR X (binaryOp .Pow) (rI aFg fun i j=>.int (i^j.toNat)):=opI fun _ _ _ _ _ _ _ hc q=>pow_int_small hc.1 hc.2.1 hc.2.2 q
def unI{f:Ac->Sem Ac}{g:Int->Int}
  (J:∀(i:Int) (t:Tok) (s:Ad) (Q:Ac->Ad->Prop) (E:Ac->Ad->Prop),Q (.int (g i) s.toks) { s with toks:=s.toks+1 }->wpAny (model X.prog X.w) X.A (f (.int i t)) Q E s):
  UnR X f (rU fun i=>.int (g i)):=by
 intro dl s σ H x v Q I O h;obtain⟨i,rfl,q⟩:=h;obtain⟨t,rfl⟩:=O;exact J i t s _ _ ⟨.int (g i),H,I.tok _,⟨_,rfl⟩,q⟩
def kM:UnR X (unaryOp .USub) (rU fun i=>.int (-i)):=unI fun _ _ _ _ _ q=>neg_int q
end
def aLU:V->V->Bool
 | .non,.non=>true|.non,.int _=>true|.int _,.non=>true|.non,.bl _=>true|.bl _,.non=>true|.non,.str _=>true|.str _,.non=>true
 | .int _,.int _=>true|.bl _,.bl _=>true|.str _,.str _=>true|.byt _,.byt _=>true
 | .int _,.str _=>true|.str _,.int _=>true|.bl _,.str _=>true|.str _,.bl _=>true
 | _,_=>false
def rEq:R2:=fun x y H Q=>aLU x y=true/\Q (.bl (decide (x=y))) H
def rNe:R2:=fun x y H Q=>aLU x y=true/\Q (.bl (!decide (x=y))) H
def aDP{i j:Int}:decide (V.int i=V.int j)=(i==j):=by
 rw[BR];simp
def aGj{i j:Bool}:decide (V.bl i=V.bl j)=(i==j):=by
 rw[BR];simp
def aDQ{i j:Str}:decide (V.str i=V.str j)=(i==j):=by
 rw[BR];simp
def aDR{i j:Array UInt8}:decide (V.byt i=V.byt j)=(i.toList==j.toList):=by
 rw[BR];cases i;cases j;simp
section
variable{a b c:Bf}{ta tb tc:TE}
def dG{dl:Ii}{σ:St}{H:Hp}{s:Ad}{Q:VK}{k J:Bool}(I:Inv X dl σ H s)(q:Q (.bl k) H)(e:k=J):EP X dl σ Q (.bool J) s:=by
 subst e;exact⟨.bl k,H,I,rfl,q⟩
def cP:OpR X (compareOp .Eq) rEq:=by
 intro dl s σ H x y v u Q I O J h;obtain⟨hs,q⟩:=h;cases x with
 | non=>
  cases O;cases y with
  | non=>cases J;exact PySem.EqNone.eq_none_none (dG I q (by simp))
  | bl j=>cases J;exact PySem.EqNone.eq_none_bool (dG I q (by simp))
  | int j=>obtain⟨t',rfl⟩:=J;exact PySem.EqNone.eq_none_int (dG I q (by simp))
  | str j=>obtain⟨t',rfl⟩:=J;exact PySem.EqNone.eq_none_str (dG I q (by simp))
  | _=>exact absurd (show false=true from hs) Aq
 | bl i=>
  cases O;cases y with
  | non=>cases J;exact PySem.EqNone.eq_bool_none (dG I q (by simp))
  | bl j=>cases J;exact eq_bool (dG I q aGj)
  | str j=>obtain⟨t',rfl⟩:=J;exact PySem.EqMixed.eq_bool_str (dG I q (by simp))
  | _=>exact absurd (show false=true from hs) Aq
 | int i=>
  obtain⟨t,rfl⟩:=O;cases y with
  | non=>cases J;exact PySem.EqNone.eq_int_none (dG I q (by simp))
  | int j=>obtain⟨t',rfl⟩:=J;exact eq_int (dG I q aDP)
  | str j=>obtain⟨t',rfl⟩:=J;exact PySem.EqMixed.eq_int_str (dG I q (by simp))
  | _=>exact absurd (show false=true from hs) Aq
 | str i=>
  obtain⟨t,rfl⟩:=O;cases y with
  | non=>cases J;exact PySem.EqNone.eq_str_none (dG I q (by simp))
  | bl j=>cases J;exact PySem.EqMixed.eq_str_bool (dG I q (by simp))
  | int j=>obtain⟨t',rfl⟩:=J;exact PySem.EqMixed.eq_str_int (dG I q (by simp))
  | str j=>obtain⟨t',rfl⟩:=J;exact eq_str (dG I q aDQ)
  | _=>exact absurd (show false=true from hs) Aq
 | byt i=>
  obtain⟨t,rfl⟩:=O;cases y with
  | byt j=>obtain⟨t',rfl⟩:=J;exact PySem.W.eq_bytes (dG I q aDR)
  | _=>exact absurd (show false=true from hs) Aq
 | _=>cases y<;>exact absurd (show false=true from hs) Aq
def nF:OpR X (compareOp .NotEq) rNe:=by
 intro dl s σ H x y v u Q I O J h;obtain⟨hs,q⟩:=h;cases x with
 | non=>
  cases O;cases y with
  | non=>cases J;exact PySem.EqNone.ne_none_none (dG I q (by simp))
  | bl j=>cases J;exact PySem.EqNone.ne_none_bool (dG I q (by simp))
  | int j=>obtain⟨t',rfl⟩:=J;exact PySem.EqNone.ne_none_int (dG I q (by simp))
  | str j=>obtain⟨t',rfl⟩:=J;exact PySem.EqNone.ne_none_str (dG I q (by simp))
  | _=>exact absurd (show false=true from hs) Aq
 | bl i=>
  cases O;cases y with
  | non=>cases J;exact PySem.EqNone.ne_bool_none (dG I q (by simp))
  | bl j=>cases J;exact ne_bool (dG I q (congrArg not aGj))
  | str j=>obtain⟨t',rfl⟩:=J;exact PySem.EqMixed.ne_bool_str (dG I q (by simp))
  | _=>exact absurd (show false=true from hs) Aq
 | int i=>
  obtain⟨t,rfl⟩:=O;cases y with
  | non=>cases J;exact PySem.EqNone.ne_int_none (dG I q (by simp))
  | int j=>obtain⟨t',rfl⟩:=J;exact ne_int (dG I q (congrArg not aDP))
  | str j=>obtain⟨t',rfl⟩:=J;exact PySem.EqMixed.ne_int_str (dG I q (by simp))
  | _=>exact absurd (show false=true from hs) Aq
 | str i=>
  obtain⟨t,rfl⟩:=O;cases y with
  | non=>cases J;exact PySem.EqNone.ne_str_none (dG I q (by simp))
  | bl j=>cases J;exact PySem.EqMixed.ne_str_bool (dG I q (by simp))
  | int j=>obtain⟨t',rfl⟩:=J;exact PySem.EqMixed.ne_str_int (dG I q (by simp))
  | str j=>obtain⟨t',rfl⟩:=J;exact ne_str (dG I q (congrArg not aDQ))
  | _=>exact absurd (show false=true from hs) Aq
 | byt i=>
  obtain⟨t,rfl⟩:=O;cases y with
  | byt j=>obtain⟨t',rfl⟩:=J;exact PySem.W.ne_bytes (dG I q (congrArg not aDR))
  | _=>exact absurd (show false=true from hs) Aq
 | _=>cases y<;>exact absurd (show false=true from hs) Aq
def yJ:OpR X (compareOp .Lt) (rI0 fun i j=>.bl (decide (i<j))):=aI0 fun _ _ _ _ _ _ _ q=>lt_int q
def jR:OpR X (compareOp .LtE) (rI0 fun i j=>.bl (decide (i<=j))):=aI0 fun _ _ _ _ _ _ _ q=>le_int q
def nY:OpR X (compareOp .Gt) (rI0 fun i j=>.bl (decide (j<i))):=aI0 fun _ _ _ _ _ _ _ q=>gt_int q
def aGk:OpR X (compareOp .GtE) (rI0 fun i j=>.bl (decide (j<=i))):=aI0 fun _ _ _ _ _ _ _ q=>ge_int q
def aGl:OpR X (compareOp .Is) (fun x y H Q=>y=.non/\Q (.bl (decide (x=.non))) H):=by
 intro dl s σ H x y v u Q I J O h;obtain⟨rfl,q⟩:=h;cases O;refine is_none_gen (dG I q ?_);cases x<;>first
  | (cases J;rfl)
  | (obtain⟨t,rfl⟩:=J;rfl)
def aI1:OpR X (compareOp .IsNot) (fun x y H Q=>y=.non/\Q (.bl (!decide (x=.non))) H):=by
 intro dl s σ H x y v u Q I J O h;obtain⟨rfl,q⟩:=h;cases O;refine isnot_none_gen (dG I q ?_);cases x<;>first
  | (cases J;rfl)
  | (obtain⟨t,rfl⟩:=J;rfl)
inductive kW(x:V)(y:V)(H:Hp)(Q:VK):Prop
 | mk (i:_) (j:_) (q0:x=.str i) (q1:y=.str j) (q2:Q (.bl (!(!(Builtin.Str.occurrences j i 0 j.length 1).isEmpty))) H):kW x y H Q
def nZ:V->V->Hp->VK->Prop:=fun x y H Q=>kW x y H Q
def aAv:OpR X (compareOp .NotIn) nZ:=by
 intro dl s σ H x y v u Q I O J h;obtain⟨i,j,rfl,rfl,q⟩:=h;obtain⟨t,rfl⟩:=O;obtain⟨t',rfl⟩:=J;exact notIn_str (dG I q rfl)
def fA(b:Bf){op:G9}(h:op≠.In:=by decide)(h2:op≠.NotIn:=by decide):behindInMarks op b=false:=by
 have e1:(op==CmpOp.In)=false:=by cases op<;>first|rfl|exact absurd rfl h
 have e2:(op==CmpOp.NotIn)=false:=by cases op<;>first|rfl|exact absurd rfl h2
 cases b<;>simp[behindInMarks,e1,e2]
def dO{op:G9}{r:R2}(U:OpR X (compareOp op) r)(ha:PE X a ta)(J:PE X b tb)(hm:behindInMarks op b=false):PE X (.Compare a [op] [b] pos) (tOp r ta tb):=by
 constructor;intro dl s σ H Q I h;exact wpAny_Compare1 (aKH ha J I h fun v u s2 x y H2 O W Y q=>U dl s2 σ H2 x y v u Q O W Y q) hm
def aBs(t:TE):TT:=fun σ H Q=>t σ H fun x H'=>As V.bl x fun k=>Q k H'
def eJ{op:G9}{r:R2}(Y:OpR X (compareOp op) r)(ha:PE X a ta)(J:PE X b tb)(hm:behindInMarks op b=false):PT X (.Compare a [op] [b] pos) (aBs (tOp r ta tb)):=by
 constructor;intro dl s σ H Q I h;refine wpAny_isTrue_Compare1 (thn (ha dl s σ H _ I h) fun v s1 ⟨x,H1,I1,r1,q1⟩=>thn (J dl s1 σ H1 _ I1 q1) fun u s2 ⟨y,H2,O,r2,q2⟩=>
  thn (Y dl s2 σ H2 x y v u _ O r1 r2 q2) fun c s3 ⟨z,Z,W,r3,k,e,U⟩=>?_) hm
 subst e;cases r3;exact BX ⟨Z,W,U⟩
def aGm(r r':R2)(ta tb tc:TE):TE:=fun σ H Q=>ta σ H fun x H1=>tb σ H1 fun y H2=>r x y H2 fun z H3=>As V.bl z fun k=>
 (if k=true then tc σ H3 fun w' H4=>r' y w' H4 Q else Q (.bl false) H3)
def oA{op J:G9}{r Y:R2}(ho:OpR X (compareOp op) r)(O:OpR X (compareOp J) Y)(ha:PE X a ta)(hb:PE X b tb)(hc:PE X c tc)
  (hm:lastMarks [op,J] [b,c]=false:=by with_unfolding_all rfl):PE X (.Compare a [op,J] [b,c] pos) (aGm r Y ta tb tc):=by
 constructor;intro dl s σ H Q I h;refine Compare_chain (thn (ha dl s σ H _ I h) fun v s1 ⟨x,H1,I1,r1,q1⟩=>chain_link (thn (hb dl s1 σ H1 _ I1 q1) fun u s2 ⟨y,H2,I2,r2,q2⟩=>
  thn (ho dl s2 σ H2 x y v u _ I2 r1 r2 q2) fun d s3 ⟨z,Z,W,r3,k,e,U⟩=>?_)) hm
 subst e;cases r3;refine BX ?_;cases k with
 | false=>exact ite_ff ⟨.bl false,Z,W,rfl,U⟩
 | true=>exact ite_tt (chain_last (thn (hc dl s3 σ Z _ W U) fun w' s4 ⟨z',H4,I4,r4,q4⟩=>O dl s4 σ H4 y z' u w' Q I4 r2 r4 q4))
def qN{op J:G9}{r Y:R2}(ho:OpR X (compareOp op) r)(O:OpR X (compareOp J) Y)(ha:PE X a ta)(hb:PE X b tb)(hc:PE X c tc)
  (hm:lastMarks [op,J] [b,c]=false:=by with_unfolding_all rfl):PT X (.Compare a [op,J] [b,c] pos) (aBs (aGm r Y ta tb tc)):=by
 constructor;intro dl s σ H Q I h;refine isTrue_chain (thn (ha dl s σ H _ I h) fun v s1 ⟨x,H1,I1,r1,q1⟩=>test_link (thn (hb dl s1 σ H1 _ I1 q1) fun u s2 ⟨y,H2,I2,r2,q2⟩=>
  thn (ho dl s2 σ H2 x y v u _ I2 r1 r2 q2) fun d s3 ⟨z,Z,W,r3,k,e,U⟩=>?_)) hm
 subst e;cases r3;refine BX ?_;cases k with
 | false=>
  obtain⟨k',e',q'⟩:=U;cases e';exact ite_ff ⟨Z,W,q'⟩
 | true=>
  refine ite_tt (test_last (thn (hc dl s3 σ Z _ W U) fun w' s4 ⟨z',H4,I4,r4,q4⟩=>thn (O dl s4 σ H4 y z' u w' _ I4 r2 r4 q4) fun d' s5 ⟨z2,H5,I5,r5,k2,e2,q5⟩=>?_));subst e2;cases r5;exact BX ⟨H5,I5,q5⟩
def aKJ(K:Ae)(x:V)(H:Hp)(k:Bool):Prop:=
 match x with
 | .non=>k=false
 | .bl b=>k=b
 | .int i=>k=(i != 0)
 | .str y=>y.length<=sizeLine/\k=((y.length:Int) != 0)
 | .byt y=>y.size<=sizeLine/\k=((y.size:Int) != 0)
 | .ref p=>(∃ xs,SqL K H p xs/\k=!xs.isEmpty)\/(∃ xs,SqT K H p xs/\k=!xs.isEmpty)\/∃ ee,H p=some (.dK ee)/\k=!ee.isEmpty
 | _=>False
def aCU{κ:Type}{ee:List (κ×V)}{vs:List (κ×Ac)}(r:KV ee vs):(!vs.isEmpty)=!ee.isEmpty:=by
 cases r<;>rfl
def vN{xs:List V}{its:List Ac}(r:cE xs its):(!its.toArray.isEmpty)=!xs.isEmpty:=by
 cases r<;>simp
def qC:(sizeLine:Nat)<2^63:=by rw[D0];decide
def aGn:aMR X (fun x H Q=>∃ k,aKJ X.K x H k/\Q k H):=by
 intro dl s σ H x v Q I U h;obtain⟨k,e,q⟩:=h;have Y:=qC;have Z:sizeLine=16777216:=D0;cases x with
 | non=>
  cases U;have J:k=false:=e;subst J;exact truthy_none ⟨H,I,q⟩
 | bl b=>
  cases U;have J:k=b:=e;subst J;exact BX ⟨H,I,q⟩
 | int i=>
  obtain⟨t,rfl⟩:=U;have J:k=(i != 0):=e;subst J;exact PySem.P.truthy_int ⟨H,I,q⟩
 | str y=>
  obtain⟨t,rfl⟩:=U;obtain⟨hy,J⟩:y.length<=sizeLine/\k=((y.length:Int) != 0):=e;subst J;exact PySem.P.truthy_str (by lia) ⟨H,I.tok _,q⟩
 | byt y=>
  obtain⟨t,rfl⟩:=U;obtain⟨hy,J⟩:y.size<=sizeLine/\k=((y.size:Int) != 0):=e;subst J;exact PySem.W.truthy_bytes (by lia) ⟨H,I.tok _,q⟩
 | ref p=>
  cases U;have J:(∃ xs,SqL X.K H p xs/\k=!xs.isEmpty)\/(∃ xs,SqT X.K H p xs/\k=!xs.isEmpty)\/∃ ee,H p=some (.dK ee)/\k=!ee.isEmpty:=e;rcases J with⟨xs,hx,J⟩|⟨xs,hx,J⟩|⟨ee,hx,J⟩
  .subst J;obtain⟨its,r,pl,hz⟩:=I.list hx;have O:=r.length;exact wpAny_truthy_list pl.isList (by simp only[Au];lia) ⟨H,I.tok _,by rw[vN r];exact q⟩
  .subst J;obtain⟨its,r,pl,hz⟩:=I.tuple hx;have O:=r.length;exact truthy_tuple pl (by simp only[Au];lia) ⟨H,I.tok _,by rw[vN r];exact q⟩
  .subst J;obtain⟨hz,hS,vs,r,m⟩:ee.length<=sizeLine/\(p==sysModules)=false/\∃ vs,KV ee vs/\s.heap.DictOf (cV X.prog X.w) p vs:=I.hok p _ hx;have O:ee.length=vs.length:=Fq r;exact wpAny_truthy_dict hS m (by lia) ⟨H,I.tok _,by rw[aCU r];exact q⟩
 | _=>exact(show False from e).elim
def aBt(ha:PE X a ta)(O:∀ J,isTrue a X.env J=(do let v <- J;standAt a.pos;holding [v] (truthy v))):
  PT X a (fun σ H Q=>ta σ H fun x H'=>∃ k,aKJ X.K x H' k/\Q k H'):=by
 constructor;intro dl s σ H Q I h;exact isTrue_plain (thn (ha dl s σ H _ I h) fun v s1 ⟨x,H1,W,r1,U⟩=>aGn dl s1 σ H1 x v Q W r1 U) (O _)
inductive oB(x:V)(y:V)(H:Hp)(Q:VK):Prop
 | mk (i:_) (j:_) (q0:x=.str i) (q1:y=.str j) (q2:i.length+j.length<=sizeLine) (q3:Q (.str (i++j)) H):oB x y H Q
def qO:V->V->Hp->VK->Prop:=fun x y H Q=>oB x y H Q
def bY:OpR X (binaryOp .Add) qO:=by
 intro dl s σ H x y v u Q I U O h;obtain⟨i,j,rfl,rfl,hz,q⟩:=h;obtain⟨t,rfl⟩:=U;obtain⟨J,rfl⟩:=O;exact add_str (fun J tk=>⟨.str (i++j),H,I.tok _,⟨_,rfl⟩,q⟩) hz
def gS{x:V}{J:List Ac}(r:cE [x] J):∃ u,J=[u]/\cQ x u:=by
 cases r with
 | cons r1 r2=>cases r2;exact⟨_,rfl,r1⟩
def aJ5{x y:V}{O:List Ac}(r:cE [x,y] O):∃ u J,O=[u,J]/\cQ x u/\cQ y J:=by
 cases r with
 | cons r1 r2=>
  cases r2 with
  | cons r3 r4=>cases r4;exact⟨_,_,rfl,r1,r3⟩
inductive qP(xs:List V)(H:Hp)(Q:VK):Prop
 | mk (i:_) (q0:xs=[.int i]) (q1:Q (.int (if i<0 then -i else i)) H):qP xs H Q
def aCV:List V->Hp->VK->Prop:=fun xs H Q=>qP xs H Q
def vO:gR X (.builtin "abs") aCV:=by
 intro dl s σ H xs J Q I r h;obtain⟨i,rfl,q⟩:=h;obtain⟨u,rfl,t,rfl⟩:=gS r;exact call_abs_int fun u tk=>⟨.int (if i<0 then -i else i),H,I.tok _,⟨_,rfl⟩,q⟩
inductive pS(xs:List V)(H:Hp)(Q:VK):Prop
 | mk (i:_) (j:_) (q0:xs=[.int i,.int j]) (q1:Q (.int (if j<i then j else i)) H):pS xs H Q
def aBu:List V->Hp->VK->Prop:=fun xs H Q=>pS xs H Q
def yK(hc:X.calm=true):gR X (.builtin "min") aBu:=by
 intro dl s σ H xs O Q I r h;obtain⟨i,j,rfl,q⟩:=h;obtain⟨u,w',rfl,⟨t,rfl⟩,⟨t',rfl⟩⟩:=aJ5 r;refine min_two_ints (I.ok.hd hc) fun h' tk k=>⟨_,H,I.kept k,?_,q⟩
 by_cases J:j<i
 .rw[Ib J,Ib J];exact⟨_,rfl⟩
 .rw[Ia J,Ia J];exact⟨_,rfl⟩
def aFh:gR X (.type "int") (fun xs H Q=>(∃ i,xs=[.int i]/\Q (.int i) H)\/∃ k,xs=[.bl k]/\Q (.int (if k then 1 else 0)) H):=by
 intro dl s σ H xs J Q I r h;rcases h with⟨i,rfl,q⟩|⟨k,rfl,q⟩
 .obtain⟨u,rfl,t,rfl⟩:=gS r;exact call_int_int ⟨.int i,H,I,⟨_,rfl⟩,q⟩
 .obtain⟨u,rfl,r1⟩:=gS r;cases r1;exact call_int_bool ⟨.int (if k then 1 else 0),H,I.tok _,⟨_,rfl⟩,q⟩
end
structure aKK(h:Bb)(x dx C:Ag)(mA:Str->Option Ac):Prop where
 obj:h.get? x=some (FY C dx)
 ns:h.Ns1 dx mA
 ne:dx≠x
def yL{h:Bb}{dx:Ag}{mA:Str->Option Ac}(n:h.Ns1 dx mA):∃ od,h.get? dx=some od/\∀ name,Gd name od=some (mA name):=by
 obtain⟨o,es,ep,ho,hd,hk,_,hm⟩:=n;refine⟨o,ho,fun name=>?_⟩;have e:=hm name;unfold nsFind findBy at e;rw[<- Array.find?_toList]at e;unfold Gd;rw[hd];dsimp only;split
 .rename_i y q;rw[q]at e;exact congrArg some e
 .rename_i q;rw[q]at e;have a:es.toList.any (·.refKey)=false:=by
   rw[List.any_eq_false];intro y O;obtain⟨z,t,hkey⟩:=hk y (Array.mem_toList_iff.mp O);simp[DictEntry.refKey,hkey]
  have J:¬ es.toList.any (·.refKey)=true:=by rw[a];exact Aq
  rw[Ia J];exact congrArg some e
def aKK.look{h:Bb}{x dx C:Ag}{mA:Str->Option Ac}(I:aKK h x dx C mA):∃ od,PySem.W.InstAt h x (FY C dx) C (some od)/\∀ name,Gd name od=some (mA name):=
 let ⟨od,ho,hl⟩:=yL I.ns
 ⟨od,⟨I.obj,rfl,rfl,ho⟩,hl⟩
section
variable{prog:Ar}{K:Ae}{x dx:Ag}{mA:Str->Option Ac}{name:Str}{v:Ac}
end
def pP.some_of{v:V}{o:Option Ac}(r:pP (some v) o):∃ u,o=some u/\cQ v u:=by
 cases o with
 | none=>exact(show False from r).elim
 | some u=>exact⟨u,rfl,r⟩
def aFi{v:V}{u:Ac}(r:cQ v u):PySem.W.handedIn u=true:=by
 cases v with
 | non=>cases(show u=BY from r);rfl
 | bl b=>cases(show u=Gn b from r);rfl
 | int i=>obtain⟨t,e⟩:=(show∃ t,u=BN i t from r);cases e;rfl
 | str x=>obtain⟨t,e⟩:=(show∃ t,u=BG x t from r);cases e;rfl
 | byt b=>obtain⟨t,e⟩:=(show∃ t,u=Value.bytes b t from r);cases e;rfl
 | flt b=>obtain⟨t,e⟩:=(show∃ t,u=Hf b t from r);cases e;rfl
 | ref a=>cases(show u=AV a from r);rfl
 | ty n=>cases(show u=Bc n from r);rfl
section
variable{a dx:Ag}{fs fs':List (Str×V)}
def aI2(hok:HOk P w H h)(e:H a=some (.ins C dx fs)):∃ mA,aKK h a dx C mA/\(∀ f,pP (fs.lookup f) (mA f))/\PySem.Within mA (fs.map (·.1))/\fs.length<=1000/\H dx=some (.own a):=by
 obtain⟨d,z,ne,ob,mA,n,r,q⟩:=(show cZ P w H h a (.ins C dx fs) from hok a _ e)
 exact⟨mA,⟨ob,n,ne⟩,r,q,z,d⟩
end
structure Cls(K:Ae)(C:Ag):Prop where
 pg:PySem.W.plainGet K C Str.empty=true
 hd:FM K C=true
 po:PySem.W.plainOver K C=true
 sa:B0 K (.ref C) "__setattr__"=some (some (.builtin "object.__setattr__"))
def Cls.get{K:Ae}{C:Ag}(c:Cls K C)(f:Str):PySem.W.plainGet K C f=true:=c.pg
structure Con(K:Ae)(C:Ag)(f:Str)(v:V)(u:Ac):Prop where
 at_:B0 K (.ref C) f=some (some u)
 rel:cQ v u
 get:FF K u "__get__"=some none
 cp:PySem.W.copiedNames.contains f=false
structure aNx(K:Ae)(C:Ag)(m:Str)(f:Ag):Prop where
 at_:B0 K (.ref C) m=some (some (.ref f))
 fn:FJ K (.ref f)=true
 kp:AS K (.ref f)=true
section
variable{a dx:Ag}{fs:List (Str×V)}{f:Str}{v:V}
def aI3{prog:Ar}{w:AW}{env:Env}{e:Bf}{f:Str}{pos:Pos}{s:Ad}{Q:Ac->Ad->Prop}(J:attributeBase e f env (eval e env)=eval e env)
  (h:wpAny (model prog w) A (eval e env) (fun o O=>wpAny (model prog w) A (getAttr o f true) Q E O) E s):wpAny (model prog w) A (eval (.Attribute e f pos) env) Q E s:=
 Attribute_any_ h (by rw[arm_eval_Attribute,J])
end
section
variable{o value:Bf}{f:Str}{ff tpos:Pos}{ta tv:TE}
end
section
variable{Q:Ac->Ad->Prop}{c:Ac}{b:Bool}
inductive kX(K:Ae)(H:Hp):V->Ac->Prop where
 | non:kX K H .non (.type "NoneType")
 | bl (x:Bool):kX K H (.bl x) (.type "bool")
 | int (i:Int):kX K H (.int i) (.type "int")
 | str (x:Str):kX K H (.str x) (.type "str")
 | flt (x:UInt64):kX K H (.flt x) (.type "float")
 | lst {a:Ag} {xs:List V} (e:H a=some (.lst xs)):kX K H (.ref a) (.type "list")
 | frz {a:Ag} {o:Obj} {xs:List V} (e:H a=some (.frz o (.lst xs))):kX K H (.ref a) (.type "list")
 | tup {a:Ag} {xs:List V} (e:H a=some (.tup xs)):kX K H (.ref a) (.type "tuple")
 | dK {a:Ag} {ee:List (Key×V)} (e:H a=some (.dK ee)):kX K H (.ref a) (.type "dict")
 | dT {a:Ag} {ee:List (List Key×V)} (e:H a=some (.dT ee)):kX K H (.ref a) (.type "dict")
 | ins {a C dx:Ag} {fs:List (Str×V)} (e:H a=some (.ins C dx fs)) (cl:Cls K C) (ha:B0 K (.ref C) "__class__"=some (some (.builtin "object.__class__")))
   (hn:FF K (.builtin "object.__class__") "__get__"=some (some (.builtin "getset_descriptor.__get__"))) (htk:PySem.W.takesIn K (.builtin "object.__class__")=some true)
   (hm:Gq K C (.type "object")=some true):kX K H (.ref a) (.ref C)
def aFj{x:V}{u t:Ac}(I:Inv X dl σ H s)(Y:cQ x u)(ty:kX X.K H x t)(e:Bm X.K t c=some b)(h:∀ tk,Q (.bool b) { s with toks:=tk }):
  wpAny (model X.prog X.w) A (call (.builtin "isinstance") [u,c]) Q E s:=by
 cases ty with
 | non=>cases(show u=BY from Y);exact B3 PySem.W.kitx_none I.kIn Cw e (fun z=>nomatch z) h
 | bl y=>cases(show u=Gn y from Y);exact B3 PySem.W.kitx_bool I.kIn Cw e (fun z=>nomatch z) h
 | int i=>obtain⟨t,q⟩:=(show∃ t,u=BN i t from Y);cases q;exact B3 PySem.W.kitx_int I.kIn Cw e (fun z=>nomatch z) h
 | str y=>obtain⟨t,q⟩:=(show∃ t,u=BG y t from Y);cases q;exact B3 PySem.W.kitx_str I.kIn Cw e (fun z=>nomatch z) h
 | flt y=>obtain⟨t,q⟩:=(show∃ t,u=Hf y t from Y);cases q;exact B3 PySem.W.kitx_float I.kIn Cw e (fun z=>nomatch z) h
 | @lst a xs U=>
  cases(show u=AV a from Y);obtain⟨_,_,n,_,h1⟩:=(show cZ X.prog X.w H s.heap a (.lst xs) from I.hok a _ U)
  exact B3 PySem.W.kitx_list I.kIn ⟨_,h1,rfl⟩ e (fun z=>nomatch z) h
 | @frz a ob xs U=>
  cases(show u=AV a from Y);obtain⟨_,_,_,n,_,h1⟩:=(show cZ X.prog X.w H s.heap a (.frz ob (.lst xs)) from I.hok a _ U)
  exact B3 PySem.W.kitx_list I.kIn ⟨_,h1,rfl⟩ e (fun z=>nomatch z) h
 | @tup a xs U=>
  cases(show u=AV a from Y);obtain⟨_,_,_,p⟩:=(show cZ X.prog X.w H s.heap a (.tup xs) from I.hok a _ U)
  obtain⟨o,h1,h2,_⟩:=p;exact B3 PySem.W.kitx_tuple I.kIn ⟨o,h1,h2.1⟩ e (fun z=>nomatch z) h
 | @dK a ee U=>
  cases(show u=AV a from Y);obtain⟨_,_,vs,_,p⟩:=(show cZ X.prog X.w H s.heap a (.dK ee) from I.hok a _ U)
  obtain⟨o,es,ep,h1,h2,_⟩:=p;exact B3 PySem.W.kitx_dict I.kIn ⟨o,h1,h2.1⟩ e (fun z=>nomatch z) h
 | @dT a ee U=>
  cases(show u=AV a from Y);obtain⟨_,_,xs,_,o,es,ep,h1,h2,_⟩:=(show cZ X.prog X.w H s.heap a (.dT ee) from I.hok a _ U)
  exact B3 PySem.W.kitx_dict I.kIn ⟨o,h1,h2.1⟩ e (fun z=>nomatch z) h
 | @ins a C dx fs U cl ha hn Z hm=>
  cases(show u=AV a from Y);obtain⟨mA,O,_⟩:=aI2 I.hok U;obtain⟨od,J,_⟩:=O.look;exact B3 (PySem.W.kitx_own (cl.get _) cl.hd ha hn Z hm) I.kIn J e (fun z=>nomatch z) h
end
structure eO(k:Nat)(A:AK):Prop where
 hd:A.handled=none
 dp:A.depth+3*k+5<recursionLimit
 un:A.units+16*k+200<cLine
 gd:A.guards=some []
def eO.mono{j k:Nat}{A:AK}(r:eO k A)(h:j<=k):eO j A:=⟨r.hd,by have:=r.dp;lia,by have:=r.un;lia,r.gd⟩
def eO.deeper{k:Nat}{A:AK}(r:eO (k+1) A)(env:Env):eO k (A.deeper env):=
 ⟨r.hd,by have:=r.dp;show A.depth+1+3*k+5<_;lia,by have:=r.un;show A.units+3+16*k+200<_;lia,r.gd⟩
def eO.in1{k:Nat}{A:AK}(r:eO (k+1) A):eO k A.in1:=
 ⟨r.hd,by have:=r.dp;show A.depth+3*k+5<_;lia,by have:=r.un;show A.units+1+16*k+200<_;lia,r.gd⟩
def aCW{A:AK}{C:Ag}{O:List Ac}{J:List (Str×Ac)}:(A.under (.builtin "type.__call__" ⟨.ref C::O,J⟩)).depth=A.depth+1:=by
 first|rfl|simp[FQ,Code.weight,Code.isCreation,Code.isGuard,Code.isCaller,Code.frames,Hd,guardIds]
def aCX{A:AK}{C:Ag}{O:List Ac}{J:List (Str×Ac)}:(A.under (.builtin "type.__call__" ⟨.ref C::O,J⟩)).units=A.units+1:=by
 first|rfl|simp[FQ,Code.cUnits,Code.frames,Hd]
def aBv{A:AK}{C:Ag}{J:List Ac}{O:List (Str×Ac)}:(A.under (.builtin "type.__call__" ⟨.ref C::J,O⟩)).guards=A.guards:=by
 first|rfl|(cases A;rename_i a b c g e;cases g<;>first|rfl|simp[FQ,Code.guards,Code.isGuard,guardIds,pushGuards])
def eO.make{k:Nat}{A:AK}(r:eO (k+1) A)(C:Ag)(J:List Ac)(O:List (Str×Ac)):eO k (A.under (.builtin "type.__call__" ⟨.ref C::J,O⟩)):=
 ⟨r.hd,by have:=r.dp;rw[aCW];lia,by have:=r.un;rw[aCX];lia,aBv.trans r.gd⟩
def eO.depth{k:Nat}{A:AK}(r:eO k A):A.depth<recursionLimit:=by have:=r.dp;lia
def eO.units{k:Nat}{A:AK}(r:eO k A):A.units+64<cLine:=by have:=r.un;lia
def eO.units0{k:Nat}{A:AK}(r:eO k A):A.units<cLine:=by have:=r.un;lia
def aAw:TA:=fun _ H Q=>Q [] H
def nG(ta:TE)(tr:TA):TA:=fun σ H Q=>ta σ H fun x H1=>tr σ H1 fun xs H2=>Q (x::xs) H2
section
variable{t:TA}
def dP:PA X [] aAw:=⟨fun _ _ _ _ H Q I h=>Calls.spliced_nil ⟨[],H,I,.nil,h⟩⟩
def gN(ha:PE X e te)(O:PA X es t)(U:starEach (e::es) X.env=(false,eval e X.env)::starEach es X.env:=by rfl):PA X (e::es) (nG te t):=by
 constructor;intro pos dl s σ H Q I h;rw[U];show wpAny _ _ (spliced ((false,eval e X.env)::backTo pos (starEach es X.env))) _ _ s;refine FN (thn (ha dl s σ H _ I h) fun u s1 ⟨x,H1,Y,r1,W⟩=>?_);exact thn (O pos dl s1 σ H1 _ Y W) fun us s2 ⟨xs,H2,J,r2,Z⟩=>⟨x::xs,H2,J,.cons r1 r2,Z⟩
def aMT(t:TA):TE:=fun σ H Q=>t σ H fun xs H1=>xs.length<=sizeLine/\∀ p,H1 p=none->Q (.ref p) (upd H1 p (.tup xs))
def aLV(t:TA):TE:=fun σ H Q=>t σ H fun xs H1=>xs.length<=sizeLine/\∀ p,H1 p=none->Q (.ref p) (upd H1 p (.lst xs))
def cH{x1}(h:PA X es t):PE X (.Tuple es x1 pos) (aMT t):=by
 constructor;intro dl s σ H Q I U;refine wpAny_Tuple_spliced (thn (h pos dl s σ H _ I U) fun O s1 ⟨xs,H1,J,r,z,q⟩=>⟨by rw[<- r.length];exact z,?_⟩);have W:H1 s1.heap.objs.size=none:=J.hok.fresh (Ap _);refine⟨.ref s1.heap.objs.size,upd H1 s1.heap.objs.size (.tup xs),J.laid (t':=s1.toks) (fun b u e=>Ah _ e) (Ap _) ?_,rfl,q _ W⟩;exact⟨z,O,r,⟨_,AE _ rfl,⟨rfl,_,rfl⟩,rfl⟩⟩
def dC(h:PA X es t):PE X (.List es pos) (aLV t):=by
 constructor;intro dl s σ H Q I U;refine wpAny_List_spliced (thn (h pos dl s σ H _ I U) fun O s1 ⟨xs,H1,J,r,z,q⟩=>⟨by rw[<- r.length];exact z,?_⟩);have W:H1 s1.heap.objs.size=none:=J.hok.fresh (Ap _);refine⟨.ref s1.heap.objs.size,upd H1 s1.heap.objs.size (.lst xs),J.laid (t':=s1.toks) (fun b u e=>Ah _ e) (Ap _) ?_,rfl,q _ W⟩;exact⟨z,O,0,r,AE _ rfl⟩
end
abbrev Sp:=List V->Hp->VK->XK->Prop
abbrev CXT:=List Env->Hp->Ad->XK->Ac->Ad->Prop
structure aBw(P:Ar)(w:AW)(K:Ae)(mg:Str->Option Ac)(base:Bb)(A:AK)(outer:List Env)(s:Ad)(H:Hp):Prop where
 frames:A.frames=some outer
 mod:Mod K mg base
 bs:∀ b o,base.get? b=some o->s.heap.get? b=some o/\H b=none
 bsz:base.objs.size<=s.heap.objs.size
 funs:s.heap.FunFrames base outer
 frf:∀ b∈frs outer,H b=none
 hok:HOk P w H s.heap
 bare:EL s.gens
inductive aLW(outer:List Env)(P:Ar)(w:AW)(H:Hp)(s:Ad)(Q:VK)(u:Ac)(s':Ad):Prop
 | mk (v:_) (H':_) (q0:s'.os=s.os) (q1:EL s'.gens) (q2:Un (frs outer) [] H H' s.heap s'.heap) (q3:HOk P w H' s'.heap) (q4:cQ v u) (q5:Q v H'):aLW outer P w H s Q u s'
def CE(outer:List Env)(P:Ar)(w:AW)(H:Hp)(s:Ad)(Q:VK)(u:Ac)(s':Ad):Prop:=aLW outer P w H s Q u s'
def CR(CX:CXT)(outer:List Env)(P:Ar)(w:AW)(H:Hp)(s:Ad)(Q:VK)(E:XK)(r:Hh)(s':Ad):Prop:=
 match r with
 | .ok (.ret u)=>CE outer P w H s Q u s'
 | .ok _=>False
 | .error e=>CX outer H s E e s'
structure cC(P:Ar)(w:AW)(K:Ae)(mg:Str->Option Ac)(base:Bb)(CX:CXT)(k:Nat)(f:Ag)(fd:Ay)(ps:List Str)(sp:Sp):Prop where
 len:∀ vs H Q E,sp vs H Q E->vs.length=ps.length
 run:∀(A:AK) (outer:List Env) (s:Ad) (H:Hp) (args:Args) (us:List Ac) (vs:List V) (Q:VK) (E:XK),eO k A->aBw P w K mg base A outer s H->Gu s fd args (ps.zip us)->cE vs us->sp vs H Q E->
  codeAny (model P w) A (.call (.ref f) args) (CR CX outer P w H s Q E) s
def cC.mono{P:Ar}{w:AW}{K:Ae}{mg:Str->Option Ac}{base:Bb}{CX:CXT}{j k:Nat}{f:Ag}{fd:Ay}{ps:List Str}{sp:Sp}(F:cC P w K mg base CX j f fd ps sp)(h:j<=k):
  cC P w K mg base CX k f fd ps sp:=⟨F.len,fun A outer s H J O vs Q E U=>F.run A outer s H J O vs Q E (U.mono h)⟩
def aBw.make{P:Ar}{w:AW}{K:Ae}{mg:Str->Option Ac}{base:Bb}{A:AK}{outer:List Env}{s:Ad}{H:Hp}(e:aBw P w K mg base A outer s H)(C:Ag)(J:List Ac)(O:List (Str×Ac)):
  aBw P w K mg base (A.under (.builtin "type.__call__" ⟨.ref C::J,O⟩)) outer s H:=⟨by first|exact e.frames|(simpa[FQ,Code.envs,Hd,pushEnvs]using e.frames),e.mod,e.bs,e.bsz,e.funs,e.frf,e.hok,e.bare⟩
section
variable{s':Ad}
def Inv.env0(I:Inv X dl σ H s):aBw X.prog X.w X.K X.mg X.base X.A X.stack s H:=
 ⟨I.ok.frames,I.ok.mod,I.bs,AH I.ok.bsz I.sz,I.stack,I.stkFree,I.hok,I.bare⟩
def Inv.after{Q:VK}{u:Ac}(I:Inv X dl σ H s)(h:CE X.stack X.prog X.w H s Q u s'):EP X dl σ Q u s':=by
 obtain⟨v,H',os,bare,un,hok,r,q⟩:=h;obtain⟨hh,g,d,t,os'⟩:=s';obtain rfl:os'=s.os:=os;exact⟨v,H',I.call (h':=hh) (g':=g) (d':=d) (t':=t) (ch:=[]) un hok bare (fun b z=>absurd z (by simp)),r,q⟩
end
def aJ6(sp:Sp)(fq:List V)(E:XK)(t:TA):TE:=fun σ H Q=>t σ H fun vs H1=>sp (vs++fq) H1 Q E
def dY(K:Ae)(fd:Ay)(ps:List Str)(ds:List Ac):Prop:=
 ∀(s:Ad) (us:List Ac),K.In s.heap->(us++ds).length=ps.length->Gu s fd ⟨us,[]⟩ (ps.zip (us++ds))
def dY.all{K:Ae}{fd:Ay}{ps:List Str}(h:∀ J:List Ac,J.length=ps.length->bindArgs fd ⟨J,[]⟩=pure (ps.zip J)):dY K fd ps []:=fun s J _ O=>by
 rw[B5]at O ⊢;exact .of_eq (h J O)
def aAx(CX:CXT)(X:Cx)(E:XK):Prop:=∀(dl:Ii) (σ:St) (H:Hp) (s:Ad) (e:Ac) (s':Ad),Inv X dl σ H s->CX X.stack H s E e s'->X.xe e s'
section
variable{CX:CXT}{k:Nat}{fd:Ay}{ps:List Str}{sp:Sp}{fq:List V}{ds:List Ac}{E:XK}{x m:Str}{p fe:Pos}{o:Bf}{ta:TE}{t:TA}
def aGo{dl:Ii}{σ:St}{H:Hp}{s:Ad}{Q:VK}{J:List Ac}{vs:List V}(F:cC X.prog X.w X.K X.mg X.base CX k f fd ps sp)(Y:eO k X.A)(W:dY X.K fd ps ds)(hd:cE fq ds)(Z:aAx CX X E)
  (I:Inv X dl σ H s) (r:cE vs J) (h:sp (vs++fq) H Q E):wpAny (model X.prog X.w) X.A (call (.ref f) J) (EP X dl σ Q) X.xe s:=by
 have r2:cE (vs++fq) (J++ds):=r.append hd;have U:(J++ds).length=ps.length:=by rw[<- r2.length];exact F.len _ _ _ _ h
 refine CC (C2 (F.run X.A X.stack s H ⟨J,[]⟩ (J++ds) (vs++fq) Q E Y I.env0 (W s J I.kIn U) r2 h) fun r s' O=>?_);cases r with
 | error e=>exact Z dl σ H s e s' I O
 | ok fl=>
  cases fl with
  | ret u=>exact I.after O
  | next=>exact BE O
  | brk=>exact BE O
  | cont=>exact BE O
def iA(F:cC X.prog X.w X.K X.mg X.base CX k f fd ps sp)(Y:eO k X.A)(Z:Gl X x)(hm:X.mg x=some (.ref f))(hk:AS X.K (.ref f)=true)(W:dY X.K fd ps ds)(hd:cE fq ds)(hx:aAx CX X E)
  (ha:PA X (e::es) t) (J:(x==("__debug__":Str))=false:=by decide) (he:starEach (e::es) X.env=(false,eval e X.env)::starEach es X.env:=by rfl) (O:(backTo pos (starEach es X.env)).any (·.1)=false:=by rfl):
  PE X (.Call (.Name x p) (e::es) [] pos) (aJ6 sp fq E t):=by
 constructor;intro dl s σ H Q I h;refine Dn (uV I Z hm ?_ J);refine Fp (h₀:=X.base) I.ok.mod.kin hk (thn (ha pos dl s σ H _ I h) fun us s1 ⟨vs,H1,U,r,q⟩=>⟨U.kIn,?_⟩) he O;exact aGo F Y W hd hx U r q
structure Mk(K:Ae)(C f:Ag):Prop where
 makes:PySem.W.makesIn K C=true
 init:B0 K (.ref C) "__init__"=some (some (.ref f))
 fn:FJ K (.ref f)=true
 kp:AS K (.ref C)=true
end
structure PK(X:Cx)(fo:List EK)(t:TA):Prop where
 run:
  ∀(pos:Pos) (dl:Ii) (s:Ad) (σ:St) (H:Hp) (Q:List V->Hp->Prop),Inv X dl σ H s->t σ H Q->wpAny (model X.prog X.w) X.A (evalAll ((backToKw pos (keywordEach fo X.env)).map (·.2))) (AP X dl σ Q) X.xe s
instance{X:Cx}{fo:List EK}{t:TA}:CoeFun (PK X fo t) (fun _=>
 ∀(pos:Pos) (dl:Ii) (s:Ad) (σ:St) (H:Hp) (Q:List V->Hp->Prop),Inv X dl σ H s->t σ H Q->wpAny (model X.prog X.w) X.A (evalAll ((backToKw pos (keywordEach fo X.env)).map (·.2))) (AP X dl σ Q) X.xe s):=⟨fun h=>h.run⟩
section
variable{CX:CXT}{k:Nat}{fd:Ay}{ps ks:List Str}{sp:Sp}{E:XK}{x m:Str}{p fe kpos:Pos}{o:Bf}{fo:List EK}{ta:TE}{t tk:TA}{nm:Option Str}
def aKL:PK X [] aAw:=⟨fun _ _ _ _ H Q I h=>wpAny_evalAll_nil ⟨[],H,I,.nil,h⟩⟩
def aI4(ha:PE X e te)(O:PK X fo t):PK X (⟨nm,e,kpos⟩::fo) (nG te t):=by
 constructor;intro pos dl s σ H Q I h;show wpAny _ _ (evalAll ((do let v <- eval e X.env;standAt pos;pure v)::(backToKw pos (keywordEach fo X.env)).map (·.2))) _ _ s
 refine wpAny_evalAll_cons (Aa (thn (ha dl s σ H _ I h) fun u s1 ⟨x,H1,W,r1,U⟩=>Aa (Ds (Af ?_))));exact thn (O pos dl s1 σ H1 _ W U) fun Z s2 ⟨xs,H2,J,r2,Y⟩=>⟨x::xs,H2,J,.cons r1 r2,Y⟩
structure aMU(K:Ae)(fd:Ay)(ps ks:List Str)(g:List Ac->List Ac->List Ac)(gV:List V->List V->List V):Prop where
 to:∀(s:Ad) (us ws:List Ac),K.In s.heap->(g us ws).length=ps.length->Gu s fd ⟨us,ks.zip ws⟩ (ps.zip (g us ws))
 rel:∀{vs:List V} {us:List Ac} {zs:List V} {ws:List Ac},cE vs us->cE zs ws->cE (gV vs zs) (g us ws)
variable{g:List Ac->List Ac->List Ac}{gV:List V->List V->List V}
end
structure mG(N P:List Str)(sc:CV):Prop where
 kind:sc.kind=.function
 co:sc.isCoroutine=false
 gen:sc.isGenerator=false
 nd:N.Nodup
 pre:N.take P.length=P
 par:∀ x∈P,sc.names.lookup x=some .local\/sc.names.lookup x=some .cell
 nofree:∀ y∈sc.names,y.2≠.free
theorem yM{J:Str->Option Ec}{x:Str}:∀{binds:List (Str×Ac)}{m:Str->Option Ac},(∀ v,(x,v)∉binds)->bindL J binds m x=m x
 | [],_,_=>rfl
 | (n,v)::r,m,h=>by
  unfold bindL;rw[yM fun w hw=>h w (AN _ hw)];split
  .have:x≠n:=by rintro rfl;exact h v AQ
   simp[this]
  .rfl
theorem yN{J:Str->Option Ec}{x:Str}:∀{binds:List (Str×Ac)}{m:Str->Option Ac},(∀ v,(x,v)∉binds)->bindC J binds m x=m x
 | [],_,_=>rfl
 | (n,v)::r,m,h=>by
  unfold bindC;rw[yN fun w hw=>h w (AN _ hw)];split
  .rfl
  .have:x≠n:=by rintro rfl;exact h v AQ
   simp[this]
theorem yO{J:Str->Option Ec}{x:Str}{v:Ac}:∀{P:List Str}{vs:List Ac}{i:Nat}{m:Str->Option Ac},P.Nodup->P[i]?=some x->vs[i]?=some v->J x=some .local->
  bindL J (P.zip vs) m x=some v
 | [],_,_,_,_,h,_,_=>by simp at h
 | _::_,[],_,_,_,_,h,_=>by simp at h
 | p::P,w::vs,0,m,nd,h1,h2,O=>by
  simp at h1 h2;subst h1;subst h2;show bindL J ((p,w)::P.zip vs) m p=_;unfold bindL;rw[yM fun v U=>(Dg.mp nd).1 (Gi U).1,Ib O];simp
 | p::P,w::vs,i+1,m,nd,h1,h2,O=>by
  show bindL J ((p,w)::P.zip vs) m x=_;unfold bindL;exact yO (i:=i) (Dg.mp nd).2 (by simpa using h1) (by simpa using h2) O
theorem yP{J:Str->Option Ec}{x:Str}{v:Ac}:∀{P:List Str}{vs:List Ac}{i:Nat}{m:Str->Option Ac},P.Nodup->P[i]?=some x->vs[i]?=some v->J x≠some .local->
  bindC J (P.zip vs) m x=some v
 | [],_,_,_,_,h,_,_=>by simp at h
 | _::_,[],_,_,_,_,h,_=>by simp at h
 | p::P,w::vs,0,m,nd,h1,h2,O=>by
  simp at h1 h2;subst h1;subst h2;show bindC J ((p,w)::P.zip vs) m p=_;unfold bindC;rw[yN fun v U=>(Dg.mp nd).1 (Gi U).1,Ia O];simp
 | p::P,w::vs,i+1,m,nd,h1,h2,O=>by
  show bindC J ((p,w)::P.zip vs) m x=_;unfold bindC;exact yP (i:=i) (Dg.mp nd).2 (by simpa using h1) (by simpa using h2) O
def start(N:List Str)(vs:List V):St:=vs.map some++C5 (N.length-vs.length) none
def iV(CX:CXT)(P:Ar)(w:AW)(K:Ae)(mg:Str->Option Ac)(base:Bb)(N:List Str)(qual:Str)(scope:CV)(f:Ag)(cd:Ac)(A:AK)(outer:List Env)(s:Ad)(H:Hp)(E:XK):Cx where
 prog:=P
 w:=w
 K:=K
 mg:=mg
 base:=base
 A:=A.deeper (envOfC qual scope s.heap.objs.size f cd)
 N:=N
 s₀:=s
 H₀:=H
 env:=envOfC qual scope s.heap.objs.size f cd
 outer:=outer
 stack:=envOfC qual scope s.heap.objs.size f cd::outer
 ex:=[]
 calm:=true
 fn:=fun _=>true
 pn:=[]
 xe:=fun e s'=>wpAny (model P w) (A.deeper (envOfC qual scope s.heap.objs.size f cd)) (leaving (envOfC qual scope s.heap.objs.size f cd) e) (fun _ s''=>CX outer H s E e s'') (fun e' s''=>CX outer H s E e' s'') s'
def aBx{J:CV}{n:Nat}{x:Str}(h:J.names.lookup x=some .cell):∃ c,(cellsFrom n J.names []).lookup x=some c:=by
 have q:=PySem.W.cellsFrom_some J.names n [] (.inl h);exact Option.isSome_iff_exists.mp q
def aFk{CX:CXT}{P:Ar}{w:AW}{K:Ae}{mg:Str->Option Ac}{base:Bb}{N ps:List Str}{qual:Str}{scope:CV}{f:Ag}{cd:Ac}{A:AK}{outer:List Env}{s s1:Ad}{H:Hp}{E:XK}{Y:List Ac}{vs:List V}
  (S:mG N ps scope) (hd:A.handled=none) (e0:aBw P w K mg base A outer s H) (hl:vs.length=ps.length) (r:cE vs Y)
  (x:InCallC s s.heap.objs.size (bindL (envOfC qual scope s.heap.objs.size f cd).kindOf (ps.zip Y) fun _=>none) (cellsFrom (s.heap.objs.size+1) scope.names []) (bindC (envOfC qual scope s.heap.objs.size f cd).kindOf (ps.zip Y) fun _=>none) s1):
  Inv (iV CX P w K mg base N qual scope f cd A outer s H E) [] (start N vs) H s1:=by
 have Z:ps.length<=N.length:=by have:=congrArg EJ S.pre;rw[AJ]at this;lia
 obtain⟨h1,tk,rfl,hk⟩:=x.done;have O:∀ b:Ag,b∉(iV CX P w K mg base N qual scope f cd A outer s H E).ex:=fun b z=>absurd (show b∈([]:List Ag) from z) (by simp);refine⟨⟨e0.mod,S.kind,rfl,rfl,Ap _,fun y z c h1 h2=>?_,fun y J=>?_,fun y c _ h=>?_,fun _=>hd,Around.frames_deeper e0.frames,.inr ⟨rfl,rfl⟩,fun b z=>absurd z (O b),e0.bs,e0.bsz,fun b _ _=>O b,fun b z=>absurd z (O b),e0.funs,e0.frf⟩,
  rfl,e0.bare,Un.kept hk,⟨_,x.toInCall.ns,fun i y v h1 h2 h3=>?_⟩,fun y c h=>⟨_,x.cell y c h⟩,e0.hok.fresh (Ap _),fun y c h=>?_,fun p W=>absurd (show p∈([]:Ii) from W) (by simp),e0.hok.kept hk,?_⟩
 .exact name_of_addr x.apart (Cc h1) (Cc h2)
 .have J:scope.names.lookup y=some .cell\/scope.names.lookup y=some .free:=J;rcases J with J|J
  .exact aBx J
  .exact absurd rfl (S.nofree _ (Cc J))
 .exact DX (x.above y c (Cc h))
 .have hi:i<vs.length:=by
   unfold start at h2;by_cases hi:i<vs.length
   .exact hi
   .rw[Dw (by simpa using hi)]at h2;rw[List.getElem?_replicate]at h2;split at h2<;>cases h2
  have ha:vs[i]?=some v:=by
   unfold start at h2;rw[Cg (by simpa using hi),AF]at h2;cases e:vs[i]? with
   | none=>rw[e]at h2;cases h2
   | some a=>rw[e]at h2;cases h2;rfl
  obtain⟨u,hu,rv⟩:=r.get ha;have W:ps[i]?=some y:=by
   rw[<- S.pre,EM (by lia)];exact h1
  have U:ps.Nodup:=by rw[<- S.pre];exact S.nd.sublist (List.take_sublist _ _)
  refine⟨u,rv,?_⟩;rcases S.par y (AG W)with k|k
  .exact .inl ⟨k,yO U W hu k⟩
  .obtain⟨c,e⟩:=aBx (n:=s.heap.objs.size+1) k;refine .inr ⟨.inl k,c,e,?_⟩;have q:=x.cell y c e;rw[yP U W hu (by show scope.names.lookup y≠_;rw[k];decide)]at q;exact q
 .exact e0.hok.fresh (DX (x.above y c (Cc h)))
 .unfold start;show _=N.length;rw[Am,Ab,Fd];lia
def aJ7{CX:CXT}{P:Ar}{w:AW}{K:Ae}{mg:Str->Option Ac}{base:Bb}{k:Nat}{f:Ag}{name qual:Str}{U:Arguments}{Y:List BA}{scope:CV}{dV kV ae pm O ct oc:Ac}{an od:Option Ag}
  {aj:Array (Option Ac)} {N ps:List Str} {sp:Sp} (lk:K.lookup f=some ⟨oc,od,.func (BC name qual U Y scope dV kV ae pm an O ct),aj⟩) (ak:BP K O qual=true) (S:mG N ps scope)
  (len:∀ vs H Q E,sp vs H Q E->vs.length=ps.length)
  (aa:∀(A:AK) (outer:List Env) (s:Ad) (H:Hp) (vs:List V) (Q:VK) (E:XK),eO k (A.deeper (envOfC qual scope s.heap.objs.size f O))->sp vs H Q E->
   ∃ t,PSs (iV CX P w K mg base N qual scope f O A outer s H E) Y t/\t { nx:=fun _ H'=>Q .non H',rt:=Q } (start N vs) H):
  cC P w K mg base CX (k+1) f (BC name qual U Y scope dV kV ae pm an O ct) ps sp:=by
 refine⟨len,fun A outer s H ap us vs Q E hr e0 hb r af=>?_⟩;have hl:=len _ _ _ _ af;have KX:K.In s.heap:=e0.mod.kin.keeps fun b o e=>(e0.bs b o e).1;have ai:s.heap.NoLimit:=e0.mod.nolimit.keeps fun b o e=>(e0.bs b o e).1;have Z:∀ y∈ps.zip us,scope.names.lookup y.1=some .local\/(scope.names.lookup y.1=some .cell/\((cellsFrom (s.heap.objs.size+1) scope.names []).lookup y.1).isSome=true):=fun⟨n,v⟩ hy=>by
  rcases S.par n (Gi hy).1 with q|q
  .exact .inl q
  .exact .inr ⟨q,PySem.W.cellsFrom_some _ _ _ (.inl q)⟩
 refine codeAny_call_function hr.depth (KX _ _ lk) rfl S.co S.gen rfl (PySem.W.codeRec_of KX ak) (hb _ _ _ _ ?_);refine wpAny_newFunctionEnv_cells S.kind Z fun env he s1 x=>?_;subst he;refine⟨ai.keeps x.toInCall.keep,codeAny_func ?_⟩;obtain⟨t,ht,hq⟩:=aa A outer s H vs Q E (hr.deeper _) af;have I:Inv (iV CX P w K mg base N qual scope f O A outer s H E) [] (start N vs) H s1:=aFk S hr.hd e0 hl r x;refine Bt (ht [] s1 (start N vs) H _ I hq) (fun fl s' hs=>?_) fun e s' hs=>hs;have ad:∀{σ':St} {H':Hp} {v:V} {u:Ac},Inv (iV CX P w K mg base N qual scope f O A outer s H E) [] σ' H' s'->cQ v u->Q v H'->CE outer P w H s Q u s':=
  fun{σ' H' v u} J rv q=>⟨v,H',J.os,J.bare,J.base,J.hok,rv,q⟩
 cases fl with
 | ret u=>
  obtain⟨v,σ',H',J,rv,q⟩:=hs;exact ad J rv q
 | next=>
  obtain⟨σ',H',J,q⟩:=hs;exact ad (v:=V.non) (u:=BY) J rfl q
 | brk=>
  obtain⟨_,_,_,q⟩:=hs;exact BE q
 | cont=>
  obtain⟨_,_,_,q⟩:=hs;exact BE q
section
variable{x:Str}{p:Pos}{t:TA}{id T:String}{r:List V->Hp->VK->Prop}
def tCB(r:List V->Hp->VK->Prop)(t:TA):TE:=fun σ H Q=>t σ H fun vs H1=>r vs H1 Q
def aQ(hc:gR X (.builtin id) r)(W:Gl X x)(hm:X.mg x=none)(hv:bootBuiltins x=some (.builtin id))(ha:PA X (e::es) t)(hn:x≠"__name__":=by decide)(J:(x==("__debug__":Str))=false:=by decide)
  (Y:starEach (e::es) X.env=(false,eval e X.env)::starEach es X.env:=by rfl) (O:(backTo pos (starEach es X.env)).any (·.1)=false:=by rfl):PE X (.Call (.Name x p) (e::es) [] pos) (tCB r t):=by
 constructor;intro dl s σ H Q I h;refine Dn (nV I W hm hv ?_ hn J);exact PyProof.Rows.callWith_builtin1 (thn (ha pos dl s σ H _ I h) fun U s1 ⟨vs,H1,I1,r1,Z⟩=>hc dl s1 σ H1 vs U Q I1 r1 Z) Y O
def cA(hc:gR X (.type T) r)(W:Gl X x)(hm:X.mg x=none)(hv:bootBuiltins x=some (.type T))(ha:PA X (e::es) t)(hn:x≠"__name__":=by decide)(J:(x==("__debug__":Str))=false:=by decide)
  (Y:starEach (e::es) X.env=(false,eval e X.env)::starEach es X.env:=by rfl) (O:(backTo pos (starEach es X.env)).any (·.1)=false:=by rfl):PE X (.Call (.Name x p) (e::es) [] pos) (tCB r t):=by
 constructor;intro dl s σ H Q I h;refine Dn (nV I W hm hv ?_ hn J);exact Cr (thn (ha pos dl s σ H _ I h) fun U s1 ⟨vs,H1,I1,r1,Z⟩=>hc dl s1 σ H1 vs U Q I1 r1 Z) Y O
end
end L2
namespace HT
open PySem PyProof.Rows
def eqAt_int(A:AK)(s:Ad)(a:Int)(t:Tok)(c:Int)(u:Tok):∃ e,Gp A s (.int a t) (.int c u) e/\(e=true↔a=c):=
 ⟨(a==c),SeqAt.EqAt.int_int a t c u,by simp⟩
section
open PySem.SeqAt
open PySem.AutoSeq1 (wpAny_loadPart')
open PySem.MeetsSeq PySem.MeetsSeq2 PySem.MeetsSeq3
end
section
variable{prog:Ar}{w:AW}{A:AK}{E:Ac->Ad->Prop}{s:Ad}
def cat_tup{t b:Ag}{vs ws:List Ac}{Q:Ac->Ad->Prop}(ht:E7 s.heap t vs.toArray)(O:E7 s.heap b ws.toArray)(J:vs≠[])
  (h1:ws=[]->Q (.ref t) s) (h2:ws≠[]->Q (.ref s.heap.objs.size) { s with heap:=s.heap.push { cls:=.type "tuple",data:=.seq (vs++ws).toArray } })
  (hsz:vs.length+ws.length<=sizeLine):wpAny (model prog w) A (binaryOp .Add (.ref t) (.ref b)) Q E s:=by
 obtain⟨⟨cls,dd,data,sl⟩,ho,hc,n,hd⟩:=id ht;obtain⟨⟨cls2,dd2,data2,sl2⟩,ho2,hc2,n2,hd2⟩:=id O;simp only at hc hd hc2 hd2;subst hc hd hc2 hd2;have e:vs.toArray++ws.toArray=(vs++ws).toArray:=by simp
 by_cases hw:ws=[]
 .exact Hz ⟨_,ho,rfl⟩ ⟨_,ho2,rfl⟩ Gx Hn ER EH (EC _ _)
   (tuple_addW1 t b vs.toArray ws.toArray n n2 dd dd2 sl sl2 (by simpa using J) (by simp[hw])) ⟨ho,ho2,h1 hw⟩
 .refine Hz ⟨_,ho,rfl⟩ ⟨_,ho2,rfl⟩ Gx Hn ER EH (EC _ _)
   (tuple_addW2 t b vs.toArray ws.toArray n n2 dd dd2 sl sl2 (by simpa using J) (by simpa using hw) (by rw[Au,Au];exact hsz)) ⟨ho,ho2,?_⟩
  rw[e];exact h2 hw
def sIx(n d:Nat):Option Int->Nat
 | none=>d
 | some v=>if v<0 then(v+(n:Int)).toNat else min v.toNat n
def sIx_none(n d:Nat):sIx n d none=d:=rfl
def sIx_nat(n d k:Nat):sIx n d (some (k:Int))=min k n:=by
 show(if (k:Int)<0 then((k:Int)+(n:Int)).toNat else min (k:Int).toNat n)=min k n;rw[Ia (by lia),BK]
def aKM(n d:Nat)(hd:d<=n)(o:Option Int):sIx n d o<=n:=by
 cases o with
 | none=>exact hd
 | some v=>
  show(if v<0 then(v+(n:Int)).toNat else min v.toNat n)<=n;by_cases J:v<0
  .rw[Ib J];lia
  .rw[Ia J];exact Nat.min_le_right _ _
def aDS(v:Int)(n d:Nat):(if v<0 then max (v+(n:Int)) 0 else min v (n:Int))=((sIx n d (some v):Nat):Int):=by
 show(if v<0 then max (v+(n:Int)) 0 else min v (n:Int))=(((if v<0 then(v+(n:Int)).toNat else min v.toNat n):Nat):Int)
 by_cases J:v<0
 .simp only[Ib J];lia
 .simp only[Ia J];lia
def aCY(lo hi:Option Int)(n:Nat):Ee lo hi 1 (n:Int)=(((sIx n 0 lo:Nat):Int),((sIx n n hi:Nat):Int)):=by
 have h1:¬ ((1:Int)<0):=by lia
 unfold Ee;simp only[h1,if_false];refine HV ?_ ?_
 .cases lo with
  | none=>rfl
  | some v=>exact aDS v n 0
 .cases hi with
  | none=>rfl
  | some v=>exact aDS v n n
def aCZ(i j:Nat):Dh (i:Int) (j:Int) 1=j-i:=by
 unfold Dh;have h1:(1:Int)>0:=by lia
 simp only[h1,if_true,Int.ediv_one];split<;>lia
def vP{v:Ac}{o:Option Int}{Q:Option Int->Ad->Prop}(p:Fs v o)(h:Q o s):wpAny (model prog w) A (Builtin.Slice.slicePartIndex v) Q E s:=by
 cases p with
 | none=>exact slicePart_none h
 | int i t=>exact slicePart_int h
def sliceApplied_gen{U:Ag}{J O:Ac}{lo hi:Option Int}{n:Nat}{Q:Int×Int×Nat->Ad->Prop}(W:s.heap.IsSliceOf U J O .none)(pl:Fs J lo)(Y:Fs O hi)
  (h:Q (((sIx n 0 lo:Nat):Int),1,sIx n n hi-sIx n 0 lo) s):wpAny (model prog w) A (Builtin.Slice.sliceApplied (.ref U) (pure (n:Int))) Q E s:=by
 obtain⟨os,hos,hcs,hds⟩:=id W;unfold Builtin.Slice.sliceApplied Builtin.Slice.sliceFields;refine Aa (Aa (Et hos hds (x:=J) rfl (Aa (Et hos hds (x:=O) rfl (Aa (Et hos hds (x:=.none) rfl (Af ?_)))))));refine Aa (slicePart_none ?_);show wpAny _ _ (if ((1:Int)==0)=true then _ else _) _ _ s;rw[Ia (by decide)];refine Aa (vP pl (Aa (vP Y (Aa (Af ?_)))));show wpAny _ _ (match Ee lo hi 1 (n:Int)with|(lo,hi)=>pure (lo,(1:Int),Dh lo hi 1)) _ _ s;rw[aCY lo hi n];show wpAny _ _ (pure (((sIx n 0 lo:Nat):Int),(1:Int),Dh ((sIx n 0 lo:Nat):Int) ((sIx n n hi:Nat):Int) 1)) _ _ s;rw[aCZ];exact Af h
def aGp(xs:Array Ac)(i k:Nat):((AY k).filterMap fun(m:Nat)=>xs[((i:Int)+(m:Int)*1).toNat]?).toArray=((xs.toList.drop i).take k).toArray:=by
 have e:(fun(m:Nat)=>xs[((i:Int)+(m:Int)*1).toNat]?)=fun m=>xs[i+m]?:=by
  funext m;have:((i:Int)+(m:Int)*1).toNat=i+m:=by lia
  rw[this]
 rw[e];have:=pick_run xs i k;rw[List.filterMap_map]at this;have e2:((fun x=>xs[x]?) ∘ fun x=>i+x)=fun m=>xs[i+m]?:=rfl;rw[e2]at this;rw[this]
def getItem_tuple_cut{t W:Ag}{items:Array Ac}{Z vu:Ac}{lo hi:Option Int}{Q:Ac->Ad->Prop}(ht:E7 s.heap t items)(Y:s.heap.IsSliceOf W Z vu .none)(pl:Fs Z lo)(pu:Fs vu hi)
  (hw:¬ (sIx items.size 0 lo=0/\sIx items.size items.size hi=items.size))
  (h:Q (.ref s.heap.objs.size) { s with heap:=s.heap.push { cls:=.type "tuple",data:=.seq ((items.toList.drop (sIx items.size 0 lo)).take (sIx items.size items.size hi-sIx items.size 0 lo)).toArray } })
  (hsz:items.size<=sizeLine):wpAny (model prog w) A (getItem (.ref t) (.ref W)) Q E s:=by
 have J:sizeOk (.seq ((items.toList.drop (sIx items.size 0 lo)).take (sIx items.size items.size hi-sIx items.size 0 lo)).toArray):=by
  show((items.toList.drop (sIx items.size 0 lo)).take (sIx items.size items.size hi-sIx items.size 0 lo)).toArray.size<=sizeLine;rw[Au,AJ,B7,AL];lia
 have hj:sIx items.size items.size hi<=items.size:=aKM _ _ (Ap _) hi;obtain⟨os,hos,hcs,hds⟩:=id Y;have O:s.TypeIs (.ref W) "slice":=⟨os,hos,hcs⟩
 unfold getItem
 try with_reducible refine Bg ?_
 first|refine Aa (Af ?_)|skip
 refine Aa (wpAny_sequenceKey ht.typeIs (by decide) ?_);refine Aa (CB (name:=Be "__getitem__") ht.typeIs BU
  (Ct BU ht.typeIs entry_tuple_getitem ?_ (args_tuple_getitem _ _)))
 show wpAny _ _ (Builtin.Tuple.tupleItemsOf (.ref t) >>= _) _ _ s;refine Aa (tupleItemsOf_ ht ?_);refine Aa (Cf O ?_);rw[Ib (by decide)];refine Aa (sliceApplied_gen Y pl pu ?_);have U:¬ ((((sIx items.size 0 lo:Nat):Int)==0&&(1:Int)==1&&(sIx items.size items.size hi-sIx items.size 0 lo)==items.size)=true):=by
  intro q;rw[Aw,Aw]at q;have q1:((sIx items.size 0 lo:Nat):Int)=0:=eq_of_beq q.1.1;have q2:sIx items.size items.size hi-sIx items.size 0 lo=items.size:=eq_of_beq q.2;exact hw ⟨by lia,by lia⟩
 show wpAny _ _ (if (((sIx items.size 0 lo:Nat):Int)==0&&(1:Int)==1&&(sIx items.size items.size hi-sIx items.size 0 lo)==items.size)=true then _ else _) _ _ s;rw[Ia U,aGp]
 first
  | exact Aa (m:=Dq _) (BH (Af ⟨_,rfl,Af h⟩) J)
  | exact Aa (m:=Dq _) (BH (Aa (Af (Af ⟨_,rfl,Af h⟩))) J)
  | exact Aa (Aa (m:=Dq _) (BH (Af (Af ⟨_,rfl,Af h⟩)) J))
  | exact Aa (Aa (m:=Dq _) (BH (Af ⟨_,rfl,Af h⟩) J))
end
end HT
namespace L2
open PySem PySem.Spec PyProof.Rows
variable{X:Cx}{e:Bf}{pos:Pos}{dl:Ii}{σ:St}{H:Hp}{s:Ad}{A:AK}{E:Ac->Ad->Prop}
abbrev TO:=St->Hp->(Option Int->Hp->Prop)->Prop
structure PO(X:Cx)(e:Option Bf)(t:TO):Prop where
 run:
  ∀(dl:Ii) (s:Ad) (σ:St) (H:Hp) (Q:Option Int->Hp->Prop),Inv X dl σ H s->t σ H Q->
   wpAny (model X.prog X.w) X.A (evalPart e X.env) (fun u s'=>∃ o H',Inv X dl σ H' s'/\Fs u o/\Q o H') X.xe s
instance{X:Cx}{e:Option Bf}{t:TO}:CoeFun (PO X e t) (fun _=>
 ∀(dl:Ii) (s:Ad) (σ:St) (H:Hp) (Q:Option Int->Hp->Prop),Inv X dl σ H s->t σ H Q->
  wpAny (model X.prog X.w) X.A (evalPart e X.env) (fun u s'=>∃ o H',Inv X dl σ H' s'/\Fs u o/\Q o H') X.xe s):=⟨fun h=>h.run⟩
def aI5:TO:=fun _ H Q=>Q none H
def aLX(t:TE):TO:=fun σ H Q=>t σ H fun x H1=>As V.int x fun i=>Q (some i) H1
section
variable{te:TE}{lo hi:Option Bf}{tl th:TO}{p2:Pos}
def dU:PO X none aI5:=by
 constructor;intro dl s σ H Q I h;rw[Ho];exact Af ⟨none,H,I,.none,h⟩
def cM(h:PE X e te):PO X (some e) (aLX te):=by
 constructor;intro dl s σ H Q I hw;rw[evalPart_some];refine thn (h dl s σ H _ I hw) fun u s1 ⟨x,H1,O,r1,J⟩=>?_;obtain⟨i,rfl,q⟩:=J;obtain⟨t,rfl⟩:=r1;exact⟨some i,H1,O,.int i t,q⟩
def SlR(X:Cx)(r:V->Option Int->Option Int->Hp->VK->Prop):Prop:=
 ∀(dl:Ii) (s:Ad) (σ:St) (H:Hp) (x:V) (v vl vu:Ac) (lo hi:Option Int) (sl:Ag) (Q:VK),Inv X dl σ H s->cQ x v->s.heap.IsSliceOf sl vl vu .none->Fs vl lo->Fs vu hi->r x lo hi H Q->
  ∃ T id,typeLookup (.type T) "__getitem__"=pure (some (.builtin id))/\s.TypeIs v T/\wpAny (model X.prog X.w) X.A (getItem v (.ref sl)) (EP X dl σ Q) X.xe s
def tSl(r:V->Option Int->Option Int->Hp->VK->Prop)(te:TE)(tl th:TO):TE:=fun σ H Q=>te σ H fun x H1=>tl σ H1 fun l H2=>th σ H2 fun u H3=>r x l u H3 Q
def cN{r:V->Option Int->Option Int->Hp->VK->Prop}(Z:SlR X r)(he:PE X e te)(W:PO X lo tl)(hu:PO X hi th):PE X (.Subscript e (.Slice lo hi none p2) pos) (tSl r te tl th):=by
 constructor;intro dl s σ H Q I h;refine Hg (thn (he dl s σ H _ I h) fun v s1 ⟨x,H1,I1,r1,q1⟩=>?_);refine wpAny_Slice (thn (W dl s1 σ H1 _ I1 q1) fun J s2 ⟨l,H2,Y,pl,q2⟩=>thn (hu dl s2 σ H2 _ Y q2) fun O s3 ⟨u,U,I3,pu,q3⟩=>?_);rw[Ho];refine Af ?_;have I4:Inv X dl σ U { s3 with heap:=s3.heap.push { cls:=.type "slice",data:=.fields #[J,O,.none] } }:=I3.kept (t':=s3.toks) fun b ob q=>Ah _ q;obtain⟨T,id,hT,ht,hg⟩:=Z dl { s3 with heap:=s3.heap.push { cls:=.type "slice",data:=.fields #[J,O,.none] } } σ U x v J O l u s3.heap.objs.size Q I4 r1 (Heap.IsSliceOf.new ..) pl pu q3;show wpAny (model X.prog X.w) X.A (subscriptTail e (.Slice lo hi none p2) v (.ref s3.heap.objs.size)) (EP X dl σ Q) X.xe { s3 with heap:=s3.heap.push { cls:=.type "slice",data:=.fields #[J,O,.none] } };exact tail_any (ops:=[.ref s3.heap.objs.size,v]) ht hT hg (by with_unfolding_all rfl)
def gU(xs:List V)(lo hi:Option Int):List V:=(xs.drop (HT.sIx xs.length 0 lo)).take (HT.sIx xs.length xs.length hi-HT.sIx xs.length 0 lo)
def uA(xs:List V)(lo hi:Option Int):(gU xs lo hi).length<=xs.length:=by
 unfold gU;rw[AJ,B7];lia
inductive aGq(K:Ae)(x:V)(lo:Option Int)(hi:Option Int)(H:Hp)(Q:VK):Prop
 | mk (a:_) (xs:_) (q0:x=.ref a) (q1:SqT K H a xs) (q2:¬ (HT.sIx xs.length 0 lo=0/\HT.sIx xs.length xs.length hi=xs.length)) (q3:∀ p,H p=none->Q (.ref p) (upd H p (.tup (gU xs lo hi)))):aGq K x lo hi H Q
def aMV(K:Ae):V->Option Int->Option Int->Hp->VK->Prop:=fun x lo hi H Q=>aGq K x lo hi H Q
def aKN:SlR X (aMV X.K):=by
 intro dl s σ H x v Y vu lo hi Z Q I W O pl U h;obtain⟨a,xs,rfl,hx,hw,q⟩:=h;cases W;obtain⟨its,r,ht,hz⟩:=I.tuple hx;have J:its.toArray.size=xs.length:=by rw[Au];exact r.length.symm
 refine⟨"tuple",_,BU.lookup,ht.typeIs,HT.getItem_tuple_cut ht O pl U (by rw[J];exact hw) ?_ (by rw[J];exact hz)⟩;rw[J];refine⟨.ref s.heap.objs.size,_,I.laid (t':=s.toks) (o:=.tup (gU xs lo hi)) (fun b ob q=>Ah _ q) (Ap _) ?_,rfl,q _ (I.hok.fresh (Ap _))⟩;exact⟨AH (uA xs lo hi) hz,_,(r.drop (HT.sIx xs.length 0 lo)).take (HT.sIx xs.length xs.length hi-HT.sIx xs.length 0 lo),⟨_,AE _ rfl,⟨rfl,_,rfl⟩,rfl⟩⟩
inductive aDT(K:Ae)(x:V)(y:V)(H:Hp)(Q:VK):Prop
 | mk (a:_) (b:_) (xs:_) (ys:_) (q0:x=.ref a) (q1:y=.ref b) (q2:SqT K H a xs) (q3:SqT K H b ys) (q4:xs≠[]) (q5:xs.length+ys.length<=sizeLine) (q6:(ys=[]->Q (.ref a) H)) (q7:(ys≠[]->∀ p,H p=none->Q (.ref p) (upd H p (.tup (xs++ys))))):aDT K x y H Q
def aLY(K:Ae):R2:=fun x y H Q=>aDT K x y H Q
def cE.nil_iff{xs:List V}{J:List Ac}(r:cE xs J):J=[]↔xs=[]:=by
 cases r with
 | nil=>simp
 | cons _ _=>simp
def aDU:OpR X (binaryOp .Add) (aLY X.K):=by
 intro dl s σ H x y v u Q I O J h;obtain⟨a,b,xs,ys,rfl,rfl,ha,hb,hx,hz,q1,q2⟩:=h;cases O;cases J;obtain⟨its,r1,p1,_⟩:=I.tuple ha;obtain⟨its2,r2,p2,_⟩:=I.tuple hb;refine HT.cat_tup p1 p2 (fun z=>hx (r1.nil_iff.mp z)) (fun z=>⟨.ref a,H,I,rfl,q1 (r2.nil_iff.mp z)⟩) (fun z=>?_) (by rw[<- r1.length,<- r2.length];exact hz);refine⟨.ref s.heap.objs.size,_,I.laid (t':=s.toks) (o:=.tup (xs++ys)) (fun b ob q=>Ah _ q) (Ap _) ?_,rfl,q2 (fun w=>z (r2.nil_iff.mpr w)) _ (I.hok.fresh (Ap _))⟩;exact⟨by rw[Am];exact hz,_,r1.append r2,⟨_,AE _ rfl,⟨rfl,_,rfl⟩,rfl⟩⟩
end
def ixN(n:Nat)(i:Int):Option Nat:=if 0<=i then(if i<n then some i.toNat else none) else if -(n:Int)<=i then some (i+n).toNat else none
def atI{α:Type}(xs:List α)(i:Int):Option α:=(ixN xs.length i).bind fun j=>xs[j]?
def qQ{n:Nat}{i:Int}{j:Nat}(h:ixN n i=some j):seqIndex? i n=some j/\j<n/\-(n:Int)<=i/\i<n:=by
 unfold ixN at h;by_cases J:0<=i
 .rw[Ib J]at h;by_cases h1:i<n
  .rw[Ib h1]at h;have e:i.toNat=j:=BS.inj h;exact⟨by rw[HP J h1,e],by lia,by lia,h1⟩
  .rw[Ia h1]at h;cases h
 .rw[Ia J]at h;by_cases h1:-(n:Int)<=i
  .rw[Ib h1]at h;have e:(i+n).toNat=j:=BS.inj h;exact⟨by rw[seqIndex_neg (by lia) h1,e],by lia,h1,by lia⟩
  .rw[Ia h1]at h;cases h
def aAy{α:Type}{xs:List α}{i:Int}{v:α}(h:atI xs i=some v):∃ j,seqIndex? i xs.length=some j/\xs[j]?=some v/\j<xs.length/\-(xs.length:Int)<=i/\i<xs.length:=by
 unfold atI at h;cases e:ixN xs.length i with
 | none=>rw[e]at h;cases h
 | some j=>
  rw[e]at h;obtain⟨h1,h2,h3,h4⟩:=qQ e;exact⟨j,h1,h,h2,h3,h4⟩
def bG{α:Type}{xs:List α}{j:Nat}{v:α}(h:xs[j]?=some v):atI xs (j:Int)=some v:=by
 have J:j<xs.length:=(AO.mp h).1;have e:ixN xs.length (j:Int)=some j:=by
  unfold ixN;rw[Ib (by lia),Ib (by lia)];simp
 unfold atI;rw[e];exact h
def aBy{α:Type}(xs:List α)(v:α):atI (xs++[v]) (-1)=some v:=by
 have J:(xs++[v]).length=xs.length+1:=by simp
 have e:ixN (xs++[v]).length (-1)=some xs.length:=by
  unfold ixN;rw[J,Ia (by decide),Ib (by lia)];congr 1;lia
 unfold atI;rw[e];show(xs++[v])[xs.length]?=some v;simp
def aI6(b:Bf):Prop:=∀ o i,subscripted b false o i=operate [o,i] (getItem o i)
def IxR(X:Cx)(r:R2):Prop:=
 ∀(value slice:Bf) (dl:Ii) (s:Ad) (σ:St) (H:Hp) (x y:V) (v u:Ac) (Q:VK),Inv X dl σ H s->cQ x v->cQ y u->r x y H Q->
  subscripted slice false v u=operate [v,u] (getItem v u)->wpAny (model X.prog X.w) X.A (subscriptTail value slice v u) (EP X dl σ Q) X.xe s
def MtR(X:Cx)(id:String)(r:V->List V->Hp->VK->Prop):Prop:=
 ∀(dl:Ii) (s:Ad) (σ:St) (H:Hp) (x:V) (xs:List V) (v:Ac) (us:List Ac) (Q:VK),Inv X dl σ H s->cQ x v->cE xs us->r x xs H Q->
  wpAny (model X.prog X.w) X.A (call (.builtin id) (v::us)) (EP X dl σ Q) X.xe s
section
variable{a b:Bf}{ta tb:TE}
def aX{r:R2}(U:IxR X r)(ha:PE X a ta)(J:PE X b tb)(W:aI6 b):PE X (.Subscript a b pos) (tOp r ta tb):=by
 constructor;intro dl s σ H Q I h;exact Hg (aKH ha J I h fun v u s2 x y H2 O Y Z q=>U a b dl s2 σ H2 x y v u Q O Y Z q (W _ _))
inductive aGr(K:Ae)(x:V)(y:V)(H:Hp)(Q:VK):Prop
 | mk (p:_) (xs:_) (i:_) (v:_) (q0:x=.ref p) (q1:y=.int i) (q2:SqL K H p xs) (q3:atI xs i=some v) (q4:Q v H):aGr K x y H Q
def aKO(K:Ae):R2:=fun x y H Q=>aGr K x y H Q
inductive aGs(K:Ae)(x:V)(y:V)(H:Hp)(Q:VK):Prop
 | mk (p:_) (xs:_) (i:_) (v:_) (q0:x=.ref p) (q1:y=.int i) (q2:SqT K H p xs) (q3:atI xs i=some v) (q4:Q v H):aGs K x y H Q
def vQ(K:Ae):R2:=fun x y H Q=>aGs K x y H Q
inductive aGt(x:V)(y:V)(H:Hp)(Q:VK):Prop
 | mk (z:_) (i:_) (c:_) (q0:x=.str z) (q1:y=.int i) (q2:z.length<=sizeLine) (q3:atI z.cps.toList i=some c) (q4:Q (.str ⟨#[c]⟩) H):aGt x y H Q
def aMW:R2:=fun x y H Q=>aGt x y H Q
def bJ:IxR X (aKO X.K):=by
 intro value O dl s σ H x y v u Q I rx ry h W;obtain⟨p,xs,i,z,rfl,rfl,hq,he,q⟩:=h;cases rx;obtain⟨t,rfl⟩:=ry;obtain⟨its,r,pl,hz⟩:=I.list hq;obtain⟨j,h1,h2,h3,h4,h5⟩:=aAy he;obtain⟨w,ew,rw'⟩:=r.get h2;have Z:=r.length;have hn:=qC;have J:EP X dl σ Q w s:=⟨z,H,I,rw',q⟩
 by_cases Y:0<=i
 .have U:i.toNat=j:=by
   rw[HP Y h5]at h1;exact BS.inj h1
  exact item_listR pl.isList Y (by lia) (by rw[U];simpa using ew) J W
 .have U:(i+(its.toArray.size:Int)).toNat=j:=by
   rw[seqIndex_neg (by lia) h4]at h1;rw[Au,<- Z];exact BS.inj h1
  exact subscriptTail_builtinR (x:=w) pl.isList.typeIs slot_list_getitem.lookup
   (wpAny_getItem_list_neg (Q:=fun r s'=>r=w/\EP X dl σ Q r s') pl.isList (by lia) (by rw[Au]<;>lia) (by lia) (by rw[U];simpa using ew) ⟨rfl,J⟩) W
def bS:IxR X (vQ X.K):=by
 intro value O dl s σ H x y v u Q I Y Z h W;obtain⟨p,xs,i,z,rfl,rfl,hq,he,q⟩:=h;cases Y;obtain⟨t,rfl⟩:=Z;obtain⟨its,r,pl,hz⟩:=I.tuple hq;obtain⟨j,h1,h2,h3,h4,h5⟩:=aAy he;obtain⟨w,ew,rw'⟩:=r.get h2;have U:=r.length;have hn:=qC;have J:EP X dl σ Q w s:=⟨z,H,I,rw',q⟩
 exact subscriptTail_builtinR (x:=w) pl.typeIs slot_tuple_getitem.lookup
  (getItem_tuple (j:=j) (Q:=fun r s'=>r=w/\EP X dl σ Q r s') pl (by lia) (by lia) (by rw[Au,<- U];exact h1) (by simpa using ew) ⟨rfl,J⟩) W
def mH:IxR X aMW:=by
 intro value J dl s σ H x y v u Q I W Y h U;obtain⟨z,i,c,rfl,rfl,hz,he,q⟩:=h;obtain⟨t,rfl⟩:=W;obtain⟨t',rfl⟩:=Y;obtain⟨j,h1,h2,h3,h4,h5⟩:=aAy he;have O:z.cps.toList.length=z.length:=by simp[Str.length]
 rw[O]at h1 h4 h5;have hn:=qC;exact tail_any (EO s z t) slot_str_getitem.lookup (getItem_str (c:=c) (by
  have e1:decide (i < -(2^63:Int))=false:=Ie (by lia);have e2:decide (i ≥ 2^63)=false:=Ie (by lia);rw[e1,e2,Bool.or_false]) (by rw[h1];simpa using h2) ⟨.str ⟨#[c]⟩,H,I.tok _,⟨_,rfl⟩,q⟩) U
def aC0(its:List Ac)(n j:Nat)(u:Ac):Bx (·.setIfInBounds j u) { cls:=.type "list",data:=.seq its.toArray n }={ cls:=.type "list",data:=.seq (its.set j u).toArray n }:=by
 simp[Bx]
def Inv.lst{dl:Ii}{σ:St}{H:Hp}{s:Ad}{p:Ag}{xs:List V}(I:Inv X dl σ H s)(h:H p=some (.lst xs)):
  ∃(its:List Ac) (n:Nat),cE xs its/\s.heap.get? p=some { cls:=.type "list",data:=.seq its.toArray n }/\xs.length<=sizeLine:=by
 obtain⟨z,its,n,r,e⟩:=I.hok p _ h;exact⟨its,n,r,e,z⟩
def Inv.lstUpd{dl:Ii}{σ:St}{H:Hp}{s:Ad}{p:Ag}{xs ys:List V}{its its':List Ac}{n J:Nat}{f:Obj->Obj}(I:Inv X dl σ H s)(h:H p=some (.lst xs))
  (W:s.heap.get? p=some { cls:=.type "list",data:=.seq its.toArray n }) (O:f { cls:=.type "list",data:=.seq its.toArray n }={ cls:=.type "list",data:=.seq its'.toArray J }) (r:cE ys its') (hz:ys.length<=sizeLine) (t:Nat):
  Inv X dl σ (upd H p (.lst ys)) { s with heap:=s.heap.update p f,toks:=t }:=by
 have e:(s.heap.update p f).get? p=some { cls:=.type "list",data:=.seq its'.toArray J }:=by
  rw[Bo f W (by rw[O]<;>rfl),O]
 refine I.write (x:=p) (e:=p) (by rw[h];trivial) (.inl rfl) (fun b u U q=>(BO _ _ (CY U)).trans q) ⟨_,e⟩ ?_;exact⟨hz,its',J,r,e⟩
inductive aDV(o:V)(i:V)(v:V)(H:Hp)(Q:(Hp->Prop)):Prop
 | mk (p:_) (xs:_) (k:_) (j:_) (q0:o=.ref p) (q1:i=.int k) (q2:H p=some (.lst xs)) (q3:ixN xs.length k=some j) (q4:Q (upd H p (.lst (xs.set j v)))):aDV o i v H Q
def aLZ:V->V->V->Hp->(Hp->Prop)->Prop:=fun o i v H Q=>aDV o i v H Q
def qR:aLM X aLZ:=by
 intro dl s σ H o i v ov iv u Q I Z ri rv h;obtain⟨p,xs,k,j,rfl,rfl,hp,hj,q⟩:=h;cases Z;obtain⟨t,rfl⟩:=ri;obtain⟨its,n,r,ho,hz⟩:=I.lst hp;obtain⟨h1,h2,h3,h4⟩:=qQ hj;have J:=r.length;have hn:=qC;have U:Inv X dl σ (upd H p (.lst (xs.set j v))) { s with heap:=s.heap.update p (Bx (·.setIfInBounds j u)) }:=
  I.lstUpd hp ho (aC0 its n j u) (r.set rv j) (by rw[E9];exact hz) s.toks
 by_cases Y:0<=k
 .have O:k.toNat=j:=by
   rw[HP Y h4]at h1;exact BS.inj h1
  exact PySem.W.ki_setAt ho Y (by lia) (by rw[Au,<- J];exact h4) (by rw[O];exact⟨_,U,q⟩)
 .have O:(k+(its.toArray.size:Int)).toNat=j:=by
   rw[seqIndex_neg (by lia) h3]at h1;rw[Au,<- J];exact BS.inj h1
  exact PySem.W.ki_setBack ho (by lia) (by rw[Au,<- J];exact h3) (by lia) (by rw[O];exact⟨_,U,q⟩)
def aAz(lo hi:Option Int)(n:Nat):(sliceBounds lo hi none n).1=((HT.sIx n 0 lo:Nat):Int)/\(sliceBounds lo hi none n).2.1=((HT.sIx n n hi:Nat):Int)/\(sliceBounds lo hi none n).2.2=1:=by
 refine⟨?_,?_,rfl⟩
 .cases lo with
  | none=>simp[sliceBounds,HT.sIx]
  | some i=>
   simp only[sliceBounds,HT.sIx,Option.getD_none,show(1:Int)>0 by decide,if_true];by_cases h:i<0
   .simp only[h,if_true]<;>lia
   .simp only[h,if_false]<;>lia
 .cases hi with
  | none=>simp[sliceBounds,HT.sIx]
  | some i=>
   simp only[sliceBounds,HT.sIx,Option.getD_none,show(1:Int)>0 by decide,if_true];by_cases h:i<0
   .simp only[h,if_true]<;>lia
   .simp only[h,if_false]<;>lia
def xZ(its:List Ac)(lo hi:Option Int):slicePick its.toArray lo hi none=((its.drop (HT.sIx its.length 0 lo)).take (HT.sIx its.length its.length hi-HT.sIx its.length 0 lo)).toArray:=by
 obtain⟨h1,h2,h3⟩:=aAz lo hi its.toArray.size;unfold slicePick;rw[h1,h2,h3];simp only[sliceRange_one,pick_run,Au]<;>rfl
inductive aGu(K:Ae)(x:V)(lo:Option Int)(hi:Option Int)(H:Hp)(Q:VK):Prop
 | mk (a:_) (xs:_) (q0:x=.ref a) (q1:SqL K H a xs) (q2:∀ p,H p=none->Q (.ref p) (upd H p (.lst (gU xs lo hi)))):aGu K x lo hi H Q
def aL0(K:Ae):V->Option Int->Option Int->Hp->VK->Prop:=fun x lo hi H Q=>aGu K x lo hi H Q
def fV:SlR X (aL0 X.K):=by
 intro dl s σ H x v Y vu lo hi Z Q I W O pl U h;obtain⟨a,xs,rfl,hx,q⟩:=h;cases W;obtain⟨its,r,ht,hz⟩:=I.list hx;have J:=r.length;refine⟨"list",_,slot_list_getitem.lookup,ht.isList.typeIs,wpAny_getItem_list_slice ht.isList O pl U .none (by simp) ?_ (by rw[Au]<;>lia)⟩;rw[xZ,<- J];refine⟨.ref s.heap.objs.size,_,I.laid (t':=s.toks) (o:=.lst (gU xs lo hi)) (fun b ob q=>Ah _ q) (Ap _) ?_,rfl,q _ (I.hok.fresh (Ap _))⟩;exact⟨AH (uA xs lo hi) hz,_,0,(r.drop (HT.sIx xs.length 0 lo)).take (HT.sIx xs.length xs.length hi-HT.sIx xs.length 0 lo),AE _ rfl⟩
def iH:V->Bool
 | .non=>true
 | .bl _=>true
 | .int _=>true
 | .str _=>true
 | _=>false
def eqV:V->V->Bool
 | .non,.non=>true
 | .bl a,.bl b=>a==b
 | .bl a,.int b=>(if a then 1 else 0)==b
 | .int a,.bl b=>a==(if b then 1 else 0)
 | .int a,.int b=>a==b
 | .str a,.str b=>a==b
 | _,_=>false
def aC1{A:AK}{s:Ad}{y x:V}{u v:Ac}(U:cQ y u)(J:cQ x v)(W:iH y=true)(O:iH x=true):Gp A s u v (eqV y x):=by
 cases y with
 | non=>
  cases U;cases x with
  | non=>cases J;exact SeqAt.EqAt.same _
  | bl b=>cases J;exact SeqAt.EqAt.none_bool b
  | int b=>obtain⟨t,rfl⟩:=J;exact SeqAt.EqAt.none_int b t
  | str b=>obtain⟨t,rfl⟩:=J;exact SeqAt.EqAt.none_str b t
  | _=>exact absurd (show false=true from O) Aq
 | bl a=>
  cases U;cases x with
  | non=>cases J;exact SeqAt.EqAt.bool_none a
  | bl b=>cases J;exact SeqAt.EqAt.bool_bool a b
  | int b=>obtain⟨t,rfl⟩:=J;exact SeqAt.EqAt.bool_int a b t
  | str b=>obtain⟨t,rfl⟩:=J;exact SeqAt.EqAt.bool_str a b t
  | _=>exact absurd (show false=true from O) Aq
 | int a=>
  obtain⟨t',rfl⟩:=U;cases x with
  | non=>cases J;exact SeqAt.EqAt.int_none a t'
  | bl b=>cases J;exact SeqAt.EqAt.int_bool a t' b
  | int b=>obtain⟨t,rfl⟩:=J;exact SeqAt.EqAt.int_int a t' b t
  | str b=>obtain⟨t,rfl⟩:=J;exact SeqAt.EqAt.int_str a t' b t
  | _=>exact absurd (show false=true from O) Aq
 | str a=>
  obtain⟨t',rfl⟩:=U;cases x with
  | non=>cases J;exact SeqAt.EqAt.str_none a t'
  | bl b=>cases J;exact SeqAt.EqAt.str_bool a t' b
  | int b=>obtain⟨t,rfl⟩:=J;exact SeqAt.EqAt.str_int a t' b t
  | str b=>obtain⟨t,rfl⟩:=J;exact Fb a t' b t
  | _=>exact absurd (show false=true from O) Aq
 | _=>exact absurd (show false=true from W) Aq
def eqU(x:V)(u:Ac):Bool:=match u with
 | .none=>eqV .non x
 | .bool b=>eqV (.bl b) x
 | .int i _=>eqV (.int i) x
 | .str z _=>eqV (.str z) x
 | _=>false
def aGv{x y:V}{u:Ac}(r:cQ y u)(f:iH y=true):eqU x u=eqV y x:=by
 cases y with
 | non=>cases r;rfl
 | bl b=>cases r;rfl
 | int i=>obtain⟨t,rfl⟩:=r;rfl
 | str z=>obtain⟨t,rfl⟩:=r;rfl
 | _=>exact absurd (show false=true from f) Aq
theorem qS{x:V}:∀{xs:List V}{J:List Ac},cE xs J->xs.all iH=true->J.any (eqU x)=xs.any fun y=>eqV y x
 | _,_,.nil,_=>rfl
 | y::xs,u::J,.cons r t,f=>by
  rw[Di,Aw]at f;rw[EN,EN,aGv r f.1,qS t f.2]
theorem oC{A:AK}{s:Ad}{x:V}{v:Ac}(W:cQ x v)(U:iH x=true):∀{xs:List V}{O:List Ac},cE xs O->xs.all iH=true->∀ u∈O,Gp A s u v (eqU x u)
 | _,_,.nil,_=>fun u J=>by cases J
 | y::xs,u::O,.cons r t,f=>fun Y J=>by
  rw[Di,Aw]at f;rcases Ao.mp J with rfl|J
  .rw[aGv r f.1];exact aC1 r W f.1 U
  .exact oC W U t f.2 Y J
def inV(x:V)(xs:List V):Bool:=xs.any fun y=>eqV y x
inductive aJ8(K:Ae)(neg:Bool)(x:V)(y:V)(H:Hp)(Q:VK):Prop
 | mk (p:_) (xs:_) (q0:y=.ref p) (q1:(SqL K H p xs\/SqT K H p xs)) (q2:iH x=true) (q3:xs.all iH=true) (q4:Q (.bl (if neg then !inV x xs else inV x xs)) H):aJ8 K neg x y H Q
def rIn(K:Ae)(neg:Bool):R2:=fun x y H Q=>aJ8 K neg x y H Q
def gB:OpR X (compareOp .In) (rIn X.K false):=by
 intro dl s σ H x y v u Q I O U h;obtain⟨p,xs,rfl,J,fx,fs,q⟩:=h;cases U;rcases J with J|J
 .obtain⟨its,r,pl,hz⟩:=I.list J;refine SeqAt.in_listAt (eqU x) pl.isList (fun w hw=>oC O fx r fs w (by simpa using hw)) ⟨.bl _,H,I,rfl,?_⟩;rw[show its.toArray.any (eqU x)=its.any (eqU x) by simp,qS r fs];exact q
 .obtain⟨its,r,pl,hz⟩:=I.tuple J;refine SeqAt.in_tupleAt (eqU x) pl (fun w hw=>oC O fx r fs w (by simpa using hw)) ⟨.bl _,H,I,rfl,?_⟩;rw[show its.toArray.any (eqU x)=its.any (eqU x) by simp,qS r fs];exact q
def iB:OpR X (compareOp .NotIn) (rIn X.K true):=by
 intro dl s σ H x y v u Q I O U h;obtain⟨p,xs,rfl,J,fx,fs,q⟩:=h;cases U;rcases J with J|J
 .obtain⟨its,r,pl,hz⟩:=I.list J;refine SeqAt.notIn_listAt (eqU x) pl.isList (fun w hw=>oC O fx r fs w (by simpa using hw)) ⟨.bl _,H,I,rfl,?_⟩;rw[show its.toArray.any (eqU x)=its.any (eqU x) by simp,qS r fs];exact q
 .obtain⟨its,r,pl,hz⟩:=I.tuple J;refine SeqAt.notIn_tupleAt (eqU x) pl (fun w hw=>oC O fx r fs w (by simpa using hw)) ⟨.bl _,H,I,rfl,?_⟩;rw[show its.toArray.any (eqU x)=its.any (eqU x) by simp,qS r fs];exact q
inductive kY(x:V)(y:V)(H:Hp)(Q:VK):Prop
 | mk (i:_) (j:_) (q0:x=.str i) (q1:y=.str j) (q2:Q (.bl (!(!(Builtin.Str.occurrences j i 0 j.length 1).isEmpty))) H):kY x y H Q
def vR:V->V->Hp->VK->Prop:=fun x y H Q=>kY x y H Q
def aAA:OpR X (compareOp .NotIn) vR:=by
 intro dl s σ H x y v u Q I O J h;obtain⟨i,j,rfl,rfl,q⟩:=h;obtain⟨t,rfl⟩:=O;obtain⟨t',rfl⟩:=J;exact notIn_str ⟨.bl _,H,I,rfl,q⟩
inductive kZ(K:Ae)(xs:List V)(H:Hp)(Q:VK):Prop
 | mk (p:_) (ys:_) (q0:xs=[.ref p]) (q1:(SqL K H p ys\/SqT K H p ys)) (q2:Q (.int ys.length) H):kZ K xs H Q
def jH(K:Ae):List V->Hp->VK->Prop:=fun xs H Q=>kZ K xs H Q
def aS:gR X (.builtin "len") (jH X.K):=by
 intro dl s σ H xs U Q I r h;obtain⟨p,ys,rfl,O,q⟩:=h;obtain⟨u,rfl,rx⟩:=gS r;cases rx;have hn:=qC;rcases O with O|O
 .obtain⟨its,r',pl,hz⟩:=I.list O;have J:=r'.length;exact Calls.call_len_list pl.isList (by simp only[Au]<;>lia) ⟨.int ys.length,H,I.tok _,⟨s.toks+1,by rw[Au,J]⟩,q⟩
 .obtain⟨its,r',pl,hz⟩:=I.tuple O;have J:=r'.length;exact len_tuple pl (by simp only[Au]<;>lia) ⟨.int ys.length,H,I.tok _,⟨s.toks+1,by rw[Au,J]⟩,q⟩
inductive lA(xs:List V)(H:Hp)(Q:VK):Prop
 | mk (z:_) (q0:xs=[.str z]) (q1:z.length<=sizeLine) (q2:Q (.int z.length) H):lA xs H Q
def vS:List V->Hp->VK->Prop:=fun xs H Q=>lA xs H Q
def eQ:gR X (.builtin "len") vS:=by
 intro dl s σ H xs J Q I r h;obtain⟨z,rfl,hz,q⟩:=h;obtain⟨u,rfl,t,rfl⟩:=gS r;have hn:=qC;exact len_str (by lia) ⟨.int z.length,H,I.tok _,⟨_,rfl⟩,q⟩
inductive lC(K:Ae)(xs:List V)(H:Hp)(Q:VK):Prop
 | mk (p:_) (ys:_) (q0:xs=[.ref p]) (q1:(SqL K H p ys\/SqT K H p ys)) (q2:∀ l,H l=none->Q (.ref l) (upd H l (.lst ys))):lC K xs H Q
def vT(K:Ae):List V->Hp->VK->Prop:=fun xs H Q=>lC K xs H Q
def fT:gR X (.type "list") (vT X.K):=by
 intro dl s σ H xs us Q I r h;obtain⟨p,ys,rfl,Y,q⟩:=h;obtain⟨u,rfl,rx⟩:=gS r;cases rx;have W:∀(J:List Ac),cE ys J->ys.length<=sizeLine->∀(h':Bb) (U:Nat),(∀ b o',s.heap.get? b=some o'->h'.get? b=some o')->
   h'.get? s.heap.objs.size=some { cls:=.type "list",dict:=none,data:=.seq J.toArray U,slots:=#[] }->EP X dl σ Q (.ref s.heap.objs.size) { s with heap:=h' }:=fun J O hz h' U kp e=>
  ⟨.ref s.heap.objs.size,_,I.laid (t':=s.toks) kp (Ap _) (show cZ X.prog X.w _ h' _ (.lst ys) from⟨hz,J,U,O,e⟩),rfl,q _ (I.hok.fresh (Ap _))⟩
 rcases Y with Y|Y
 .obtain⟨J,O,pl,hz⟩:=I.list Y;have Z:=O.length;obtain⟨o,ho,hc,n,hd⟩:=pl.isList;exact call_list_seq p (.inl rfl) ho hc hd (fun h' U kp e=>W J O hz h' U kp e) (by simp only[Au]<;>lia)
 .obtain⟨J,O,pl,hz⟩:=I.tuple Y;have Z:=O.length;obtain⟨o,ho,hc,n,hd⟩:=pl;exact call_list_seq p (.inr rfl) ho hc hd (fun h' U kp e=>W J O hz h' U kp e) (by simp only[Au]<;>lia)
inductive jS(K:Ae)(xs:List V)(H:Hp)(Q:VK):Prop
 | mk (p:_) (ys:_) (q0:xs=[.ref p]) (q1:((SqL K H p ys/\∀ l,H l=none->Q (.ref l) (upd H l (.tup ys)))\/(SqT K H p ys/\Q (.ref p) H))):jS K xs H Q
def uO(K:Ae):List V->Hp->VK->Prop:=fun xs H Q=>jS K xs H Q
def cK:gR X (.type "tuple") (uO X.K):=by
 intro dl s σ H xs W Q I r h;obtain⟨p,ys,rfl,h⟩:=h;obtain⟨u,rfl,rx⟩:=gS r;cases rx;rcases h with⟨hq,q⟩|⟨hq,q⟩
 .obtain⟨its,r',pl,hz⟩:=I.list hq;have J:=r'.length;refine call_tuple_list pl.isList (fun h' kp=>?_) (by simp only[Au]<;>lia);have O:Inv X dl σ H { s with heap:=h' }:=I.kept (t':=s.toks) kp;have U:Inv X dl σ (upd H h'.objs.size (.tup ys)) { s with heap:=h'.push { cls:=.type "tuple",data:=.seq its.toArray } }:=
   O.laid (t':=s.toks) (fun b o e=>Ah _ e) (Ap _) (show cZ X.prog X.w _ _ _ (.tup ys) from⟨hz,its,r',⟨_,AE _ rfl,⟨rfl,_,rfl⟩,rfl⟩⟩)
  exact⟨.ref h'.objs.size,_,U,rfl,q _ (O.hok.fresh (Ap _))⟩
 .obtain⟨its,r',pl,hz⟩:=I.tuple hq;exact call_tuple_same pl ⟨.ref p,H,I,rfl,q⟩
def tyV(K:Ae)(T:String)(x:V)(H:Hp):Prop:=match x with
 | .str _=>T="str"
 | .int _=>T="int"
 | .ref p=>(T="list"/\∃ xs,SqL K H p xs)\/(T="tuple"/\∃ o,K.lookup p=some o/\o.cls=.type "tuple"/\o.dict=none)\/
   (T="dict"/\((∃ ee,H p=some (.dK ee))\/∃ ee,H p=some (.dT ee)))\/(T="set"/\∃ S n,H p=some (.set S n))\/(T="tuple"/\∃ xs,H p=some (.tup xs))
 | _=>False
def aGw{dl:Ii}{σ:St}{H:Hp}{s:Ad}{T:String}{x:V}{v:Ac}(I:Inv X dl σ H s)(r:cQ x v)(ty:tyV X.K T x H):
  s.TypeIs v T/\∀ a,v=.ref a->∃ ob,s.heap.get? a=some ob/\ob.dict=none:=by
 cases x with
 | str z=>
  obtain⟨t,rfl⟩:=r;cases(show T="str" from ty);exact⟨EO s z t,fun _ e=>nomatch e⟩
 | int i=>
  obtain⟨t,rfl⟩:=r;cases(show T="int" from ty);exact⟨typeIs_int s i t,fun _ e=>nomatch e⟩
 | ref p=>
  cases r;rcases ty with⟨rfl,xs,hq⟩|⟨rfl,o,hk,hc,hd⟩|⟨rfl,hk⟩|⟨rfl,S,n,hk⟩|⟨rfl,xs,hq⟩
  .obtain⟨its,_,pl,_⟩:=I.list hq;refine⟨pl.isList.typeIs,fun a e=>?_⟩;cases e;obtain⟨o,n,e,c,hd,_⟩:=pl;exact⟨o,e,hd⟩
  .refine⟨⟨o,I.kIn p o hk,hc⟩,fun a e=>?_⟩;cases e;exact⟨o,I.kIn _ o hk,hd⟩
  .have z:∃ o,s.heap.get? p=some o/\o.ExactDict:=by
    rcases hk with⟨ee,hk⟩|⟨ee,hk⟩
    .obtain⟨_,_,_,_,o,_,_,e,ex,_⟩:=I.hok p _ hk;exact⟨o,e,ex⟩
    .obtain⟨_,_,_,_,o,_,_,e,ex,_⟩:=I.hok p _ hk;exact⟨o,e,ex⟩
   obtain⟨o,e,ex⟩:=z;refine⟨⟨o,e,ex.1⟩,fun a e2=>?_⟩;cases e2;exact⟨o,e,ex.2.1⟩
  .obtain⟨o,_,_,_,e,ex,_⟩:=I.hok p _ hk;refine⟨⟨o,e,ex.1⟩,fun a e2=>?_⟩;cases e2;exact⟨o,e,ex.2.1⟩
  .obtain⟨_,_,_,o,e,⟨c,_⟩,hd⟩:=(show cZ X.prog X.w H s.heap p (.tup xs) from I.hok p _ hq)
   refine⟨⟨o,e,c⟩,fun a e2=>?_⟩;cases e2;exact⟨o,e,hd⟩
 | _=>exact BE ty
def aMX(K:Ae)(T:String)(r:V->List V->Hp->VK->Prop)(to:TE):TE:=fun σ H Q=>to σ H fun x H1=>tyV K T x H1/\r x [] H1 Q
def tBM(K:Ae)(T:String)(r:V->List V->Hp->VK->Prop)(to:TE)(t:TA):TE:=fun σ H Q=>to σ H fun x H1=>tyV K T x H1/\t σ H1 fun xs H2=>r x xs H2 Q
variable{o:Bf}{es:List Bf}{to:TE}{t:TA}{name:Str}{fe fc:Pos}{T id:String}{r:V->List V->Hp->VK->Prop}
def aKP(pa:PlainAttrs T)(slot:Slot T name id)(U:typeOf (.builtin id)=pure (.type "method_descriptor"))(hm:MtR X id r)(Y:PE X o to)
  (J:attributeBase o name X.env (eval o X.env)=eval o X.env:=by rfl) (O:(fe.endLine==fc.line)=true:=by rfl):PE X (.Call (.Attribute o name fe) [] [] fc) (aMX X.K T r to):=by
 constructor;intro dl s σ H Q I h;refine wpAny_Call_method0_late J O (thn (Y dl s σ H _ I h) fun v s1 ⟨x,H1,W,r1,ty,Z⟩=>?_);obtain⟨h1,h2⟩:=aGw W r1 ty;exact⟨T,id,pa,slot,U,h1,h2,E3 rfl (PySem.evalArgs_none (hm dl s1 σ H1 x [] v [] Q W r1 .nil Z))⟩
def eV(pa:PlainAttrs T)(slot:Slot T name id)(Y:typeOf (.builtin id)=pure (.type "method_descriptor"))(hm:MtR X id r)(ho:PE X o to)(ha:PA X (e::es) t)
  (O:attributeBase o name X.env (eval o X.env)=eval o X.env:=by rfl)
  (W:((backTo fc (starEach (e::es) X.env)).all (fun x=>!x.1)&&(backToKw fc (keywordEach [] X.env)).all (fun x=>x.1.isSome)
   && decide ((e::es).length+([]:List EK).length+(if ([]:List EK).isEmpty then 0 else 1)<30))=true:=by rfl)
  (U:(fe.endLine==fc.line)=true:=by rfl) (hs:starEach (e::es) X.env=(false,eval e X.env)::starEach es X.env:=by rfl) (J:(backTo fc (starEach es X.env)).any (·.1)=false:=by rfl):
  PE X (.Call (.Attribute o name fe) (e::es) [] fc) (tBM X.K T r to t):=by
 constructor;intro dl s σ H Q I h;refine wpAny_Call_method_late O W U rfl (thn (ho dl s σ H _ I h) fun v s1 ⟨x,H1,I1,r1,ty,q1⟩=>?_);obtain⟨h1,h2⟩:=aGw I1 r1 ty;refine⟨T,id,pa,slot,Y,h1,h2,?_⟩;have Z:=ha fc dl s1 σ H1 _ I1 q1;rw[hs]at Z ⊢;refine E3 (by show(false||(backTo fc (starEach es X.env)).any (·.1))=false;rw[J]<;>rfl) (Fe ?_)
 exact thn Z fun us s2 ⟨vs,H2,I2,r2,q2⟩=>hm dl s2 σ H2 x vs v us Q I2 r1 r2 q2
end
def MtM(X:Cx)(id:String)(r:V->List V->Hp->VK->Prop):Prop:=
 ∀(dl:Ii) (s:Ad) (σ:St) (H:Hp) (x:V) (xs:List V) (v:Ac) (us:List Ac) (Q:VK),Inv X dl σ H s->cQ x v->cE xs us->r x xs H Q->
  wpAny (model X.prog X.w) X.A (call (.builtin id) (v::us)) (EP X dl σ Q) X.xe s
def cE.one:∀{x:V}{J:List Ac},cE [x] J->∃ u,J=[u]/\cQ x u
 | _,_,.cons r .nil=>⟨_,rfl,r⟩
def cE.two{x y:V}{J:List Ac}(h:cE [x,y] J):∃ u v,J=[u,v]/\cQ x u/\cQ y v:=by
 cases h with|cons r h=>cases h with|cons q h=>cases h;exact⟨_,_,rfl,r,q⟩
theorem cE.eraseIdx:∀{xs:List V}{J:List Ac} (i:Nat),cE xs J->cE (xs.eraseIdx i) (J.eraseIdx i)
 | _,_,_,.nil=>.nil
 | _,_,0,.cons _ t=>t
 | _,_,i+1,.cons r t=>.cons r (cE.eraseIdx i t)
def cE.reverse{xs:List V}{J:List Ac}(h:cE xs J):cE xs.reverse J.reverse:=by
 induction h with
 | nil=>exact .nil
 | cons r t O=>rw[FV,FV];exact cE.append O (.cons r .nil)
theorem yQ{α:Type}:∀(l:List α) (i:Nat),(l.eraseIdx i).length<=l.length
 | [],_=>Ap _
 | _::_,0=>CU _
 | _::r,i+1=>Nat.succ_le_succ (yQ r i)
section
variable{l b:Ag}{xs ys zs:List V}
def Inv.lset{its its':List Ac}{n:Nat}{f:Array Ac->Array Ac}{t':Nat}(I:Inv X dl σ H s)(J:H l=some (.lst xs))
  (e:s.heap.get? l=some { cls:=.type "list",data:=.seq its.toArray n }) (W:f its.toArray=its'.toArray) (Y:cE ys its') (hz:ys.length<=sizeLine):
  Inv X dl σ (upd H l (.lst ys)) { s with heap:=s.heap.update l (Bx f),toks:=t' }:=by
 have q:=PySem.IsL.update e f;rw[W]at q;refine I.write (x:=l) (e:=l) (by rw[J];exact trivial) (.inl rfl) (fun Z u U O=>(BO s.heap (Bx f) (CY U)).trans O) ⟨_,q⟩ ?_;exact⟨hz,its',_,Y,q⟩
def Inv.lnew{its:List Ac}{t':Nat}(I:Inv X dl σ H s)(J:cE ys its)(hz:ys.length<=sizeLine):
  Inv X dl σ (upd H s.heap.objs.size (.lst ys)) { s with heap:=s.heap.push { cls:=.type "list",data:=.seq its.toArray },toks:=t' }:=
 I.laid (fun _ _ q=>Ah _ q) (Ap _) ⟨hz,its,0,J,AE _ rfl⟩
def Inv.fresh(I:Inv X dl σ H s):H s.heap.objs.size=none:=I.hok.fresh (Ap _)
def Inv.lstM(I:Inv X dl σ H s)(J:H l=some (.lst xs)):xs.length<=sizeLine/\∃(its:List Ac) (n:Nat),cE xs its/\xs.length=its.length/\s.heap.get? l=some { cls:=.type "list",data:=.seq its.toArray n }:=by
 obtain⟨z,its,n,r,e⟩:=I.hok l _ J;exact⟨z,its,n,r,r.length,e⟩
end
inductive yR(x:V)(vs:List V)(H:Hp)(Q:VK):Prop
 | mk (l:_) (xs:_) (y:_) (q0:x=.ref l) (q1:vs=[y]) (q2:H l=some (.lst xs)) (q3:xs.length<sizeLine) (q4:Q .non (upd H l (.lst (xs++[y])))):yR x vs H Q
def aI7:V->List V->Hp->VK->Prop:=fun x vs H Q=>yR x vs H Q
def gC:MtM X "list.append" aI7:=by
 intro dl s σ H x vs v U Q I O J h;obtain⟨l,xs,y,rfl,rfl,hH,hz,q⟩:=h;cases O;obtain⟨u,rfl,ru⟩:=J.one;obtain⟨z,its,n,r,hl,e⟩:=I.lstM hH;refine Fl F.slot_list_append ⟨_,e,rfl⟩ F.entry_list_append (F.args_list_append_2 _ _) (PySem.list_append l its.toArray n u (by rw[Au];lia)) ⟨e,?_⟩;refine⟨.non,_,I.lset (its':=its++[u]) hH e (by simp) (r.append (.cons ru .nil)) ?_,rfl,q⟩;rw[Am,D3];lia
inductive aBz(x:V)(vs:List V)(H:Hp)(Q:VK):Prop
 | mk (l:_) (xs:_) (i:_) (k:_) (y:_) (q0:x=.ref l) (q1:vs=[.int i]) (q2:H l=some (.lst xs)) (q3:-(2^63)<=i) (q4:i<2^63) (q5:seqIndex? i xs.length=some k) (q6:xs[k]?=some y) (q7:Q y (upd H l (.lst (xs.eraseIdx k)))):aBz x vs H Q
def aKQ:V->List V->Hp->VK->Prop:=fun x vs H Q=>aBz x vs H Q
def qT:MtM X "list.pop" aKQ:=by
 intro dl s σ H x vs v U Q I O J h;obtain⟨l,xs,i,k,y,rfl,rfl,hH,h1,h2,hk,hy,q⟩:=h;cases O;obtain⟨u,rfl,ru⟩:=J.one;obtain⟨t,rfl⟩:=ru;obtain⟨z,its,n,r,hl,e⟩:=I.lstM hH;obtain⟨w,hw,rw'⟩:=r.get hy;refine Fl F.slot_list_pop ⟨_,e,rfl⟩ F.entry_list_pop (F.args_list_pop_2 _ _)
  (MeetsSeq.list_pop_at l its.toArray n i t k w (fitsIndex_both h1 h2) (by rw[Au,<- hl];exact hk) (by rw[<- Array.getElem?_toList];exact hw) (by rw[Au];lia)) ⟨e,?_⟩
 refine⟨y,_,I.lset (its':=its.eraseIdx k) hH e ?_ (r.eraseIdx k) ?_,rw',q⟩
 .show its.toArray.eraseIdxIfInBounds k=(its.eraseIdx k).toArray;rw[List.eraseIdxIfInBounds_toArray]
 .have:=yQ xs k;lia
inductive aGx(x:V)(y:V)(H:Hp)(Q:VK):Prop
 | mk (l:_) (b:_) (xs:_) (zs:_) (q0:x=.ref l) (q1:y=.ref b) (q2:H l=some (.lst xs)) (q3:H b=some (.lst zs)) (q4:xs.length+zs.length<=sizeLine) (q5:∀ p,H p=none->Q (.ref p) (upd H p (.lst (xs++zs)))):aGx x y H Q
def aMY:R2:=fun x y H Q=>aGx x y H Q
def hV:OpR X (binaryOp .Add) aMY:=by
 intro dl s σ H x y v u Q I U O h;obtain⟨l,b,xs,zs,rfl,rfl,hH,hB,hz,q⟩:=h;cases U;cases O;obtain⟨z,its,n,r,hl,e⟩:=I.lstM hH;obtain⟨z2,its2,n2,r2,hl2,e2⟩:=I.lstM hB;refine PySem.P.add_list e e2 ?_ (by rw[Au,Au];lia);have J:its.toArray++its2.toArray=(its++its2).toArray:=by simp
 rw[J];exact⟨.ref _,_,I.lnew (t':=s.toks) (r.append r2) (by rw[Am];lia),rfl,q _ I.fresh⟩
section
variable{prog:Ar}{w:AW}
end
section
variable{κ:Type}[DecidableEq κ]
def gY(ee:List (κ×V))(k:κ):Option V:=(ee.find? fun kv=>decide (kv.1=k)).map (·.2)
def iL(ee:List (κ×V))(k:κ)(v:V):List (κ×V):=
 if (ee.any fun kv=>decide (kv.1=k))=true then ee.map (fun kv=>if kv.1=k then(kv.1,v) else kv) else ee++[(k,v)]
def aNi(ee:List (κ×V))(k:κ):List (κ×V):=ee.filter fun kv=>decide (kv.1≠k)
def vU{k:κ}:gY ([]:List (κ×V)) k=none:=rfl
def lE{p:κ×V}{r:List (κ×V)}{k:κ}(e:p.1=k):gY (p::r) k=some p.2:=by simp[gY,DI,e]
def cR{p:κ×V}{r:List (κ×V)}{k:κ}(e:¬ p.1=k):gY (p::r) k=gY r k:=by simp[gY,DI,e]
theorem vV(k:κ):∀ ee:List (κ×V),(ee.any fun J=>decide (J.1=k))=(gY ee k).isSome
 | []=>rfl
 | p::r=>by
  rw[EN];by_cases e:p.1=k
  .simp only[lE e,Ic e,Bool.true_or,Option.isSome_some]
  .rw[cR e,Ie e,Bool.false_or];exact vV k r
def oE(ee:List (κ×V))(k:κ)(v:V):(iL ee k v).length<=ee.length+1:=by
 unfold iL;split
 .rw[Ab];lia
 .rw[Am,An,El];lia
def vW{ee:List (κ×V)}{k:κ}(v:V)(h:gY ee k=none):iL ee k v=ee++[(k,v)]:=by
 unfold iL;rw[vV,h];exact Ia (by decide)
def pP.isSome_eq{o:Option V}{u:Option Ac}(r:pP o u):o.isSome=u.isSome:=by
 cases o with
 | none=>cases u with
  | none=>rfl
  | some _=>exact(show False from r).elim
 | some _=>cases u with
  | none=>exact(show False from r).elim
  | some _=>rfl
def pP.getD{o:Option V}{u:Option Ac}{d:V}{d':Ac}(r:pP o u)(rd:cQ d d'):cQ (o.getD d) (u.getD d'):=by
 cases o with
 | none=>cases u with
  | none=>exact rd
  | some _=>exact(show False from r).elim
 | some _=>cases u with
  | none=>exact(show False from r).elim
  | some _=>exact r
def KV.val{ee:List (κ×V)}{vs:List (κ×Ac)}(r:KV ee vs)(k:κ):pP (gY ee k) (valueAt vs k):=by
 unfold KV at r
 induction r with
 | nil=>exact Cw
 | @cons p q ps J h t U=>
  obtain⟨h1,h2⟩:=h;by_cases e:p.1=k
  .have O:q.1=k:=h1.symm.trans e;have b:valueAt (q::J) k=some q.2:=by simp[valueAt,DI,O]
   rw[lE e,b];exact h2
  .have O:¬ q.1=k:=fun z=>e (h1.trans z);have b:valueAt (q::J) k=valueAt J k:=by simp[valueAt,DI,O]
   rw[cR e,b];exact U
def KV.any{ee:List (κ×V)}{vs:List (κ×Ac)}(r:KV ee vs)(k:κ):(ee.any fun J=>decide (J.1=k))=vs.any fun J=>decide (J.1=k):=by
 unfold KV at r
 induction r with
 | nil=>rfl
 | cons h t O=>rw[EN,EN,O,h.1]
def KV.repl{ee:List (κ×V)}{vs:List (κ×Ac)}(r:KV ee vs)(k:κ){y:V}{u:Ac}(U:cQ y u):
  KV (ee.map fun J=>if J.1=k then(J.1,y) else J) (vs.map fun J=>if J.1=k then(J.1,u) else J):=by
 unfold KV at r ⊢
 induction r with
 | nil=>exact .nil
 | @cons p q ps W h t O=>
  rw[A6,A6];refine .cons ?_ O;obtain⟨h1,h2⟩:=h;by_cases e:p.1=k
  .rw[Ib e,Ib (h1.symm.trans e)];exact⟨h1,U⟩
  .rw[Ia e,Ia (fun z=>e (h1.trans z))];exact⟨h1,h2⟩
def KV.put{ee:List (κ×V)}{vs:List (κ×Ac)}(r:KV ee vs)(k:κ){y:V}{u:Ac}(J:cQ y u):KV (iL ee k y) (stored vs k u):=by
 unfold iL stored;rw[r.any k];by_cases e:(vs.any fun O=>decide (O.1=k))=true
 .rw[Ib e,Ib e];exact r.repl k J
 .rw[Ia e,Ia e];exact Paired.snoc r ⟨rfl,J⟩
def KV.length{ee:List (κ×V)}{vs:List (κ×Ac)}(r:KV ee vs):ee.length=vs.length:=Fq r
end
def uB{P:Ar}{w:AW}{k:Key}{u:Ac}(r:cQ (kV k) u):(cV P w).is k u=true:=by
 cases k with
 | inl i=>obtain⟨t,e⟩:=(show∃ t,u=BN i t from r);subst e;exact aBm P w i t
 | inr x=>obtain⟨t,e⟩:=(show∃ t,u=BG x t from r);subst e;exact aBn P w x t
theorem yS{P:Ar}{w:AW}:∀{ks:List Key}{J:List Ac},cE (ks.map kV) J->ItemsAre (cV P w) ks J
 | [],_,r=>by rw[DS]at r;cases r;exact .nil
 | k::ks,_,r=>by
  rw[A6]at r;cases r with
  | cons h t=>exact .cons (uB h) (yS t)
abbrev KT(H:Hp):List (List Key×V)->List (List Key×Ag×Ac)->Prop:=Gz fun p q=>p.1=q.1/\H q.2.1=some (.tup (p.1.map kV))/\cQ p.2 q.2.2
def KT.val{H:Hp}{ee:List (List Key×V)}{xs:List (List Key×Ag×Ac)}(r:KT H ee xs)(k:List Key):pP (gY ee k) ((atKey xs k).map (·.2)):=by
 induction r with
 | nil=>exact Cw
 | @cons p q ps J h t U=>
  obtain⟨h1,_,h2⟩:=h;by_cases e:p.1=k
  .have O:q.1=k:=h1.symm.trans e;have b:atKey (q::J) k=some q.2:=by simp[atKey,DI,O]
   rw[lE e,b];exact h2
  .have O:¬ q.1=k:=fun z=>e (h1.trans z);have b:atKey (q::J) k=atKey J k:=by simp[atKey,DI,O]
   rw[cR e,b];exact U
def KT.repl{H:Hp}{ee:List (List Key×V)}{xs:List (List Key×Ag×Ac)}(r:KT H ee xs)(k:List Key){y:V}{u:Ac}(U:cQ y u):
  KT H (ee.map fun J=>if J.1=k then(J.1,y) else J) (xs.map (putAt k u)):=by
 induction r with
 | nil=>exact .nil
 | @cons p q ps W h t O=>
  rw[A6,A6];refine .cons ?_ O;obtain⟨h1,h2,h3⟩:=h;unfold putAt;by_cases e:p.1=k
  .rw[Ib e,Ib (h1.symm.trans e)];exact⟨h1,h2,U⟩
  .rw[Ia e,Ia (fun z=>e (h1.trans z))];exact⟨h1,h2,h3⟩
def KT.put{H:Hp}{ee:List (List Key×V)}{xs:List (List Key×Ag×Ac)}(r:KT H ee xs)(k:List Key){b:Ag}{y:V}{u:Ac}(O:H b=some (.tup (k.map kV)))(J:cQ y u):
  KT H (iL ee k y) (storedH xs k b u):=by
 have e:(ee.any fun U=>decide (U.1=k))=(atKey xs k).isSome:=by
  rw[vV,(r.val k).isSome_eq,Option.isSome_map]
 unfold iL storedH;rw[e];by_cases q:(atKey xs k).isSome=true
 .rw[Ib q,Ib q];exact r.repl k J
 .rw[Ia q,Ia q];exact Paired.snoc r ⟨rfl,O,J⟩
def KT.keeps{H H':Hp}{ee:List (List Key×V)}{xs:List (List Key×Ag×Ac)}(r:KT H ee xs)(ht:∀ b ys,H b=some (.tup ys)->H' b=some (.tup ys)):KT H' ee xs:=
 Paired.mapP r fun _ _ z=>⟨z.1,ht _ _ z.2.1,z.2.2⟩
section
variable{P:Ar}{w:AW}{h:Bb}{a:Ag}
def aJ9{u:HO}(ok:HOk P w H h)(e:Rd H a u):cZ P w H h a u:=e.ok ok
def aBA{ee:List (Key×V)}(ok:HOk P w H h)(e:Rd H a (.dK ee)):ee.length<=sizeLine/\(a==sysModules)=false/\∃ vs,KV ee vs/\h.DictOf (cV P w) a vs:=
 show cZ P w H h a (.dK ee) from aJ9 ok e
def aGy{ee:List (Key×V)}(ok:HOk P w H h)(e:H a=some (.dK ee)):ee.length<=sizeLine/\(a==sysModules)=false/\∃ vs,KV ee vs/\h.DictOf (cV P w) a vs:=aBA ok (.inl e)
def aAB{ks:List Key}(ok:HOk P w H h)(e:H a=some (.tup (ks.map kV))):(tupleKind (cV P w)).is h ks a:=by
 obtain⟨_,its,r,o,h1,⟨h2,n,h3⟩,_⟩:=(show cZ P w H h a (.tup (ks.map kV)) from ok a _ e)
 exact⟨o,its.toArray,n,h1,h2,h3,by simpa using yS r⟩
def aBB{ee:List (List Key×V)}(ok:HOk P w H h)(e:Rd H a (.dT ee)):ee.length<=sizeLine/\(a==sysModules)=false/\
  ∃ xs,KT H ee xs/\h.DictOfH (tupleKind (cV P w)) a xs:=by
 obtain⟨z,y,xs,r,o,es,ep,h1,h2,h3,h4,h5⟩:=(show cZ P w H h a (.dT ee) from aJ9 ok e)
 refine⟨z,y,xs,r,o,es,ep,h1,h2,h3,h4,fun x J=>?_,h5⟩;have all:∀{l:List (List Key×V)} {m:List (List Key×Ag×Ac)},KT H l m->∀ x∈m,(tupleKind (cV P w)).is h x.1 x.2.1:=by
  intro l m q
  induction q with
  | nil=>intro x J;exact nomatch J
  | @cons p q ps W O t U=>
   intro x J;rcases Ao.mp J with e|J
   .subst e;exact aAB ok (by rw[<- O.1];exact O.2.1)
   .exact U x J
 exact all r x J
def aL1{ee:List (List Key×V)}(ok:HOk P w H h)(e:H a=some (.dT ee)):ee.length<=sizeLine/\(a==sysModules)=false/\
  ∃ xs,KT H ee xs/\h.DictOfH (tupleKind (cV P w)) a xs:=aBB ok (.inl e)
end
def sX(H:Hp)(a:Ag)(y:V)(r:Option V):Prop:=
 (∃ ee k,Rd H a (.dK ee)/\y=kV k/\r=gY ee k)\/∃ ee k b,Rd H a (.dT ee)/\y=.ref b/\H b=some (.tup (k.map kV))/\r=gY ee k
def aBC(H:Hp)(a:Ag)(y v:V)(H':Hp):Prop:=
 (∃ ee k,H a=some (.dK ee)/\y=kV k/\ee.length<sizeLine/\H'=upd H a (.dK (iL ee k v)))\/
 ∃ ee k b,H a=some (.dT ee)/\y=.ref b/\H b=some (.tup (k.map kV))/\ee.length<sizeLine/\H'=upd H a (.dT (iL ee k v))
def sX.k{H:Hp}{a:Ag}{ee:List (Key×V)}{k:Key}(e:H a=some (.dK ee)):sX H a (kV k) (gY ee k):=.inl ⟨ee,k,.inl e,rfl,rfl⟩
def aBC.k{H:Hp}{a:Ag}{ee:List (Key×V)}{k:Key}{v:V}(e:H a=some (.dK ee))(J:ee.length<sizeLine):aBC H a (kV k) v (upd H a (.dK (iL ee k v))):=.inl ⟨ee,k,e,rfl,J,rfl⟩
section
variable{a:Ag}{y v:V}{u r:Ac}{o:Option V}
def Inv.big(I:Inv X dl σ H s):sysModules<s.heap.objs.size:=by
 have h:mainGlobals<s.heap.objs.size:=(I.mod.glob.keeps I.bk).lt;exact DW (by decide) h
def aFl{Q:Ac->Ad->Prop}(U:A.units+1<cLine)(I:Inv X dl σ H s)(g:sX H a y (some v))(O:cQ y u)(h:∀ J s',Inv X dl σ H s'->cQ v J->Q J s'):
  wpAny (model X.prog X.w) A (getItem (.ref a) u) Q E s:=by
 rcases g with⟨ee,k,e,ey,l⟩|⟨ee,k,b,e,ey,eb,l⟩
 .subst ey;obtain⟨z,hd,vs,rel,dd⟩:=aBA I.hok e;obtain⟨J,hw,rw'⟩:=pP.some_of (v:=v) (o:=valueAt vs k) (by rw[l];exact rel.val k);exact wpAny_getItem_of (uB O) dd.mapOf hw (h J _ (I.tok _) rw')
 .subst ey;cases(show u=AV b from O);obtain⟨z,hd,xs,rel,dd⟩:=aBB I.hok e;obtain⟨J,hw,rw'⟩:=pP.some_of (v:=v) (o:=(atKey xs k).map (·.2)) (by rw[l];exact rel.val k)
  obtain⟨p,hp,hp2⟩:=BD.mp hw;refine wpAny_getItem_heap (Gb U) (aAB I.hok eb) dd hp ?_;rw[hp2];exact h J _ (I.tok _) rw'
def aAC{h':Bb}{t':Nat}{ob:HO}(I:Inv X dl σ H s)(W:Mut (H a))(O:DV a s.heap h')(J:∃ q,h'.get? a=some q)(new:cZ X.prog X.w (upd H a ob) h' a ob):
  Inv X dl σ (upd H a ob) { s with heap:=h',toks:=t' }:=
 I.write (x:=a) (e:=a) W (.inl rfl) (fun b q U z=>(O.2 b U).trans z) J new
def aGz{P:Ar}{w:AW}{H':Hp}{h':Bb}{ee:List (Key×V)}{vs:List (Key×Ac)}(z:ee.length<=sizeLine)(hd:(a==sysModules)=false)(rel:KV ee vs)(dd:h'.DictOf (cV P w) a vs):
  cZ P w H' h' a (.dK ee):=⟨z,hd,vs,rel,dd⟩
def aFm{H':Hp}{Q:Unit->Ad->Prop}(hu:A.units+1<cLine)(I:Inv X dl σ H s)(g:aBC H a y v H')(Y:cQ y u)(Z:cQ v r)(h:∀ s',Inv X dl σ H' s'->Q () s'):
  wpAny (model X.prog X.w) A (setItem (.ref a) u r) Q E s:=by
 rcases g with⟨ee,k,e,ey,l,eH⟩|⟨ee,k,b,e,ey,eb,l,eH⟩
 .subst ey eH;obtain⟨z,hd,vs,rel,dd⟩:=aGy I.hok e;have hz:vs.length<=sizeLine:=by rw[<- rel.length];exact z
  have O:(iL ee k v).length<=sizeLine:=by have:=oE ee k v;lia
  refine wpAny_setItem_pairs (hsz:=hz) (uB Y) dd fun h' J U=>h _ ?_;have he:∃ q,h'.get? a=some q:=let ⟨q,_,_,hq,_⟩:=J;⟨q,hq⟩
  exact aAC I (by rw[e];exact Cw) U he (aGz O hd (rel.put k Z) J)
 .subst ey eH;cases(show u=AV b from Y);obtain⟨z,hd,xs,rel,dd⟩:=aL1 I.hok e;have hz:xs.length<=sizeLine:=by rw[<- Fq rel];exact z
  have O:(iL ee k v).length<=sizeLine:=by have:=oE ee k v;lia
  refine wpAny_setItem_heap (hsz:=hz) (Gb hu) (aAB I.hok eb) dd fun h' J U=>h _ ?_;obtain⟨q,es,ep,hq,h2,h3,h4,_,h5⟩:=J;refine aAC I (by rw[e];exact Cw) U ⟨q,hq⟩ ⟨O,hd,_,(rel.put k eb Z).keeps fun c ys W=>?_,q,es,ep,hq,h2,h3,h4,h5⟩;rw[bE (aGa W e (fun z=>nomatch z))];exact W
end
section
variable{a:Ag}{ee:List (Key×V)}{k:Key}{u:Ac}
end
def aKR(i:Bf):Prop:=∀ ov iv,subscripted i false ov iv=operate [ov,iv] (getItem ov iv)
def aDW{prog:Ar}{w:AW}{A:AK}{E:Ac->Ad->Prop}{s:Ad}{env:Env}{value J:Bf}{pos:Pos}{T id:String}{Q:Ac->Ad->Prop}
  (hl:typeLookup (.type T) "__getitem__"=pure (some (.builtin id))) (hs:aKR J)
  (h:wpAny (model prog w) A (eval value env) (fun o Z=>wpAny (model prog w) A (eval J env) (fun i U=>U.TypeIs o T/\wpAny (model prog w) A (getItem o i) Q E U) E Z) E s):
  wpAny (model prog w) A (eval (.Subscript value J pos) env) Q E s:=by
 refine Hg (Bt h (fun o Z h₁=>Bt h₁ (fun i U W=>?_) fun _ _ x=>x) fun _ _ x=>x);obtain⟨hT,W⟩:=W;unfold subscriptTail;refine Aa ?_;rw[getitemInPython_of_ne hT.not_modules];refine Aa (Ez hT hl ?_);have O:wpAny (model prog w) A (subscripted J false o i) (fun r Y=>wpAny (model prog w) A (letTemporaryGo value o r >>= fun _=>pure r) Q E Y) E U:=by
  rw[hs o i];exact wpAny_operating (Bt W (fun r Y h₃=>Aa (wpAny_letTemporaryGo (Af h₃))) fun _ _ x=>x)
 first
  | exact Af (Aa O)
  | exact Aa (Af (Aa O))
  | exact Aa O
def aBD{X:Cx}{dl:Ii}{σ:St}{H:Hp}{s:Ad}{a:Ag}{y:V}{o:Option V}(I:Inv X dl σ H s)(g:sX H a y o):s.TypeIs (.ref a) "dict":=by
 rcases g with⟨ee,k,e,_,_⟩|⟨ee,k,b,e,_,_,_⟩
 .obtain⟨_,_,vs,_,dd⟩:=aBA I.hok e;exact dd.typeIs
 .obtain⟨_,_,xs,_,dd⟩:=aBB I.hok e;exact dd.typeIs
def aL2(td ty:TE):TE:=fun σ H Q=>td σ H fun x H1=>ty σ H1 fun y H2=>∃ a v,x=.ref a/\sX H2 a y (some v)/\Q v H2
def aL3(td ty tv:TE):TS:=fun D σ H=>tv σ H fun v H1=>td σ H1 fun x H2=>ty σ H2 fun y H3=>∃ a H4,x=.ref a/\aBC H3 a y v H4/\D.nx σ H4
section
variable{o i value:Bf}{ff tpos:Pos}{td ty tv:TE}
def qU(Y:X.A.units+1<cLine)(Z:PE X o td)(hi:PE X i ty)(W:aKR i):PE X (.Subscript o i pos) (aL2 td ty):=by
 constructor;intro dl s σ H Q I h;refine aDW PySem.F.slot_dict_getitem.lookup W (thn (Z dl s σ H _ I h) fun u s1 ⟨x,H1,I1,rx,q1⟩=>thn (hi dl s1 σ H1 _ I1 q1) fun iv s2 ⟨y,H2,O,ry,a,v,ex,g,q2⟩=>?_);subst ex;obtain rfl:u=AV a:=rx;exact⟨aBD O g,aFl Y O g ry fun w' s3 U J=>⟨v,H2,U,J,q2⟩⟩
def aAD(Z:X.A.units+1<cLine)(ho:PE X o td)(hi:PE X i ty)(hv:PE X value tv)(Y:swapsWith value (some (.Subscript o i ff)) pos.line X.env=pure false):
  PS X (.Assign [.Subscript o i ff] value pos) (aL3 td ty tv):=by
 constructor;intro dl s σ H D I h;refine wpAny_Assign_Subscript (thn (hv dl s σ H _ I h) fun r s1 ⟨v,H1,I1,rv,q1⟩=>thn (ho dl s1 σ H1 _ I1 q1) fun u s2 ⟨x,H2,J,rx,q2⟩=>thn (hi dl s2 σ H2 _ J q2) fun iv s3 ⟨y,H3,W,ry,a,H4,ex,g,O⟩=>?_) Y;subst ex;obtain rfl:u=AV a:=rx;exact aFm Z W g ry rv fun s4 U=>⟨σ,H4,U,O⟩
end
def aBE{P:Ar}{w:AW}{H:Hp}(h:Bb)(J:sysModules<h.objs.size):cZ P w H (h.push { cls:=.type "dict",data:=.dict #[] }) h.objs.size (.dK []):=
 ⟨A3 _,beq_eq_false_iff_ne.mpr (CY (AU J)),[],.nil,Heap.DictOf.new h⟩
def aKS:TE:=fun _ H Q=>∀ p,H p=none->Q (.ref p) (upd H p (.dK []))
def aGA:PE X (.Dict [] [] pos) aKS:=⟨fun dl s σ H Q I h=>
 wpAny_Dict_empty ⟨.ref s.heap.objs.size,_,I.laid (a:=s.heap.objs.size) (o:=.dK []) (t':=s.toks) (fun _ _ q=>Ah _ q) (Ap _) (aBE s.heap I.big),rfl,h _ (I.hok.fresh (Ap _))⟩⟩
def aC2:List (TE×TE)->St->Hp->(List (V×V)->Hp->Prop)->Prop
 | [],_,H,Q=>Q [] H
 | (tk,tv)::r,σ,H,Q=>tk σ H fun x H1=>tv σ H1 fun y H2=>aC2 r σ H2 fun ps H3=>Q ((x,y)::ps) H3
abbrev VV:List (V×V)->List (Ac×Ac)->Prop:=Gz fun p q=>cQ p.1 q.1/\cQ p.2 q.2
def PPs(X:Cx)(pos:Pos)(keys:List (Option Bf))(values:List Bf)(trs:List (TE×TE)):Prop:=
 ∀(dl:Ii) (s:Ad) (σ:St) (H:Hp) (Q:List (V×V)->Hp->Prop),Inv X dl σ H s->aC2 trs σ H Q->
  wpAny (model X.prog X.w) X.A (evalPairs (pairTrees keys values X.env pos)) (fun vs s'=>∃ ps H',Inv X dl σ H' s'/\VV ps vs/\Q ps H') X.xe s
def aAE{X:Cx}{pos:Pos}:PPs X pos [] [] []:=fun dl s σ H Q I h=>pairTrees_nil_walk ⟨[],H,I,.nil,h⟩
def gJ{X:Cx}{pos:Pos}{k v:Bf}{ks:List (Option Bf)}{vs:List Bf}{tk tv:TE}{J:List (TE×TE)}(Z:PE X k tk)(hv:PE X v tv)(U:PPs X pos ks vs J):
  PPs X pos (some k::ks) (v::vs) ((tk,tv)::J):=fun dl s σ H Q I h=>
 pairTrees_cons_walk (thn (Z dl s σ H _ I h) fun u s1 ⟨x,H1,I1,rx,q1⟩=>thn (hv dl s1 σ H1 _ I1 q1) fun w2 s2 ⟨y,H2,O,ry,q2⟩=>
  thn (U dl s2 σ H2 _ O q2) fun ws s3 ⟨ps,H3,Y,rel,W⟩=>⟨(x,y)::ps,H3,Y,.cons ⟨rx,ry⟩ rel,W⟩)
def oF(ee more:List (Key×V)):List (Key×V):=more.foldl (fun acc kv=>iL acc kv.1 kv.2) ee
def KV.merge:∀{J:List (Key×V)}{rs:List (Key×Ac)}{ee:List (Key×V)}{vs:List (Key×Ac)},KV J rs->KV ee vs->KV (oF ee J) (merged vs rs):=by
 intro J rs ee vs r;unfold KV at r
 induction r generalizing ee vs with
 | nil=>intro q;exact q
 | @cons p q ps U h t O=>
  intro r0;have e:KV (iL ee p.1 p.2) (stored vs q.1 q.2):=by
   have:=r0.put p.1 h.2;rw[<- h.1];exact this
  exact O e
theorem pT:∀(J ee:List (Key×V)),(oF ee J).length<=ee.length+J.length
 | [],ee=>by show ee.length<=ee.length+0;lia
 | p::r,ee=>by
  have h1:=pT r (iL ee p.1 p.2);have h2:=oE ee p.1 p.2;show(oF (iL ee p.1 p.2) r).length<=_;rw[An];lia
theorem vX{P:Ar}{w:AW}:∀{ee:List (Key×V)}{ws:List (Ac×Ac)},VV (ee.map fun J=>(kV J.1,J.2)) ws->∃ rs,Carries (cV P w) ws rs/\KV ee rs
 | [],_,r=>by rw[DS]at r;cases r;exact⟨[],Cw,.nil⟩
 | p::ee,_,r=>by
  rw[A6]at r;cases r with
  | @cons a b as bs h t=>
   obtain⟨rs,c,q⟩:=vX (P:=P) (w:=w) t;obtain⟨b1,b2⟩:=b;exact⟨(p.1,b2)::rs,⟨uB h.1,rfl,c⟩,.cons ⟨rfl,h.2⟩ q⟩
def aL4(trs:List (TE×TE)):TE:=fun σ H Q=>∀ p,H p=none->aC2 trs σ (upd H p (.dK [])) fun ps H2=>H2 p=some (.dK [])/\∃ ee:List (Key×V),ps=ee.map (fun kv=>(kV kv.1,kv.2))/\ee.length<=15/\Q (.ref p) (upd H2 p (.dK (oF [] ee)))
def aAF{X:Cx}{pos:Pos}{J:List (Option Bf)}{O:List Bf}{U:List (TE×TE)}(h:PPs X pos J O U)(Y:J.all (·.isSome)=true)(hl:J.length=O.length)(h0:J≠[])
  (Z:J.length<=15):PE X (.Dict J O pos) (aL4 U):=by
 constructor;intro dl s σ H Q I q;have hn:=I.hok.fresh (Ap s.heap.objs.size);have I1:=I.laid (a:=s.heap.objs.size) (o:=.dK []) (h':=s.heap.push { cls:=.type "dict",data:=.dict #[] }) (t':=s.toks) (fun _ _ q=>Ah _ q) (Ap _) (aBE s.heap I.big);refine wpAny_Dict_walk (knd:=cV X.prog X.w) Y hl h0 Z (thn (h dl _ σ _ _ I1 (q _ hn)) fun ws s2 ⟨ps,H2,I2,rel,e,ee,ep,lk,q2⟩=>?_);subst ep;obtain⟨rs,c,rk⟩:=vX (P:=X.prog) (w:=X.w) rel;obtain⟨z,hd,vs0,r0,dd⟩:=aGy I2.hok e;cases r0;refine⟨rs,c,dd,fun h' W hs=>⟨.ref s.heap.objs.size,_,?_,rfl,q2⟩⟩;have hz:(oF [] ee).length<=sizeLine:=by
  have h1:=pT ee [];rw[El]at h1;rw[D0];lia
 have he:∃ q,h'.get? s.heap.objs.size=some q:=let ⟨q,_,_,hq,_⟩:=W;⟨q,hq⟩
 exact aAC I2 (by rw[e];exact Cw) hs he (aGz hz hd (rk.merge .nil) W)
structure M1(X:Cx)(o:Bf)(m:Str)(fe:Pos)(e:Bf)(fc:Pos):Prop where
 base:attributeBase o m X.env (eval o X.env)=eval o X.env
 few:((backTo fc (starEach [e] X.env)).all (fun x=>!x.1)&&(backToKw fc (keywordEach [] X.env)).all (fun x=>x.1.isSome)
  && decide (([e]:List Bf).length+([]:List EK).length+(if ([]:List EK).isEmpty then 0 else 1)<30))=true
 line:(fe.endLine==fc.line)=true
 trees:backTo fc (starEach [e] X.env)=[(false,eval e X.env)]
structure M2(X:Cx)(o:Bf)(m:Str)(fe:Pos)(e f:Bf)(fc:Pos):Prop where
 base:attributeBase o m X.env (eval o X.env)=eval o X.env
 few:((backTo fc (starEach [e,f] X.env)).all (fun x=>!x.1)&&(backToKw fc (keywordEach [] X.env)).all (fun x=>x.1.isSome)
  && decide (([e,f]:List Bf).length+([]:List EK).length+(if ([]:List EK).isEmpty then 0 else 1)<30))=true
 line:(fe.endLine==fc.line)=true
 trees:backTo fc (starEach [e,f] X.env)=[(false,eval e X.env),(false,eval f X.env)]
def IsD(H:Hp)(a:Ag):Prop:=(∃ ee,Rd H a (.dK ee))\/∃ ee,Rd H a (.dT ee)
def aKT{X:Cx}{dl:Ii}{σ:St}{H:Hp}{s:Ad}{a:Ag}(I:Inv X dl σ H s)(d:IsD H a):
  s.TypeIs (.ref a) "dict"/\(∀ b,AV a=.ref b->∃ ob,s.heap.get? b=some ob/\ob.dict=none)/\(a==sysModules)=false:=by
 rcases d with⟨ee,e⟩|⟨ee,e⟩
 .obtain⟨_,hd,vs,_,dd⟩:=aBA I.hok e;refine⟨dd.typeIs,fun b q=>?_,hd⟩;cases q;obtain⟨ob,_,_,h1,h2,_⟩:=dd;exact⟨ob,h1,h2.2.1⟩
 .obtain⟨_,hd,xs,_,dd⟩:=aBB I.hok e;refine⟨dd.typeIs,fun b q=>?_,hd⟩;cases q;obtain⟨ob,_,_,h1,h2,_⟩:=dd;exact⟨ob,h1,h2.2.1⟩
section
variable{a:Ag}{y d:V}{u r:Ac}{o:Option V}
def aKU{Q:Ac->Ad->Prop}(U:A.units+1<cLine)(I:Inv X dl σ H s)(g:sX H a y o)(O:cQ y u)(rd:cQ d r)(h:∀ J s',Inv X dl σ H s'->cQ (o.getD d) J->Q J s'):
  wpAny (model X.prog X.w) A (call (.builtin "dict.get") [.ref a,u,r]) Q E s:=by
 rcases g with⟨ee,k,e,ey,l⟩|⟨ee,k,b,e,ey,eb,l⟩
 .subst ey;obtain⟨z,hd,vs,rel,dd⟩:=aBA I.hok e;refine call_meetsIn E2 dd.typeIs PySem.F.entry_dict_get (PySem.F.args_dict_get_3 _ _ _) (meets_dict_get_default (cV X.prog X.w) a (uB O) hd r) ⟨_,dd.mapOf,h _ _ (I.tok _) ?_⟩;rw[l];exact(rel.val k).getD rd
 .subst ey;cases(show u=AV b from O);obtain⟨z,hd,xs,rel,dd⟩:=aBB I.hok e;refine call_meetsIn E2 dd.typeIs PySem.F.entry_dict_get (PySem.F.args_dict_get_3 _ _ _) (meetsH_dict_get_default (tupleKind (cV X.prog X.w)) a b hd r) ⟨Gb U,k,xs,aAB I.hok eb,dd,h _ _ (I.tok _) ?_⟩;rw[l];exact(rel.val k).getD rd
end
def aKV(td ty tx:TE):TE:=fun σ H Q=>td σ H fun x H1=>∃ a,x=.ref a/\IsD H1 a/\ty σ H1 fun y H2=>tx σ H2 fun z H3=>∃ o,sX H3 a y o/\Q (o.getD z) H3
section
variable{o f:Bf}{fe fc:Pos}{td ty tx:TE}
def aBF(hu:X.A.units+1<cLine)(ho:PE X o td)(Z:PE X e ty)(hf:PE X f tx)(m:M2 X o "get" fe e f fc):PE X (.Call (.Attribute o "get" fe) [e,f] [] fc) (aKV td ty tx):=by
 constructor;intro dl s σ H Q I h;refine wpAny_Call_method m.base m.few m.line PySem.F.plainAttrs_dict E2 PySem.F.type_dict_get (thn (ho dl s σ H _ I h) fun u s1 ⟨x,H1,O,rx,a,ex,d,q1⟩=>?_);subst ex;obtain rfl:u=AV a:=rx;obtain⟨t1,t2,_⟩:=aKT O d;refine⟨t1,t2,?_⟩;rw[m.trees];refine E3 rfl (Fe (FN (thn (Z dl s1 σ H1 _ O q1) fun iv s2 ⟨y,H2,U,ry,q2⟩=>
  FN (thn (hf dl s2 σ H2 _ U q2) fun fv s3 ⟨z,H3,I3,rz,ov,g,W⟩=>Calls.spliced_nil ?_))))
 exact aKU hu I3 g ry rz fun w' s4 Y J=>⟨_,H3,Y,J,W⟩
end
section
variable{a:Ag}{ee:List (Key×V)}
end
section
variable{a:Ag}{y:V}{u:Ac}
end
end L2
namespace Att
open PySem PySem.W PySem.Calls PyProof.Rows
def uP{P:Params}{h:Bb}:∀(ns:List Int) (vs:List Ac),WellAll P h vs (ns.map WData.int)->HN vs ns:=by
 intro ns
 induction ns with
 | nil=>
  intro vs w;rw[DS]at w;cases w;exact .nil
 | cons n ns J=>
  intro vs w;rw[A6]at w;cases w with
  | cons a b=>
   cases a;exact .cons _ _ (J _ b)
def aFn{l:OpenLaw}{n:Nat}(hn:l.most=some n){P:Params}{h:Bb}{args:List WData}{J:List Ac}
  (O:l.row.toRowW.claim.pre args=true) (aa:WellAll P h J args):
  ∃ a vs ns,J=[AV a]/\args=[WData.list (ns.map WData.int)]/\h.get? a=some { cls:=.type "list",data:=.seq vs.toArray }/\HN vs ns/\ns.length<=n:=by
 have Z:WShape.hasAll [] args [.list .int]=true:=(pre_splitW O).1;have hc:l.pre.holds [] { args:=args }=true:=(pre_splitW O).2;obtain⟨d,r,rfl,h1,h2⟩:=hasAllW_cons Z;obtain rfl:=hasAllW_nil h2;obtain⟨xs,rfl,h3⟩:=hasW_list h1;obtain⟨ns,rfl⟩:=items_int h3;have W:ns.length<=n:=by
  unfold OpenLaw.pre at hc;have Y:(WTm.not (.lt (.lit (.int (n:Int))) (.len (.arg 0)))).holds [] { args:=[.list (ns.map .int)] }=true:=by
   have Y:=(holds_andW hc).1;rw[hn]at Y;exact Y
  have h5:=condW_of Y (w_not (w_lt w_lit (w_len_list (w_arg rfl))));rw[Ab]at h5;refine Nat.le_of_not_lt fun q=>?_;have q':(n:Int)<((ns.length:Nat):Int):=by lia
  first
   | (rw[Ic q']at h5;exact absurd h5 (by decide))
   | (simp at h5;lia)
 cases aa with
 | cons w1 w2=>
  cases w2;cases w1 with
  | list ho U=>exact⟨_,_,ns,rfl,rfl,ho,uP ns _ U,W⟩
def aFo(l:OpenLaw)(args:List WData):l.row.toRowW.claim.post args (.bool true) args=true:=
 postW_of (r:=l.row.toRowW) (X:=(true==true))
  (show WShape.has [] (.bool true) .bool=true by first|rfl|decide|simp[WShape.has,WShape.arms,WShape.armsAll])
  (show(WTm.eq .res (.lit (.bool true))).value [] { args:=args,res:=some (.bool true),after:=args }=some (.bool (true==true)) from w_eq_bool (w_res rfl) w_lit) rfl
def attach_call{l:OpenLaw}{n:Nat}{q:Ar}{J:List Str}{XP:(Str->Option Ac)->Bb->Prop}{YP:AW->Bb->Prop}{d:DefRec}
  (hn:l.most=some n) (ad:d.params.defaults=[])
  (call:∀(w:AW) (s₀ O:Ad) (mg mb:Str->Option Ac) (W:Ag) (o:Obj) (pm cd U:Ac) (a:Ag) (vs:List Ac) (ns:List Int),
   Ground q J [] XP w s₀ mg mb O.heap->YP w O.heap->
   O.heap.get? W=some o->o.data=.func (docDef d.name d.params d.body d.scope pm cd U)->O.heap.CodeRec cd d.name->mg d.name=some (.ref W)->
   O.heap.get? a=some { cls:=.type "list",data:=.seq vs.toArray }->HN vs ns->ns.length<=n->O.gens=#[]->
   codeAny (model l.prog w) callerA (.call (.ref W) ⟨[.ref a],[]⟩) (fun r s'=>r=.ok (.ret (.bool true))/\OldK O.heap s'.heap/\s'.os=O.os/\EL s'.gens) O):
  WalkO q J XP YP l.row.toRowW d [] (fun f vs=>Hq f vs):=by
 intro w s₀ O mg mb G Y W o pm cd U dV kV ho hd ae hD ac hg aj ai as Z ak am aa aq;obtain rfl:dV=.none:=Dflts.none hD ad;obtain rfl:kV=.none:=Dflts.noKw hD;obtain⟨a,vs,ns,rfl,rfl,hobj,hints,hlen⟩:=aFn hn Z aa;refine enter_call (C2 (call w s₀ O mg mb W o pm cd U a vs ns G Y ho (fd_plain hd) ae ac hobj hints hlen hg) fun r s' hq=>?_);obtain⟨rfl,h2,h3,h4⟩:=hq;exact⟨.inl ⟨.bool true,.bool true,[],rfl,fun _=>rfl,.bool true,aFo l _,fun _=>⟨Eh,fun _ hm=>(nomatch hm)⟩⟩,h2,h3,h4⟩
section
variable{prog:Ar}{w:AW}{A:AK}{E:Ac->Ad->Prop}{s:Ad}{K:Frag}
end
end Att
namespace L2
open PySem PySem.Spec PyProof.Rows
variable{P prog:Ar}{w:AW}{K:Ae}{mg:Str->Option Ac}{base h:Bb}{X:Cx}{dl:Ii}{σ:St}{H:Hp}{s:Ad}{A:AK}{E:Ac->Ad->Prop}{e:Bf}{te:TE}{pos:Pos}{es:List Bf}{f C:Ag}{qual:Str}{scope:CV}{cd:Ac}{outer:List Env}
theorem yT:∀{vs:List Ac}{ns:List Int},HN vs ns->cE (ns.map V.int) vs
 | _,_,.nil=>.nil
 | _,_,.cons n t h=>.cons ⟨t,rfl⟩ (yT h)
def aKW(H:Hp):Prop:=∀ b,H b=none\/∃ o xs,H b=some (.frz o (.lst xs))
def aGB{P:Ar}{w:AW}{K:Ae}{mg mb:Str->Option Ac}{CX:CXT}{k:Nat}{fa a:Ag}{fd:Ay}{x:Str}{sp:Sp}{J:Ad}{vs:List Ac}{ns:List Int}
  (KX:K.In J.heap) (ad:J.heap.Ns mainGlobals mg) (U:J.heap.Ns builtinsNs mb) (ag:∀ x:Str,x≠"__name__"->mb x=bootBuiltins x) (ae:J.heap.NoLimit) (hg:J.gens=#[])
  (ha:J.heap.get? a=some { cls:=.type "list",data:=.seq vs.toArray }) (hi:HN vs ns) (hl:ns.length<=sizeLine) (hr:eO k callerA)
  (F:∀ base:Bb,K.In base->base.Ns mainGlobals mg->cC P w K mg base CX k fa fd [x] sp) (Z:∀(s:Ad) (u:Ac),Gu s fd ⟨[u],[]⟩ [(x,u)])
  (an:∀ H:Hp,aKW H->SqL K H a (ns.map V.int)->sp [.ref a] H (fun v _=>v=.bl true) fun _ _ _=>False)
  (ak:∀ H e s',CX [] H J (fun _ _ _=>False) e s'->False):
  codeAny (model P w) callerA (.call (.ref fa) ⟨[.ref a],[]⟩) (fun r s'=>r=.ok (.ret (.bool true))/\OldK J.heap s'.heap/\s'.os=J.os/\EL s'.gens) J:=by
 have rv:=yT hi;have af:=hi.length;have Y:∀ H:Hp,aKW H->SqL K H a (ns.map V.int)->HOk P w H J.heap->(∀ b,H b≠none->b=a)->(H a≠none->K.lookup a=none)->
   codeAny (model P w) callerA (.call (.ref fa) ⟨[.ref a],[]⟩) (fun r s'=>r=.ok (.ret (.bool true))/\OldK J.heap s'.heap/\s'.os=J.os/\EL s'.gens) J:=by
  intro H hO hS hok hA hK;have O:∀{b:Ag} {o:Obj},J.heap.get? b=some o->H b=none->(aAr J.heap H).get? b=some o:=fun e n=>aGb e n;have am:∀{b:Ag} {o:Obj} {es:Array DictEntry} {ep:Nat},J.heap.get? b=some o->o.data=.dict es ep->H b=none:=fun{b o es ep} e d=>by
   cases q:H b with
   | none=>rfl
   | some u=>
    have e':b=a:=hA b (by rw[q];simp);subst e';rw[ha]at e;cases e;have d':Ei vs.toArray _=Data.dict es ep:=d;cases d'
  have W:∀{b:Ag} {m:Str->Option Ac},J.heap.Ns b m->(aAr J.heap H).Ns b m:=fun{b m} ⟨o,es,ep,e,d,r⟩=>⟨o,es,ep,O e (am e d),d,r⟩
  have ac:K.In (aAr J.heap H):=fun b o e=>O (KX b o e) (by
   cases q:H b with
   | none=>rfl
   | some u=>
    have e':b=a:=hA b (by rw[q];simp);subst e';rw[hK (by rw[q];simp)]at e;cases e)
  have hM:Mod K mg (aAr J.heap H):=⟨ac,W ad,⟨mb,W U,ag⟩,let ⟨mc,h1,h2⟩:=ae;⟨mc,W h1,h2⟩⟩
  have e0:aBw P w K mg (aAr J.heap H) callerA [] J H:=⟨rfl,hM,fun b o e=>aIU e,DA (aFd _ _),trivial,fun b U=>absurd (show b∈([]:List Ag) from U) (by simp),hok,.of_eq hg⟩
  refine C2 ((F _ ac (W ad)).run callerA [] J H ⟨[.ref a],[]⟩ [.ref a] [.ref a] _ _ hr e0 (Z J (.ref a)) (.cons rfl .nil) (an H hO hS)) fun r s' h=>?_;cases r with
  | error e=>exact(ak H e s' h).elim
  | ok fl=>
   cases fl with
   | next=>exact BE h
   | brk=>exact BE h
   | cont=>exact BE h
   | ret u=>
    have⟨v,H',os,bare,un,hok',r',q⟩:=h;have q':v=.bl true:=q;subst q';obtain rfl:u=Gn true:=r';refine⟨rfl,OldK.of_keep fun b o e=>?_,os,bare⟩;cases q:H b with
    | none=>exact un.keep b o e q (by intro z;exact absurd (show b∈([]:List Ag) from z) (by simp)) (by simp)
    | some u=>
     rcases hO b with z|⟨ob,xs,z⟩
     .rw[q]at z;cases z
     .have z2:=un.frzs b ob _ z;obtain⟨e1,_⟩:=hok b _ z;obtain⟨e2,_⟩:=hok' b _ z2;rw[e]at e1;cases e1;exact e2
 cases hk:K.lookup a with
 | some o=>
  have e:=KX a o hk;rw[ha]at e;cases e;refine Y (fun _=>none) (fun _=>.inl rfl) (.inr ⟨_,vs.toArray,_,hk,rfl,rfl,rfl,by rw[Au,af];exact hl,by simpa using rv⟩) (fun b u z=>by have z':(none:Option HO)=some u:=z;cases z') (fun b z=>absurd rfl z) fun z=>absurd rfl z
 | none=>
  refine Y (fun b=>if b=a then some (.frz { cls:=.type "list",data:=.seq vs.toArray } (.lst (ns.map V.int))) else none) (fun b=>?_) (.inl (.inr ⟨{ cls:=.type "list",data:=.seq vs.toArray },Ib rfl⟩)) (fun b u z=>?_) (fun b z=>?_) fun _=>hk
  .by_cases U:b=a
   .exact .inr ⟨_,_,Ib U⟩
   .exact .inl (Ia U)
  .by_cases U:b=a
   .have z':=(Ib U).symm.trans z;cases z';subst U;exact⟨ha,by rw[Ab];exact hl,vs,_,rv,ha⟩
   .have z':=(Ia U).symm.trans z;cases z'
  .by_cases U:b=a
   .exact U
   .exact absurd (Ia U) z
abbrev KOf{K:Ae}{h:Bb}(_:K.In h):Ae:=K
def walk_of{l:FZ}{n k:Nat}{q:Ar}{O:List Str}{XP:(Str->Option Ac)->Bb->Prop}{YP:AW->Bb->Prop}{d:DefRec}{K:Params->Ae}{CX:AW->CXT}{sp:AW->Sp}{x:Str}
  (hn:l.most=some n) (ac:n<=sizeLine) (ae:d.params.defaults=[]) (hr:eO k callerA)
  (hY:∀(w:AW) (h:Bb),YP w h->(K w.params).In h)
  (F:∀(w:AW) (mg:Str->Option Ac) (fa:Ag) (h:Bb),(K w.params).In h->h.Ns mainGlobals mg->mg d.name=some (.ref fa)->
   ∃ fd:Ay,(∀(s:Ad) (u:Ac),Gu s fd ⟨[u],[]⟩ [(x,u)])/\
    ∀ base:Bb,(K w.params).In base->base.Ns mainGlobals mg->cC l.prog w (K w.params) mg base (CX w) k fa fd [x] (sp w))
  (ag:∀(w:AW) (H:Hp) (a:Ag) (ns:List Int),ns.length<=n->aKW H->SqL (K w.params) H a (ns.map V.int)->sp w [.ref a] H (fun v _=>v=.bl true) fun _ _ _=>False)
  (af:∀(w:AW) (H:Hp) (s:Ad) (e:Ac) (s':Ad),CX w [] H s (fun _ _ _=>False) e s'->False):
  PySem.W.WalkO q O XP YP l.row.toRowW d [] (fun f vs=>Hq f vs):=by
 refine Att.attach_call hn ae fun w s₀ s₁ mg mb fa o pm cd an a vs ns G Y ho hd aq ad Z U J hg=>?_;have KX:=hY w _ Y;obtain⟨fd,hb,hF⟩:=F w mg fa _ KX G.T.g ad;exact aGB KX G.T.g G.T.b G.T.builtins G.T.nolimit hg Z U (AH J ac) hr hF hb (fun H hO hS=>ag w H a ns J hO hS) fun H e s'=>af w H s₁ e s'
def aI8(s:BA)(j:Nat):BA:=match s with
 | .ClassDef _ _ _ body _ _ _ _ _ _ _=>body.getD j (.Pass ⟨0,0,0,0⟩)
 | _=>.Pass ⟨0,0,0,0⟩
def fU(s:BA):Arguments:=match s with
 | .FunctionDef _ a _ _ _ _ _ _ _ _=>a
 | _=>{ posonlyargs:=[],args:=[],vararg:=none,kwonlyargs:=[],kw_defaults:=[],kwarg:=none,defaults:=[] }
def dZ(s:BA):List BA:=match s with
 | .FunctionDef _ _ b _ _ _ _ _ _ _=>b
 | _=>[]
def bC(s:BA):CV:=match s with
 | .FunctionDef _ _ _ _ _ _ sc _ _ _=>sc
 | _=>{ kind:=.function,names:=[],isGenerator:=false,isCoroutine:=false }
abbrev CX0:CXT:=fun _ _ _ _ _ _=>False
abbrev E0:XK:=fun _ _ _=>False
def oG{X:Cx}:aAx CX0 X E0:=fun _ _ _ _ _ _ _ h=>h.elim
structure Fun(K:Ae)(x qual:Str)(st:BA)(f:Ag)(fd:Ay):Prop where
 ex:∃(oc:Ac) (od:Option Ag) (kV doc pm:Ac) (an:Option Ag) (cdv ct:Ac) (osl:Array (Option Ac)),
  fd=BC x qual (fU st) (dZ st) (bC st) .none kV doc pm an cdv ct/\K.lookup f=some ⟨oc,od,.func fd,osl⟩/\BP K cdv qual=true
 kp:AS K (.ref f)=true
def Fun.ok{x qual:Str}{st:BA}{f:Ag}{fd:Ay}{N ps:List Str}{k:Nat}{sp:Sp}(F:Fun K x qual st f fd)(S:mG N ps (bC st))(len:∀ vs H Q E,sp vs H Q E->vs.length=ps.length)
  (O:∀(J:Ac) (A:AK) (outer:List Env) (s:Ad) (H:Hp) (vs:List V) (Q:VK) (E:XK),eO k (A.deeper (envOfC qual (bC st) s.heap.objs.size f J))->sp vs H Q E->
   ∃ t,PSs (iV CX0 P w K mg base N qual (bC st) f J A outer s H E).nox (dZ st) t/\t { nx:=fun _ H'=>Q .non H',rt:=Q } (start N vs) H):cC P w K mg base CX0 (k+1) f fd ps sp:=by
 obtain⟨oc,od,kV,doc,pm,an,J,ct,osl,rfl,lk,hcd⟩:=F.ex;refine aJ7 lk hcd S len fun A outer s H vs Q E W U=>?_;obtain⟨t,h,q⟩:=O J A outer s H vs Q E W U;exact⟨t,h.nox,q⟩
def Fun.binds{x qual:Str}{st:BA}{f:Ag}{fd:Ay}{ps:List Str}(F:Fun K x qual st f fd)
  (h:∀(kV J Y:Ac) (W:Option Ag) (O ct:Ac) (U:List Ac),U.length=ps.length->bindArgs (BC x qual (fU st) (dZ st) (bC st) .none kV J Y W O ct) ⟨U,[]⟩=pure (ps.zip U)):dY K fd ps []:=by
 obtain⟨oc,od,kV,J,Y,W,O,ct,osl,rfl,lk,hcd⟩:=F.ex;exact .all (h kV J Y W O ct)
def jI{x qual:Str}{st:BA}{f:Ag}{Z:Ac}{od W:Option Ag}{U:Array (Option Ac)}{kV O Y J ct:Ac}(l:K.lookup f=some ⟨Z,od,.func (BC x qual (fU st) (dZ st) (bC st) .none kV O Y W J ct),U⟩)
  (c:BP K J qual=true) (k:AS K (.ref f)=true):Fun K x qual st f (BC x qual (fU st) (dZ st) (bC st) .none kV O Y W J ct):=⟨⟨Z,od,kV,O,Y,W,J,ct,U,rfl,l,c⟩,k⟩
def qV{A:AK}{k:Nat}(J:eO k A):A.units+1<cLine:=ED (Nat.add_le_add_left (by decide:1<=64) _) J.units
def fM{n:Nat}(h:n<=1000):n<sizeLine:=ED h (by decide)
def pv(i:Nat){x:Str}{pos:Pos}(hN:X.N[i]?=some x:=by rfl)(O:Vis X.env.scope x:=by first|exact Bp rfl|exact FU (Bp rfl)|exact FU (FU rfl))(hd:(x==("__debug__":Str))=false:=by decide)
  (J:(x==("__classdict__":Str))=false:=by decide):PE X (.Name x pos) (xY i):=aKD hN O hd J
def bQ{A B:Prop}(h:B):if false=true then A else B:=by
 rw[Ia Aq];exact h
def bF{A B:Prop}(h:A):if true=true then A else B:=by
 rw[Ib rfl];exact h
def dH{c A B:Prop}[Decidable c](h1:c->A)(h2:¬ c->B):if c then A else B:=by
 by_cases h:c
 .rw[Ib h];exact h1 h
 .rw[Ia h];exact h2 h
def aU(H H':Hp):Prop:=∀ b o,H b=some o->H' b=some o
def aU.refl(H:Hp):aU H H:=fun _ _ h=>h
def aU.trans{H H1 H2:Hp}(a:aU H H1)(b:aU H1 H2):aU H H2:=fun c o h=>b c o (a c o h)
def aU.seq{K:Ae}{H H':Hp}{a:Ag}{xs:List V}(e:aU H H')(h:SqL K H a xs):SqL K H' a xs:=by
 rcases h with(h|⟨o,h⟩)|h
 .exact .inl (.inl (e _ _ h))
 .exact .inl (.inr ⟨o,e _ _ h⟩)
 .exact .inr h
section
variable{κ:Type}[DecidableEq κ]
end
def Inv.track{D:Ag}{ob:HO}(I:Inv X dl σ H s)(U:nS X dl H D)(new:cZ X.prog X.w (upd H D ob) s.heap D ob):Inv X dl σ (upd H D ob) s:=by
 obtain⟨hn,hL,hfs,hex,hce,hpi⟩:=U;have J:∀ b u,H b=some u->b≠D:=fun b u e=>aZ e hn;refine I.step (g':=s.gens) (t':=s.toks) (d':=s.drawn) (h':=s.heap) (H':=upd H D ob) (ch:=[D]) (fun b O=>?_) (fun b o _ _ _ e _=>e) (fun b o _ _ _ e _=>⟨o.slots,e⟩) (fun b o hc e n=>?_)
  (fun b o _ e=>⟨o,e⟩) (fun b xs e=>by rw[bE (J b _ e)];exact e) (fun b o u e=>by rw[bE (J b _ e)];exact e) (fun b ps e=>⟨#[],by rw[bE (J b _ e),e];simp⟩) (fun m hm=>hm) (fun b u e=>?_) I.bare
 .have e:b=D:=by simpa using O
  subst e;exact⟨hex,hL,hce,hpi⟩
 .rw[bE (fun z=>hc (by simp[z]))];exact n
 .by_cases O:b=D
  .subst O;rw[aH]at e;cases e;exact new
  .rw[bE O]at e;exact(I.hok b u e).stay (fun c v _ q=>q) (fun c q=>by rw[bE (J c _ q)];exact q) fun c xs q=>by rw[bE (J c _ q)];exact q
def iS(env:Env):List (Str×Ec)->List (Str×Ag)->List (Str×Ag)
 | [],cs=>cs
 | (n,k)::r,cs=>iS env r (if k=.free then(match env.cells.lookup n with|some c=>(n,c)::cs|none=>cs) else cs)
theorem vY{α β:Type}(f:α->β->Sem (ForInStep β))(g:α->β->β):∀(l:List α) (b:β),(∀ y∈l,∀ b,f y b=pure (.yield (g y b)))->(forIn l b f:Sem β)=pure (l.foldl (fun b y=>g y b) b)
 | [],b,_=>rfl
 | a::r,b,h=>by
  rw[Em,h a AQ b];exact vY f g r (g a b) fun y J=>h y (AN _ J)
def yU(env:Env)(y:Str×Ec)(cs:List (Str×Ag)):List (Str×Ag):=if y.2=.free then(match env.cells.lookup y.1 with|some c=>(y.1,c)::cs|none=>cs) else cs
theorem vZ(env:Env):∀(l:List (Str×Ec)) (J:List (Str×Ag)),l.foldl (fun b y=>yU env y b) J=iS env l J
 | [],J=>rfl
 | (n,k)::r,J=>by
  rw[Gj,vZ env r];rfl
def qW{scope:CV}{env:Env}(h:∀ y∈scope.names,y.2=.free->∃ c,env.cells.lookup y.1=some c):closureFor scope env=pure (iS env scope.names []):=by
 simp only[closureFor];rw[vY _ (yU env) scope.names [] (fun y O b=>?_)]
 .rw[vZ];rfl
 .obtain⟨n,k⟩:=y;by_cases J:k=.free
  .obtain⟨c,hc⟩:=h (n,k) O J;subst J;have e:cellOf env n=pure c:=by unfold cellOf;rw[hc]
   have e2:yU env (n,Br) b=(n,c)::b:=by unfold yU;rw[Ib rfl,hc]
   simp only[e,e2];rfl
  .have e:(k==Br)=false:=by simpa using J
   have e2:yU env (n,k) b=b:=by unfold yU;rw[Ia J]
   simp only[e,e2,Bool.false_eq_true,if_false]
theorem sY{env:Env}:∀(l:List (Str×Ec)) (J:List (Str×Ag)),(∀ x c,J.lookup x=some c->env.cells.lookup x=some c)->∀ x c,(iS env l J).lookup x=some c->env.cells.lookup x=some c
 | [],J,h,x,c,e=>h x c e
 | (n,k)::r,J,h,x,c,e=>by
  unfold iS at e;refine sY r _ (fun x c e=>?_) x c e;by_cases U:k=.free
  .rw[Ib U]at e;cases hc:env.cells.lookup n with
   | none=>rw[hc]at e;exact h x c e
   | some d=>
    rw[hc]at e;by_cases O:x=n
    .subst O;simp at e;rw[<- e];exact hc
    .have:(x==n)=false:=by simpa using O
     rw[BI,this]at e;exact h x c e
  .rw[Ia U]at e;exact h x c e
theorem sZ{env:Env}:∀(l:List (Str×Ec)) (J:List (Str×Ag)) (x:Str),(∀ y∈l,y.2=.free->∃ c,env.cells.lookup y.1=some c)->((∃ c,J.lookup x=some c)\/(x,Br)∈l)->∃ c,(iS env l J).lookup x=some c
 | [],J,x,_,h=>by
  rcases h with h|h
  .exact h
  .simp at h
 | (n,k)::r,J,x,hc,h=>by
  unfold iS;refine sZ r _ x (fun y W=>hc y (AN _ W)) ?_;rcases h with⟨c,h⟩|h
  .refine .inl ?_;split
   .split
    .rename_i d _;by_cases U:x=n
     .subst U;exact⟨d,by simp⟩
     .have:(x==n)=false:=by simpa using U
      exact⟨c,by rw[BI,this];exact h⟩
    .exact⟨c,h⟩
   .exact⟨c,h⟩
  .rcases Ao.mp h with h|h
   .cases h;obtain⟨d,hd⟩:=hc (n,Br) AQ rfl;refine .inl ⟨d,?_⟩;rw[Ib rfl];have O:env.cells.lookup n=some d:=hd;rw[O];simp
   .exact .inr h
theorem wA{env : Env} : ∀{names : List (Str×Ec)}{x : Str}, (∀ y∈names, y.2≠.cell) ->
    ((names.map fun(n, k) => if (k==Br&&env.scope.kind==.function&&env.kindOf n==some .cell) then(n, DY) else(n, k)).lookup x = some .cell \/
     (names.map fun(n, k) => if (k==Br&&env.scope.kind==.function&&env.kindOf n==some .cell) then(n, DY) else(n, k)).lookup x = some .free) -> names.lookup x = some .free
  | [], x, _, h => by simp at h
  | (n, k)::r, x, hc, h => by
    have U := @wA env r x fun y Y => hc y (AN _ Y);have W := hc (n, k) AQ;rw[A6]at h;by_cases O : x = n
    . subst O
      rw[BI, beq_self_eq_true];simp only;by_cases J : (k==Br&&env.scope.kind==.function&&env.kindOf x==some .cell) = true
      . have : (k==Br) = true := by
          rw[Aw, Aw]at J;exact J.1.1
        simpa using this
      . simp only[Ia J, BI, beq_self_eq_true]at h
        rcases h with h|h
        . exact absurd (BS.inj h) W
        . exact h
    . have e : (x==n) = false := by simpa using O
      rw[BI, e];refine U ?_;by_cases J : (k==Br&&env.scope.kind==.function&&env.kindOf n==some .cell) = true
      . simp only[Ib J, BI, e]at h
        exact h
      . simp only[Ia J, BI, e]at h
        exact h
theorem qX{env : Env} : ∀{names : List (Str×Ec)}{x : Str}, names.lookup x = some .free ->
    ((names.map fun(n, k) => if (k==Br&&env.scope.kind==.function&&env.kindOf n==some .cell) then(n, DY) else(n, k)).lookup x = some .cell \/
     (names.map fun(n, k) => if (k==Br&&env.scope.kind==.function&&env.kindOf n==some .cell) then(n, DY) else(n, k)).lookup x = some .free)
  | [], x, h => by simp at h
  | (n, k)::r, x, h => by
    have U := @qX env r x;rw[A6];by_cases O : x = n
    . subst O
      rw[BI, beq_self_eq_true]at h;simp only at h;cases h;by_cases J : (Br==Br&&env.scope.kind==.function&&env.kindOf x==some .cell) = true
      . refine .inl ?_
        show Fj x ((if (Br==Br&&env.scope.kind==.function&&env.kindOf x==some .cell) = true then(x, DY) else(x, Br))::_) = _;rw[Ib J, BI, beq_self_eq_true]
      . refine .inr ?_
        show Fj x ((if (Br==Br&&env.scope.kind==.function&&env.kindOf x==some .cell) = true then(x, DY) else(x, Br))::_) = _;rw[Ia J, BI, beq_self_eq_true]
    . have e : (x==n) = false := by simpa using O
      rw[BI, e]at h;have := U h;by_cases J : (k==Br&&env.scope.kind==.function&&env.kindOf n==some .cell) = true
      . simp only[Ib J, BI, e]
        exact this
      . simp only[Ia J, BI, e]
        exact this
def blk(X:Cx)(N:List Str)(scope:CV)(cl:List (Str×Ag))(s:Ad)(H:Hp)(fp:List Ag)(dl:Ii)(C:Ag):Cx where
 prog:=X.prog
 w:=X.w
 K:=X.K
 mg:=X.mg
 base:=X.base
 A:=X.A
 N:=N
 s₀:=s
 H₀:=H
 env:=compEnvC scope cl C X.env
 outer:=X.stack
 stack:=X.stack
 ex:=fp
 fn:=fun _=>false
 calm:=X.calm
 pn:=X.pn++dl
 xe:=fun _ _=>False
def aDX(N:List Str)(src:List (Option Nat))(scope:CV)(oN:List Str):Bool:=
 (N.zip src).all fun p=>match p.2 with|none=>true|some j=>(oN[j]?==some p.1)&&(scope.names.lookup p.1==some .free)
structure BlkOk(N:List Str)(src:List (Option Nat))(scope osc:CV)(oN:List Str):Prop where
 kind:scope.kind=.function
 nocell:∀ y∈scope.names,y.2≠.cell
 names:∀ y∈scope.names,y.2=.local->scope.names.lookup y.1=some .local
 fr:∀ y∈scope.names,y.2=.free->osc.names.lookup y.1=some .cell\/osc.names.lookup y.1=some .free
 len:src.length=N.length
 srcs:aDX N src scope oN=true
def sub(src:List (Option Nat))(σ:St):St:=src.map fun o=>match o with|none=>none|some j=>(σ[j]?).getD none
def aGC{N:List Str}{src:List (Option Nat)}{scope:CV}{oN:List Str}(h:aDX N src scope oN=true){i j:Nat}{x:Str}(h1:N[i]?=some x)(h2:src[i]?=some (some j)):oN[j]?=some x/\scope.names.lookup x=some .free:=by
 have hm:(x,some j)∈N.zip src:=by
  refine AG (i:=i) ?_;rw[List.getElem?_zip_eq_some];exact⟨h1,h2⟩
 have:=AR.mp h _ hm;simp only[Aw,beq_iff_eq]at this;exact this
def aKX{src:List (Option Nat)}{σ:St}{i:Nat}{v:V}(h:(sub src σ)[i]?=some (some v)):∃ j,src[i]?=some (some j)/\σ[j]?=some (some v):=by
 unfold sub at h;rw[AF]at h;cases e:src[i]? with
 | none=>rw[e]at h;simp at h
 | some o=>
  rw[e]at h;cases o with
  | none=>simp at h
  | some j=>
   refine⟨j,rfl,?_⟩;cases e2:σ[j]? with
   | none=>simp[e2]at h
   | some J=>
    simp[e2]at h;rw[h]
structure PTs(X:Cx)(ifs:List Bf)(t:TT):Prop where
 run:
  ∀(dl:Ii) (s:Ad) (σ:St) (H:Hp) (Q:Bool->Hp->Prop),Inv X dl σ H s->t σ H Q->
   wpAny (model X.prog X.w) X.A (forIn ifs true fun c r=>if r=true then do let ok <- isTrue c X.env (eval c X.env);pure (CJ ok) else pure (CJ r)) (TP X dl σ Q) X.xe s
instance{X:Cx}{ifs:List Bf}{t:TT}:CoeFun (PTs X ifs t) (fun _=>
 ∀(dl:Ii) (s:Ad) (σ:St) (H:Hp) (Q:Bool->Hp->Prop),Inv X dl σ H s->t σ H Q->
  wpAny (model X.prog X.w) X.A (forIn ifs true fun c r=>if r=true then do let ok <- isTrue c X.env (eval c X.env);pure (CJ ok) else pure (CJ r)) (TP X dl σ Q) X.xe s):=⟨fun h=>h.run⟩
def dJ{X:Cx}:PTs X [] (fun _ H Q=>Q true H):=⟨fun _ _ _ H _ I h=>wpAny_tests_nil ⟨H,I,h⟩⟩
def aDY{X:Cx}{c:Bf}{t:TT}(h:PT X c t):PTs X [c] t:=⟨fun dl s σ H Q I q=>wpAny_tests_one (h dl s σ H Q I q)⟩
def Inv.clos{N:List Str}{src:List (Option Nat)}{scope:CV}(B:BlkOk N src scope X.env.scope X.N)(I:Inv X dl σ H s):∀ y∈scope.names,y.2=.free->∃ c,X.env.cells.lookup y.1=some c:=
 fun y O J=>I.ok.has y.1 (B.fr y O J)
def Inv.block{N:List Str}{src:List (Option Nat)}{scope:CV}{fp:List Ag}{s1:Ad}{C:Ag}{m:Str->Option Ac}(B:BlkOk N src scope X.env.scope X.N)(I:Inv X dl σ H s)
  (hf:∀ b∈fp,nS X dl H b) (af:∀ b∈fp,b<s.heap.objs.size) (hC:s.heap.objs.size<=C) (Y:s1.os=s.os) (O:EL s1.gens) (Z:∀ b o,s.heap.get? b=some o->s1.heap.get? b=some o) (hn:s1.heap.Ns C m):
  Inv (blk X N scope (iS X.env scope.names []) s H fp dl C) [] (sub src σ) H s1:=by
 have U:=I.clos B;have J:∀ x c,(iS X.env scope.names []).lookup x=some c->X.env.cells.lookup x=some c:=sY _ _ (fun x c e=>by simp at e);have ah:∀ b∈frs X.stack,b<s.heap.objs.size:=fun b O=>by
  obtain⟨_,o,Y,_⟩:=I.stack.mem O;exact Az Y
 refine⟨⟨I.ok.mod,B.kind,I.ok.glob,I.ok.blt,hC,fun x y c e1 e2=>I.ok.inj x y c (J x c e1) (J y c e2),fun x hx=>?_,fun x c hx=>absurd hx Aq,I.ok.hd,I.ok.frames,.inl rfl,fun b O=>⟨?_,fun x c e=>?_⟩,fun b o e=>?_,AH I.ok.bsz I.sz,fun b o e O=>?_,fun b O hz=>?_,I.stack,I.stkFree⟩,
  Y,O,Un.kept Z,⟨m,hn,fun i x v e1 e2 e3=>?_⟩,fun x c e=>?_,?_,fun x c e=>I.freeC x c (J x c e),fun p hp=>?_,I.hok.kept Z,?_⟩
 .have ad:=wA (env:=X.env) B.nocell hx;exact sZ _ _ x U (.inr (Cc ad))
 .exact AU (AZ (af b O) hC)
 .exact(hf b O).2.2.2.2.1 x c (J x c e)
 .exact I.bs b o e
 .rcases(hf b O).2.2.2.1 with z|z
  .exact I.ok.noex b o e z
  .exact absurd (AZ (Az e) (AH I.ok.bsz z)) (Cd _)
 .rcases Ao.mp (I.stkSub b hz)with e|z
  .exact(hf b O).2.1 e
  .exact(hf b O).2.2.1 z
 .obtain⟨j,ej,ev⟩:=aKX e2;obtain⟨oj,fj⟩:=aGC B.srcs e1 ej;have W:=B.fr _ (Cc fj) rfl;obtain⟨m0,hn0,hl0⟩:=id I.loc;obtain⟨u,ru,lk⟩:=hl0 j x v oj ev (.inr W);refine⟨u,ru,.inr ⟨qX fj,?_⟩⟩;rcases lk with⟨k,_⟩|⟨k,c,hc,hcell⟩
  .have k':X.env.scope.names.lookup x=some .local:=k;rcases W with z|z<;>(rw[k']at z;cases z)
  .obtain⟨c',hc'⟩:=sZ (env:=X.env) scope.names [] x U (.inr (Cc fj));have e:=J x c' hc';rw[hc]at e;cases e;obtain⟨o,Y,hd⟩:=hcell;exact⟨c,hc',o,Z _ _ Y,hd⟩
 .obtain⟨v,o,Y,hd⟩:=I.cell x c (J x c e);exact⟨v,o,Z _ _ Y,hd⟩
 .exact I.hok.fresh hC
 .have ag:p∈X.pn++dl:=by
   rcases A4.mp hp with z|z
   .exact z
   .simp at z
  obtain⟨q1,q2,q3,q4,q5⟩:=I.pin p ag;refine⟨Z _ _ q1,q2,AU (AZ (Az q1) hC),fun z=>?_,q5⟩;rcases Ao.mp (I.stkSub _ z)with e|z
  .exact q3 e
  .exact q4 z
 .show(sub src σ).length=N.length;unfold sub;rw[Ab];exact B.len
section
variable{R:Hh->Ad->Prop}
def aBG{Y J O:Bf}{U:List Bf}{scope:CV}{pos:Pos}{it W:Ac}{env:Env}(I:Nat->Ad->Prop)
  (aa:∀ n s,I n s->wpAny (model prog w) A (pyNext it) (fun r s₁=>match r with
   | none=>R (.ok .next) s₁
   | some v=>wpAny (model prog w) A (letOwnedTupleGo J it v) (fun _ Z=>wpAny (model prog w) A (assign J env v) (fun _ s₂=>
     wpAny (model prog w) A (forIn U true fun c r=>if r=true then do let ok <- isTrue c env (eval c env);pure (CJ ok) else pure (CJ r)) (fun ok s₃=>
      if ok=true then wpAny (model prog w) A (eval Y env) (fun x s₄=>
       wpAny (model prog w) A (call (.builtin "list.append") [W,x]) (fun _ s₅=>∃ m,m<n/\I m s₅) (fun _ _=>False) s₄) (fun _ _=>False) s₃
      else∃ m,m<n/\I m s₃) (fun _ _=>False) s₂) (fun _ _=>False) Z) (fun _ _=>False) s₁) (fun _ _=>False) s)
  (n:Nat) (h:I n s):
  codeAny (model prog w) A (.compLoop (.ListComp Y [⟨J,O,U,0⟩] scope pos) 0 it W env) R s:=by
 have nv:∀{α:Type} {t:Sem α} {Q:α->Ad->Prop} {E:Ac->Ad->Prop} {s:Ad},wpAny (model prog w) A t Q (fun _ _=>False) s->wpAny (model prog w) A t Q E s:=fun h=>Bt h (fun _ _ x=>x) fun _ _ x=>x.elim;refine codeAny_loop rfl I (fun n s hI=>?_) n h;show wpAny _ A ((compTurn (.ListComp Y [⟨J,O,U,0⟩] scope pos) 0 it W env).onRaise (fun x=>do noteFrame x env;theTreesLotGoes x)) _ _ s;refine wpAny_noted ?_;rw[compTurn_list];refine Aa (Ds (Aa (nv (thn (aa n s hI) (fun r s₁ h₁=>?_)))));cases r with
 | none=>exact Af h₁
 | some v=>
  refine Aa (Bt h₁ (fun _ Z ad=>?_) fun _ _ x=>x.elim);refine Aa (Bt ad (fun _ s₂ h₂=>Aa (Bt h₂ (fun ok s₃ h₃=>?_) fun _ _ h'=>h'.elim)) fun _ _ h'=>h'.elim);cases ok with
  | false=>exact Af ⟨rfl,h₃⟩
  | true=>
   exact Aa (Aa (Bt h₃ (fun x s₄ h₄=>Aa (Bt h₄ (fun _ s₅ h₅=>Af (Af ⟨rfl,h₅⟩)) fun _ _ h'=>h'.elim)) fun _ _ h'=>h'.elim))
end
inductive aDZ(J : It)(g : TG)(tt : TT)(te : TE)(σ₀ : St)(H₀ : Hp)(Q : VK) : Prop
  | mk (W : Nat -> Nat -> List V -> St -> Hp -> Prop) (q0 : (∃ m, W 0 m [] σ₀ H₀)) (q1 : ∀ i m ys σ H, W i m ys σ H -> ys.length <= sizeLine /\
    ((J.stop i H /\ ∀ D, H D = none -> Q (.ref D) (upd H D (.lst ys))) \/
     (J.go i H /\ ∃ N : List V -> St -> Hp -> Prop, (∀ zs σ' H', N zs σ' H' -> ∃ m', m'<m /\ W (i+1) m' zs σ' H') /\
       ∀ x H', J.yld i H x H' -> g x σ H' fun σ2 H2 => tt σ2 H2 fun b H3 => if b = true then te σ2 H3 fun v H4 => N (ys++[v]) σ2 H4 else N ys σ2 H3))) : aDZ J g tt te σ₀ H₀ Q
def nH(J:It)(g:TG)(tt:TT)(te:TE)(σ₀:St)(H₀:Hp)(Q:VK):Prop:=aDZ J g tt te σ₀ H₀ Q
def yV{tg ax aA:Bf}{aG:List Bf}{scope:CV}{pos:Pos}{N:List Str}{src:List (Option Nat)}{g:TG}{tt:TT}{te:TE}{J:It}{fp:List Ag}{it:Ag}{tn:Nat->Bb->Prop}{H2:Hp}{s2:Ad}{Q:VK}{E:Ac->Ad->Prop}
  {RR:Ac->Ag->Hh->Ad->Prop} (B:BlkOk N src scope X.env.scope X.N) (hc:X.calm=true)
  (U:∀ cl s H fp dl C,PG (blk X N scope cl s H fp dl C) tg g/\PTs (blk X N scope cl s H fp dl C) aG tt/\PE (blk X N scope cl s H fp dl C) aA te)
  (I2:Inv X dl σ H2 s2) (T:aBp X.prog X.w X.K tg J fp it tn) (bc:tn 0 s2.heap) (f2:∀ b∈fp,nS X dl H2 b) (cw:nH J g tt te (sub src σ) H2 Q)
  (cb:∀ D C H' m s',Inv X dl σ H' s'->s'.heap.Ns C m->nS X dl H' C->D≠C->Q (.ref D) H'->RR (.ref D) C (.ok .next) s'):
  wpAny (model X.prog X.w) X.A (newList []) (fun bB s₃=>wpAny (model X.prog X.w) X.A (newFunctionEnv scope X.env.globals (iS X.env scope.names []) [] X.env.qual none .none (some X.env)) (fun av s₄=>
   codeAny (model X.prog X.w) X.A (.compStart (.ListComp aA [⟨tg,ax,aG,0⟩] scope pos) 0 (.ref it) bB { av with scope:=relabel scope X.env }) (RR bB av.locals) s₄) E s₃) E s2:=by
 refine BH (wpAny_newFunctionEnv B.nocell (by intro y hy;simp at hy) (fun h₁ ah ac=>?_) B.kind);dsimp only at ah ac ⊢;generalize aI:s2.heap.push { cls:=.type "list",dict:=none,data:=.seq ([]:List Ac).toArray }=HH at ah ac ⊢;have az:HH.objs.size=s2.heap.objs.size+1:=by rw[<- aI,B4]
 have ai:s2.heap.objs.size≠HH.objs.size:=by rw[az];exact AU (B9 _)
 have am:s2.heap.objs.size<=HH.objs.size:=by rw[az];exact CU _
 have ar:∀ b∈fp,b<s2.heap.objs.size:=fun b U=>by
  obtain⟨o,e,_⟩:=T.obj _ _ bc b U;exact Az e
 have bp:∀ b o,s2.heap.get? b=some o->h₁.get? b=some o:=fun b o e=>
  ac.extBut b o (by rw[az];exact AU (Bz (Az e))) (Ah _ (aI▸Ah _ e))
 have bq:h₁.PlainList s2.heap.objs.size #[]:=⟨_,ac.extBut _ _ ai (Ah _ (aI▸AE _ rfl))⟩
 have bo:tn 0 h₁:=T.keep _ _ _ bc fun b _ o e=>bp b o e;have⟨W,⟨m0,w0⟩,turn⟩:=cw;have bj:∀ b∈frs X.stack,b<s2.heap.objs.size:=fun b U=>by
  obtain⟨_,o,ho,_⟩:=I2.stack.mem U;exact Az ho
 generalize O:blk X N scope (iS X.env scope.names []) s2 H2 fp dl HH.objs.size=Y;have bi:=U (iS X.env scope.names []) s2 H2 fp dl HH.objs.size;rw[O]at bi;have eP:Y.prog=X.prog:=by rw[<- O];rfl
 have eW:Y.w=X.w:=by rw[<- O];rfl
 have eK:Y.K=X.K:=by rw[<- O];rfl
 have eA:Y.A=X.A:=by rw[<- O];rfl
 have eE:Y.env=compEnvC scope (iS X.env scope.names []) HH.objs.size X.env:=by rw[<- O];rfl
 have eL:Y.env.locals=HH.objs.size:=by rw[eE];rfl
 have eF:Y.fs=frs X.stack:=by rw[<- O];rfl
 have eX:Y.ex=fp:=by rw[<- O];rfl
 have eS:Y.s₀=s2:=by rw[<- O];rfl
 have eH:Y.H₀=H2:=by rw[<- O];rfl
 have eC:Y.calm=true:=by rw[<- O];exact hc
 have bn:Y.pn=X.pn++dl:=by rw[<- O];rfl
 have aB:Y.xe=fun _ _=>False:=by rw[<- O];rfl
 have ad:∀ x c,Y.env.cells.lookup x=some c->X.env.cells.lookup x=some c:=fun x c e=>by
  rw[eE]at e;exact sY scope.names [] (fun x c e=>by simp at e) x c e
 have af:∀ x c,Y.env.cells.lookup x=some c->c<s2.heap.objs.size:=fun x c e=>by
  obtain⟨v,o,ho,_⟩:=I2.cell x c (ad x c e);exact Az ho
 have aj:∀ p∈X.pn++dl,p.1<s2.heap.objs.size:=fun p hp=>Az (I2.pin p hp).1;generalize hD:s2.heap.objs.size=D at *;generalize cz:HH.objs.size=C at *;have au:∀ s₃:Ad,s₃={ s2 with heap:=h₁,toks:=s2.toks+([]:List (Str×Ac)).length }->
   codeAny (model X.prog X.w) X.A (.compLoop (.ListComp aA [⟨tg,ax,aG,0⟩] scope pos) 0 (.ref it) (.ref D) (compEnvC scope (iS X.env scope.names []) C X.env)) (RR (.ref D) C) s₃:=by
  rintro s₃ rfl;have I3:Inv Y [] (sub src σ) H2 { s2 with heap:=h₁,toks:=s2.toks+([]:List (Str×Ac)).length }:=by
   rw[<- O];exact I2.block B f2 (by rw[hD];exact ar) (by rw[hD];exact am) rfl I2.bare bp ah
  have b3:H2 D=none:=I2.hok.fresh (DA hD);have bR:D∉Y.fs:=fun z=>by rw[eF]at z;exact absurd (bj D z) (Cd _)
  have ay:∀{Z:St} {H':Hp} {s':Ad} {pl:Ii} {its:List Ac} {n:Nat},Inv Y pl Z H' s'->H' D=none->s'.heap.get? D=some { cls:=.type "list",data:=.seq its.toArray n }->
    Inv Y ((D,{ cls:=.type "list",data:=.seq its.toArray n })::pl) Z H' s':=fun{Z H' s' pl its n} I' hn hg=>
   I'.pins_of fun p hp=>by
    rcases Ao.mp hp with e|hp
    .subst e;exact⟨hg,hn,by rw[eL];exact ai,bR,fun v z=>by cases z⟩
    .exact I'.pin p (A5 _ hp)
  obtain⟨n0,hg0⟩:=bq;have b2:=ay (its:=[]) I3 b3 hg0;have aC:∀{H':Hp} {pl:Ii},(∀ p∈pl,p.1=D)->(∀ b∈fp,H' b=none)->∀ b∈fp,nS Y pl H' b:=fun{H' pl} hpl hn b U=>by
   refine⟨hn b U,by rw[eL];exact AU (AZ (ar b U) am),fun z=>?_,.inl (by rw[eX];exact U),fun x c e=>(f2 b U).2.2.2.2.1 x c (ad x c e),fun p hp=>?_⟩
   .rw[eF]at z;rcases Ao.mp (I2.stkSub b z)with e|z
    .exact(f2 b U).2.1 e
    .exact(f2 b U).2.2.1 z
   .rw[bn]at hp;rcases A4.mp hp with z|z
    .exact(f2 b U).2.2.2.2.2 p z
    .rw[hpl p z];exact CD (ar b U)
  refine aBG (fun n s'=>∃ i ys its nn Z H',Inv Y [(D,{ cls:=.type "list",data:=.seq its.toArray nn })] Z H' s'/\tn i s'.heap/\(∀ b∈fp,H' b=none)/\cE ys its/\W i n ys Z H') ?_ m0
   ⟨0,[],[],n0,sub src σ,H2,b2,bo,fun b U=>(f2 b U).1,.nil,w0⟩
  rintro n s4 ⟨i,ys,its,nn,σ4,H4,I4,be,bw,aq,w4⟩;obtain⟨hsz,hcase⟩:=turn i n ys σ4 H4 w4;have one:∀{o:Obj},∀ p∈[(D,o)],p.1=D:=fun{o} p hp=>by
   have:=Bd.mp hp;rw[this]
  rcases hcase with⟨stop,qn⟩|⟨go,Nx,hN,step⟩
  .have ag:=T.done Y eP eW eK eC i _ s4 σ4 H4 (fun _ _=>False) I4 (aC one bw) be stop;rw[eA]at ag;refine thn ag fun r s5 ⟨hr,I5⟩=>?_;subst hr;have pd:=I5.pin _ (A5 _ AQ);have ca:Un (frs X.stack) fp H2 H4 s2.heap s5.heap:=by
    have:=I5.base;rw[eF,eX,eS,eH]at this;exact this
   have bh:HOk X.prog X.w H4 s5.heap:=by
    have:=I5.hok;rw[eP,eW]at this;exact this
   have b5:s5.os=s2.os:=by
    have:=I5.os;rw[eS]at this;exact this
   have J5:Inv X dl σ H4 s5:=I2.call' b5 ca bh I5.bare fun b U=>⟨(f2 b U).2.2.2.1,(f2 b U).2.1,(f2 b U).2.2.2.2.1,(f2 b U).2.2.2.2.2⟩
   have fD:nS X dl H4 D:=I2.fpOk (DA hD) pd.2.1;have J6:Inv X dl σ (upd H4 D (.lst ys)) s5:=J5.track fD ⟨hsz,its,nn,aq,pd.1⟩;obtain⟨mm,nsC,_⟩:=I5.loc;rw[eL]at nsC;have bN:H4 C=none:=by
    have:=I5.free;rw[eL]at this;exact this
   have fC:nS X dl (upd H4 D (.lst ys)) C:=I2.fpOk (by rw[hD];exact am) (by rw[bE (CY ai)];exact bN);exact cb D C _ mm s5 J6 nsC fC ai (qn D pd.2.1)
  .have an:=T.item Y eP eW eK eC i _ s4 σ4 H4 (fun _ _=>False) I4 (aC one bw) be go;rw[eA]at an;refine thn an fun r s5 ⟨u,hr,h5⟩=>?_;subst hr;refine thn h5 fun _ s6 ⟨x,H6,I6,r6,y6,aL,b8⟩=>?_;have cf:=I6.pinned (aC one b8) (T.obj _ _ aL);have⟨hg,ht,he⟩:=bi;have e1:=hg _ s6 σ4 H6 x u _ cf r6 (step x H6 y6);rw[eP,eW,eA,eE,aB]at e1;refine thn e1 fun _ s7 ⟨σ7,H7,I7,q7⟩=>?_;have e2:=ht _ s7 σ7 H7 _ I7 q7;rw[eP,eW,eA,eE,aB]at e2;refine thn e2 fun ok s8 ⟨H8,I8,q8⟩=>?_;have bd:∀{Z:St} {H':Hp} {s':Ad} {ae:List Ac} {ak:Nat} {zs:List V},Inv Y ([(D,{ cls:=.type "list",data:=.seq ae.toArray ak })]++qA fp s6.heap) Z H' s'->cE zs ae->Nx zs Z H'->
     ∃ m,m<n/\∃ i ys its nn Z H',Inv Y [(D,{ cls:=.type "list",data:=.seq its.toArray nn })] Z H' s'/\tn i s'.heap/\(∀ b∈fp,H' b=none)/\cE ys its/\W i m ys Z H':=fun{Z H' s' ae ak zs} I' vs' n'=>by
    have⟨m',hm,w'⟩:=hN zs Z H' n';refine⟨m',hm,i+1,zs,ae,ak,Z,H',I'.unpinned,T.keep _ _ _ aL fun b U o e=>(I'.pin (b,o) (A5 _ (A5 _ (mC U e)))).1,fun b U=>?_,vs',w'⟩;have⟨o,e,d⟩:=T.obj _ _ aL b U;exact(I'.pin (b,o) (A5 _ (A5 _ (mC U e)))).2.1
   cases ok with
   | false=>
    simp only[Bool.false_eq_true,if_false]at q8 ⊢;exact bd I8 aq q8
   | true=>
    simp only[if_true]at q8 ⊢;have e3:=he _ s8 σ7 H8 _ I8 q8;rw[eP,eW,eA,eE,aB]at e3;refine thn e3 fun v s9 ⟨y,H9,I9,r9,q9⟩=>?_;have pd:=I9.pin _ (A5 _ (Cs _ AQ));have ck:=aq.length;refine wpAny_list_append_plain (hsz:=by simp only[Au];lia) (⟨nn,pd.1⟩:s9.heap.PlainList D its.toArray) fun h' ⟨ak,b4⟩ b6=>?_;have bP:Inv Y (qA fp s6.heap) σ7 H9 s9:=I9.pins_of fun p hp=>I9.pin p (A5 _ (A5 _ hp));have b7:Inv Y (qA fp s6.heap) σ7 H9 { s9 with heap:=h' }:=bP.turned (t':=s9.toks) (it:=D) (fun b o U e=>(b6.2 b U).trans e) pd.2.1 (by rw[eL];exact ai) (.inr (by rw[eS];exact DA hD))
     (fun x c e=>AU (af x c e)) fun p hp=>by
      rw[bn]at hp;rcases A4.mp hp with z|z
      .exact AU (aj p z)
      .exact AU (ar _ (yI z).1)
    have bx:h'.get? D=some { cls:=.type "list",data:=.seq (its++[v]).toArray ak }:=by
     rw[b4];simp
    exact bd (ay (s':={ s9 with heap:=h' }) b7 pd.2.1 bx) (aq.append (.cons r9 .nil)) q9
 exact codeAny_compStart_list (au _ rfl) (T.self X.A 0 _ _ _ bo (au _ rfl))
def aGD(src:List (Option Nat))(wi:TI)(g:TG)(tt:TT)(te:TE):TE:=fun σ H Q=>wi σ H fun J H1=>nH J g tt te (sub src σ) H1 Q
def eU{tg O W:Bf}{U:List Bf}{scope osc:CV}{pos:Pos}{N oN:List Str}{src:List (Option Nat)}{wi:TI}{g:TG}{tt:TT}{te:TE}(B:BlkOk N src scope osc oN)(hi:PI X tg O wi)
  (Y:∀ cl s H fp dl C,PG (blk X N scope cl s H fp dl C) tg g/\PTs (blk X N scope cl s H fp dl C) U tt/\PE (blk X N scope cl s H fp dl C) W te)
  (hc:X.calm=true:=by rfl) (eo:X.env.scope=osc:=by rfl) (eN:X.N=oN:=by rfl)
  (hs:∀ x,foldedSetIterable O X.env x=pure x:=by intro _;rfl):PE X (.ListComp W [⟨tg,O,U,0⟩] scope pos) (aGD src wi g tt te):=by
 subst eo eN;constructor;intro dl s σ H Q I h;rw[eval_ListComp];refine wpAny_comprehension_free (use:=none) (cl:=iS X.env scope.names []) rfl hs (qW (I.clos B)) B.kind B.names (thn (hi dl s σ H _ I h) fun xv s1 h1=>thn h1 fun ae s2 h2=>?_);obtain⟨it,fp,tn,J,H2,e,I2,T,st2,f2,cw⟩:=h2;subst e;refine yV B hc Y I2 T st2 f2 cw fun D C H' m s' J' Z fC ah q=>?_;refine⟨m,Z,fun h' sb=>⟨.ref D,H',?_,rfl,q⟩⟩;obtain⟨f0,f1,_,f3,f4,f5⟩:=fC;exact J'.turned (t':=s'.toks) (fun b o Y e=>(sb.2 b Y).trans e) f0 f1 f3 f4 f5
def gL{tg O W:Bf}{U:List Bf}{scope osc:CV}{pos ps Z:Pos}{y:Str}{i:Nat}{N oN:List Str}{src:List (Option Nat)}{wi:TI}{g:TG}{tt:TT}{te:TE}(B:BlkOk N src scope osc oN)(hN:X.N.Nodup)(hy:X.N[i]?=some y)(hi:PI X tg O wi)
  (hb:∀ cl s H fp dl C,PG (blk X N scope cl s H fp dl C) tg g/\PTs (blk X N scope cl s H fp dl C) U tt/\PE (blk X N scope cl s H fp dl C) W te)
  (Y:X.env.scope.names.lookup y=some .local:=by rfl)
  (ag:swapsWith (.ListComp W [⟨tg,O,U,0⟩] scope pos) (some (.Name y Z)) ps.line X.env=pure true:=by rfl)
  (hc:X.calm=true:=by rfl) (eo:X.env.scope=osc:=by rfl) (eN:X.N=oN:=by rfl)
  (hs:∀ x,foldedSetIterable O X.env x=pure x:=by intro _;rfl):PS X (.Assign [.Name y Z] (.ListComp W [⟨tg,O,U,0⟩] scope pos) ps) (aIZ (aGD src wi g tt te) (bT i)):=by
 subst eo eN;constructor;intro dl s σ H D I h;rw[exec_Assign_Name_used _ _ _ _ ag];refine Aa (Ds (Aa ?_));show wpAny _ _ (evalThenUse (.ListComp W [⟨tg,O,U,0⟩] scope pos) X.env (assign (.Name y Z) X.env)) _ _ s;have e:evalThenUse (.ListComp W [⟨tg,O,U,0⟩] scope pos) X.env (assign (.Name y Z) X.env)=(do
   let _ <- comprehension (.ListComp W [⟨tg,O,U,0⟩] scope pos) scope X.env (firstIterPos [⟨tg,O,U,0⟩] pos) (newList []) (firstAsync [⟨tg,O,U,0⟩]) (firstIter [⟨tg,O,U,0⟩] X.env) (some (assign (.Name y Z) X.env))):=rfl
 rw[e];refine Aa ?_;refine wpAny_comprehension_free (use:=some (assign (.Name y Z) X.env)) (cl:=iS X.env scope.names []) rfl hs (qW (I.clos B)) B.kind B.names (thn (hi dl s σ H _ I h) fun xv s1 h1=>thn h1 fun am s2 h2=>?_);obtain⟨it,fp,tn,J,H2,e,I2,T,st2,f2,cw⟩:=h2;subst e;refine yV B hc hb I2 T st2 f2 cw fun D' C H' m s' J' ah fC ar q=>?_;obtain⟨f0,f1,_,f3,f4,f5⟩:=fC;refine wpAny_assign_Name (yH J' hN hy (.inl Y) (v:=.ref D') rfl (fun ae af ⟨a,sb,ha⟩=>?_) (.inr Y));have ac:C≠a:=by
  rcases ha with rfl|ha
  .exact f1
  .exact fun z=>f4 y a ha z.symm
 refine⟨m,ah.sameBut sb ac,fun h' ad=>Af (Af ⟨_,H',af.turned (t':=ae.toks) (fun b o hb e=>(ad.2 b hb).trans e) f0 f1 f3 f4 f5,q⟩)⟩
inductive nJ(K:Ae)(xs:List V)(H:Hp)(Q:VK):Prop
 | mk (x:_) (n:_) (t:_) (b:_) (q0:xs=[x,.ty n]) (q1:kX K H x t) (q2:Bm K t (.type n)=some b) (q3:Q (.bl b) H):nJ K xs H Q
def yA(K:Ae):List V->Hp->VK->Prop:=fun xs H Q=>nJ K xs H Q
def cS:gR X (.builtin "isinstance") (yA X.K):=by
 intro dl s σ H xs J Q I r h;obtain⟨x,n,t,b,rfl,ty,e,q⟩:=h;obtain⟨u,w',rfl,r1,r2⟩:=aJ5 r;cases r2;exact aFj I r1 ty e fun tk=>⟨.bl b,H,I.tok _,rfl,q⟩
inductive pU(x:V)(y:V)(H:Hp)(Q:VK):Prop
 | mk (i:_) (j:_) (q0:x=.str i) (q1:y=.str j) (q2:Q (.bl (!decide (j.cps.toList<i.cps.toList))) H):pU x y H Q
def aBH:V->V->Hp->VK->Prop:=fun x y H Q=>pU x y H Q
def pA:OpR X (compareOp .LtE) aBH:=by
 intro dl s σ H x y v u Q I O J h;obtain⟨i,j,rfl,rfl,q⟩:=h;obtain⟨t,rfl⟩:=O;obtain⟨t',rfl⟩:=J;exact PySem.P.le_str ⟨.bl _,H,I,rfl,q⟩
def yX(i j:Int):Prop:=0<j/\j.natAbs.log2<9000
def yX.of{i j:Int}(h:0<j)(h2:j<2^512):yX i j:=by
 refine⟨h,?_⟩;have J:j.natAbs≠0:=by lia
 have:j.natAbs.log2<512:=(Ht J).mpr (by
  have e:((2:Int)^512)=((2^512:Nat):Int):=by trivial
  rw[e]at h2;lia)
 lia
def wB:OpR X (binaryOp .FloorDiv) (rI yX fun i j=>.int (i/j)):=opI fun i j _ _ _ _ _ hc q=>by
 have h1:(0:Int)<j:=hc.1;refine floordiv_int (by lia) ?_ (Bp (PyProof.noPylong_of_log2 hc.2));rw[Int.fdiv_eq_ediv_of_nonneg i (by lia)];exact q
def Its(x:Str):It:=⟨fun i _=>i<x.cps.size,fun i H v H'=>H'=H/\∃ c,x.cps[i]?=some c/\v=.str ⟨#[c]⟩,fun i _=>x.cps.size<=i⟩
def aGE{P:Ar}{w:AW}{K:Ae}{tg:Bf}(it:Ag)(x:Str)(t:Tok)(nm:String)(ad:nm="str_ascii_iterator"\/nm="str_iterator")
  (W:∀ A':AK,A'.handled=none->Walks P w A' it [it] [it] x.cps.size (SignAt x) (fun i h=>h.IsStrIter it nm x t i))
  (O:∀(A:AK) (i:Nat) (s:Ad) (Q:Ac->Ad->Prop) (E:Ac->Ad->Prop),s.heap.IsStrIter it nm x t i->Q (.ref it) s->wpAny (model P w) A (pyIter (.ref it)) Q E s):
  aBp P w K tg (Its x) [it] it (fun i h=>i<=x.cps.size/\h.IsStrIter it nm x t i) where
 mem:=by simp
 obj:=fun i h st b J=>by
  have e:b=it:=by simpa using J
  subst e;obtain⟨_,o,e,c,d⟩:=st;exact⟨o,e,fun v z=>by rw[d]at z;cases z⟩
 keep:=fun i h h' st k=>⟨st.1,by obtain⟨_,o,e,c,d⟩:=st;exact⟨o,k it (by simp) o e,c,d⟩⟩
 item:=by
  intro X hP hw hK hc i dl s σ H E I Z st Y;subst hP hw hK;obtain⟨f0,f1,f2,f3,f4,f5⟩:=Z it (by simp);refine(W X.A (I.ok.hd hc)).item i s _ _ Y st.2 fun v h' tk hv U kk=>?_;obtain⟨c,u,ec,rfl⟩:=hv;have I1:Inv X dl σ H { s with heap:=h',toks:=tk }:=I.turned (fun b o J e=>kk b o (by simpa using J) e) f0 f1 f3 f4 f5;obtain⟨o,e,c',d⟩:=id U;refine⟨_,rfl,aBq (s:={ s with heap:=h',toks:=tk }) e c' d (by rcases ad with rfl|rfl<;>decide) ⟨.str ⟨#[c]⟩,H,I1,⟨u,rfl⟩,⟨rfl,c,ec,rfl⟩,⟨Y,U⟩,fun b J=>(Z b J).1⟩⟩
 done:=by
  intro X hP hw hK hc i dl s σ H E I Z st Y;subst hP hw hK;obtain⟨f0,f1,f2,f3,f4,f5⟩:=Z it (by simp);have e:i=x.cps.size:=Nat.le_antisymm st.1 Y;subst e;exact(W X.A (I.ok.hd hc)).done s _ _ st.2 fun h' tk kk=>⟨rfl,I.turned (fun b o J e=>kk b o (by simpa using J) e) f0 f1 f3 f4 f5⟩
 self:=fun A i s Q E st h=>O A i s Q E st.2 h
def aL5(tl:TE):TI:=fun σ H R=>tl σ H fun x H1=>As V.str x fun z=>R (Its z) H1
def aAG{tg l:Bf}{tl:TE}(hl:PE X l tl):PI X tg l (aL5 tl):=by
 constructor;intro dl s σ H R I h;refine thn (hl dl s σ H _ I h) fun v s1 ⟨x,H1,I1,r1,q1⟩=>?_;obtain⟨z,rfl,q⟩:=q1;obtain⟨t,rfl⟩:=r1;have O:∀(nm:String) (U:nm="str_ascii_iterator"\/nm="str_iterator")
   (W:∀ Y:AK,Y.handled=none->Walks X.prog X.w Y s1.heap.objs.size [s1.heap.objs.size] [s1.heap.objs.size] z.cps.size (SignAt z) (fun i h=>h.IsStrIter s1.heap.objs.size nm z t i))
   (J:∀(A:AK) (i:Nat) (s:Ad) (Q:Ac->Ad->Prop) (E:Ac->Ad->Prop),s.heap.IsStrIter s1.heap.objs.size nm z t i->Q (.ref s1.heap.objs.size) s->wpAny (model X.prog X.w) A (pyIter (.ref s1.heap.objs.size)) Q E s),
   PIE X dl σ tg R (.ref s1.heap.objs.size) { s1 with heap:=s1.heap.push { cls:=.type nm,data:=.fields #[.str z t,.int 0 0] } }:=fun nm U W J=>by
  refine⟨s1.heap.objs.size,[s1.heap.objs.size],_,_,H1,rfl,I1.kept (t':=s1.toks) fun b o e=>Ah _ e,aGE s1.heap.objs.size z t nm U W J,⟨A3 _,_,AE _ rfl,rfl,rfl⟩,fun b hb=>?_,q⟩;have e:b=s1.heap.objs.size:=by simpa using hb
  subst e;exact I1.fpOk (Ap _) (I1.hok.fresh (Ap _))
 cases ha:z.cps.all (·<128)
 .exact wpAny_pyIter_wide ha (O "str_iterator" (.inr rfl) (fun Y Z=>Walks.strWide Z _ z t) fun A i s Q E st h=>wpAny_pyIter_striter_wide st h)
 .exact wpAny_pyIter_ascii ha (O "str_ascii_iterator" (.inl rfl) (fun Y Z=>Walks.strAscii Z _ z t) fun A i s Q E st h=>wpAny_pyIter_striter_ascii st h)
inductive wC(x:V)(lo:Option Int)(hi:Option Int)(H:Hp)(Q:VK):Prop
 | mk (z:_) (q0:x=.str z) (q1:z.length<=sizeLine) (q2:Q (.str (Ea z lo hi)) H):wC x lo hi H Q
def aGF:V->Option Int->Option Int->Hp->VK->Prop:=fun x lo hi H Q=>wC x lo hi H Q
def oH:SlR X aGF:=by
 intro dl s σ H x v vl vu lo hi sl Q I rx Z pl Y h;obtain⟨z,rfl,hz,q⟩:=h;obtain⟨t,rfl⟩:=rx;refine⟨"str",_,F.slot_str_getitem.lookup,EO _ _ _,?_⟩;have J:∀ U k,EP X dl σ Q (.str (Ea z lo hi) U) { s with toks:=k }:=fun U k=>⟨.str _,H,I.tok _,⟨_,rfl⟩,q⟩
 obtain⟨o,ho,hc,hd⟩:=Z;cases pl with
 | none=>
  cases Y with
  | none=>exact DZ (l:=none) (u:=none) (st:=none) ⟨o,ho,hc,hd⟩ rfl (Fx ⟨AH (E8 z _ _) hz,J⟩)
  | int j O=>exact DZ (l:=none) (u:=some (j,O)) (st:=none) ⟨o,ho,hc,hd⟩ rfl (Fx ⟨AH (E8 z _ _) hz,J⟩)
 | int i W=>
  cases Y with
  | none=>exact DZ (l:=some (i,W)) (u:=none) (st:=none) ⟨o,ho,hc,hd⟩ rfl (Fx ⟨AH (E8 z _ _) hz,J⟩)
  | int j O=>exact DZ (l:=some (i,W)) (u:=some (j,O)) (st:=none) ⟨o,ho,hc,hd⟩ rfl (Fx ⟨AH (E8 z _ _) hz,J⟩)
theorem aD0:∀{ys:List Str}{J:List Ac},cE (ys.map V.str) J->HK J ys
 | [],_,.nil=>.nil
 | y::ys,_,.cons ⟨t,rfl⟩ r=>.cons y t (aD0 r)
inductive aL6(K:Ae)(x:V)(xs:List V)(H:Hp)(Q:VK):Prop
 | mk (z:_) (p:_) (ys:_) (q0:x=.str z) (q1:xs=[.ref p]) (q2:SqL K H p (ys.map V.str)) (q3:(ys.map (·.length)).sum+ys.length*z.length<=16777216) (q4:Q (.str (Dy z ys)) H):aL6 K x xs H Q
def rJ(K:Ae):V->List V->Hp->VK->Prop:=fun x xs H Q=>aL6 K x xs H Q
def pB:MtR X "str.join" (rJ X.K):=by
 intro dl s σ H x xs v O Q I J r h;obtain⟨z,p,ys,rfl,rfl,hx,hz,q⟩:=h;obtain⟨t,rfl⟩:=J;obtain⟨u,rfl,ru⟩:=gS r;cases ru;obtain⟨its,rv,pl,_⟩:=I.list hx;exact join_list pl.isList (by simpa using aD0 rv) hz fun U k=>⟨.str _,H,I.tok _,⟨_,rfl⟩,q⟩
theorem aBI:∀{bs:List Bool}{J:List Ac},cE (bs.map V.bl) J->∀(i:Nat) v,J[i]?=some v->∃ b,bs[i]?=some b/\v=.bool b
 | [],_,.nil,i,v,e=>by simp at e
 | b::bs,_,.cons rfl r,0,v,e=>by simp at e;exact⟨b,rfl,e.symm⟩
 | b::bs,_,.cons rfl r,i+1,v,e=>by
  obtain⟨c,h1,h2⟩:=aBI r i v (by simpa using e);exact⟨c,by simpa using h1,h2⟩
def aC3(bs:List Bool):((AY bs.length).all fun i=>(bs[i]?).getD true)=bs.all id:=by
 rw[BR,AR,AR];constructor
 .intro h b O;obtain⟨i,hi,e⟩:=Fi.mp O;have:=h i (Ce.mpr hi);rw[Ai hi]at this;simpa[e]using this
 .intro h i hi;have J:=Ce.mp hi;rw[Ai J];exact h _ (B8 J)
inductive qY(K:Ae)(xs:List V)(H:Hp)(Q:VK):Prop
 | mk (p:Ag) (bs:List Bool) (q0:xs=[.ref p]) (q1:SqL K H p (bs.map V.bl)) (q2:Q (.bl (bs.all id)) H):qY K xs H Q
def aC4(K:Ae):List V->Hp->VK->Prop:=fun xs H Q=>qY K xs H Q
def qZ(hc:X.calm=true):gR X (.builtin "all") (aC4 X.K):=by
 intro dl s σ H xs us Q I r h;obtain⟨p,bs,rfl,hx,q⟩:=h;obtain⟨u,rfl,ru⟩:=gS r;cases ru;obtain⟨its,rv,pl,_⟩:=I.list hx;have O:=pl.isList;have J:its.length=bs.length:=by have:=rv.length;simpa using this.symm
 have U:p<s.heap.objs.size:=by obtain⟨_,e,_⟩:=O;exact Az e
 refine call_all_walk (Gm O ?_);refine⟨s.heap.objs.size,[s.heap.objs.size,p],[s.heap.objs.size],its.toArray.size,_,_,fun i=>(bs[i]?).getD true,rfl,Walks.list (A:=X.A.in1) (I.ok.hd hc) _ p (AU U) its.toArray,
  ⟨⟨_,AE _ rfl,rfl,rfl⟩,O.push _⟩,fun i v s' Q' E' Z W=>?_,fun h' tk Y=>?_⟩
 .obtain⟨b,e,rfl⟩:=aBI rv i v (by simpa using Z);simp only[e,Option.getD_some]at W;exact BX W
 .rw[Au,J,aC3];exact⟨.bl _,H,I.kept fun b x e=>Y b x (fun hm=>by rw[Bd.mp hm]at e;exact Cd _ (Az e)) (Ah _ e),rfl,q⟩
def wD:List V->List V->Bool
 | [],[]=>true
 | x::xs,y::ys=>eqV x y&&wD xs ys
 | _,_=>false
theorem rA:∀{xs ys:List V},xs.length≠ys.length->wD xs ys=false
 | [],[],h=>absurd rfl h
 | [],_::_,_=>rfl
 | _::_,[],_=>rfl
 | x::xs,y::ys,h=>by
  show(eqV x y&&wD xs ys)=false;rw[rA (fun e=>h (by simp[e])),A1]
theorem wE:∀{xs ys:List V},xs.length=ys.length->((AY xs.length).all fun i=>eqV (xs[i]?.getD .non) (ys[i]?.getD .non))=wD xs ys
 | [],[],_=>rfl
 | x::xs,y::ys,h=>by
  have J:=wE (xs:=xs) (ys:=ys) (by simpa using h);rw[An,List.range_succ_eq_map,Di,DU];show(eqV x y&&_)=(eqV x y&&wD xs ys)
  rw[<- J];rfl
def aBJ{A:AK}{s:Ad}{xs ys:List V}{U ws:List Ac}(r1:cE xs U)(r2:cE ys ws)(f1:xs.all iH=true)(f2:ys.all iH=true)(j:Nat)(h1:j<U.toArray.size)(h2:j<ws.toArray.size):
  Gp A s U.toArray[j] ws.toArray[j] (eqV (xs[j]?.getD .non) (ys[j]?.getD .non)):=by
 have W:=r1.length;have Y:=r2.length;have O:j<xs.length:=by simpa[W]using h1
 have J:j<ys.length:=by simpa[Y]using h2
 obtain⟨u,eu,ru⟩:=r1.get (Ai O);obtain⟨w',ew,rw'⟩:=r2.get (Ai J);have e1:U.toArray[j]=u:=by
  rw[Ai (by simpa using h1)]at eu;simpa using eu
 have e2:ws.toArray[j]=w':=by
  rw[Ai (by simpa using h2)]at ew;simpa using ew
 rw[e1,e2,Ai O,Ai J];exact aC1 ru rw' (AR.mp f1 _ (B8 O)) (AR.mp f2 _ (B8 J))
inductive wF(K:Ae)(x:V)(y:V)(H:Hp)(Q:VK):Prop
 | mk (p:_) (q:_) (xs:_) (ys:_) (q0:x=.ref p) (q1:y=.ref q) (q2:SqL K H p xs) (q3:SqL K H q ys) (q4:xs.all iH=true) (q5:ys.all iH=true) (q6:Q (.bl (wD xs ys)) H):wF K x y H Q
def aGG(K:Ae):V->V->Hp->VK->Prop:=fun x y H Q=>wF K x y H Q
def aAH(J:X.A.units<cLine):OpR X (compareOp .Eq) (aGG X.K):=by
 intro dl s σ H x y v u Q I W U h;obtain⟨p,q,xs,ys,rfl,rfl,h1,h2,f1,f2,hq⟩:=h;cases W;cases U;obtain⟨us,r1,p1,_⟩:=I.list h1;obtain⟨ws,r2,p2,_⟩:=I.list h2;have O:=r1.length;have Y:=r2.length;by_cases e:xs.length=ys.length
 .refine SeqAt.eq_listAt p1.isList p2.isList (by simp;lia) J (aBJ r1 r2 f1 f2) ?_;rw[Au,<- O,wE e];exact⟨.bl _,H,I,rfl,hq⟩
 .refine SeqAt.eq_list_lengthsAt p1.isList p2.isList (by simp;lia) J ?_;rw[rA e]at hq;exact⟨.bl _,H,I,rfl,hq⟩
inductive wG(K:Ae)(x:V)(y:V)(H:Hp)(Q:VK):Prop
 | mk (p:_) (q:_) (xs:_) (ys:_) (q0:x=.ref p) (q1:y=.ref q) (q2:SqL K H p xs) (q3:SqL K H q ys) (q4:xs.all iH=true) (q5:ys.all iH=true) (q6:Q (.bl (!wD xs ys)) H):wG K x y H Q
def aGH(K:Ae):V->V->Hp->VK->Prop:=fun x y H Q=>wG K x y H Q
def aGI(J:X.A.units<cLine):OpR X (compareOp .NotEq) (aGH X.K):=by
 intro dl s σ H x y v u Q I W U h;obtain⟨p,q,xs,ys,rfl,rfl,h1,h2,f1,f2,hq⟩:=h;cases W;cases U;obtain⟨us,r1,p1,_⟩:=I.list h1;obtain⟨ws,r2,p2,_⟩:=I.list h2;have O:=r1.length;have Y:=r2.length;by_cases e:xs.length=ys.length
 .refine SeqAt.RcNeAt.lists p1.isList p2.isList (by simp;lia) J (aBJ r1 r2 f1 f2) X.prog X.w _ _ ?_;rw[Au,<- O,wE e];exact⟨.bl _,H,I,rfl,hq⟩
 .refine SeqAt.RcNeAt.lists_lengths p1.isList p2.isList (by simp;lia) J X.prog X.w _ _ ?_;rw[rA e]at hq;exact⟨.bl _,H,I,rfl,hq⟩
def aJ{n:Nat}(h:n<=1000000):n<=sizeLine:=by
 have:sizeLine=16777216:=D0;lia
def pC{J:It}{g:TG}{tt:TT}{te:TE}{σ₀:St}{H₀:Hp}{Q:VK}(n:Nat)(O:Nat->List V->St->Hp->Prop)(h0:O 0 [] σ₀ H₀)(hn:n<=sizeLine)(Y:∀ i ys σ H,O i ys σ H->ys.length<=i)
  (aa:∀ i ys σ H,i<n->O i ys σ H->J.go i H) (U:∀ ys σ H,O n ys σ H->J.stop n H)
  (hs:∀ i ys σ H x H',i<n->O i ys σ H->J.yld i H x H'->g x σ H' fun Z H2=>tt Z H2 fun b H3=>if b=true then te Z H3 fun v H4=>O (i+1) (ys++[v]) Z H4 else O (i+1) ys Z H3)
  (hd:∀ ys σ H,O n ys σ H->∀ D,H D=none->Q (.ref D) (upd H D (.lst ys))):nH J g tt te σ₀ H₀ Q:=by
 refine⟨fun i m ys σ H=>m=n-i/\i<=n/\O i ys σ H,⟨n,by simp,A3 _,h0⟩,?_⟩;rintro i m ys σ H ⟨rfl,hi,p⟩;refine⟨AH (Y i ys σ H p) (AH hi hn),?_⟩;by_cases W:i<n
 .exact .inr ⟨aa i ys σ H W p,O (i+1),fun zs σ' H' p'=>⟨n-(i+1),by lia,rfl,W,p'⟩,fun x H' y=>hs i ys σ H x H' W p y⟩
 .have e:i=n:=by lia
  subst e;exact .inl ⟨U ys σ H p,hd ys σ H p⟩
def rB{x:Str}{g:TG}{W:TT}{te:TE}{Z:St}{H₀:Hp}{Q:VK}(J:Nat->List V->St->Hp->Prop)(h0:J 0 [] Z H₀)(hn:x.cps.size<=sizeLine)(O:∀ i ys σ H,J i ys σ H->ys.length<=i)
  (hs:∀ i c ys σ H,x.cps[i]?=some c->J i ys σ H->g (.str ⟨#[c]⟩) σ H fun U H2=>W U H2 fun b Y=>if b=true then te U Y fun v H4=>J (i+1) (ys++[v]) U H4 else J (i+1) ys U Y)
  (hd:∀ ys σ H,J x.cps.size ys σ H->∀ D,H D=none->Q (.ref D) (upd H D (.lst ys))):nH (Its x) g W te Z H₀ Q:=
 pC x.cps.size J h0 hn O (fun i _ _ _ h _=>h) (fun _ _ _ _=>Ap _) (fun i ys σ H v H' hi p y=>by
  obtain⟨e,c,ec,rfl⟩:=y;subst e;exact hs i c ys σ _ ec p) hd
def mI{lo:Int}{n:Nat}{g:TG}{W:TT}{te:TE}{Z:St}{H₀:Hp}{Q:VK}(J:Nat->List V->St->Hp->Prop)(h0:J 0 [] Z H₀)(hn:n<=sizeLine)(O:∀ i ys σ H,J i ys σ H->ys.length<=i)
  (hs:∀ i ys σ H,i<n->J i ys σ H->g (.int (lo+i)) σ H fun U H2=>W U H2 fun b Y=>if b=true then te U Y fun v H4=>J (i+1) (ys++[v]) U H4 else J (i+1) ys U Y)
  (hd:∀ ys σ H,J n ys σ H->∀ D,H D=none->Q (.ref D) (upd H D (.lst ys))):nH (Itr lo n) g W te Z H₀ Q:=
 pC n J h0 hn O (fun i _ _ _ h _=>h) (fun _ _ _ _=>Ap _) (fun i ys σ H v H' hi p y=>by
  obtain⟨e,rfl⟩:=y;subst e;exact hs i ys σ _ hi p) hd
def iM{K:Ae}{a:Ag}{xs:List V}{g:TG}{Y:TT}{te:TE}{σ₀:St}{H₀:Hp}{Q:VK}(J:Nat->List V->St->Hp->Prop)(h0:J 0 [] σ₀ H₀)(hn:xs.length<=sizeLine)(O:∀ i ys σ H,J i ys σ H->ys.length<=i)
  (W:∀ i ys σ H,J i ys σ H->SqL K H a xs)
  (hs:∀ i x ys σ H,xs[i]?=some x->J i ys σ H->g x σ H fun U H2=>Y U H2 fun b Z=>if b=true then te U Z fun v H4=>J (i+1) (ys++[v]) U H4 else J (i+1) ys U Z)
  (hd:∀ ys σ H,J xs.length ys σ H->∀ D,H D=none->Q (.ref D) (upd H D (.lst ys))):nH (Itl K a) g Y te σ₀ H₀ Q:=
 pC xs.length J h0 hn O (fun i ys σ H h p=>⟨xs,xs[i],W i ys σ H p,by simp[h]⟩) (fun ys σ H p=>⟨xs,W _ ys σ H p,Ap _⟩) (fun i ys σ H v H' hi p y=>by
  obtain⟨e,y⟩:=y;subst e;exact hs i v ys σ _ (y xs (W i ys σ _ p)) p) hd
def jJ{K:Ae}{a:Ag}{xs:List V}{g:TG}{Y:TT}{te:TE}{σ₀:St}{H₀:Hp}{Q:VK}(J:Nat->List V->St->Hp->Prop)(h0:J 0 [] σ₀ H₀)(hn:xs.length<=sizeLine)(O:∀ i ys σ H,J i ys σ H->ys.length<=i)
  (W:∀ i ys σ H,J i ys σ H->SqT K H a xs)
  (hs:∀ i x ys σ H,xs[i]?=some x->J i ys σ H->g x σ H fun U H2=>Y U H2 fun b Z=>if b=true then te U Z fun v H4=>J (i+1) (ys++[v]) U H4 else J (i+1) ys U Z)
  (hd:∀ ys σ H,J xs.length ys σ H->∀ D,H D=none->Q (.ref D) (upd H D (.lst ys))):nH (Itt K a) g Y te σ₀ H₀ Q:=
 pC xs.length J h0 hn O (fun i ys σ H h p=>⟨xs,xs[i],W i ys σ H p,by simp[h]⟩) (fun ys σ H p=>⟨xs,W _ ys σ H p,Ap _⟩) (fun i ys σ H v H' hi p y=>by
  obtain⟨e,y⟩:=y;subst e;exact hs i v ys σ _ (y xs (W i ys σ _ p)) p) hd
def bM(p:Ag)(H H':Hp):Prop:=∀ b o,H b=some o->b≠p->H' b=some o
def bM.refl(p:Ag)(H:Hp):bM p H H:=fun _ _ e _=>e
def bM.trans{p:Ag}{H H1 H2:Hp}(a:bM p H H1)(b:bM p H1 H2):bM p H H2:=fun c o e h=>b c o (a c o e h) h
def bM.same{p:Ag}{H H1 H2:Hp}(a:bM p H H1)(b:aU H1 H2):bM p H H2:=fun c o e h=>b c o (a c o e h)
def aU.but{p:Ag}{H H1:Hp}(a:aU H H1):bM p H H1:=fun c o e _=>a c o e
def bM.upd{p:Ag}{o:HO}{H H1:Hp}(a:bM p H H1):bM p H (upd H1 p o):=fun c u e h=>by rw[bE h];exact a c u e h
def aM{p:Ag}{o:HO}{H:Hp}(h:H p=none):aU H (upd H p o):=fun c u e=>by rw[bE (aZ e h)];exact e
inductive rC(x:V)(xs:List V)(H:Hp)(Q:VK):Prop
 | mk (z:_) (q0:x=.str z) (q1:xs=[]) (q2:z.length<=100000) (q3:Q (.str (Hc z)) H):rC x xs H Q
def aC5:V->List V->Hp->VK->Prop:=fun x xs H Q=>rC x xs H Q
def aGJ:MtR X "str.upper" aC5:=by
 intro dl s σ H x xs v O Q I J r h;obtain⟨z,rfl,rfl,hz,q⟩:=h;obtain⟨t,rfl⟩:=J;cases r;exact PySem.SC.upper (PyProof.Rows.fit_upper (by lia)) ⟨.str _,H,I.tok _,⟨_,rfl⟩,q⟩
inductive aGK(t:TS)(D:lY)(σ:St)(H:Hp):Prop
 | mk (R:St->Hp->Prop) (q0:t { D with nx:=R } σ H) (q1:∀ σ' H',R σ' H'->D.nx σ' H'):aGK t D σ H
def aMZ(t:TS):TS:=fun D σ H=>aGK t D σ H
def gW{st:BA}{t:TS}(h:PS X st t):PS X st (aMZ t):=by
 constructor;intro dl s σ H D I q;obtain⟨R,q1,q2⟩:=q;refine thn (h dl s σ H _ I q1) fun f s' z=>?_;cases f with
 | next=>obtain⟨σ',H',I',r⟩:=z;exact⟨σ',H',I',q2 _ _ r⟩
 | brk=>exact z
 | cont=>exact z
 | ret u=>exact z
theorem lF:∀ ns:List Int,(ns.map V.int).all iH=true
 | []=>rfl
 | _::r=>lF r
def aAI{K:Ae}{T U:String}{b:Bool}(hn:(Bc T==Bc U)=false)(hm:PySem.W.kitMeta U=true)(J:(PySem.fastBuiltinMro T).map (·.contains (Bc U))=some b):Bm K (.type T) (.type U)=some b:=by
 unfold Bm;rw[Ia (by rw[hn];exact Aq)];show(if PySem.W.kitMeta U=true then PySem.W.subIn K (Bc T) (Bc U) else none)=_;rw[Ib hm];exact J
def rD{K:Ae}{T:String}:Bm K (.type T) (.type T)=some true:=by
 unfold Bm;rw[Ib (by rw[beq_self_eq_true])]
def gX{xs:List V}{i:Int}(O:0<=i)(h1:i<xs.length):∃ v,v∈xs/\atI xs i=some v:=by
 have J:i.toNat<xs.length:=by lia
 refine⟨xs[i.toNat],B8 J,?_⟩;have e:=bG (xs:=xs) (j:=i.toNat) (v:=xs[i.toNat]) (Ai J);rw[C7 O]at e;exact e
def aD1{xs:List Nat}{i:Int}(O:0<=i)(h1:i<xs.length):∃ v,v∈xs/\atI xs i=some v:=by
 have J:i.toNat<xs.length:=by lia
 refine⟨xs[i.toNat],B8 J,?_⟩;have e:=bG (xs:=xs) (j:=i.toNat) (v:=xs[i.toNat]) (Ai J);rw[C7 O]at e;exact e
def oJ:Bf->Bool
 | .Starred ..=>false
 | _=>true
def aFp{e:Bf}{es:List Bf}{env:Env}(h:oJ e=true):starEach (e::es) env=(false,eval e env)::starEach es env:=by
 cases e<;>first|rfl|cases h
def cU{X:Cx}{e:Bf}{es:List Bf}{te:TE}{t:TA}(ha:PE X e te)(O:PA X es t)(J:oJ e=true:=by rfl):PA X (e::es) (nG te t):=gN ha O (aFp J)
def Inv.turnedL{dl:Ii}{σ:St}{H:Hp}{s:Ad}{h':Bb}{t':Nat}{fp:List Ag}(I:Inv X dl σ H s)(k:∀ b o,b∉fp->s.heap.get? b=some o->h'.get? b=some o)(O:∀ b∈fp,nS X dl H b):
  Inv X dl σ H { s with heap:=h',toks:=t' }:=by
 have J:∀ b u,H b=some u->b∉fp:=fun b u e z=>by rw[(O b z).1]at e;cases e
 refine I.step (g':=s.gens) (d':=s.drawn) (ch:=fp) (fun b U=>?_) (fun b o _ _ hc e _=>k b o hc e) (fun b o _ _ hc e _=>⟨o.slots,k b o hc e⟩) (fun _ _ _ _ n=>n)
  (fun b o hc e=>⟨o,k b o hc e⟩) (fun _ _ e=>e) (fun _ _ _ e=>e) (fun b ps e=>⟨#[],by rw[e];simp⟩) (fun m hm=>?_) (fun b u e=>?_) I.bare
 .obtain⟨_,h1,_,h3,h4,h5⟩:=O b U;exact⟨h3,h1,h4,h5⟩
 .obtain⟨o,es,ep,ho,r⟩:=hm;exact⟨o,es,ep,k _ o (fun z=>(O _ z).2.1 rfl) ho,r⟩
 .refine(I.hok b u e).stay (fun c v hc q=>k c v ?_ q) (fun _ q=>q) fun _ _ q=>q;rcases hc with z|z
  .rw[z];exact J b u e
  .exact J c _ z
structure ZA(z TI TO i1 i2:Ag):Prop where
 a1:TI≠z
 a2:TO≠z
 a3:i1≠z
 a4:i2≠z
 a5:TI≠TO
 a6:TI≠i1
 a7:TI≠i2
 a8:TO≠i1
 a9:TO≠i2
 a10:i1≠i2
def lG(σ:List Str)(v:Str):List Str:=if v∈σ then σ else σ++[v]
def iN(val:Nat->Str):Nat->List Str
 | 0=>[]
 | i+1=>lG (iN val i) (val i)
def rE(σ:List Str)(k:Str):(σ.any fun x=>x==k)=decide (k∈σ):=by
 rw[BR,D8,decide_eq_true_iff];constructor
 .rintro⟨x,hx,e⟩;rw[beq_iff_eq]at e;exact e▸hx
 .intro h;exact⟨k,h,beq_self_eq_true k⟩
def aFq(σ:List Str)(v k:Str):((lG σ v).any fun x=>x==k)=((σ.any fun x=>x==k)||decide (k=v)):=by
 rw[rE,rE];unfold lG;split
 .next h=>
  rw[BR];simp only[decide_eq_true_eq,Gk];constructor
  .intro z;exact .inl z
  .rintro(z|z)
   .exact z
   .exact z▸h
 .rw[BR];simp
def mJ(σ:List Str)(v:Str):(lG σ v).length=if (σ.any fun x=>x==v)=true then σ.length else σ.length+1:=by
 rw[rE];unfold lG;by_cases h:v∈σ
 .rw[Ib h,Ib (Ic h)]
 .rw[Ia h,Ia (by simpa using h),Am];rfl
theorem uW(val:Nat->Str):∀ i,(iN val i).length<=i
 | 0=>Ap _
 | i+1=>by
  have J:=uW val i;show(lG _ _).length<=_;rw[mJ];split<;>lia
theorem wH(val:Nat->Str):∀ i k,k∈iN val i↔∃ j,j<i/\val j=k
 | 0,k=>by
  show k∈[]↔_;simp
 | i+1,k=>by
  show k∈lG (iN val i) (val i)↔_;have J:=wH val i;unfold lG;by_cases h:val i∈iN val i
  .rw[Ib h,J k];constructor
   .rintro⟨j,hj,e⟩;exact⟨j,by lia,e⟩
   .rintro⟨j,hj,e⟩;by_cases z:j=i
    .subst z;obtain⟨j',hj',e'⟩:=(J _).mp h;exact⟨j',hj',e'.trans e⟩
    .exact⟨j,by lia,e⟩
  .rw[Ia h,A4,J k,Bd];constructor
   .rintro(⟨j,hj,e⟩|e)
    .exact⟨j,by lia,e⟩
    .exact⟨i,by lia,e.symm⟩
   .rintro⟨j,hj,e⟩;by_cases z:j=i
    .subst z;exact .inr e.symm
    .exact .inl ⟨j,by lia,e⟩
theorem yY(val:Nat->Str):∀ i,(iN val i).length=i↔((AY i).map val).Nodup
 | 0=>by simp[iN]
 | i+1=>by
  have O:=yY val i;have W:=uW val i;show(lG (iN val i) (val i)).length=_↔_;rw[mJ,rE,Ek,Al,Dp];have hm:val i∈iN val i↔val i∈(AY i).map val:=by
   rw[wH,Bn];constructor
   .rintro⟨j,hj,e⟩;exact⟨j,Ce.mpr hj,e⟩
   .rintro⟨j,hj,e⟩;exact⟨j,Ce.mp hj,e⟩
  by_cases h:val i∈iN val i
  .rw[Ib (Ic h)];constructor
   .intro z;lia
   .rintro⟨_,_,z⟩;exact absurd rfl (z _ (hm.mp h) _ (by simp))
  .rw[Ia (by simpa using h)];constructor
   .intro z;refine⟨O.mp (by lia),by simp,fun a ha b U e=>?_⟩;have J:b=val i:=by simpa using U
    subst J;exact h (hm.mpr (e▸ha))
   .rintro⟨z,_,_⟩;rw[O.mpr z]
def aFr(J:List Str):decide (((iN (fun i=>J.getD i "") J.length).length:Int)=(J.length:Int))=decide J.Nodup:=by
 have e:(AY J.length).map (fun i=>J.getD i "")=J:=by
  apply Cv;intro j;rw[AF];by_cases h:j<J.length
  .rw[C4 h,Ai h];simp[h]
  .rw[A2 (by rw[CQ];lia),A2 (by lia)];rfl
 have:=yY (fun i=>J.getD i "") J.length;rw[e]at this;rw[decide_eq_decide,<- this];lia
inductive aBK(K:Ae)(x:V)(y:V)(H:Hp)(Q:VK):Prop
 | mk (a:_) (b:_) (ys:_) (q0:x=.ref a) (q1:y=.ref b) (q2:SqT K H a []) (q3:SqT K H b ys) (q4:Q (.ref b) H):aBK K x y H Q
def aKY(K:Ae):R2:=fun x y H Q=>aBK K x y H Q
def aGL:OpR X (binaryOp .Add) (aKY X.K):=by
 intro dl s σ H x y v u Q I O J h;obtain⟨a,b,ys,rfl,rfl,ha,hb,q⟩:=h;cases O;cases J;obtain⟨its,r1,p1,_⟩:=I.tuple ha;obtain⟨its2,r2,p2,_⟩:=I.tuple hb;cases r1;obtain⟨⟨cls,dd,data,sl⟩,ho,hc,n,hd⟩:=id p1;obtain⟨⟨cls2,dd2,data2,sl2⟩,ho2,hc2,n2,hd2⟩:=id p2;simp only at hc hd hc2 hd2;subst hc hd hc2 hd2;exact Hz ⟨_,ho,rfl⟩ ⟨_,ho2,rfl⟩ Gx Hn ER EH (EC _ _)
   (tuple_addW0 a b _ _ n n2 dd dd2 sl sl2 (by simp)) ⟨ho,ho2,⟨.ref b,H,I,rfl,q⟩⟩
def aGM(l:List Ac):((AY l.length).filterMap fun(m:Nat)=>l.toArray[((l.length:Int)-1+(m:Int)*(-1)).toNat]?).toArray=l.reverse.toArray:=by
 congr 1;have e:∀ k,k<=l.length->((AY k).filterMap fun(m:Nat)=>l.toArray[((l.length:Int)-1+(m:Int)*(-1)).toNat]?)=l.reverse.take k:=by
  intro k
  induction k with
  | zero=>intro _;simp
  | succ k J=>
   intro O;rw[Ek,List.filterMap_append,J (by lia),A0];congr 1;have e1:((l.length:Int)-1+(k:Int)*(-1)).toNat=l.length-1-k:=by lia
   have h1:l.length-1-k<l.length:=by lia
   rw[DD,e1];have e3:l.toArray[l.length-1-k]?=some (l[l.length-1-k]):=by simp[h1]
   have e4:l.reverse[k]?=some (l[l.length-1-k]):=by
    rw[List.getElem?_reverse (by lia),Ai h1]
   rw[e3,e4];rfl
 rw[e l.length (Ap _)];rw[<- DC,Bh]
section
variable{st:Bf}{ts:TE}{p2:Pos}
end
mutual
inductive RdV(m:Bool)(H:Hp):V->Aj->Prop
 | non:RdV m H .non .none
 | bl (b:Bool):RdV m H (.bl b) (.bool b)
 | int (i:Int):RdV m H (.int i) (.int i)
 | str (z:Str) (h:z.length<=1000):RdV m H (.str z) (.str z)
 | lst {a:Ag} {xs:List V} {ds:List Aj} (hm:m=true) (e:H a=some (.lst xs)) (hl:xs.length<=1000) (r:dB m H xs ds):RdV m H (.ref a) (.list ds)
 | tup {a:Ag} {xs:List V} {ds:List Aj} (e:H a=some (.tup xs)) (hl:xs.length<=1000) (r:dB m H xs ds):RdV m H (.ref a) (.tuple ds)
 | dct {a:Ag} (hm:m=false) (e:H a=some (.dK [])):RdV m H (.ref a) (.dict [])
inductive dB(m:Bool)(H:Hp):List V->List Aj->Prop
 | nil:dB m H [] []
 | cons {x:V} {d:Aj} {xs:List V} {ds:List Aj} (a:RdV m H x d) (r:dB m H xs ds):dB m H (x::xs) (d::ds)
end
mutual
theorem RdV.keep{m:Bool}{H H':Hp}(k:∀ a o,H a=some o->(∀ O r,o≠.dK (O::r))->H' a=some o):∀{x:V}{d:Aj},RdV m H x d->RdV m H' x d
 | _,_,.non=>.non
 | _,_,.bl b=>.bl b
 | _,_,.int i=>.int i
 | _,_,.str z h=>.str z h
 | _,_,.lst hm e J r=>.lst hm (k _ _ e (fun _ _ z=>nomatch z)) J (dB.keep k r)
 | _,_,.tup e J r=>.tup (k _ _ e (fun _ _ z=>nomatch z)) J (dB.keep k r)
 | _,_,.dct hm e=>.dct hm (k _ _ e (fun _ _ z=>nomatch z))
theorem dB.keep{m:Bool}{H H':Hp}(k:∀ a o,H a=some o->(∀ J r,o≠.dK (J::r))->H' a=some o):∀{xs:List V}{ds:List Aj},dB m H xs ds->dB m H' xs ds
 | _,_,.nil=>.nil
 | _,_,.cons a r=>.cons (RdV.keep k a) (dB.keep k r)
end
def RdV.same{m:Bool}{H H':Hp}{x:V}{d:Aj}(h:RdV m H x d)(s:aU H H'):RdV m H' x d:=h.keep fun a o e _=>s a o e
def dB.same{m:Bool}{H H':Hp}{x:List V}{d:List Aj}(h:dB m H x d)(s:aU H H'):dB m H' x d:=h.keep fun a o e _=>s a o e
theorem dB.len{m:Bool}{H:Hp}:∀{xs:List V}{ds:List Aj},dB m H xs ds->xs.length=ds.length
 | _,_,.nil=>rfl
 | _,_,.cons _ r=>by rw[An,An,dB.len r]
theorem dB.app{m:Bool}{H:Hp}:∀{xs:List V}{ds:List Aj}{ys:List V}{es:List Aj},dB m H xs ds->dB m H ys es->dB m H (xs++ys) (ds++es)
 | _,_,_,_,.nil,h=>h
 | _,_,_,_,.cons a r,h=>.cons a (dB.app r h)
theorem dB.at{m:Bool}{H:Hp}:∀{xs:List V}{ds:List Aj}{i:Nat}{x:V},dB m H xs ds->xs[i]?=some x->∃ d,ds[i]?=some d/\RdV m H x d
 | _,_,0,_,.cons a r,e=>by simp at e;subst e;exact⟨_,rfl,a⟩
 | _,_,i+1,_,.cons a r,e=>by simp at e;simpa using dB.at r e
mutual
theorem RdV.reads{dl:Ii}{σ:St}{m:Bool}{H:Hp}{s:Ad}(I:Inv X dl σ H s):∀{x:V}{d:Aj}{v:Ac},RdV m H x d->cQ x v->∃ as,Reads s.heap v d as/\(m=true->d.hasDict=false)/\(m=false->¬ sysModules∈as)
 | _,_,_,.non,r=>by cases r;exact⟨[],.none,fun _=>rfl,fun _=>by simp⟩
 | _,_,_,.bl b,r=>by cases r;exact⟨[],.bool b,fun _=>rfl,fun _=>by simp⟩
 | _,_,_,.int i,r=>by obtain⟨t,rfl⟩:=r;exact⟨[],.int i t,fun _=>rfl,fun _=>by simp⟩
 | _,_,_,.str z _,r=>by obtain⟨t,rfl⟩:=r;exact⟨[],.str z t,fun _=>rfl,fun _=>by simp⟩
 | _,_,_,.lst hm e _ rs,r=>by
  cases r;obtain⟨_,its,n,rv,eo⟩:cZ X.prog X.w H s.heap _ (.lst _):=I.hok _ _ e;obtain⟨as,ra,h1,h2⟩:=dB.reads I rs rv;exact⟨_,.list eo rfl rfl (by simpa using ra),fun _=>h1 hm,fun z=>by rw[hm]at z;cases z⟩
 | _,_,_,.tup e _ rs,r=>by
  cases r;obtain⟨_,its,rv,pt⟩:cZ X.prog X.w H s.heap _ (.tup _):=I.hok _ _ e;obtain⟨as,ra,h1,h2⟩:=dB.reads I rs rv;obtain⟨o,eo,⟨hc,n,hd⟩,_⟩:=pt;exact⟨as,.tuple eo hc hd (by simpa using ra),h1,h2⟩
 | _,_,_,.dct hm e,r=>by
  cases r;obtain⟨_,hs,vs,kv,o,es,ep,eo,hx,hd,hk,hp,_⟩:cZ X.prog X.w H s.heap _ (.dK []):=I.hok _ _ e;cases kv;have J:es.toList=[]:=by
   cases h:es.toList with
   | nil=>rfl
   | cons y r=>rw[h]at hp;cases hp
  refine⟨_,Reads.dict (kvs:=[]) (as:=[]) (bs:=[]) eo hx.1 hd (by rw[J];exact .nil) (by rw[J];exact .nil),(fun z=>by rw[hm]at z;cases z),fun _=>?_⟩;intro z;simp at z;rw[z]at hs;simp at hs
theorem dB.reads{dl:Ii}{σ:St}{m:Bool}{H:Hp}{s:Ad}(I:Inv X dl σ H s):∀{xs:List V}{ds:List Aj}{vs:List Ac},dB m H xs ds->cE xs vs->∃ as,ReadsAll s.heap vs ds as/\(m=true->PyData.hasDictAll ds=false)/\(m=false->¬ sysModules∈as)
 | _,_,_,.nil,.nil=>⟨[],.nil,fun _=>rfl,fun _=>by simp⟩
 | _,_,_,.cons a r,.cons J O=>by
  obtain⟨as,h1,h2,h3⟩:=RdV.reads I a J;obtain⟨bs,g1,g2,g3⟩:=dB.reads I r O;refine⟨as++bs,.cons h1 g1,fun z=>?_,fun z w=>?_⟩
  .unfold PyData.hasDictAll;rw[h2 z,g2 z];rfl
  .rcases A4.mp w with w|w
   .exact h3 z w
   .exact g3 z w
end
inductive pV(xs:List V)(H:Hp)(Q:VK):Prop
 | mk (a:Ag) (m:Bool) (d:Aj) (q0:xs=[.ref a]) (q1:RdV m H (.ref a) d) (q2:d.showable=true) (q3:d.depth<=20) (q4:d.shown.length<=sizeLine) (q5:Q (.str d.shown) H):pV xs H Q
def aBL:List V->Hp->VK->Prop:=fun xs H Q=>pV xs H Q
theorem aFs{k:Nat}(J:eO k X.A):gR X (.builtin "repr") aBL:=by
 intro dl s σ H xs U Q I r h;obtain⟨a,m,d,rfl,hx,hs,hd,hz,q⟩:=h;obtain⟨u,rfl,ru⟩:=gS r;cases ru;obtain⟨as,hrd,h1,h2⟩:=RdV.reads I hx rfl;refine repr_of_reads' hrd hs (fun z=>?_) J.gd (by have:=J.un;lia) (fun b o e=>e) (fun h' u tk O=>⟨.str d.shown,H,I.kept (t':=tk) O,⟨u,rfl⟩,q⟩) hz;cases m with
 | true=>rw[h1 rfl]at z;cases z
 | false=>exact h2 rfl
def rF{t U:Ag}{items:Array Ac}{W Z:Ac}{lo hi:Option Int}{Q:Ac->Ad->Prop}(ht:E7 s.heap t items)(Y:s.heap.IsSliceOf U W Z .none)(pl:Fs W lo)(pu:Fs Z hi)
  (hw:HT.sIx items.size 0 lo=0/\HT.sIx items.size items.size hi=items.size) (h:Q (.ref t) s):wpAny (model prog w) A (getItem (.ref t) (.ref U)) Q E s:=by
 obtain⟨os,hos,hcs,hds⟩:=id Y;have O:s.TypeIs (.ref U) "slice":=⟨os,hos,hcs⟩
 unfold getItem
 try with_reducible refine Bg ?_
 first|refine Aa (Af ?_)|skip
 refine Aa (wpAny_sequenceKey ht.typeIs (by decide) ?_);refine Aa (CB (name:=Be "__getitem__") ht.typeIs BU
  (Ct BU ht.typeIs entry_tuple_getitem ?_ (args_tuple_getitem _ _)))
 show wpAny _ _ (Builtin.Tuple.tupleItemsOf (.ref t) >>= _) _ _ s;refine Aa (tupleItemsOf_ ht ?_);refine Aa (Cf O ?_);rw[Ib (by decide)];refine Aa (HT.sliceApplied_gen Y pl pu ?_);have J:(((HT.sIx items.size 0 lo:Nat):Int)==0&&(1:Int)==1&&(HT.sIx items.size items.size hi-HT.sIx items.size 0 lo)==items.size)=true:=by
  rw[hw.1,hw.2];simp
 show wpAny _ _ (if (((HT.sIx items.size 0 lo:Nat):Int)==0&&(1:Int)==1&&(HT.sIx items.size items.size hi-HT.sIx items.size 0 lo)==items.size)=true then _ else _) _ _ s;rw[Ib J];obtain⟨⟨cls,dd,data,sl'⟩,ho,hc,n,hd⟩:=id ht;simp only at hc hd;subst hc hd
 wp_walk
 exact⟨_,rfl,Af h⟩
inductive aGN(K:Ae)(x:V)(lo:Option Int)(hi:Option Int)(H:Hp)(Q:VK):Prop
 | mk (a:_) (xs:_) (q0:x=.ref a) (q1:H a=some (.tup xs)) (q2:∀ r H',aU H H'->H' r=some (.tup (gU xs lo hi))->Q (.ref r) H'):aGN K x lo hi H Q
def aM0(K:Ae):V->Option Int->Option Int->Hp->VK->Prop:=fun x lo hi H Q=>aGN K x lo hi H Q
def uX:SlR X (aM0 X.K):=by
 intro dl s σ H x v Z vu lo hi sl Q I W O pl U h;obtain⟨a,xs,rfl,hx,q⟩:=h;by_cases hw:HT.sIx xs.length 0 lo=0/\HT.sIx xs.length xs.length hi=xs.length
 .cases W;obtain⟨its,r,ht,hz⟩:=I.tuple (aV hx);have J:its.toArray.size=xs.length:=by rw[Au];exact r.length.symm
  refine⟨"tuple",_,BU.lookup,ht.typeIs,rF ht O pl U (by rw[J];exact hw) ⟨.ref a,H,I,rfl,q a H (aU.refl H) ?_⟩⟩;have e:gU xs lo hi=xs:=by
   unfold gU;rw[hw.1,hw.2,C6,Hi,Bh]
  rw[e];exact hx
 .exact aKN dl s σ H _ v Z vu lo hi sl Q I W O pl U ⟨a,xs,rfl,aV hx,hw,fun p Y=>q p _ (aM Y) aH⟩
inductive aD2(x:V)(y:V)(H:Hp)(Q:VK):Prop
 | mk (a:_) (b:_) (xs:_) (ys:_) (q0:x=.ref a) (q1:y=.ref b) (q2:H a=some (.tup xs)) (q3:H b=some (.tup ys)) (q4:xs.length+ys.length<=1000000) (q5:∀ r H',aU H H'->H' r=some (.tup (xs++ys))->Q (.ref r) H'):aD2 x y H Q
def aL7:R2:=fun x y H Q=>aD2 x y H Q
def rG:OpR X (binaryOp .Add) aL7:=by
 intro dl s σ H x y v u Q I U J h;obtain⟨a,b,xs,ys,rfl,rfl,ha,hb,hz,q⟩:=h;by_cases O:xs=[]
 .subst O;exact aGL dl s σ H _ _ v u Q I U J ⟨a,b,ys,rfl,rfl,aV ha,aV hb,q b H (aU.refl H) hb⟩
 .refine aDU dl s σ H _ _ v u Q I U J ⟨a,b,xs,ys,rfl,rfl,aV ha,aV hb,O,aJ hz,fun h1=>?_,fun h1 p W=>q p _ (aM W) aH⟩;subst h1;exact q a H (aU.refl H) (by rw[B5];exact ha)
def oK{α:Type}(xs:List V)(n:Nat):gU xs none (some (n:Int))=xs.take n:=by
 unfold gU;rw[HT.sIx_none,HT.sIx_nat,C6,Hi];by_cases h:n<=xs.length
 .rw[Fc h]
 .rw[Ge (by lia),Bh,Bi (by lia)]
def wI{α:Type}(xs:List V)(n:Nat):gU xs (some (n:Int)) none=xs.drop n:=by
 unfold gU;rw[HT.sIx_none,HT.sIx_nat];by_cases h:n<=xs.length
 .rw[Fc h];exact Bi (by rw[B7];exact Ap _)
 .rw[Ge (by lia),DT (Ap _),DT (by lia),GZ]
mutual
theorem RdV.keepF{H H':Hp}(k:∀ a o,H a=some o->(∀ O r,o≠.dK (O::r))->(∀ xs,o≠.lst xs)->H' a=some o):∀{x:V}{d:Aj},RdV false H x d->RdV false H' x d
 | _,_,.non=>.non
 | _,_,.bl b=>.bl b
 | _,_,.int i=>.int i
 | _,_,.str z h=>.str z h
 | _,_,.lst hm _ _ _=>nomatch hm
 | _,_,.tup e J r=>.tup (k _ _ e (fun _ _ z=>nomatch z) (fun _ z=>nomatch z)) J (dB.keepF k r)
 | _,_,.dct hm e=>.dct hm (k _ _ e (fun _ _ z=>nomatch z) (fun _ z=>nomatch z))
theorem dB.keepF{H H':Hp}(k:∀ a o,H a=some o->(∀ J r,o≠.dK (J::r))->(∀ xs,o≠.lst xs)->H' a=some o):∀{xs:List V}{ds:List Aj},dB false H xs ds->dB false H' xs ds
 | _,_,.nil=>.nil
 | _,_,.cons a r=>.cons (RdV.keepF k a) (dB.keepF k r)
end
open PySem PySem.Spec PyProof.Rows PySem.W
def iW{α:Type}(n:Nat)(P:α->Prop):HU α->Prop
 | .ret a=>P a
 | .ask i j k=>i<n/\j<n/\∀ b,iW n P (k b)
theorem iW.bind{α β:Type}{n:Nat}{P:α->Prop}{Q:β->Prop}{f:α->HU β}:∀{t:HU α},iW n P t->(∀ a,P a->iW n Q (f a))->iW n Q (t.bind f)
 | .ret a,h,g=>by rw[KasT.bind.eq_1];exact g a h
 | .ask i j k,h,g=>by
  rw[KasT.bind.eq_2];exact⟨h.1,h.2.1,fun b=>iW.bind (h.2.2 b) g⟩
def Pm(n:Nat)(p:Array Nat):Prop:=p.Perm (AY n).toArray
def Pm.lt{n:Nat}{p:Array Nat}(h:Pm n p)(hn:0<n)(i:Nat):p.getD i 0<n:=by
 by_cases hi:i<p.size
 .have hm:p[i]∈(AY n).toArray:=h.mem_iff.mp (Array.getElem_mem hi);have:p[i]<n:=by simpa using hm
  rw[Bw,BZ hi];exact this
 .rw[Bw,E4 (by lia)];exact hn
def Pm.rev{n:Nat}{p:Array Nat}(h:Pm n p)(i j:Nat):Pm n (Hx p i j):=(mirror_perm p i j _).trans h
def Pm.bub{n:Nat}{p:Array Nat}(h:Pm n p)(i j:Nat):Pm n (bubble p i j):=(bubble_perm p i j).trans h
section
variable{n:Nat}(hn:0<n)
include hn
theorem wJ{p:Array Nat}(h:Pm n p):∀(f x:Nat),iW n (fun _=>True) (kas_asc p f x)
 | 0,x=>by rw[kas_asc.eq_1];trivial
 | f+1,x=>by
  rw[kas_asc.eq_2];refine⟨h.lt hn _,h.lt hn _,fun b=>?_⟩;cases b
  .exact wJ h f (x+1)
  .exact trivial
theorem pE:∀(f:Nat) {p:Array Nat} (x y:Nat),Pm n p->iW n (fun r=>Pm n r.1) (kas_desc f p x y)
 | 0,p,x,y,h=>by rw[kas_desc.eq_1];exact h
 | f+1,p,x,y,h=>by
  rw[kas_desc.eq_2];refine⟨h.lt hn _,h.lt hn _,fun b=>?_⟩;cases b
  .refine⟨h.lt hn _,h.lt hn _,fun b=>?_⟩;cases b
   .exact pE f _ _ h
   .exact h
  .show iW n _ (if y>0 then _ else _);split
   .exact pE f _ _ (h.rev _ _)
   .exact pE f _ _ h
theorem qD{p:Array Nat}(h:Pm n p)(k:Nat):∀(f x y:Nat),iW n (fun _=>True) (kas_place p k f x y)
 | 0,x,y=>by rw[kas_place.eq_1];trivial
 | f+1,x,y=>by
  rw[kas_place.eq_2];split
  .trivial
  .refine⟨h.lt hn _,h.lt hn _,fun b=>?_⟩;cases b
   .exact qD h k f _ _
   .exact qD h k f _ _
theorem aBM:∀(f:Nat) {p:Array Nat} (x:Nat),Pm n p->iW n (Pm n) (kas_bin f p x)
 | 0,p,x,h=>by rw[kas_bin.eq_1];exact h
 | f+1,p,x,h=>by
  rw[kas_bin.eq_2];exact(qD hn h x _ _ _).bind fun l _=>aBM f _ (h.bub _ _)
def wK{p:Array Nat}(h:Pm n p)(a b:Nat):iW n (fun r=>Pm n r.2) (Hu a b p):=by
 unfold Hu;exact(wJ hn (h.rev _ _) _ _).bind fun m _=>h.rev _ _
def pW{p:Array Nat}(h:Pm n p)(a b:Nat):iW n (fun r=>Pm n r.2) (Hy a b p):=by
 unfold Hy;refine(pE hn _ _ _ h).bind fun r J=>?_;split
 .exact wK hn (J.rev _ _) _ _
 .exact wK hn J _ _
def aC6{p:Array Nat}(h:Pm n p)(a:Nat):iW n (fun r=>Pm n r.2) (Hv a p):=by
 unfold Hv;refine(wJ hn h _ _).bind fun m _=>?_;split
 .exact h
 .split
  .refine⟨h.lt hn _,h.lt hn _,fun b=>?_⟩;cases b
   .exact pW hn (h.rev _ _) _ _
   .exact h
  .exact pW hn h _ _
def tD:iW n (Pm n) (Dc n):=by
 unfold Dc;refine(aC6 hn (Array.Perm.refl _) n).bind fun r J=>?_;split
 .exact aBM hn _ _ J
 .exact J
end
def tE{x:Ag}{its:Array Ac}{Q:Array Ac->Ad->Prop}(J:E7 s.heap x its)(h:Q its s):wpAny (model prog w) A (DE (AV x)) Q E s:=by
 obtain⟨⟨cls,dd,data,sl⟩,ho,hc,n,hd⟩:=id J;simp only at hc hd;subst hc hd;unfold DE
 wp_walk
 exact h
inductive aGO(h:Bb)(v:Ac):Prop
 | mk (t:_) (a:_) (b:_) (c:_) (u1:_) (u2:_) (u3:_) (q0:v=.ref t) (q1:E7 h t #[.int a u1,.int b u2,.str c u3]):aGO h v
def aL8(h:Bb)(v:Ac):Prop:=aGO h v
theorem wL{α β:Type}{f:α->Sem β}{R:α->β->Prop}:∀(l:List α) {Q:List β->Ad->Prop},(∀ v∈l,∃ r,R v r/\∀ W:β->Ad->Prop,W r s->wpAny (model prog w) A (f v) W E s)->(∀ rs:List β,rs.length=l.length->(∀ r∈rs,∃ v∈l,R v r)->Q rs s)->wpAny (model prog w) A (List.mapM f l) Q E s
 | [],Q,_,q=>by
  rw[List.mapM_nil];exact Af (q [] rfl fun r J=>by simp at J)
 | a::l,Q,h,q=>by
  rw[List.mapM_cons];obtain⟨r,J,hw⟩:=h a AQ;refine Aa (hw _ (Aa (wL l (fun v O=>h v (AN _ O)) fun rs Y U=>Af (q (r::rs) (by rw[An,An,Y]) fun z hz=>?_))));rcases Ao.mp hz with rfl|hz
  .exact⟨a,AQ,J⟩
  .obtain⟨v,O,hR⟩:=U z hz;exact⟨v,AN _ O,hR⟩
def aL9{ks:List Ac}{Q:Eu->Ad->Prop}(hk:∀ v∈ks,aL8 s.heap v)(h:∀ b,Q (tuples' b) s):wpAny (model prog w) A (keyKind' ks.toArray) Q E s:=by
 rw[keyKind'_eq,Array.mapM_eq_mapM_toList];refine Aa ?_;rw[<- bind_pure_comp];refine Aa (wL (R:=fun _ r=>∃ a u,r=some (BN a u)) ks (fun v W=>?_) fun rs hl O=>Af ?_)
 .obtain⟨t,a,b,c,u1,u2,u3,rfl,ht⟩:=hk v W;refine⟨some (.int a u1),⟨a,u1,rfl⟩,fun Q' q=>?_⟩;rw[kas_first_eq];refine Aa (Cf ht.typeIs ?_);refine AM (by decide) ?_;refine Aa (tE ht ?_);exact Af q
 .have J:(rs.toArray.all fun x=>x.isSome)=true:=by
   rw[List.all_toArray,AR];intro r Z;obtain⟨v,_,a,u,rfl⟩:=O r Z;rfl
  refine BV (by rw[J];rfl) ?_;refine Aa (DF ?_);rw[oneTypeOnly'_eq,Array.mapM_eq_mapM_toList]
  iterate 2 refine Aa ?_
  rw[<- bind_pure_comp];refine Aa (wL (R:=fun _ r=>r=Bc "int") _ (fun v W=>?_) fun ts ad ac=>Af ?_)
  .have U:some v∈rs:=by simpa using W
   obtain⟨_,_,a,u,e⟩:=O _ U;cases e;exact⟨_,rfl,fun Q' q=>Cf (typeIs_int s a u) q⟩
  .cases Y:ts.toArray[0]? with
   | none=>exact Af (Af (h _))
   | some t=>exact Af (Af (h _))
def aMa{a kS:Ag}{st:Gy}{J:Array Ac}{e e1:Nat}{P:PySem.Fin->Ad->Prop}(ha:s.heap.get? a=some (seqObj "list" #[] e1))(Z:s.heap.get? kS=some (seqObj "list" J e))(W:a≠kS)(U:J.size<=sizeLine)(hz:(arrOf st).size<=sizeLine)(Y:failedOf st=none)
  (h:P (Fin.done (HX BY)) { s with heap:=(s.heap.update kS (Bx fun _=>#[])).update a (Bx fun _=>(arrOf st).map (·.2)) }):wpAny (model prog w) A (ksk_tail a false e1 (.ref kS) st) P E s:=by
 unfold ksk_tail;refine Aa (F2 Z rfl ?_ U (A3 _));refine Aa (wpAny_letGo ?_);have O:(s.heap.update kS (Bx fun _=>#[])).get? a=some (seqObj "list" #[] e1):=by
  rw[BB _ _ _ _ W];exact ha
 refine Aa (seqEpoch_at O rfl ?_);refine Aa (F2 O rfl ?_ (A3 _) (by show((arrOf st).map (·.2)).size<=_;rw[Array.size_map];lia))
 rw[Y];refine AM (by simp) ?_;exact Af h
inductive aGP(H:Hp)(v:Ac):Prop
 | mk (t:_) (a:_) (b:_) (c:_) (q0:v=.ref t) (q1:H t=some (.tup [.int a,.int b,.str c])):aGP H v
def aNy(H:Hp)(v:Ac):Prop:=aGP H v
section
variable{ta:TA}
end
open PySem.SeqAt
open PySem.AutoSeq1 (wpAny_loadPart')
open PySem.MeetsSeq PySem.MeetsSeq2 PySem.MeetsSeq3
def ltK(a1 b1:Int)(c1:Str)(a2 b2:Int)(c2:Str):Bool:=if a1=a2 then(if b1=b2 then(if c1=c2 then false else decide (c1.cps.toList<c2.cps.toList)) else decide (b1<b2)) else decide (a1<a2)
def aFt(l b:Ag)(n Y:Nat)(dd W:Option Ag)(Z U:Array (Option Ac))(a1 b1:Int)(O:Str)(a2 b2:Int)(J:Str)(t1 t2 t3 u1 u2 u3:Tok):
  Meets (Builtin.«tuple.__lt__» ⟨[.ref l,.ref b],[]⟩)
   (fun _ R s=>s.heap.get? l=some { cls:=.type "tuple",dict:=dd,data:=.seq #[.int a1 t1,.int b1 t2,.str O t3] n,slots:=Z }/\s.heap.get? b=some { cls:=.type "tuple",dict:=W,data:=.seq #[.int a2 u1,.int b2 u2,.str J u3] Y,slots:=U }/\
    R (.ok (.ret (.bool (ltK a1 b1 O a2 b2 J)))) s):=
 .of_wp fun prog w A R s h=>by
  obtain⟨hp,g,d,tk,os⟩:=s;obtain⟨hl,hb,h⟩:=h;have f2:=AutoSeq1.sub_tuple_tuple
  wp_walk using Fw hl,Fw hb
  show wpAny (model prog w) A.in1 (eqBool (BN a1 t1) (BN a2 u1)) _ _ _;obtain⟨e,he,hiff⟩:=HT.eqAt_int A.in1 ⟨hp,g,d,tk,os⟩ a1 t1 a2 u1;refine he prog w _ _ ?_;unfold ltK at h;cases e with
  | false=>
   rw[Ia (fun z=>Aq (hiff.mpr z))]at h;refine BV (by decide) ?_;refine Aa (DF ?_);refine Aa ?_;show wpAny _ _ (compareOp .Lt (BN a1 t1) (BN a2 u1)) _ _ _;refine lt_int ?_
   wp_walk
   exact⟨_,rfl,h⟩
  | true=>
   rw[Ib (hiff.mp rfl)]at h;refine AM (by decide) (Af ?_)
   wp_walk
   show wpAny (model prog w) A.in1 (eqBool (BN b1 t2) (BN b2 u2)) _ _ _;obtain⟨e,he,hiff⟩:=HT.eqAt_int A.in1 ⟨hp,g,d,tk,os⟩ b1 t2 b2 u2;refine he prog w _ _ ?_;cases e with
   | false=>
    rw[Ia (fun z=>Aq (hiff.mpr z))]at h;refine BV (by decide) ?_;refine Aa (DF ?_);refine Aa ?_;show wpAny _ _ (compareOp .Lt (BN b1 t2) (BN b2 u2)) _ _ _;refine lt_int ?_
    wp_walk
    exact⟨_,rfl,h⟩
   | true=>
    rw[Ib (hiff.mp rfl)]at h;refine AM (by decide) (Af ?_)
    wp_walk
    show wpAny (model prog w) A.in1 (eqBool (BG O t3) (BG J u3)) _ _ _;refine Fb O t3 J u3 prog w _ _ ?_;cases hc:(O==J)with
    | false=>
     rw[Ia (fun z=>by rw[z,beq_self_eq_true]at hc;cases hc)]at h;refine BV (by decide) ?_;refine Aa (DF ?_);refine Aa ?_;show wpAny _ _ (compareOp .Lt (BG O t3) (BG J u3)) _ _ _;refine lt_str ?_
     wp_walk
     exact⟨_,rfl,h⟩
    | true=>
     rw[Ib (eq_of_beq hc)]at h;refine AM (by decide) (Af ?_)
     wp_walk
     exact⟨_,rfl,h⟩
def aBN{X:Cx}{dl:Ii}{σ:St}{H:Hp}{s:Ad}{t:Ag}{a b:Int}{c:Str}(I:Inv X dl σ H s)(ht:H t=some (.tup [.int a,.int b,.str c])):∃ u1 u2 u3,E7 s.heap t #[.int a u1,.int b u2,.str c u3]:=by
 obtain⟨_,its,J,hT⟩:cZ X.prog X.w H s.heap t (.tup [.int a,.int b,.str c]):=I.hok _ _ ht;cases J with
 | cons r1 J=>
  cases J with
  | cons r2 J=>
   cases J with
   | cons r3 J=>
    cases J;obtain⟨u1,e1⟩:=r1;obtain⟨u2,e2⟩:=r2;obtain⟨u3,e3⟩:=r3;subst e1 e2 e3;exact⟨u1,u2,u3,hT⟩
inductive wM(x:V)(y:V)(H:Hp)(Q:VK):Prop
 | mk (p:_) (q:_) (a1:_) (b1:_) (c1:_) (a2:_) (b2:_) (c2:_) (q0:x=.ref p) (q1:y=.ref q) (q2:H p=some (.tup [.int a1,.int b1,.str c1])) (q3:H q=some (.tup [.int a2,.int b2,.str c2])) (q4:Q (.bl (ltK a1 b1 c1 a2 b2 c2)) H):wM x y H Q
def aGQ:V->V->Hp->VK->Prop:=fun x y H Q=>wM x y H Q
def aGR{X:Cx}(J:X.A.units<cLine):OpR X (compareOp .Lt) aGQ:=by
 intro dl s σ H x y v u Q I U O h;obtain⟨p,q,a1,b1,c1,a2,b2,c2,rfl,rfl,hp,hq,k⟩:=h;cases U;cases O;obtain⟨t1,t2,t3,hl⟩:=aBN I hp;obtain⟨u1,u2,u3,hb⟩:=aBN I hq;obtain⟨⟨cls,dd,data,sl⟩,ho,hc,n,hd⟩:=id hl;obtain⟨⟨cls2,dd2,data2,sl2⟩,ho2,hc2,n2,hd2⟩:=id hb;simp only at hc hd hc2 hd2;subst hc hd hc2 hd2;exact richCompare_meets_room (op:=.Lt) ⟨_,ho,rfl⟩ ⟨_,ho2,rfl⟩ PySem.F.slot_tuple_lt PySem.F.entry_tuple_lt (PySem.F.args_tuple_lt_2 _ _) (aFt p q n n2 dd dd2 sl sl2 a1 b1 c1 a2 b2 c2 t1 t2 t3 u1 u2 u3)
  ⟨ho,ho2,⟨(fun x=>nomatch x),⟨.bl _,H,I,rfl,k⟩⟩⟩ J
inductive aKa(X:Cx)(k:Nat)(ps:List Str)(f:Ag)(sp:Sp):Prop
 | mk (fd:Ay) (q0:cC X.prog X.w X.K X.mg X.base CX0 k f fd ps sp) (q1:AS X.K (.ref f)=true) (q2:dY X.K fd ps []):aKa X k ps f sp
def FnV(X:Cx)(k:Nat)(ps:List Str)(f:Ag)(sp:Sp):Prop:=aKa X k ps f sp
def aKZ(X:Cx)(k:Nat)(ps:List Str)(tv:TE)(t:TA):TE:=fun σ H Q=>tv σ H fun v H1=>∃(f:Ag) (sp:Sp),v=.ref f/\FnV X k ps f sp/\t σ H1 fun vs H2=>sp vs H2 Q E0
def aBO{X:Cx}{k:Nat}{ps:List Str}{x:Str}{p pos:Pos}{e:Bf}{es:List Bf}{tv:TE}{t:TA}(hv:PE X (.Name x p) tv)(Z:eO k X.A)(ha:PA X (e::es) t)
  (he:starEach (e::es) X.env=(false,eval e X.env)::starEach es X.env:=by rfl) (J:(backTo pos (starEach es X.env)).any (·.1)=false:=by rfl):
  PE X (.Call (.Name x p) (e::es) [] pos) (aKZ X k ps tv t):=by
 constructor;intro dl s σ H Q I h;refine Dn (thn (hv dl s σ H _ I h) fun u s1 ⟨y,H1,U,ry,f,sp,Y,⟨fd,F,hk,W⟩,h2⟩=>?_);subst Y;cases ry;refine Fp (h₀:=X.base) U.ok.mod.kin hk (thn (ha pos dl s1 σ H1 _ U h2) fun us s2 ⟨vs,H2,O,r,q⟩=>⟨O.kIn,?_⟩) he J;exact aGo F Z W .nil oG O r (by rw[B5];exact q)
def aMb(ee:List (Key×V))(ty:TE):TE:=fun σ H Q=>ty σ H fun y H2=>∃ k v,y=kV k/\gY ee k=some v/\Q v H2
def aAJ{X:Cx}{i:Bf}{x:Str}{ty:TE}{a:Ag}{vs:List (Key×Ac)}{ee:List (Key×V)}{p pos:Pos}(hd:∀ h:Bb,X.K.In h->h.DictOf (cV X.prog X.w) a vs)(rel:KV ee vs)(W:Gl X x)(hm:X.mg x=some (.ref a))(hi:PE X i ty)(Y:aKR i)(J:(x==("__debug__":Str))=false:=by decide):
  PE X (.Subscript (.Name x p) i pos) (aMb ee ty):=by
 constructor;intro dl s σ H Q I h;have Z:PE X (.Name x p) (tC (.ref a)):=cG W hm rfl J;refine aDW PySem.F.slot_dict_getitem.lookup Y (thn (Z dl s σ H (fun v H1=>v=.ref a/\ty σ H1 fun y H2=>∃ k v,y=kV k/\gY ee k=some v/\Q v H2) I ⟨rfl,h⟩) fun u s1 ⟨x,H1,I1,rx,ex,q1⟩=>thn (hi dl s1 σ H1 _ I1 q1) fun iv s2 ⟨y,H2,O,ry,k,v,U,l,q2⟩=>?_);subst ex U;obtain rfl:u=AV a:=rx;have dd:=hd s2.heap O.kIn;refine⟨?_,?_⟩
 .obtain⟨o,es,ep,e,hx,_⟩:=dd;exact⟨o,e,hx.1⟩
 .obtain⟨w',hw,rw'⟩:=pP.some_of (v:=v) (o:=valueAt vs k) (by rw[<- l];exact rel.val k);exact wpAny_getItem_of (uB ry) dd.mapOf hw ⟨v,H2,O.tok _,rw',q2⟩
def aFu{X:Cx}{a:Ag}{vs:List (Key×Ac)}{ee:List (Key×V)}(hd:∀ h:Bb,X.K.In h->h.DictOf (cV X.prog X.w) a vs)(rel:KV ee vs)(hz:(a==sysModules)=false):OpR X (compareOp .NotIn) (fun x y H Q=>∃ k,x=kV k/\y=.ref a/\Q (.bl (!(gY ee k).isSome)) H):=by
 intro dl s σ H x y v u Q I J O h;obtain⟨k,rfl,rfl,q⟩:=h;cases O;refine wpAny_notIn_of (uB J) hz (hd _ I.kIn).mapOf ?_;rw[<- (rel.val k).isSome_eq];exact⟨.bl _,H,I.tok _,rfl,q⟩
section
variable{Q:Ac->Ad->Prop}{b:Bool}
end
def aGS{X:Cx}{K:Ae}{o e:Bf}{es:List Bf}{to:TE}{t:TA}{name:Str}{fe fc:Pos}{T id:String}{r:V->List V->Hp->VK->Prop}(pa:PlainAttrs T)(slot:Slot T name id)(Y:typeOf (.builtin id)=pure (.type "method_descriptor"))(hm:MtR X id r)(ho:PE X o to)(ha:PA X (e::es) t)(hK:X.K=K:=by rfl)
  (O:attributeBase o name X.env (eval o X.env)=eval o X.env:=by rfl)
  (W:((backTo fc (starEach (e::es) X.env)).all (fun x=>!x.1)&&(backToKw fc (keywordEach [] X.env)).all (fun x=>x.1.isSome)
   && decide ((e::es).length+([]:List EK).length+(if ([]:List EK).isEmpty then 0 else 1)<30))=true:=by rfl)
  (U:(fe.endLine==fc.line)=true:=by rfl) (Z:starEach (e::es) X.env=(false,eval e X.env)::starEach es X.env:=by rfl) (J:(backTo fc (starEach es X.env)).any (·.1)=false:=by rfl):
  PE X (.Call (.Attribute o name fe) (e::es) [] fc) (tBM K T r to t):=by
 subst hK;exact eV pa slot Y hm ho ha O W U Z J
theorem wN:∀{J:List Str}{O:List Ac},cE (J.map V.str) O->HK O J
 | [],_,r=>by rw[DS]at r;cases r;exact .nil
 | s::J,_,r=>by
  rw[A6]at r;cases r with
  | cons r1 r2=>
   obtain⟨t,e⟩:=r1;subst e;exact .cons s t (wN r2)
theorem mM:∀{J:List Ac}{ns:List Str},HK J ns->cE (ns.map V.str) J
 | _,_,.nil=>.nil
 | _,_,.cons i t r=>.cons ⟨t,rfl⟩ (mM r)
inductive lH(K:Ae)(xs:List V)(H:Hp)(Q:VK):Prop
 | mk (p:Ag) (ns:List Str) (q0:xs=[.ref p]) (q1:SqL K H p (ns.map V.str)) (q2:ns.length<64) (q3:∀(l:Ag) (ms:List Str),H l=none->ms.Perm ns->sortedS ms=true->Q (.ref l) (upd H l (.lst (ms.map V.str)))):lH K xs H Q
def wO(K:Ae):List V->Hp->VK->Prop:=fun xs H Q=>lH K xs H Q
def rH{X:Cx}:gR X (.builtin "sorted") (wO X.K):=by
 intro dl s σ H xs us Q I r h;obtain⟨p,ns,rfl,hx,h64,q⟩:=h;obtain⟨u,rfl,ru⟩:=gS r;cases ru;obtain⟨its,rv,pl,_⟩:=I.list hx;have hi:HK its ns:=wN rv;have J:=rv.length;rw[Ab]at J;refine sorted_strs pl.isList hi (by lia) fun out O Z U W=>?_;have Y:∀ b o,s.heap.get? b=some o->(sortedAll s.heap its out).get? b=some o:=fun b o e=>sortedAll_old e;obtain⟨e,he⟩:=sortedAll_at s.heap its out;have hn:H (s.heap.objs.size+1)=none:=I.hok.fresh (CU _);have ac:=U.length_eq;have hv:cE (O.map V.str) out.toList:=mM Z;refine⟨.ref (s.heap.objs.size+1),_,I.laid (t':=s.toks) (o:=.lst (O.map V.str)) Y (CU _) ⟨aJ (by rw[Ab];lia),out.toList,e,hv,by rw[he]<;>rfl⟩,rfl,q _ O hn U W⟩
def wP(w:AW)(es:Array (Int×Ac))(t:Dd):Prop:=t.led=!w.params.followText "set-order"/\(es.size=0\/t.plain=false)
def kO(prog:Ar)(w:AW)(h:Bb)(a:Ag)(S:Str->Bool)(n:Nat):Prop:=
 ∃ o es ep t,h.get? a=some o/\o.ExactSet/\o.data=.set es ep t/\ElemsOf (BJ prog w) es.toList/\(∀ k,S k=true↔∃ e∈es.toList,(BJ prog w).is k e.2=true)
  /\es.size<scanBound/\t.fits es.size=true/\es.size=n/\wP w es t
def kO.at{prog:Ar}{w:AW}{h h':Bb}{a:Ag}{S:Str->Bool}{n:Nat}(x:kO prog w h a S n)(e:∀ o,h.get? a=some o->h'.get? a=some o):kO prog w h' a S n:=by
 obtain⟨o,es,ep,t,h1,r⟩:=x;exact⟨o,es,ep,t,e o h1,r⟩
def kO.congr{prog:Ar}{w:AW}{h:Bb}{a:Ag}{S S':Str->Bool}{n J:Nat}(x:kO prog w h a S n)(e:∀ k,S k=S' k)(O:n=J):kO prog w h a S' J:=by
 have U:S=S':=funext e;subst U O;exact x
def yB(t:Dd)(n:Nat):(t.orStandIn n).led=t.led:=by
 unfold SetTable.orStandIn;split<;>rfl
def aC7(t:Dd)(es:Array (Int×Ac))(h:Int)(x:Ac):(layNew t es h x).2.1.led=t.led:=by
 unfold layNew;split
 .exact yB _ _
 .rfl
def yC(t:Dd)(es:Array (Int×Ac))(n:Nat)(O:t.plain=false):(relayAll t es n).2.1.led=t.led/\(relayAll t es n).2.1.plain=false:=by
 unfold relayAll;split
 .next t' ord e=>
  dsimp only;split
  .dsimp only;unfold SetTable.relaid SetTable.laid at e;cases J:SetTable.layClean (SetTable.sizeAbove n-1) (es.map (·.1))with
   | none=>rw[J]at e;cases e
   | some U=>
    rw[J]at e;cases e;exact⟨rfl,O⟩
  .exact⟨rfl,rfl⟩
 .exact⟨rfl,rfl⟩
def kO.stored{prog:Ar}{w:AW}{h:Bb}{a:Ag}{o:Obj}{es:Array (Int×Ac)}{ep:Nat}{t:Dd}(ho:h.get? a=some o)(U:o.ExactSet)(hd:o.data=.set es ep t)
  {J:Array (Int×Ac)} {t':Dd} {S':Str->Bool} (W:ElemsOf (BJ prog w) J.toList) (O:∀ k,S' k=true↔∃ e∈J.toList,(BJ prog w).is k e.2=true) (Y:J.size<scanBound) (Z:t'.fits J.size=true) (hT:wP w J t'):
  (h.update a (HL J t')).get? a=some { o with data:=.set J (ep+1) t' }/\kO prog w (h.update a (HL J t')) a S' J.size:=by
 obtain⟨hg,_⟩:=SetOf_store (knd:=BJ prog w) (S':=S') ho U hd W O Y Z;exact⟨hg,_,J,ep+1,t',hg,U,rfl,W,O,Y,Z,rfl,hT⟩
def aMc{prog:Ar}{w:AW}{A:AK}{E:Ac->Ad->Prop}{s:Ad}{a:Ag}{S:Str->Bool}{n:Nat}{k:Str}{tk:Tok}{Q:Bool->Ad->Prop}(hS:kO prog w s.heap a S n)(aa:n+1<scanBound)
  (h:∀ h',DV a s.heap h'->kO prog w h' a (fun k'=>S k'||decide (k'=k)) (if S k then n else n+1)->Q (!S k) { s with heap:=h' }):
  wpAny (model prog w) A (setAddHashed a (.str k tk) ((BJ prog w).hash k)) Q E s:=by
 have W:=strKind_is prog w k tk;have⟨o,es,ep,t,ho,hex,hd,hel,hmem,hb,hf,hn,hTab⟩:=hS;have ay:es.size+1<scanBound:=by rw[hn];exact aa
 unfold setAddHashed setAddHashedIn;refine Bg (Aa (Dz ho hd hf ?_));dsimp only;rw[byScan_of (x:=BG k tk) rfl hb hel,Ib rfl];unfold setAddByScan;refine Aa (Aa (DF (Aa (wpAny_setScan_of W ho hd hf hel ?_))));cases hr:List.findIdx? (fun e=>(BJ prog w).is k e.2) es.toList with
 | some j=>
  dsimp only;obtain⟨hj,hpj,_⟩:=List.findIdx?_eq_some_iff_getElem.mp hr;have Z:S k=true:=(hmem k).mpr ⟨es.toList[j],B8 hj,hpj⟩;refine Af (Af ?_);have q:=h s.heap (Heap.SameBut.refl a s.heap) ⟨o,es,ep,t,ho,hex,hd,hel,fun z=>by
   rw[Gk,decide_eq_true_eq,<- hmem z];exact⟨fun hz=>hz.elim id (fun e=>e▸Z),.inl⟩,hb,hf,by rw[Z];exact hn,hTab⟩
  rw[Z]at q;exact q
 | none=>
  dsimp only;have Z:S k=false:=by
   cases hz:S k with
   | false=>rfl
   | true=>
    have⟨e,he,hp⟩:=(hmem k).mp hz;have z:=List.findIdx?_eq_none_iff.mp hr e he;rw[hp]at z;exact Bool.noConfusion z
  have J:=layNew_perm t es ((BJ prog w).hash k) (BG k tk);have O:=layNew_fits t es ((BJ prog w).hash k) (BG k tk);have U:=aC7 t es ((BJ prog w).hash k) (BG k tk);generalize hL:layNew t es ((BJ prog w).hash k) (BG k tk)=L at J O U ⊢;have⟨es1,t1,wasD,gave⟩:=L;dsimp only at J O U ⊢;rw[Array.toList_push]at J;have ad:ElemsOf (BJ prog w) es1.toList:=(hel.push W rfl).perm J;have Y:=mem_push_iff W hmem J;have ae:es1.size=n+1:=by rw[<- AL,J.length_eq,Am,AL,hn];rfl
  have ai:es1.size<scanBound:=by rw[ae];exact aa
  have gw:∀(b:Bool) {s₁:Ad} {Q':Unit->Ad->Prop},Q' () s₁->wpAny (model prog w) A (match b with|true=>rule "set.scan.the-table-gave-way"|false=>pure ()) Q' E s₁:=fun b s₁ Q' hq=>by cases b<;>first|exact Af hq|exact DF hq
  have ac:∀ h',DV a s.heap h'->kO prog w h' a (fun k'=>S k'||decide (k'=k)) es1.size->Q true { s with heap:=h' }:=fun h' x1 x2=>by
   have q:=h h' x1;rw[Z]at q;rw[ae]at x2;exact q x2
  have ag:∀ t2:Dd,t2.led=t.led->t2.plain=false->t2.fits es1.size=true->
    wpAny (model prog w) A (do
     storeSet a es1 t2
     if (!wasD&&t2.tooFull)=true then do
       (match (relayAll t2 es1 (Dk es1.size)).2.2 with|true=>rule "set.scan.the-table-gave-way"|false=>pure ())
       storeSet a (relayAll t2 es1 (Dk es1.size)).1 (relayAll t2 es1 (Dk es1.size)).2.1
       pure (some true)
      else pure (some true)) (fun r s'=>wpAny (model prog w) A (match r with|some added=>pure added|none=>setAddHashedIn a (.str k tk) ((BJ prog w).hash k) 99999) Q E s') E s:=by
   intro t2 l2 p2 f2;refine Aa (wpAny_storeSet_of ho hd ?_ (E5 ai));obtain⟨ho1,hS1⟩:=kO.stored (prog:=prog) (w:=w) ho hex hd ad Y ai f2 ⟨by rw[l2];exact hTab.1,.inr p2⟩;have an:=B6 s.heap a (HL es1 t2);split
   .have hp:=relayAll_perm t2 es1 (Dk es1.size);have aj:=relayAll_fits t2 es1 (Dk es1.size);obtain⟨rl,rp⟩:=yC t2 es1 (Dk es1.size) p2;generalize relayAll t2 es1 (Dk es1.size)=R at hp aj rl rp ⊢;have⟨es2,t3,g2⟩:=R;dsimp only at hp aj rl rp ⊢;have ao:ElemsOf (BJ prog w) es2.toList:=ad.perm hp;have ak:∀ z,(S z||decide (z=k))=true↔∃ e∈es2.toList,(BJ prog w).is z e.2=true:=fun z=>(Y z).trans ⟨fun⟨e,he,q⟩=>⟨e,hp.mem_iff.mpr he,q⟩,fun⟨e,he,q⟩=>⟨e,hp.mem_iff.mp he,q⟩⟩;have ah:es2.size=es1.size:=by rw[<- AL,hp.length_eq,AL]
    have am:es2.size<scanBound:=by rw[ah];exact ai
    refine Aa (gw _ (Aa (wpAny_storeSet_of ho1 rfl ?_ (E5 am))));obtain⟨_,hS2⟩:=kO.stored (prog:=prog) (w:=w) ho1 hex rfl ao ak am aj ⟨by rw[rl,l2];exact hTab.1,.inr rp⟩;rw[ah]at hS2;exact Af (Af (ac _ (an.trans (B6 _ a _)) hS2))
   .exact Af (Af (ac _ an hS1))
  refine Aa (gw _ ?_);split
  .next hpl=>
   rw[hashByValue_scannable 8 (x:=BG k tk) rfl];refine Aa (Af ?_);exact ag { t1 with plain:=false } U rfl (SetTable.fits_plain_off O)
  .next hpl=>
   refine Aa (Af ?_);exact ag t1 U (by simpa using hpl) O
def aC8{h:Bb}{a:Ag}{items:Array Ac}(x:h.IsTuple a items)(o:Obj):(h.push o).IsTuple a items:=by
 obtain⟨u,hu,r⟩:=x;exact⟨u,Ah o hu,r⟩
def aGT{prog:Ar}{w:AW}{A:AK}{R:Hh->Ad->Prop}{I:Ag}{fp wr:List Ag}{G:Array EU->Array EU->Prop}{n:Nat}{P:Nat->Ac->Prop}{St:Nat->Ad->Prop}
  (W:WalksS prog w A.in1 I fp wr G n P St) (S:Ag) (ae:¬ S∈fp) (val:Nat->Str) (af:∀(i:Nat) (v:Ac),P i v->∃ t,v=BG (val i) t) (Y:n+1<scanBound):
  ∀(k i:Nat) (s:Ad),n-i=k->i<=n->St i s->kO prog w s.heap S (fun Z=>(iN val i).any fun x=>x==Z) (iN val i).length->
   (∀ s':Ad,Moved (S::wr) G s s'->kO prog w s'.heap S (fun Z=>(iN val n).any fun x=>x==Z) (iN val n).length->R (Except.ok (HX BY)) s')->
   codeAny (model prog w) A (Code.builtin "set.update.loop" { pos:=[AV S,AV I] }) R s:=by
 have ad:¬ S∈wr:=fun h=>ae (W.sub S h);have J:∀ b,b∈wr->b∈S::wr:=fun b Y=>AN S Y;intro k
 induction k with
 | zero=>
  intro i s hk hi O hS hR;have am:i=n:=by lia
  subst am;refine Ck PyProof.Rows.F.entry_set_update_loop ?_;rw[Cq Df];refine Aa (W.done s _ _ O fun s' hm=>?_);refine Af (hR s' (Moved.mono hm J) ?_);exact hS.at fun o ho=>hm.heap S o ad ho
 | succ k ih=>
  intro i s hk hi O hS hR;have ac:i<n:=by lia
  refine Ck PyProof.Rows.F.entry_set_update_loop ?_;rw[Cq Df];refine Aa (W.item i s _ _ ac O fun v s' hP ag hm=>?_);obtain⟨t,rfl⟩:=af i v hP;have ao:kO prog w s'.heap S (fun Z=>(iN val i).any fun x=>x==Z) (iN val i).length:=by
   exact hS.at fun o ho=>hm.heap S o ad ho
  have U:(iN val i).length+1<scanBound:=by
   have:=uW val i;lia
  refine Aa (Bg (Bg (Aa ((BJ prog w).pyHash (strKind_is prog w (val i) t) ?_))));refine aMc ao U fun h' aj ak=>?_;refine Af ⟨Ep Df _,?_⟩;refine ih (i+1) _ (by lia) ac (W.frame (i+1) s' h' _ ag (CU s'.toks) fun b Y o e=>?_) ?_ fun ar aa ah=>?_
  .rw[aj.right b fun h=>ae (h▸Y)];exact e
  .refine ak.congr (fun Z=>?_) ?_
   .show _=((lG _ _).any _)
    rw[aFq]
   .show _=(lG _ _).length;rw[mJ]
  .refine hR ar (Moved.trans W.gtrans (Moved.then_heap (Moved.mono hm J) (CU s'.toks) fun b o Y e=>?_) aa) ah;rw[aj.right b fun h=>Y (h▸AQ)];exact e
def aKb{prog:Ar}{w:AW}{A:AK}{E:Ac->Ad->Prop}{s:Ad}(a:Ac){Q₁:Ac->Ad->Prop}
  (h:Q₁ (.ref s.heap.objs.size) { s with heap:=s.heap.push { cls:=.type "set",dict:=none,data:=.set #[] 0 (.fresh 0 0 (!w.params.followText "set-order")) } }):
  codeAny (model prog w) A (.call (.builtin "set.__new__") ⟨[.type "set",a],[]⟩) (wants Q₁ E) s:=by
 apply Fy;show wpAny (model prog w) A.in1 (checkBuiltinCall "set.__new__" ⟨[.type "set",a],[]⟩ >>= fun _=>again (.builtin "set.__new__" ⟨[.type "set",a],[]⟩)) _ _ s;apply Aa;refine Dj (F.newCall_set_1 a) (Af ⟨Ep F.plain_set_new _,?_⟩);apply Ck F.entry_set_new;rw[Cq F.plain_set_new];unfold Builtin.«set.__new__» Builtin.Frozenset.newClass;have J:=sub_set_self;obtain⟨hp,gs,dr,tk,os⟩:=s;dsimp only
 wp_walk
 apply DH;apply Af;dsimp only;simp only[newObj];apply Aa;apply wpAny_alloc;exact Af (Af h)
def aBP{prog:Ar}{w:AW}{A:AK}{E:Ac->Ad->Prop}{s:Ad}{l:Ag}{items:Array Ac}{val:Nat->Str}{Q:Ac->Ad->Prop}(hh:A.handled=none)(hl:s.heap.IsList l items)
  (hi:∀(i:Nat) (v:Ac),items[i]?=some v->∃ t,v=BG (val i) t) (hb:items.size+1<scanBound)
  (h:∀(h':Bb) (tk:Nat),kO prog w h' s.heap.objs.size (fun k'=>(iN val items.size).any fun x=>x==k') (iN val items.size).length->
   (∀(b:Nat) (o:Obj),b<s.heap.objs.size->s.heap.get? b=some o->h'.get? b=some o)->Q (AV s.heap.objs.size) { s with heap:=h',toks:=tk }):
  wpAny (model prog w) A (call (Bc "set") [AV l]) Q E s:=by
 have⟨c,tl,hmro⟩:=Cu.mro;have W:=Cu.made;have aa:=Cu.sub;have ao:=F.typeCall_set_1 (AV l);refine CC (Fy (Af ⟨DN _ (by trivial),Ck F.entry_type_call ?_⟩));rw[Around.under_plain (weight_type_call_type "set" [AV l] []) rfl];unfold Builtin.«type.__call__»;dsimp only
 iterate 2 refine AM (by first|rfl|trivial) ?_
 refine Aa (Dj ao ?_);refine Aa (Dj hmro ?_);refine AM (by first|rfl|trivial) ?_;refine Aa (Dj W ?_);refine Aa (Af ?_);refine Aa (Bg (CC (C2 (aKb (Q₁:=fun obj s₁=>∃ led,led=(!w.params.followText "set-order")/\obj=AV s.heap.objs.size/\s₁={ s with heap:=s.heap.push { cls:=Bc "set",data:=CA #[] 0 (Bs 0 0 led) } }) (E:=E) (AV l) ⟨_,rfl,rfl,rfl⟩) fun r s₁ J=>?_)));cases r with
 | error e=>exact J
 | ok fl=>
  cases fl with
  | next=>exact J.elim
  | brk=>exact J.elim
  | cont=>exact J.elim
  | ret v=>
   obtain⟨led,hled,rfl,rfl⟩:=J;have hS:=AE s.heap (o:={ cls:=Bc "set",data:=CA #[] 0 (Bs 0 0 led) }) rfl;have hT:EE { s with heap:=s.heap.push { cls:=Bc "set",data:=CA #[] 0 (Bs 0 0 led) } } (AV s.heap.objs.size) "set":=⟨_,hS,rfl⟩
   have am:=Cu.init.lookup;have ah:=Cu.init.bind (AV s.heap.objs.size);have⟨ol,hol,hcl,nl,hdl⟩:=hl;have O:=Ah { cls:=Bc "set",data:=CA #[] 0 (Bs 0 0 led) } hol;have ac:Heap.IsList (s.heap.push { cls:=Bc "set",data:=CA #[] 0 (Bs 0 0 led) }) l items:=⟨ol,O,hcl,nl,hdl⟩
   refine Aa (Cb hT aa ?_);refine AM (by first|rfl|trivial) ?_;refine Aa (Bg ?_);unfold callSpecial?;refine Aa (Ez hT am ?_);dsimp only;refine Bg ?_;refine Aa (Dj ah ?_);refine Aa (CC (C2 (C3 Cu.init.plain F.entry_set_init (R:=fun r s'=>match r with|.ok (.ret v)=>v=.none/\Q (.ref s.heap.objs.size) s'|_=>False) (check_set_init_1 hT ?_)) fun r s₁ J=>?_))
   .unfold Builtin.«set.__init__»;refine Aa (BV (by first|rfl|trivial) (Af ?_));refine Aa (Aa (Aa (Cf hT (AM (by first|rfl|trivial) (Af ?_)))));refine Af ?_;refine Aa ?_;unfold checkCount
    iterate 2 refine AM (by first|rfl|trivial) ?_
    refine AM (by first|rfl|trivial) (Af ?_);refine Aa (Af ?_);refine Aa ?_;unfold setUsed setState;refine Aa (Aa (wpAny_load' hS ?_));dsimp only;refine AM (by first|rfl|trivial) (Af ?_);refine Af ?_;refine AM (by first|rfl|trivial) ?_;show wpAny _ _ (do let au <- CP "set.__init__" s.heap.objs.size (AV l);ret BY) _ _ _;refine Aa ?_;unfold CP;refine Aa ?_;have Y:EE { s with heap:=s.heap.push { cls:=Bc "set",data:=CA #[] 0 (Bs 0 0 led) } } (AV l) "list":=⟨ol,O,hcl⟩
    unfold Builtin.Frozenset.isAnySet;refine Aa (Cb Y F.sub_list_set ?_);refine Cb Y F.sub_list_frozenset ?_;refine AM (by first|rfl|trivial) ?_;refine Aa (Cf Y ?_);refine AM (by first|rfl|trivial) ?_;refine Aa (Gm ac ?_);refine Aa (FR ?_);have ad:l<s.heap.objs.size:=Az hol;have U:(s.heap.push { cls:=Bc "set",data:=CA #[] 0 (Bs 0 0 led) }).objs.size=s.heap.objs.size+1:=B4 _ _;have ae:l≠(s.heap.push { cls:=Bc "set",data:=CA #[] 0 (Bs 0 0 led) }).objs.size:=by rw[U];exact AU (Bz ad)
    have ai:¬ s.heap.objs.size∈[(s.heap.push { cls:=Bc "set",data:=CA #[] 0 (Bs 0 0 led) }).objs.size,l]:=by
     rw[U];simp only[Ao,AB,or_false,not_or];exact⟨AU (B9 _),CD ad⟩
    have aj:A.in1.in1.in1.handled=none:=hh;refine aGT (GM (Walks.list aj _ l ae items)) s.heap.objs.size ai val hi hb (items.size-0) 0 _ rfl (A3 _) ⟨⟨_,AE _ rfl,rfl,rfl⟩,Heap.IsList.push ac _⟩ ?_ ?_
    .have Z:=Ah { cls:=Bc "list_iterator",data:=Gg #[AV l,BN 0 0] } hS;exact⟨_,#[],0,_,Z,⟨rfl,rfl,rfl⟩,rfl,(fun e he=>by simp at he),(fun k=>by show(false=true)↔_;simp),(by decide),rfl,rfl,hled,.inl rfl⟩
    .rintro⟨h',g',d',tk',os'⟩ hm hS';refine Af (Af ⟨rfl,?_⟩);have e1:=hm.gens;have e2:=hm.drawn;have e3:=hm.os;dsimp only at e1 e2 e3;subst e1 e2 e3;refine h h' tk' hS' fun b o hb e=>hm.heap b o ?_ ?_
     .simp only[Ao,AB,or_false,not_or];rw[U];exact⟨AU hb,AU (Bz hb)⟩
     .exact Ah _ (Ah _ e)
   .cases r with
    | error e=>exact J.elim
    | ok fl=>
     cases fl with
     | next=>exact J.elim
     | brk=>exact J.elim
     | cont=>exact J.elim
     | ret v=>
      obtain⟨rfl,q⟩:=J;refine Af ?_;refine AM (by first|rfl|trivial) ?_;exact Af q
def aBQ{prog:Ar}{w:AW}{A:AK}{E:Ac->Ad->Prop}{s:Ad}{l:Ag}{items:Array Ac}{val:Nat->Str}{Q:Ac->Ad->Prop}(hh:A.handled=none)(hl:s.heap.IsTuple l items)
  (hi:∀(i:Nat) (v:Ac),items[i]?=some v->∃ t,v=BG (val i) t) (hb:items.size+1<scanBound)
  (h:∀(h':Bb) (tk:Nat),kO prog w h' s.heap.objs.size (fun k'=>(iN val items.size).any fun x=>x==k') (iN val items.size).length->
   (∀(b:Nat) (o:Obj),b<s.heap.objs.size->s.heap.get? b=some o->h'.get? b=some o)->Q (AV s.heap.objs.size) { s with heap:=h',toks:=tk }):
  wpAny (model prog w) A (call (Bc "set") [AV l]) Q E s:=by
 have⟨c,tl,hmro⟩:=Cu.mro;have W:=Cu.made;have aa:=Cu.sub;have ao:=F.typeCall_set_1 (AV l);refine CC (Fy (Af ⟨DN _ (by trivial),Ck F.entry_type_call ?_⟩));rw[Around.under_plain (weight_type_call_type "set" [AV l] []) rfl];unfold Builtin.«type.__call__»;dsimp only
 iterate 2 refine AM (by first|rfl|trivial) ?_
 refine Aa (Dj ao ?_);refine Aa (Dj hmro ?_);refine AM (by first|rfl|trivial) ?_;refine Aa (Dj W ?_);refine Aa (Af ?_);refine Aa (Bg (CC (C2 (aKb (Q₁:=fun obj s₁=>∃ led,led=(!w.params.followText "set-order")/\obj=AV s.heap.objs.size/\s₁={ s with heap:=s.heap.push { cls:=Bc "set",data:=CA #[] 0 (Bs 0 0 led) } }) (E:=E) (AV l) ⟨_,rfl,rfl,rfl⟩) fun r s₁ J=>?_)));cases r with
 | error e=>exact J
 | ok fl=>
  cases fl with
  | next=>exact J.elim
  | brk=>exact J.elim
  | cont=>exact J.elim
  | ret v=>
   obtain⟨led,hled,rfl,rfl⟩:=J;have hS:=AE s.heap (o:={ cls:=Bc "set",data:=CA #[] 0 (Bs 0 0 led) }) rfl;have hT:EE { s with heap:=s.heap.push { cls:=Bc "set",data:=CA #[] 0 (Bs 0 0 led) } } (AV s.heap.objs.size) "set":=⟨_,hS,rfl⟩
   have am:=Cu.init.lookup;have ah:=Cu.init.bind (AV s.heap.objs.size);have⟨ol,hol,hcl,nl,hdl⟩:=hl;have O:=Ah { cls:=Bc "set",data:=CA #[] 0 (Bs 0 0 led) } hol;have ac:Heap.IsTuple (s.heap.push { cls:=Bc "set",data:=CA #[] 0 (Bs 0 0 led) }) l items:=⟨ol,O,hcl,nl,hdl⟩
   refine Aa (Cb hT aa ?_);refine AM (by first|rfl|trivial) ?_;refine Aa (Bg ?_);unfold callSpecial?;refine Aa (Ez hT am ?_);dsimp only;refine Bg ?_;refine Aa (Dj ah ?_);refine Aa (CC (C2 (C3 Cu.init.plain F.entry_set_init (R:=fun r s'=>match r with|.ok (.ret v)=>v=.none/\Q (.ref s.heap.objs.size) s'|_=>False) (check_set_init_1 hT ?_)) fun r s₁ J=>?_))
   .unfold Builtin.«set.__init__»;refine Aa (BV (by first|rfl|trivial) (Af ?_));refine Aa (Aa (Aa (Cf hT (AM (by first|rfl|trivial) (Af ?_)))));refine Af ?_;refine Aa ?_;unfold checkCount
    iterate 2 refine AM (by first|rfl|trivial) ?_
    refine AM (by first|rfl|trivial) (Af ?_);refine Aa (Af ?_);refine Aa ?_;unfold setUsed setState;refine Aa (Aa (wpAny_load' hS ?_));dsimp only;refine AM (by first|rfl|trivial) (Af ?_);refine Af ?_;refine AM (by first|rfl|trivial) ?_;show wpAny _ _ (do let au <- CP "set.__init__" s.heap.objs.size (AV l);ret BY) _ _ _;refine Aa ?_;unfold CP;refine Aa ?_;have Y:EE { s with heap:=s.heap.push { cls:=Bc "set",data:=CA #[] 0 (Bs 0 0 led) } } (AV l) "tuple":=⟨ol,O,hcl⟩
    unfold Builtin.Frozenset.isAnySet;refine Aa (Cb Y F.sub_tuple_set ?_);refine Cb Y F.sub_tuple_frozenset ?_;refine AM (by first|rfl|trivial) ?_;refine Aa (Cf Y ?_);refine AM (by first|rfl|trivial) ?_;refine Aa (wpAny_pyIter_tuple ac ?_);refine Aa (FR ?_);have ad:l<s.heap.objs.size:=Az hol;have U:(s.heap.push { cls:=Bc "set",data:=CA #[] 0 (Bs 0 0 led) }).objs.size=s.heap.objs.size+1:=B4 _ _;have ae:l≠(s.heap.push { cls:=Bc "set",data:=CA #[] 0 (Bs 0 0 led) }).objs.size:=by rw[U];exact AU (Bz ad)
    have ai:¬ s.heap.objs.size∈[(s.heap.push { cls:=Bc "set",data:=CA #[] 0 (Bs 0 0 led) }).objs.size,l]:=by
     rw[U];simp only[Ao,AB,or_false,not_or];exact⟨AU (B9 _),CD ad⟩
    have aj:A.in1.in1.in1.handled=none:=hh;refine aGT (GM (Walks.tuple aj _ l ae items)) s.heap.objs.size ai val hi hb (items.size-0) 0 _ rfl (A3 _) ⟨⟨_,AE _ rfl,rfl,rfl⟩,aC8 ac _⟩ ?_ ?_
    .have Z:=Ah { cls:=Bc "tuple_iterator",data:=Gg #[AV l,BN 0 0] } hS;exact⟨_,#[],0,_,Z,⟨rfl,rfl,rfl⟩,rfl,(fun e he=>by simp at he),(fun k=>by show(false=true)↔_;simp),(by decide),rfl,rfl,hled,.inl rfl⟩
    .rintro⟨h',g',d',tk',os'⟩ hm hS';refine Af (Af ⟨rfl,?_⟩);have e1:=hm.gens;have e2:=hm.drawn;have e3:=hm.os;dsimp only at e1 e2 e3;subst e1 e2 e3;refine h h' tk' hS' fun b o hb e=>hm.heap b o ?_ ?_
     .simp only[Ao,AB,or_false,not_or];rw[U];exact⟨AU hb,AU (Bz hb)⟩
     .exact Ah _ (Ah _ e)
   .cases r with
    | error e=>exact J.elim
    | ok fl=>
     cases fl with
     | next=>exact J.elim
     | brk=>exact J.elim
     | cont=>exact J.elim
     | ret v=>
      obtain⟨rfl,q⟩:=J;refine Af ?_;refine AM (by first|rfl|trivial) ?_;exact Af q
theorem oM{α:Type}:∀(l:List α) (j:Nat) (y:α),l[j]?=some y->(y::l.eraseIdx j).Perm l
 | [],j,y,h=>by simp at h
 | x::r,0,y,h=>by
  simp at h;subst h;simp
 | x::r,j+1,y,h=>by
  simp at h;rw[List.eraseIdx_cons_succ];exact(List.Perm.swap x y _).trans ((oM r j y h).cons x)
def aI9{M:DM}{A:AK}{Q:Nat->Ad->Prop}{E:Ac->Ad->Prop}{s:Ad}{src:Source}{n:Nat}(hn:n≠0)(h:∀ i d,i<n->Q i { s with drawn:=d }):wpAny M A (choose src n) Q E s:=
 fun _ _ _=>⟨hn,h _ _ (HM _ (Nat.pos_of_ne_zero hn))⟩
def aC9{α:Type}{M:DM}{A:AK}{E:Ac->Ad->Prop}:∀(n:Nat) (xs:List α) (s:Ad) (Q:List α->Ad->Prop),xs.length=n->(∀ ys d,ys.Perm xs->Q ys { s with drawn:=d })->wpAny M A (drawOrder n xs) Q E s:=by
 intro n
 induction n with
 | zero=>
  intro xs s Q J h;obtain rfl:xs=[]:=A8 J;exact Af (h [] s.drawn (DK _))
 | succ n O=>
  intro xs s Q J h;cases xs with
  | nil=>simp at J
  | cons x r=>
   unfold drawOrder;refine Aa (aI9 (by simp) fun i d hi=>?_);obtain⟨y,hy⟩:∃ y,(x::r)[i]?=some y:=⟨_,Ai hi⟩
   rw[hy];dsimp only;refine Aa (O _ _ _ (by rw[Ex hi];simp at J ⊢;exact J) fun ys W U=>Af (h _ _ ((U.cons y).trans (oM _ i y hy))))
def dQ:Slot "set_iterator" "__next__" "set_iterator.__next__":=
 .of (owner:="set_iterator") (n:="__next__") (by rw[typeLookup_type,builtinLookup_eq_fast];kernel_rfl) (by trivial) (by trivial) (by trivial) (by first|exact .inl (by trivial)|exact .inr (by trivial)) (by rw[He];kernel_rfl)
def rK:Slot "set_iterator" "__iter__" "set_iterator.__iter__":=
 .of (owner:="set_iterator") (n:="__iter__") (by rw[typeLookup_type,builtinLookup_eq_fast];kernel_rfl) (by trivial) (by trivial) (by trivial) (by first|exact .inl (by trivial)|exact .inr (by trivial)) (by rw[He];kernel_rfl)
def iP:entryFor table "set_iterator.__next__"=some Builtin.«set_iterator.__next__»:=entryFor_of_tree (by kernel_rfl)
def yD:entryFor table "set_iterator.__iter__"=some Builtin.«dict_keyiterator.__iter__»:=entryFor_alias (id':="dict_keyiterator.__iter__") (by kernel_rfl) rfl (by trivial) (by kernel_rfl)
def uQ:entryFor table "set.__iter__"=some Builtin.«frozenset.__iter__»:=entryFor_alias (id':="frozenset.__iter__") (by kernel_rfl) rfl (by trivial) (by kernel_rfl)
def aBR:Manifest.owners.lookup (String.ofList ("set_iterator".toList.reverse).reverse)=some Manifest.sig_set_iterator:=by kernel_rfl
def iX(a:Ac):argsOk "set_iterator.__next__" ⟨[a],[]⟩:=by
 unfold argsOk;rw[signature?_of (id:="set_iterator.__next__") (n:="__next__".toList.reverse) (o:="set_iterator".toList.reverse) (by kernel_rfl) aBR]
 kernel_rfl
def aAK(a:Ac):argsOk "set_iterator.__iter__" ⟨[a],[]⟩:=by
 unfold argsOk;rw[signature?_of (id:="set_iterator.__iter__") (n:="__iter__".toList.reverse) (o:="set_iterator".toList.reverse) (by kernel_rfl) aBR]
 kernel_rfl
def jK(first:Ac)(i:Nat)(S:Ag)(n ep:Nat):Obj:={ cls:=.type "set_iterator",dict:=none,data:=.fields #[first,.int i 0,.ref S,.int n 0,.int ep 0],slots:=#[] }
section
variable{I S T:Ag}{i m ep:Nat}{o ot:Obj}{es:Array (Int×Ac)}{t:Dd}{bV:Array Ac}{x:Ac}
def wQ{M:DM}{B:AK}{J:Ac->Ad->Prop}{Q:Fin->Ad->Prop}{s:Ad}(O:B.handled=none)(h:∀(e:Ac) (h':Bb),(∀ b u,s.heap.get? b=some u->h'.get? b=some u)->EE { s with heap:=h' } e "StopIteration"->J e { s with heap:=h' }):
  wpAny M B (newExc (.type "StopIteration") [] >>= fun e=>raiseNew e) Q J s:=by
 refine Aa ?_;simp only[newExc,newTuple];apply Aa;refine BH ?_ (by size_fits);apply Aa (m:=firstArgMember _ _);refine Dj (a:=BY) (by first|rfl|(simp only[firstArgMember];rfl)) ?_;refine BH (h:=?_) (by size_fits);simp only[raiseNew];refine Aa (wpAny_handled ?_);rw[O];refine Aa (Af (wpAny_throw (h (.ref _) _ (fun b u e=>Ah _ (Ah _ e)) ⟨_,AE _ rfl,rfl⟩)))
def aFv(O:s.heap.get? I=some (jK (.ref T) i S es.size ep))(W:s.heap.get? S=some o)(hd:o.data=.set es ep t)(Y:t.fits es.size=true)(hT:s.heap.get? T=some ot)(U:ot.data=.seq bV m){p:Nat}{tk:Tok}{hs:Int}(hp:bV[i]?=some (.int p tk))(Z:es[p]?=some (hs,x)){Q:Option Ac->Ad->Prop}
  (hQ:∀ h',h'.get? I=some (jK (.ref T) (i+1) S es.size ep)->DV I s.heap h'->Q (some x) { s with heap:=h' }):wpAny (model prog w) A (pyNext (.ref I)) Q E s:=by
 have J:s.TypeIs (.ref I) "set_iterator":=⟨_,O,rfl⟩
 unfold pyNext;apply Aa;apply Dt;refine CB (name:=Be "__next__") J dQ (Ct dQ J iP ?_ (iX _));unfold Builtin.«set_iterator.__next__»;refine Aa (Af ?_);refine Aa (FS O rfl ?_);dsimp only;refine Aa (DO W hd Y ?_);rw[Ia (show¬ ((((es.size:Nat):Int) != ((es.size:Nat):Int))=true) by simp)];refine Aa (wpAny_seqItems hT U ?_);dsimp only;rw[show((i:Nat):Int).toNat=i from BK i,hp];dsimp only;unfold setNextDrawn;refine Aa (Aa (Dz W hd Y ?_));dsimp only;rw[Ia (show¬ ((ep != ((ep:Nat):Int).toNat)=true) by simp)];rw[show((p:Nat):Int).toNat=p from BK p,Z];refine Af ?_;refine Aa (CO O rfl (by simp[jK]) (Af ⟨x,rfl,Af (hQ _ ?_ (B6 ..))⟩));rw[Bo _ O (CL (BQ rfl _))];rfl
def aGU(Y:A.handled=none)(O:s.heap.get? I=some (jK (.ref T) i S es.size ep))(hS:s.heap.get? S=some o)(hd:o.data=.set es ep t)(hf:t.fits es.size=true)(hT:s.heap.get? T=some ot)(W:ot.data=.seq bV m)(hp:bV[i]?=none){Q:Option Ac->Ad->Prop}
  (hQ:∀ h',(∀ b u,b≠I->s.heap.get? b=some u->h'.get? b=some u)->Q none { s with heap:=h' }):wpAny (model prog w) A (pyNext (.ref I)) Q E s:=by
 have J:s.TypeIs (.ref I) "set_iterator":=⟨_,O,rfl⟩
 unfold pyNext;apply Aa;apply Dt;refine CB (name:=Be "__next__") J dQ (Ct dQ J iP ?_ (iX _));unfold Builtin.«set_iterator.__next__»;refine Aa (Af ?_);refine Aa (FS O rfl ?_);dsimp only;refine Aa (DO hS hd hf ?_);rw[Ia (show¬ ((((es.size:Nat):Int) != ((es.size:Nat):Int))=true) by simp)];refine Aa (wpAny_seqItems hT W ?_);dsimp only;rw[show((i:Nat):Int).toNat=i from BK i,hp];dsimp only;refine Aa (CO O rfl (by simp[jK]) ?_);have U:=Bo (ES (·.setIfInBounds 0 (rawInt 0))) O (CL (BQ rfl _))
 refine Aa (CO U (BQ rfl _) (by simp[jK]) ?_);refine wQ (show A.in1.handled=none from Y) fun e h' k hE=>?_;refine Aa (Cb (T:="StopIteration") (b:=true) hE isSubtype_stop ?_);refine Af (hQ h' fun b u nb Z=>k b u ?_);exact(B6 _ I _).extBut b u nb ((B6 _ I _).extBut b u nb Z)
def aFw{J nx:Nat}(W:s.heap.get? I=some (jK (rawInt J) i S es.size ep))(hS:s.heap.get? S=some o)(hd:o.data=.set es ep t)(hf:t.fits es.size=true)
  (hN:∀(B:AK) (Z:Ac->Ad->Prop) (Y:Option (Ac×Nat)->Ad->Prop),Y (some (x,nx)) s->wpAny (model prog w) B (setNext S J i ep) Y Z s) {Q:Option Ac->Ad->Prop}
  (hQ:∀ h',h'.get? I=some (jK (rawInt nx) (i+1) S es.size ep)->DV I s.heap h'->Q (some x) { s with heap:=h' }):wpAny (model prog w) A (pyNext (.ref I)) Q E s:=by
 have O:s.TypeIs (.ref I) "set_iterator":=⟨_,W,rfl⟩
 unfold pyNext;apply Aa;apply Dt;refine CB (name:=Be "__next__") O dQ (Ct dQ O iP ?_ (iX _));unfold Builtin.«set_iterator.__next__»;refine Aa (Af ?_);refine Aa (FS W rfl ?_);dsimp only;refine Aa (DO hS hd hf ?_);rw[Ia (show¬ ((((es.size:Nat):Int) != ((es.size:Nat):Int))=true) by simp)];dsimp only[rawInt];refine Aa ?_;rw[show((i:Nat):Int).toNat=i from BK i,show((J:Nat):Int).toNat=J from BK J,show((ep:Nat):Int).toNat=ep from BK ep];refine hN _ _ _ ?_;dsimp only;refine Aa (CO W rfl (by simp[jK]) ?_);have U:=Bo (ES (·.setIfInBounds 0 (rawInt nx))) W (CL (BQ rfl _))
 refine Aa (CO U (BQ rfl _) (by simp[jK]) (Af ⟨x,rfl,Af (hQ _ ?_ ((B6 ..).trans (B6 ..)))⟩));exact(Bo _ U (CL (BQ (BQ rfl _) _))).trans rfl
def aGV{O:Nat}(Y:A.handled=none)(U:s.heap.get? I=some (jK (rawInt O) i S es.size ep))(hS:s.heap.get? S=some o)(hd:o.data=.set es ep t)(hf:t.fits es.size=true)
  (hN:∀(B:AK) (E':Ac->Ad->Prop) (W:Option (Ac×Nat)->Ad->Prop),W none s->wpAny (model prog w) B (setNext S O i ep) W E' s) {Q:Option Ac->Ad->Prop}
  (hQ:∀ h',(∀ b u,b≠I->s.heap.get? b=some u->h'.get? b=some u)->Q none { s with heap:=h' }):wpAny (model prog w) A (pyNext (.ref I)) Q E s:=by
 have J:s.TypeIs (.ref I) "set_iterator":=⟨_,U,rfl⟩
 unfold pyNext;apply Aa;apply Dt;refine CB (name:=Be "__next__") J dQ (Ct dQ J iP ?_ (iX _));unfold Builtin.«set_iterator.__next__»;refine Aa (Af ?_);refine Aa (FS U rfl ?_);dsimp only;refine Aa (DO hS hd hf ?_);rw[Ia (show¬ ((((es.size:Nat):Int) != ((es.size:Nat):Int))=true) by simp)];dsimp only[rawInt];refine Aa ?_;rw[show((i:Nat):Int).toNat=i from BK i,show((O:Nat):Int).toNat=O from BK O,show((ep:Nat):Int).toNat=ep from BK ep];refine hN _ _ _ ?_;dsimp only;refine Aa (CO U rfl (by simp[jK]) ?_);refine wQ (show A.in1.handled=none from Y) fun e h' k hE=>?_;refine Aa (Cb (T:="StopIteration") (b:=true) hE isSubtype_stop ?_);refine Af (hQ h' fun b u nb Z=>k b u ?_);exact(B6 _ I _).extBut b u nb Z
def aD3{first:Ac}(O:s.heap.get? I=some (jK first i S es.size ep)){Q:Ac->Ad->Prop}(h:Q (.ref I) s):wpAny (model prog w) A (pyIter (.ref I)) Q E s:=by
 have J:s.TypeIs (.ref I) "set_iterator":=⟨_,O,rfl⟩
 refine wpAny_pyIter_slot J rK (Ct rK J yD ?_ (aAK _));exact Af ⟨_,rfl,"set_iterator",_,J,dQ.lookup,h⟩
end
theorem yZ{α:Type}(next:Nat->Nat):∀(J k:Nat) (left:List α) (out:Array α),left.length=J->(pickOrder.go next J k left out).toList.Perm (out.toList++left)
 | 0,k,[],out,_=>by
  unfold pickOrder.go;rw[B5]
 | J+1,k,x::r,out,O=>by
  unfold pickOrder.go;have hi:next k%(x::r).length<(x::r).length:=HM _ (by simp)
  obtain⟨y,hy⟩:∃ y,(x::r)[next k%(x::r).length]?=some y:=⟨_,Ai hi⟩
  rw[hy];dsimp only;refine(yZ next J (k+1) _ _ (by rw[Ex hi];simp at O ⊢;exact O)).trans ?_;rw[Array.toList_push,B2];exact List.Perm.append_left _ (oM _ _ y hy)
def wR{α:Type}(next:Nat->Nat)(xs:Array α):(pickOrder next xs).toList.Perm xs.toList:=by
 unfold pickOrder;have h:=yZ next xs.size 0 xs.toList #[] (by simp)
 simpa using h
section
variable{I S T:Ag}{m ep:Nat}{o ot:Obj}{es:Array (Int×Ac)}{t:Dd}{bV:Array Ac}
def aK0(hh:A.handled=none)(hS:S≠I)(hT:T≠I)(hd:o.data=.set es ep t)(Z:t.fits es.size=true)(J:ot.data=.seq bV m)(hp:∀ i,i<bV.size->∃(p:Nat) (tk:Tok) (z:Int×Ac),bV[i]?=some (.int p tk)/\es[p]?=some z):
  Walks prog w A I [I,S,T] [I] bV.size (fun i v=>∃(p:Nat) (tk:Tok) (z:Int),bV[i]?=some (.int p tk)/\es[p]?=some (z,v)) (fun i h=>h.get? I=some (jK (.ref T) i S es.size ep)/\h.get? S=some o/\h.get? T=some ot) where
 sub:=fun b Y=>by simp at Y;simp[Y]
 frame:=fun _ _ _ st U=>⟨U I (by simp) _ st.1,U S (by simp) _ st.2.1,U T (by simp) _ st.2.2⟩
 item:=fun i s Q E hi st O=>by
  obtain⟨p,tk,⟨z,v⟩,h1,h2⟩:=hp i hi;refine aFv st.1 st.2.1 hd Z st.2.2 J h1 h2 fun h' hI W=>?_;exact O v h' s.toks ⟨p,tk,z,h1,h2⟩ ⟨hI,W.extBut S _ hS st.2.1,W.extBut T _ hT st.2.2⟩ fun b u nb e=>W.extBut b u (by simpa using nb) e
 done:=fun s Q E st O=>aGU hh st.1 st.2.1 hd Z st.2.2 J (by simp) fun h' k=>O h' s.toks fun b u nb e=>k b u (by simpa using nb) e
 self:=fun i s Q E st O=>aD3 st.1 O
def aK1(hh:A.handled=none)(hS:S≠I)(hd:o.data=.set es ep t)(hf:t.fits es.size=true)(W:Nat->Nat)(ord:List Ac)
  (hN:∀(i:Nat) (s:Ad),s.heap.get? S=some o->i<=ord.length->∀(B:AK) (O:Ac->Ad->Prop) (J:Option (Ac×Nat)->Ad->Prop),J ((ord[i]?).map fun v=>(v,W (i+1))) s->wpAny (model prog w) B (setNext S (W i) i ep) J O s):
  Walks prog w A I [I,S] [I] ord.length (fun i v=>ord[i]?=some v) (fun i h=>h.get? I=some (jK (rawInt (W i)) i S es.size ep)/\h.get? S=some o) where
 sub:=fun b Y=>by simp at Y;simp[Y]
 frame:=fun _ _ _ st Z=>⟨Z I (by simp) _ st.1,Z S (by simp) _ st.2⟩
 item:=fun i s Q E hi st U=>by
  obtain⟨v,hv⟩:∃ v,ord[i]?=some v:=⟨_,Ai hi⟩
  refine aFw (x:=v) (nx:=W (i+1)) st.1 st.2 hd hf (fun B O J q=>hN i s st.2 (DX hi) B O J (by rw[hv];exact q)) fun h' hI sb=>?_;exact U v h' s.toks hv ⟨hI,sb.extBut S _ hS st.2⟩ fun b u nb e=>sb.extBut b u (by simpa using nb) e
 done:=fun s Q E st U=>aGV hh st.1 st.2 hd hf (fun B O J q=>hN _ s st.2 (Ap _) B O J (by rw[A2 (Ap _)];exact q)) fun h' k=>U h' s.toks fun b u nb e=>k b u (by simpa using nb) e
 self:=fun i s Q E st U=>aD3 st.1 U
structure aM1(prog:Ar)(w:AW)(A:AK)(S:Ag)(el:List Ac)(s s2:Ad)(I:Ag):Prop where
 w:∃(fp:List Ag) (P:Nat->Ac->Prop) (St:Nat->Bb->Prop),Walks prog w A I fp [I] el.length P St/\St 0 s2.heap/\I∈fp/\(∀ b∈fp,b<s2.heap.objs.size/\(b=S\/s.heap.objs.size<=b))/\∀ acc,ItemsOf P acc el.length->acc.toList.Perm el
 keep:∀ b u,s.heap.get? b=some u->s2.heap.get? b=some u
 new:s.heap.objs.size<=I
 gens:s2.gens=s.gens
 os:s2.os=s.os
 toks:s2.toks=s.toks
def aGW{ord:List Ac}{J:Array Ac}(h:ItemsOf (fun i v=>ord[i]?=some v) J ord.length):J.toList=ord:=by
 obtain⟨hl,h⟩:=h;apply Cv;intro j;by_cases O:j<J.size
 .have:=h j J[j] (by simp[O]);rw[this];simp[O]
 .rw[A2 (by simpa using O),A2 (by lia)]
end
section
variable{S:Ag}{ep:Nat}{o:Obj}{es:Array (Int×Ac)}{t:Dd}
def aBS{ys:List Nat}{n:Nat}(U:ys.Perm (AY n))(hn:n=es.size):∀ i,i<(ys.map fun(i:Nat)=>rawInt i).toArray.size->∃(p:Nat) (tk:Tok) (z:Int×Ac),(ys.map fun(i:Nat)=>rawInt i).toArray[i]?=some (.int p tk)/\es[p]?=some z:=by
 intro i hi;have J:i<ys.length:=by simpa using hi
 have hm:ys[i]∈AY n:=U.mem_iff.mp (B8 J);have O:ys[i]<es.size:=by rw[<- hn];exact Ce.mp hm
 exact⟨ys[i],0,es[ys[i]],by simp[J,rawInt],by simp[O]⟩
def aAL{ys:List Nat}{n:Nat}(Z:ys.Perm (AY n))(hn:n=es.size){J:Array Ac}(h:ItemsOf (fun i v=>∃(p:Nat) (tk:Tok) (z:Int),(ys.map fun(i:Nat)=>rawInt i).toArray[i]?=some (.int p tk)/\es[p]?=some (z,v)) J ys.length):J.toList.Perm (es.toList.map (·.2)):=by
 have e:J.toList=ys.map fun p=>(es.toList.getD p (0,.none)).2:=by
  apply Cv;intro j;by_cases U:j<ys.length
  .have O:j<J.size:=by rw[h.1];exact U
   obtain⟨p,tk,z,h1,h2⟩:=h.2 j J[j] (by simp[O]);simp[U,rawInt]at h1;obtain⟨h1,_⟩:=h1;have Y:ys[j]=p:=by exact_mod_cast h1
   rw[AF,Ai U,Y];have W:es.toList[p]?=some (z,J[j]):=by simpa using h2
   simp[List.getD,h2,W,O]
  .rw[A2 (by have:=h.1;simp;lia),A2 (by simpa using U)]
 rw[e];refine(Z.map _).trans (List.Perm.of_eq ?_);apply Cv;intro j;rw[AF,AF];by_cases U:j<n
 .rw[C4 U];have O:j<es.size:=by lia
  simp[List.getD,O]
 .rw[A2 (by simpa using U),A2 (by simp;lia)];rfl
def aGX(hh:A.handled=none)(ak:o.cls=.type "set")(hd:o.data=.set es ep t)(U:t.fits es.size=true)(hb:es.size<scanBound)(ad:wP w es t){E:Ac->Ad->Prop}{s:Ad}{R:Ac->Ad->Prop}(hS:s.heap.get? S=some o)
  (h:∀(I:Ag) (s2:Ad),aM1 prog w A S (es.toList.map (·.2)) s s2 I->R (.ref I) s2):wpAny (model prog w) A (pyIter (.ref S)) R E s:=by
 have aj:s.TypeIs (.ref S) "set":=⟨_,hS,ak⟩
 have aa:=Az hS;refine wpAny_pyIter_slot aj F.slot_set_iter (Ct F.slot_set_iter aj uQ ?_ (F.args_set_iter_1 _));unfold Builtin.«frozenset.__iter__» Builtin.Frozenset.slot0 Builtin.Frozenset.sizeOf;refine Aa (Aa (Af (Af ?_)));refine Aa (Aa (DO hS hd U (Af ?_)));refine Aa ?_;unfold setDrawn setsByText;refine Aa (Dz hS hd U (Aa (Aa (DH (Af (Af ?_))))));have aB:(es.toList.map (·.2)).length=es.size:=by simp
 have Z:(∀(i:Nat) (s:Ad),s.heap.get? S=some o->i<=es.size->True)->∀(sl:Nat->Nat) (ord:List Ac),sl 0=0->ord.Perm (es.toList.map (·.2))->
   (∀(i:Nat) (s:Ad),s.heap.get? S=some o->i<=ord.length->∀(B:AK) (E':Ac->Ad->Prop) (Q':Option (Ac×Nat)->Ad->Prop),Q' ((ord[i]?).map fun v=>(v,sl (i+1))) s->wpAny (model prog w) B (setNext S (sl i) i ep) Q' E' s)->
   wpAny (model prog w) A.in1 (do ret (<- newFields "set_iterator" [rawInt 0,rawInt 0,.ref S,rawInt es.size,rawInt (<- setEpoch S)])) (fun Z s'=>∃ v,Z=.done (.ret v)/\∃ T' r,s'.TypeIs v T'/\typeLookup (.type T') "__next__"=pure (some r)/\R v s') E s:=by
  intro _ sl ord h0 J hN;refine Aa (wpAny_setEpoch_of hS hd U ?_);refine Aa (BH (Af ⟨_,rfl,"set_iterator",_,⟨_,AE _ rfl,rfl⟩,dQ.lookup,h _ _ ?_⟩));have am:ord.length=(es.toList.map (·.2)).length:=J.length_eq
  refine⟨⟨[s.heap.objs.size,S],_,_,am▸aK1 hh (AU aa) hd U sl ord hN,⟨by rw[h0];exact AE _ rfl,Ah _ hS⟩,by simp,?_,fun ax ha=>?_⟩,fun b u e=>Ah _ e,Ap _,rfl,rfl,rfl⟩
  .intro b hb;rw[B4];simp at hb;rcases hb with rfl|rfl
   .exact⟨B9 _,.inr (Ap _)⟩
   .exact⟨Bz aa,.inl rfl⟩
  .rw[<- am]at ha;rw[aGW ha];exact J
 dsimp only;cases ac:(model prog w).w.params.followText "set-order" with
 | true=>
  rw[Ia (by simp)];refine Aa (Af ?_);refine Z (fun _ _ _ _=>trivial) (fun _=>0) ((pickOrder ((model prog w).w.params.setOrder S ep) es).toList.map (·.2)) rfl ((wR _ es).map _) fun i s1 O hi B E' Q' q=>?_
  unfold setNext setsByText setWalk setsByText;refine Aa (Dz O hd U ?_);refine Aa (Aa (DH (Af ?_)));dsimp only;rw[ac,Ib rfl];rw[Ia (show¬ ((ep != ep)=true) by simp)];refine Aa (Aa (Dz O hd U ?_));refine Aa (Aa (DH (Af ?_)));dsimp only;rw[ac,Ib rfl];refine Aa (DH (Af (Af ?_)));simpa[Function.comp_def]using q
 | false=>
  by_cases h1:es.size>1
  .have Y:t.plain=false:=ad.2.resolve_left (by lia);refine BV (Ic (show((!false)&&(!t.plain&&decide (es.size>1)))=true by rw[Y];simp[h1])) ?_;refine Aa (aC9 es.size (AY es.size) s _ (by simp) fun ys d J=>?_);have ao:ys.length=es.size:=by rw[J.length_eq];simp
   refine Aa (wpAny_newTuple ?_ (by rw[Ab,ao];exact E5 hb));have O:(s.heap.push { cls:=.type "tuple",data:=.seq (ys.map fun(i:Nat)=>rawInt i).toArray }).get? S=some o:=Ah _ hS;refine Aa (wpAny_setEpoch_of O hd U ?_);refine Aa (BH (Af ⟨_,rfl,"set_iterator",_,⟨_,AE _ rfl,rfl⟩,dQ.lookup,h _ _ ?_⟩));have W:(s.heap.push { cls:=.type "tuple",data:=.seq (ys.map fun(i:Nat)=>rawInt i).toArray }).objs.size=s.heap.objs.size+1:=B4 _ _;have ai:(ys.map fun(i:Nat)=>rawInt i).toArray.size=(es.toList.map (·.2)).length:=by simp[ao]
   have hw:=aK0 (prog:=prog) (w:=w) (A:=A) (I:=(s.heap.push { cls:=.type "tuple",data:=.seq (ys.map fun(i:Nat)=>rawInt i).toArray }).objs.size) (S:=S) (T:=s.heap.objs.size) (o:=o) (ot:={ cls:=.type "tuple",data:=.seq (ys.map fun(i:Nat)=>rawInt i).toArray }) hh (by rw[W];exact AU (Bz aa)) (by rw[W];exact AU (B9 _)) hd U rfl (aBS J rfl);rw[ai]at hw;refine⟨⟨_,_,_,hw,⟨AE _ rfl,Ah _ O,Ah _ (AE _ rfl)⟩,by simp,?_,fun ax ha=>?_⟩,fun b u e=>Ah _ (Ah _ e),by dsimp only;rw[W];exact CU _,rfl,rfl,rfl⟩
   .intro b hb;have h3:b=s.heap.objs.size+1\/b=S\/b=s.heap.objs.size:=by
     rw[W]at hb;simpa using hb
    dsimp only;rw[B4,W];rcases h3 with rfl|rfl|rfl
    .exact⟨B9 _,.inr (CU _)⟩
    .exact⟨Bz (Bz aa),.inl rfl⟩
    .exact⟨Bz (B9 _),.inr (Ap _)⟩
   .rw[<- ai,Au,Ab]at ha;exact aAL J rfl ha
  .refine AM (Ie (show¬ (((!false)&&(!t.plain&&decide (es.size>1)))=true) by simp[h1])) ?_;refine Aa (Af ?_);have ar:(!t.plain&&decide (es.size>1))=false:=by simp[h1]
   have an:t.led=true:=by
    have z:=ad.1;rw[show w.params.followText "set-order"=false from ac]at z;exact z
   have av:t.place.size=es.size:=by
    unfold SetTable.fits at U;simp at U;exact U.1
   refine Z (fun _ _ _ _=>trivial) (fun i=>if i=0 then 0 else t.place.getD 0 0+1) (es.toList.map (·.2)) rfl (DK _) fun i s1 O hi B E' Q' q=>?_
   unfold setNext setsByText;refine Aa (Dz O hd U ?_);refine Aa (Aa (DH (Af ?_)));dsimp only;rw[ac,Ia (by simp)];refine AM (Ie (show¬ ((!t.plain&&decide (es.size>1))=true) by rw[ar];simp)) ?_;refine Aa (AM (Ie (show¬ ((!t.led&&!es.isEmpty)=true) by rw[an];simp)) (Af (Af ?_)));have af:es.size=0\/es.size=1:=by lia
   rcases af with hz|hz
   .have ah:es=#[]:=Array.eq_empty_of_size_eq_zero hz;have Y:t.place=#[]:=Array.eq_empty_of_size_eq_zero (by lia);subst ah;have au:i=0:=by simpa using hi
    subst au;rw[Y];simpa[DL,DL.go]using q
   .obtain⟨e,ah⟩:=Array.size_eq_one_iff.mp hz;obtain⟨j,Y⟩:=Array.size_eq_one_iff.mp (av.trans hz);subst ah;have ay:i=0\/i=1:=by
     have:i<=1:=by simpa using hi
     lia
    rw[Y]at q ⊢;rcases ay with rfl|rfl
    .simpa[DL,DL.go]using q
    .simpa[DL,DL.go]using q
end
section
variable{S:Ag}{ep:Nat}{o:Obj}{es:Array (Int×Ac)}{t:Dd}
def aBT(hh:A.handled=none)(J:o.cls=.type "set")(hd:o.data=.set es ep t)(hf:t.fits es.size=true)(hb:es.size<scanBound)(ak:wP w es t){E:Ac->Ad->Prop}{s:Ad}{Q:List Ac->Ad->Prop}(hS:s.heap.get? S=some o)
  (h:∀(ah:List Ac) (h':Bb) (d:Hw) (tk:Nat),ah.Perm (es.toList.map (·.2))->(∀ b u,s.heap.get? b=some u->h'.get? b=some u)->s.heap.objs.size<h'.objs.size->Q ah { s with heap:=h',drawn:=d,toks:=tk }):wpAny (model prog w) A (collect (.ref S)) Q E s:=by
 have ad:=Az hS;unfold collect;apply Aa;apply FR;apply Ck F.entry_proto_collect;rw[Cq F.plain_proto_collect];show wpAny _ A.in1 (newList [] >>= fun l=>again (.builtin "list.__iadd__" ⟨[l,.ref S],[]⟩)) _ _ s;apply Aa;refine BH (Af ⟨Ep EY _,Ck F.entry_list_iadd ?_⟩);rw[Cq EY];have Y:(s.heap.push { cls:=.type "list",data:=.seq ([]:List Ac).toArray }).get? S=some o:=Ah _ hS;have av:(s.heap.push { cls:=.type "list",data:=.seq ([]:List Ac).toArray }).get? s.heap.objs.size=some { cls:=.type "list",data:=.seq ([]:List Ac).toArray }:=AE _ rfl;have e1:Builtin.List.listSameRef (.ref s.heap.objs.size) (.ref S)=false:=by
  show(s.heap.objs.size==S)=false;simpa using CD ad
 show wpAny _ A.in1 (Da (.ref s.heap.objs.size) (.ref S) (.ref s.heap.objs.size)) _ _ _;unfold Da;refine Aa (Cf (T:="set") ⟨o,Y,J⟩ ?_);rw[Ia (by rw[e1];decide)];refine Aa (aGX (A:=A.in1) hh J hd hf hb ak Y fun I s2 it=>?_);have U:=it.keep S o Y;have ae:=it.keep _ _ av;refine Aa (Bg ?_);unfold Builtin.List.listLengthHint;refine Aa (Ez (T:="set") ⟨o,U,J⟩ F.slot_set_len.lookup ?_);generalize hid:("set.__len__":String)=ar
 wp_delta
 rw[show splitId ar=some ("set","__len__") from by subst hid;trivial];subst hid;refine Aa (Cb (b:=true) (T:="set") ⟨o,U,J⟩ sub_set_self ?_);refine AM (by rfl) ?_;refine BV (by trivial) ?_;refine Aa (Cf (T:="set") ⟨o,U,J⟩ ?_);refine Af ?_;refine BV (by trivial) ?_;refine Aa (DF ?_);have⟨fp,P,St,W,st0,hI,hfp,hit⟩:=it.w;have ac:(s.heap.push { cls:=.type "list",data:=.seq ([]:List Ac).toArray }).objs.size=s.heap.objs.size+1:=B4 _ _;have aa:s.heap.objs.size∉fp:=fun hm=>by
  rcases(hfp _ hm).2 with z|z
  .exact absurd z (CD ad)
  .dsimp only at z;rw[ac]at z;exact absurd z (Nat.not_succ_le_self _)
 apply Aa;show wpAny _ A.in1 (updateSeq s.heap.objs.size (·.push .none) >>= fun _=>updateSeq s.heap.objs.size (·.pop)) _ _ _
 apply Aa;refine Fv ae rfl ?_;have aj:=Bo (Bx (·.push BY)) ae rfl
 refine Fv aj rfl ?_;have aq:=Bo (Bx (·.pop)) aj rfl
 have ag:∀ b u,b≠s.heap.objs.size->s2.heap.get? b=some u->((s2.heap.update s.heap.objs.size (Bx (·.push BY))).update s.heap.objs.size (Bx (·.pop))).get? b=some u:=
  fun b u nb e=>(BO _ _ (CY nb)).trans ((BO _ _ (CY nb)).trans e)
 have au:(es.toList.map (·.2)).length<=sizeLine:=by
  rw[Ab,AL];exact E5 hb
 refine Af ⟨Ep F.plain_extend_loop _,codeAny_extend_loopS (GM W) au s.heap.objs.size aa _ _ 0 _ _ _ rfl (A3 _) (W.frame 0 _ _ st0 fun b hb u e=>ag b u (fun z=>aa (z▸hb)) e) aq (ItemsOf.nil P) fun s' O c' hm af ai=>?_⟩;show wpAny _ A (load s.heap.objs.size >>= _) _ _ s';apply Aa;refine wpAny_load af (Af ?_);have⟨h',g',d',tk',os'⟩:=s';have g1:=hm.gens;have g2:=hm.os;dsimp only at g1 g2;have g3:=it.gens;have g4:=it.os;rw[g3]at g1;rw[g4]at g2;dsimp only at g1 g2;subst g1 g2;refine h O.toList h' d' tk' (hit O ai) (fun b u e=>?_) (Az af);have Z:=Az e;have nb:b≠s.heap.objs.size:=AU Z;have nI:b≠I:=fun z=>by
  have z2:=it.new;dsimp only at z2;rw[ac,<- z]at z2;exact absurd (DW Z z2) (Cd _)
 refine hm.heap b u (by simp[nb,nI]) (ag b u nb (it.keep b u (Ah _ e)))
end
theorem iY{α:Type}[DecidableEq α]:∀(L M:List α),L.Nodup->(∀ x∈L,x∈M)->M.length=L.length->M.Perm L
 | [],M,_,_,O=>by
  have:M=[]:=A8 O;rw[this]
 | x::r,M,hn,hm,O=>by
  obtain⟨hx,hr⟩:=Dg.mp hn;have J:=hm x (by simp);have W:=iY r (M.erase x) hr (fun y U=>(List.mem_erase_of_ne (show y≠x from fun z=>hx (by rw[<- z];exact U))).mpr (hm y (by simp[U]))) (by rw[List.length_erase_of_mem J,O];simp);exact(List.perm_cons_erase J).trans (W.cons x)
section
variable{S:Ag}
def aBU(hh:A.handled=none){f:Str->Bool}{n:Nat}(hS:kO prog w s.heap S f n){U:List Str}(ah:U.Nodup)(ad:∀ k,f k=true↔k∈U)(hn:n=U.length)(ap:n<64){Q:Ac->Ad->Prop}
  (h:∀(l:Ag) (h':Bb) (d:Hw) (tk e:Nat) (out:Array Ac) (Z:List Str),s.heap.objs.size<=l->(∀ b u,s.heap.get? b=some u->h'.get? b=some u)->h'.get? l=some (seqObj "list" out e)->HK out.toList Z->Z.Perm U->sortedS Z=true->Q (.ref l) { s with heap:=h',drawn:=d,toks:=tk }):
  wpAny (model prog w) A (call (.builtin "sorted") [.ref S]) Q E s:=by
 obtain⟨o,es,ep,t,ho,hex,hd,hel,hm,hb,hf,hsz,hTab⟩:=hS;refine Calls.call_function_entry kind_sorted plain_sorted entry_sorted (args_sorted1 _) ?_;unfold Builtin.«sorted»;apply Aa (m:=checkCount "sorted" 1 1 _);apply Af;refine Aa (aBT (A:=A.in1) hh hex.1 hd hf hb hTab ho fun J h1 d tk hp W aj=>?_);have aa:∀ v,v∈J->∃ x t,v=.str x t:=fun v hv=>by
  obtain⟨e,he,rfl⟩:=Bn.mp (hp.mem_iff.mp hv);obtain⟨⟨k,W,_⟩,_⟩:=hel e he;obtain⟨t,ht⟩:=Fo W;exact⟨k,t,ht⟩
 have hA:=strsAre_map J aa;have am:J.length=n:=by rw[hp.length_eq,Ab,AL];exact hsz
 have hM:(J.map strOf).Perm U:=by
  refine((hp.map strOf)).trans (iY U _ ah (fun x hx=>?_) (by rw[Ab,Ab,AL,hsz,hn]));obtain⟨e,he,W⟩:=(hm x).mp ((ad x).mpr hx);obtain⟨t,ht⟩:=Fo W;exact Bn.mpr ⟨e.2,Bn.mpr ⟨e,he,rfl⟩,by rw[ht];rfl⟩
 have ag:J.length<=sizeLine:=by rw[D0];lia
 apply Aa;refine Hm ?_ ag;have O:(h1.push (seqObj "list" J.toArray 0)).get? h1.objs.size=some (seqObj "list" J.toArray 0):=AE _ rfl;refine Aa (Bg (Ct slot_list_sort ⟨_,O,rfl⟩ entry_list_sort (list_sort_treeK strKind_oneLt O hA.keysOf (fun v₁ v₂ aY e=>keyKind_strs (by rw[<- e];exact hA)) (by lia) fun ae a1 a2=>⟨_,rfl,?_⟩) (args_list_sort _)));obtain⟨Z,b1,b2,b3⟩:=sorted_out_str hA a1 a2;refine Af ⟨_,rfl,?_⟩;obtain⟨e,he⟩:=sortedHeap_at (vs:=J) (out:=(arrOf ae).map (·.2)) O
 have ac:s.heap.objs.size<=h1.objs.size:=DX aj;refine h _ _ d tk e _ Z ac (fun b u eb=>?_) he b1 (b2.trans hM) b3;have Y:=Az (W b u eb);rw[sortedHeap_old (AU Y) (by rw[B4];exact Bz Y)];exact Ah _ (W b u eb)
end
section
variable{H':Hp}{h':Bb}
def Inv.laidD{a:Ag}{o:HO}{t':Nat}{d':Hw}(I:Inv X dl σ H s)(k:∀ b u,s.heap.get? b=some u->h'.get? b=some u)(J:s.heap.objs.size<=a)(new:cZ X.prog X.w (upd H a o) h' a o):
  Inv X dl σ (upd H a o) { s with heap:=h',drawn:=d',toks:=t' }:=by
 have u:Un (frs X.stack) [] H (upd H a o) s.heap h':=Un.laid k J (I.hok.fresh J);exact I.call (g':=s.gens) (d':=d') u (I.hok.laid k J new) I.bare (fun _ z=>nomatch z)
theorem wS(val:Nat->Str):∀ i,(iN val i).Nodup
 | 0=>List.nodup_nil
 | i+1=>by
  show(lG (iN val i) (val i)).Nodup;have J:=wS val i;unfold lG;split
  .exact J
  .next hne=>
   rw[Dp];exact⟨J,by simp,fun x O y U e=>hne (by rw[<- (show y=val i from by simpa using U),<- e];exact O)⟩
def uR(ss:List Str):List Str:=iN (fun i=>ss.getD i "") ss.length
def aBV(J:List Str)(k:Str):k∈uR J↔k∈J:=by
 unfold uR;rw[wH];constructor
 .rintro⟨j,hj,e⟩;rw[<- e,Ba,Ai hj];exact B8 hj
 .intro O;obtain⟨j,hj,e⟩:=Fi.mp O;exact⟨j,hj,by rw[Ba,Ai hj];exact e⟩
def qE(J:List Str):(uR J).Nodup:=wS _ _
def aFx(P:Ar)(w:AW)(a:Ag)(ss:List Str):HO:=.ext fun h=>kO P w h a (fun k=>(uR ss).any fun x=>x==k) (uR ss).length
def aBW{U:List Str}{its:List Ac}(W:cE (U.map V.str) its){i:Nat}{v:Ac}(Y:its.toArray[i]?=some v):∃ t,v=BG (U.getD i "") t:=by
 have J:=W.length;rw[Ab]at J;have O:its[i]?=some v:=by simpa using Y
 have hi:i<U.length:=by
  rw[J];exact(AO.mp O).1
 have e:(U.map V.str)[i]?=some (V.str (U.getD i "")):=by
  rw[AF,Ai hi];simp[hi]
 obtain⟨u,hu,ru⟩:=W.get e;rw[O]at hu;cases hu;exact ru
def zC(hc:X.calm=true):gR X (.type "set") (fun xs H Q=>∃(p:Ag) (U:List Str),xs=[.ref p]/\(H p=some (.lst (U.map V.str))\/H p=some (.tup (U.map V.str)))/\U.length<=1000/\∀ a,H a=none->Q (.ref a) (upd H a (aFx X.prog X.w a U))):=by
 intro dl s σ H xs us Q I r h;obtain⟨p,U,rfl,Y,h1000,q⟩:=h;obtain⟨u,rfl,ru⟩:=gS r;cases ru;have W:∀(O:List Ac),O.length=U.length->∀(h':Bb) (tk:Nat),kO X.prog X.w h' s.heap.objs.size (fun k'=>(iN (fun i=>U.getD i "") O.toArray.size).any fun x=>x==k') (iN (fun i=>U.getD i "") O.toArray.size).length->
   (∀(b:Nat) (o:Obj),b<s.heap.objs.size->s.heap.get? b=some o->h'.get? b=some o)->EP X dl σ Q (AV s.heap.objs.size) { s with heap:=h',toks:=tk }:=by
  intro O hl h' tk hS hk;have Z:O.toArray.size=U.length:=by rw[Au,hl]
  rw[Z]at hS;have aa:∀ b u,s.heap.get? b=some u->h'.get? b=some u:=fun b u e=>hk b u (Az e) e;have hn:H s.heap.objs.size=none:=I.hok.fresh (Ap _);refine⟨.ref s.heap.objs.size,_,I.laid (t':=tk) (o:=aFx X.prog X.w s.heap.objs.size U) aa (Ap _) ⟨hS,?_,fun h1 h2 f g=>?_⟩,rfl,q _ hn⟩
  .obtain⟨o,_,_,_,e,_⟩:=hS;exact⟨o,e⟩
  .exact f.at g
 rcases Y with Y|Y
 .obtain⟨O,rv,pl,_⟩:=I.list (aP Y);have J:=rv.length;rw[Ab]at J;exact aBP (val:=fun i=>U.getD i "") (I.ok.hd hc) pl.isList (fun i v hv=>aBW rv hv) (by rw[Au,<- J];show _<4096;lia) (W O J.symm)
 .obtain⟨O,rv,pl,_⟩:=I.tuple (aV Y);have J:=rv.length;rw[Ab]at J;exact aBQ (val:=fun i=>U.getD i "") (I.ok.hd hc) pl (fun i v hv=>aBW rv hv) (by rw[Au,<- J];show _<4096;lia) (W O J.symm)
def rL(hc:X.calm=true):gR X (.builtin "sorted") (fun xs H Q=>∃(p:Ag) (J:List Str),xs=[.ref p]/\H p=some (aFx X.prog X.w p J)/\J.length<64/\∀(l:Ag) (O:List Str),H l=none->O.Perm (uR J)->sortedS O=true->Q (.ref l) (upd H l (.lst (O.map V.str)))):=by
 intro dl s σ H xs us Q I r h;obtain⟨p,J,rfl,hx,h64,q⟩:=h;obtain⟨u,rfl,ru⟩:=gS r;cases ru;obtain⟨hS,_,_⟩:cZ X.prog X.w H s.heap p (aFx X.prog X.w p J):=I.hok p _ hx;have ad:(uR J).length<=J.length:=uW (fun i=>J.getD i "") J.length;refine aBU (I.ok.hd hc) hS (qE J) (fun k=>by rw[rE];simp) rfl (by lia) fun l h' d tk e out O U hk Z ha W Y=>?_;have hv:cE (O.map V.str) out.toList:=mM ha;have ae:=W.length_eq;exact⟨.ref l,_,I.laidD (t':=tk) (d':=d) (o:=.lst (O.map V.str)) hk U ⟨aJ (by rw[Ab];lia),out.toList,e,hv,by rw[Z]<;>rfl⟩,rfl,q l O (I.hok.fresh U) W Y⟩
theorem rM:∀(p:Str) (l:List Str),risingS p l=true->(∀ x∈l,¬ x.cps.toList<p.cps.toList)/\l.Pairwise fun a b=>¬ b.cps.toList<a.cps.toList
 | p,[],_=>⟨fun x J=>by simp at J,Eh⟩
 | p,x::r,h=>by
  have h':(!ltCps x.cps.toList p.cps.toList&&risingS x r)=true:=h;rw[Aw,ltCps_eq]at h';have J:¬ x.cps.toList<p.cps.toList:=by simpa using h'.1
  obtain⟨i1,i2⟩:=rM x r h'.2;refine⟨fun y O=>?_,Ew.mpr ⟨i1,i2⟩⟩;rcases Ao.mp O with rfl|O
  .exact J
  .intro z;have h1:=i1 y O;exact J (List.lt_of_le_of_lt (Du.mp h1) z)
def rN:∀(l:List Str),sortedS l=true->l.Pairwise fun a b=>¬ b.cps.toList<a.cps.toList
 | [],_=>Eh
 | x::r,h=>Ew.mpr (rM x r h)
def iC{a b:Str}(h:a.cps.toList=b.cps.toList):a=b:=by
 cases a;cases b;congr;exact CF.mp h
theorem uC:∀{l m:List Str},l.Perm m->(l.Pairwise fun a b=>¬ b.cps.toList<a.cps.toList)->(m.Pairwise fun a b=>¬ b.cps.toList<a.cps.toList)->l=m
 | [],m,h,_,_=>(List.Perm.eq_nil h.symm).symm
 | x::r,[],h,_,_=>by simpa using h.length_eq
 | x::r,y::q,h,h1,h2=>by
  obtain⟨a1,a2⟩:=Ew.mp h1;obtain⟨b1,b2⟩:=Ew.mp h2;have e:x=y:=by
   rcases Ao.mp (h.mem_iff.mp (AQ (a:=x) (l:=r)))with e|hx
   .exact e
   .rcases Ao.mp (h.mem_iff.mpr (AQ (a:=y) (l:=q)))with e|hy
    .exact e.symm
    .exact iC (EW (Du.mp (a1 y hy)) (Du.mp (b1 x hx)))
  subst e;rw[uC ((List.perm_cons x).mp h) a2 b2]
end
def fH{α:Type}(o:Nat->Nat->Bool):HU α->α
 | .ret a=>a
 | .ask i j k=>fH o (k (o i j))
theorem wT{α:Type}{n:Nat}{P:α->Prop}{o o':Nat->Nat->Bool}(h:∀ i j,i<n->j<n->o i j=o' i j):∀{t:HU α},iW n P t->fH o t=fH o' t
 | .ret a,_=>rfl
 | .ask i j k,z=>by
  show fH o (k (o i j))=fH o' (k (o' i j));rw[h i j z.1 z.2.1];exact wT h (z.2.2 _)
theorem iW.run{α:Type}{n:Nat}{P:α->Prop}(o:Nat->Nat->Bool):∀{t:HU α},iW n P t->P (fH o t)
 | .ret a,h=>h
 | .ask i j k,h=>by
  show P (fH o (k (o i j)));exact iW.run o (h.2.2 (o i j))
theorem iW.wpO{α:Type}{n:Nat}{P:α->Prop}{J:Nat->Nat->(Bool->Ad->Prop)->Ad->Prop}{Q:α->Ad->Prop}{s:Ad}{o:Nat->Nat->Bool}(hc:∀ i j C,i<n->j<n->C (o i j) s->J i j C s):∀{t:HU α},iW n P t->Q (fH o t) s->t.kasWp J Q s
 | .ret a,_,q=>by rw[KasT.kasWp.eq_1];exact q
 | .ask i j k,h,q=>by
  rw[KasT.kasWp.eq_2];exact hc i j _ h.1 h.2.1 (iW.wpO hc (h.2.2 _) q)
abbrev P3:=Str×Str×Int
inductive aD4(h:Bb)(v:Ac)(x:P3):Prop
 | mk (t:_) (u1:_) (u2:_) (u3:_) (q0:v=.ref t) (q1:E7 h t #[.str x.1 u1,.str x.2.1 u2,.int x.2.2 u3]):aD4 h v x
def aNj(h:Bb)(v:Ac)(x:P3):Prop:=aD4 h v x
def aD5{a b:Int}{t u:Tok}{Q:Bool->Ad->Prop}(h:Q (decide (a<b)) s):wpAny (model prog w) A (oneLt' false (BN a t) (BN b u)) Q E s:=by
 rw[oneLt'_eq];show wpAny _ _ (compareOp .Lt (BN a t) (BN b u) >>= _) _ _ _;apply Aa;refine lt_int ?_
 wp_walk
 exact h
def aJa{a b:Str}{t u:Tok}{Q:Bool->Ad->Prop}(h:Q (decide (a.cps.toList<b.cps.toList)) s):wpAny (model prog w) A (oneLt' false (BG a t) (BG b u)) Q E s:=by
 rw[oneLt'_eq];show wpAny _ _ (compareOp .Lt (BG a t) (BG b u) >>= _) _ _ _;apply Aa;refine lt_str ?_
 wp_walk
 exact h
inductive aD6(H:Hp)(v:V)(x:P3):Prop
 | mk (t:_) (q0:v=.ref t) (q1:H t=some (.tup [.str x.1,.str x.2.1,.int x.2.2])):aD6 H v x
def aNk(H:Hp)(v:V)(x:P3):Prop:=aD6 H v x
theorem zD{vs:List V}{its:List Ac}(r:cE vs its):∀(q:List Nat),(∀ i∈q,i<vs.length)->cE (q.map fun i=>vs.getD i .non) (q.map fun i=>its.getD i .none)
 | [],_=>.nil
 | i::q,h=>by
  have hi:=h i (by simp);obtain⟨u,hu,ru⟩:=r.get (Ai hi);refine .cons ?_ (zD r q fun j J=>h j (by simp[J]));show cQ (vs.getD i .non) (its.getD i .none);rw[Ba,Ba,Ai hi,hu];exact ru
def aGY(R:List P3):Prop:=R.Pairwise fun a b=>a.1.cps.toList<b.1.cps.toList
section
variable{n:Nat}{π:Nat->Nat}
abbrev Kp(π:Nat->Nat)(p:Array Nat)(j:Nat):Nat:=π (p.getD j 0)
abbrev ord(π:Nat->Nat):Nat->Nat->Bool:=fun i j=>decide (π i<π j)
def KS(π:Nat->Nat)(p:Array Nat)(k:Nat):Prop:=∀ i j,i<j->j<k->Kp π p i<Kp π p j
theorem jC{α β:Type}(o:Nat->Nat->Bool)(f:α->HU β):∀ t:HU α,fH o (t.bind f)=fH o (f (fH o t))
 | .ret a=>by rw[KasT.bind.eq_1];rfl
 | .ask i j k=>by
  rw[KasT.bind.eq_2];show fH o ((k (o i j)).bind f)=_;rw[jC o f (k (o i j))];rfl
def lJ{α:Type}(o:Nat->Nat->Bool)(i j:Nat)(k:Bool->HU α):fH o (.ask i j k)=fH o (k (o i j)):=rfl
def rO{p:Array Nat}{j v:Nat}(h:p[j]?=some v):p.getD j 0=v:=by rw[Bw,h];rfl
def Pm.size{p:Array Nat}(h:Pm n p):p.size=n:=by rw[h.size_eq];simp
def Pm.ne{p:Array Nat}(h:Pm n p){i j:Nat}(hi:i<n)(W:j<n)(O:i≠j):p.getD i 0≠p.getD j 0:=by
 have hz:=h.size;have J:p.toList.Nodup:=(Array.perm_iff_toList_perm.mp h).nodup_iff.mpr (by simpa using List.nodup_range);rw[rO (BZ (by lia)),rO (BZ (by lia))];intro e;have U:p.toList[i]'(by simpa using(by lia:i<p.size))=p.toList[j]'(by simpa using(by lia:j<p.size)):=by simpa using e
 exact O ((EX J).mp U)
variable(hn:0<n)(hπ:∀ i j,i<n->j<n->π i=π j->i=j)
include hn hπ
def aGZ{p:Array Nat}(h:Pm n p){i j:Nat}(hi:i<n)(O:j<n)(J:i≠j):Kp π p i≠Kp π p j:=fun e=>h.ne hi O J (hπ _ _ (h.lt hn i) (h.lt hn j) e)
def aD7{p:Array Nat}(h:Pm n p){k:Nat}(Y:1<=k)(J:k<n)(U:KS π p k)(W:¬ Kp π p k<Kp π p (k-1)):KS π p (k+1):=by
 intro i j O Z;by_cases e:j=k
 .subst e;have h1:Kp π p (j-1)<Kp π p j:=by
   have:=aGZ hn hπ h (i:=j-1) (j:=j) (by lia) J (by lia);lia
  by_cases e2:i=j-1
  .rw[e2];exact h1
  .exact DW (U i (j-1) (by lia) (by lia)) h1
 .exact U i j O (by lia)
theorem uY{p:Array Nat}(h:Pm n p):∀(f x:Nat),1<=x->x+f<=n->KS π p x->x<=fH (ord π) (kas_asc p f x)/\fH (ord π) (kas_asc p f x)<=x+f/\KS π p (fH (ord π) (kas_asc p f x))
 | 0,x,h1,h2,J=>by
  rw[kas_asc.eq_1];exact⟨Ap _,by show x<=x+0;lia,J⟩
 | f+1,x,h1,h2,J=>by
  rw[kas_asc.eq_2,lJ];by_cases O:Kp π p x<Kp π p (x-1)
  .rw[show ord π (p.getD x 0) (p.getD (x-1) 0)=true from Ic O];show x<=fH (ord π) (.ret x)/\_;exact⟨Ap _,by show x<=x+(f+1);lia,J⟩
  .rw[show ord π (p.getD x 0) (p.getD (x-1) 0)=false from Ie O];have U:=uY h f (x+1) (by lia) (by lia) (aD7 hn hπ h h1 (by lia) J O);show x<=fH (ord π) (kas_asc p f (x+1))/\fH (ord π) (kas_asc p f (x+1))<=x+(f+1)/\KS π p (fH (ord π) (kas_asc p f (x+1)));exact⟨by lia,by lia,U.2.2⟩
def KF(π:Nat->Nat)(p:Array Nat)(k:Nat):Prop:=∀ j,1<=j->j<k->Kp π p j<Kp π p (j-1)
omit hn hπ in
theorem aG0{p:Array Nat}{k:Nat}(h:KF π p k):∀(d i:Nat),i+d+1<k->Kp π p (i+d+1)<Kp π p i
 | 0,i,J=>h (i+0+1) (by lia) J
 | d+1,i,J=>by
  have h1:=aG0 h d i (by lia);have h2:=h (i+(d+1)+1) (by lia) J;have e:i+(d+1)+1-1=i+d+1:=by lia
  rw[e]at h2;exact DW h2 h1
theorem aBX{p:Array Nat}(h:Pm n p):∀(f x:Nat),1<=x->x+f<=n->KF π p x->∃ m,fH (ord π) (kas_desc f p x 0)=(p,m,0)/\x<=m/\m<=x+f/\KF π p m
 | 0,x,h1,h2,J=>by
  rw[kas_desc.eq_1];exact⟨x,rfl,Ap _,by lia,J⟩
 | f+1,x,h1,h2,J=>by
  rw[kas_desc.eq_2,lJ];by_cases O:Kp π p x<Kp π p (x-1)
  .rw[show ord π (p.getD x 0) (p.getD (x-1) 0)=true from Ic O];have U:KF π p (x+1):=fun j a b=>by
    by_cases e:j=x
    .rw[e];exact O
    .exact J j a (by lia)
   obtain⟨m,e,a,b,c⟩:=aBX h f (x+1) (by lia) (by lia) U;refine⟨m,?_,by lia,by lia,c⟩;exact e
  .rw[show ord π (p.getD x 0) (p.getD (x-1) 0)=false from Ie O];refine⟨x,?_,Ap _,by lia,J⟩;show fH (ord π) (.ask (p.getD (x-1) 0) (p.getD x 0) _)=_;rw[lJ];have W:Kp π p (x-1)<Kp π p x:=by
    have:=aGZ hn hπ h (i:=x-1) (j:=x) (by lia) (by lia) (by lia);lia
   rw[show ord π (p.getD (x-1) 0) (p.getD x 0)=true from Ic W];rfl
omit hn hπ in
def aG1{p:Array Nat}{m k:Nat}(hm:m<=p.size)(J:k<m):(Hx p 0 m).getD k 0=p.getD (m-1-k) 0:=by
 unfold Hx;rw[Bw,getElem?_mirror_all hm,Ib ⟨A3 _,J⟩,Bw];congr 2;lia
def aFy{p:Array Nat}(h:Pm n p){m:Nat}(h1:1<=m)(hm:m<=n)(U:KF π p m):∃ r,fH (ord π) (Hu m n p)=r/\1<=r.1/\r.1<=n/\Pm n r.2/\KS π r.2 r.1:=by
 have hz:=h.size;have J:Pm n (Hx p 0 m):=h.rev 0 m;have O:KS π (Hx p 0 m) m:=fun i j W Y=>by
  show π _<π _;rw[aG1 (by lia) (by lia),aG1 (by lia) Y];have:=aG0 U (j-i-1) (m-1-j) (by lia);have e:m-1-j+(j-i-1)+1=m-1-i:=by lia
  rw[e]at this;exact this
 have ha:=uY hn hπ J (n-m) m h1 (by lia) O;refine⟨_,rfl,?_⟩;unfold Hu;rw[jC];exact⟨by show 1<=fH (ord π) _;lia,by show fH (ord π) _<=n;lia,J,ha.2.2⟩
def aFz{p:Array Nat}(h:Pm n p):∃ r,fH (ord π) (Hv n p)=r/\1<=r.1/\r.1<=n/\Pm n r.2/\KS π r.2 r.1:=by
 unfold Hv;rw[jC];have W:KS π p 1:=fun i j Z hj=>by lia
 have ha:=uY hn hπ h (n-1) 1 (Ap _) (by lia) W;generalize hm:fH (ord π) (kas_asc p (n-1) 1)=m at ha ⊢;by_cases e:m=n
 .rw[Ib (by rw[e];simp)];exact⟨(m,p),rfl,by show 1<=m;lia,by show m<=n;lia,h,ha.2.2⟩
 .rw[Ia (by simpa using e)];by_cases J:m>1
  .rw[Ib J,lJ];have Y:Kp π p 0<Kp π p (m-1):=ha.2.2 0 (m-1) (by lia) (by lia);rw[show ord π (p.getD 0 0) (p.getD (m-1) 0)=true from Ic Y];exact⟨(m,p),rfl,by show 1<=m;lia,by show m<=n;lia,h,ha.2.2⟩
  .rw[Ia J];have em:m=1:=by lia
   subst em;unfold Hy;rw[jC];have O:Kp π p 1<Kp π p 0:=by
    by_cases hc:Kp π p 1<Kp π p 0
    .exact hc
    .exfalso;obtain⟨g,hg⟩:∃ g,n-1=g+1:=⟨n-2,by lia⟩
     rw[hg,kas_asc.eq_2,lJ,show ord π (p.getD 1 0) (p.getD (1-1) 0)=false from Ie hc]at hm;have:=(uY hn hπ h g 2 (by lia) (by lia) (aD7 hn hπ h (Ap _) (by lia) W hc)).1;have ac:fH (ord π) (kas_asc p g 2)=1:=hm;lia
   have U:KF π p 2:=fun j a b=>by
    have:j=1:=by lia
    subst this;exact O
   obtain⟨m2,e2,a2,b2,c2⟩:=aBX hn hπ h (n-2) 2 (by lia) (by lia) U;rw[show n-(1+1)=n-2 from rfl,e2];dsimp only;rw[Ia (by lia)];exact aFy hn hπ h (by lia) (by lia) c2
theorem tF{p:Array Nat}(h:Pm n p){k:Nat}(W:k<n)(U:KS π p k):∀(f l r:Nat),l<=r->r<=k->r-l<=f->(∀ j,j<l->Kp π p j<Kp π p k)->(∀ j,r<=j->j<k->Kp π p k<Kp π p j)->
  ∃ m,fH (ord π) (kas_place p k f l r)=m/\m<=k/\(∀ j,j<m->Kp π p j<Kp π p k)/\∀ j,m<=j->j<k->Kp π p k<Kp π p j
 | 0,l,r,h1,h2,h3,O,h5=>by
  rw[kas_place.eq_1];have:l=r:=by lia
  subst this;exact⟨l,rfl,h2,O,h5⟩
 | f+1,l,r,h1,h2,h3,O,h5=>by
  rw[kas_place.eq_2];by_cases J:l ≥ r
  .rw[Ib J];have:l=r:=by lia
   subst this;exact⟨l,rfl,h2,O,h5⟩
  .rw[Ia J,lJ];have Y:(l+r)/2<r/\l<=(l+r)/2:=by lia
   by_cases hc:Kp π p k<Kp π p ((l+r)/2)
   .rw[show ord π (p.getD k 0) (p.getD ((l+r)/2) 0)=true from Ic hc];show∃ m,fH (ord π) (kas_place p k f l ((l+r)/2))=m/\_;refine tF h W U f l ((l+r)/2) (by lia) (by lia) (by lia) O fun j a b=>?_;by_cases e:j=(l+r)/2
    .rw[e];exact hc
    .exact DW hc (U _ _ (by lia) b)
   .rw[show ord π (p.getD k 0) (p.getD ((l+r)/2) 0)=false from Ie hc];show∃ m,fH (ord π) (kas_place p k f ((l+r)/2+1) r)=m/\_;have Z:Kp π p ((l+r)/2)<Kp π p k:=by
     have:=aGZ hn hπ h (i:=(l+r)/2) (j:=k) (by lia) W (by lia);lia
    refine tF h W U f ((l+r)/2+1) r (by lia) h2 (by lia) (fun j a=>?_) h5;by_cases e:j=(l+r)/2
    .rw[e];exact Z
    .exact DW (U _ _ (by lia) (by lia)) Z
theorem aD8:∀(f:Nat) {p:Array Nat} (k:Nat),Pm n p->k+f=n->KS π p k->Pm n (fH (ord π) (kas_bin f p k))/\KS π (fH (ord π) (kas_bin f p k)) n
 | 0,p,k,h,Y,J=>by
  rw[kas_bin.eq_1];have:k=n:=by lia
  subst this;exact⟨h,J⟩
 | f+1,p,k,h,Y,J=>by
  rw[kas_bin.eq_2,jC];obtain⟨m,e,a,b,c⟩:=tF hn hπ h (by lia) J k 0 k (by lia) (Ap _) (by lia) (fun j z=>by lia) (fun j z y=>by lia);rw[e];refine aD8 f (k+1) (h.bub _ _) (by lia) fun i j O hj=>?_;have hz:=h.size;have at':∀ x,Kp π (bubble p k (k-m)) x=if x=m then Kp π p k else if m<x/\x<=k then Kp π p (x-1) else Kp π p x:=fun x=>by
   show π _=_;rw[Bw,getElem?_bubble (by lia) (k-m) (by lia)];have em:k-(k-m)=m:=by lia
   rw[em]
   repeat' split
   all_goals (rw[<- Bw])
  rw[at' i,at' j];have Z:∀ x y,x<=y->y<k->Kp π p x<=Kp π p y:=fun x y h1 h2=>by
   rcases Hk x y with z|z
   .exact DX (J x y z h2)
   .have:x=y:=by lia
    rw[this];exact Ap _
  by_cases i1:i=m
  .rw[Ib i1,Ia (by lia),Ib (by lia)];exact c _ (by lia) (by lia)
  .rw[Ia i1];by_cases i2:m<i/\i<=k
   .rw[Ib i2,Ia (by lia),Ib (by lia)];exact J _ _ (by lia) (by lia)
   .rw[Ia i2];by_cases W:j=m
    .rw[Ib W];exact b _ (by lia)
    .rw[Ia W];by_cases U:m<j/\j<=k
     .rw[Ib U];have hi:i<m:=by lia
      rcases Hk i (j-1)with z|z
      .exact J _ _ z (by lia)
      .omega
     .rw[Ia U];exact J _ _ O (by lia)
def aG2:Pm n (fH (ord π) (Dc n))/\KS π (fH (ord π) (Dc n)) n:=by
 unfold Dc;rw[jC];obtain⟨r,e,a,b,c,d⟩:=aFz hn hπ (p:=(AY n).toArray) (Array.Perm.refl _);rw[e];by_cases J:r.1<n
 .rw[Ib J];have O:max r.1 1=r.1:=by lia
  rw[O];exact aD8 hn hπ _ _ c (by lia) d
 .rw[Ia J];have:r.1=n:=by lia
  rw[this]at d;exact⟨c,d⟩
end
theorem zE{α:Type}{p q:α->Bool}:∀{l:List α},(∀ x∈l,p x=true->q x=true)->(∃ x∈l,q x=true/\p x=false)->l.countP p<l.countP q
 | [],_,h=>by obtain⟨x,J,_⟩:=h;simp at J
 | a::l,h1,h2=>by
  have le:l.countP p<=l.countP q:=List.countP_mono_left fun x J=>h1 x (AN _ J);rw[List.countP_cons,List.countP_cons];obtain⟨x,J,hq,hp⟩:=h2;rcases Ao.mp J with rfl|J
  .rw[Ib hq,Ia (by rw[hp];simp)];lia
  .have O:=zE (fun x J=>h1 x (AN _ J)) ⟨x,J,hq,hp⟩;by_cases ha:p a=true
   .rw[Ib ha,Ib (h1 a AQ ha)];lia
   .rw[Ia ha];lia
def aJb{n:Nat}{o:Nat->Nat->Bool}(Z:∀ i,o i i=false)(tr:∀ i j k,o i j=true->o j k=true->o i k=true)(to:∀ i j,i<n->j<n->i≠j->o i j=true\/o j i=true):
  ∃ π:Nat->Nat,(∀ i j,i<n->j<n->o i j=ord π i j)/\∀ i j,i<n->j<n->π i=π j->i=j:=by
 let π:Nat->Nat:=fun i=>(AY n).countP fun k=>o k i
 have U:∀ i j,i<n->j<n->o i j=true->π i<π j:=fun i j hi J h=>zE (fun x _ Y=>tr x i j Y h) ⟨i,Ce.mpr hi,h,Z i⟩;refine⟨π,fun i j hi J=>?_,fun i j hi J e=>?_⟩
 .cases W:o i j with
  | true=>exact(Ic (U i j hi J W)).symm
  | false=>
   refine(Ie fun z=>?_).symm;by_cases e:i=j
   .rw[e]at z;exact Cd _ z
   .rcases to i j hi J e with y|y
    .rw[W]at y;cases y
    .exact Cd _ (DW z (U j i J hi y))
 .by_cases O:i=j
  .exact O
  .rcases to i j hi J O with y|y
   .have:=U i j hi J y;lia
   .have:=U j i J hi y;lia
abbrev K3:=Int×Int×Str
def jL(x y:K3):Bool:=if x.1==y.1 then(if x.2.1==y.2.1 then(if x.2.2==y.2.2 then false else decide (x.2.2.cps.toList<y.2.2.cps.toList)) else decide (x.2.1<y.2.1)) else decide (x.1<y.1)
def aG3(x:K3):jL x x=false:=by unfold jL;simp
def wU(x y:K3):jL x y=true↔x.1<y.1\/x.1=y.1/\(x.2.1<y.2.1\/x.2.1=y.2.1/\x.2.2.cps.toList<y.2.2.cps.toList):=by
 unfold jL;by_cases h1:x.1=y.1
 .rw[Ib (by simpa using h1)];by_cases h2:x.2.1=y.2.1
  .rw[Ib (by simpa using h2)];by_cases J:x.2.2=y.2.2
   .rw[Ib (by simpa using J),J];constructor
    .intro z;cases z
    .rintro(z|⟨_,z|⟨_,z⟩⟩)
     .omega
     .omega
     .exact absurd z (Gv _)
   .rw[Ia (by simpa using J),decide_eq_true_iff];constructor
    .intro z;exact .inr ⟨h1,.inr ⟨h2,z⟩⟩
    .rintro(z|⟨_,z|⟨_,z⟩⟩)
     .omega
     .omega
     .exact z
  .rw[Ia (by simpa using h2),decide_eq_true_iff];constructor
   .intro z;exact .inr ⟨h1,.inl z⟩
   .rintro(z|⟨_,z|⟨z,_⟩⟩)
    .omega
    .exact z
    .exact absurd z h2
 .rw[Ia (by simpa using h1),decide_eq_true_iff];constructor
  .intro z;exact .inl z
  .rintro(z|⟨z,_⟩)
   .exact z
   .exact absurd z h1
def aDa{x y z:K3}(h1:jL x y=true)(h2:jL y z=true):jL x z=true:=by
 rw[wU]at h1 h2 ⊢;rcases h1 with a|⟨a,b|⟨b,c⟩⟩<;>rcases h2 with J|⟨J,O|⟨O,U⟩⟩
 .exact .inl (by lia)
 .exact .inl (by lia)
 .exact .inl (by lia)
 .exact .inl (by lia)
 .exact .inr ⟨by lia,.inl (by lia)⟩
 .exact .inr ⟨by lia,.inl (by lia)⟩
 .exact .inl (by lia)
 .exact .inr ⟨by lia,.inl (by lia)⟩
 .exact .inr ⟨by lia,.inr ⟨by lia,List.lt_trans c U⟩⟩
def aDb{x y:K3}(h:x≠y):jL x y=true\/jL y x=true:=by
 rw[wU,wU];by_cases h1:x.1=y.1
 .by_cases h2:x.2.1=y.2.1
  .have J:x.2.2≠y.2.2:=fun z=>h (HV h1 (HV h2 z));rcases Fu (x.2.2.cps.toList<y.2.2.cps.toList)with z|z
   .exact .inl (.inr ⟨h1,.inr ⟨h2,z⟩⟩)
   .rcases Fu (y.2.2.cps.toList<x.2.2.cps.toList)with z'|z'
    .exact .inr (.inr ⟨h1.symm,.inr ⟨h2.symm,z'⟩⟩)
    .exact absurd (iC (EW (Du.mp z') (Du.mp z))) J
  .rcases Int.lt_or_gt_of_ne h2 with z|z
   .exact .inl (.inr ⟨h1,.inl z⟩)
   .exact .inr (.inr ⟨h1.symm,.inl z⟩)
 .rcases Int.lt_or_gt_of_ne h1 with z|z
  .exact .inl (.inl z)
  .exact .inr (.inl z)
abbrev k0:K3:=(0,0,"")
def aBY(kk:List K3)(p:List Nat):Prop:=p.Perm (AY kk.length)/\(kk.Nodup->(p.map fun i=>kk.getD i k0).Pairwise fun a b=>jL a b=true)
def aG4{kk:List K3}(h:0<kk.length):aBY kk (fH (fun i j=>jL (kk.getD i k0) (kk.getD j k0)) (Dc kk.length)).toList:=by
 refine⟨Array.perm_iff_toList_perm.mp (iW.run _ (tD h)),fun hn=>?_⟩;have ne:∀ i j,i<kk.length->j<kk.length->i≠j->kk.getD i k0≠kk.getD j k0:=fun i j hi O J e=>by
  rw[Ba,Ba,Ai hi,Ai O]at e;exact J ((EX hn).mp e)
 obtain⟨π,h1,h2⟩:=aJb (n:=kk.length) (o:=fun i j=>jL (kk.getD i k0) (kk.getD j k0)) (fun i=>aG3 _) (fun i j k=>aDa) (fun i j hi O J=>aDb (ne i j hi O J));have e:fH (fun i j=>jL (kk.getD i k0) (kk.getD j k0)) (Dc kk.length)=fH (ord π) (Dc kk.length):=wT (n:=kk.length) (P:=Pm kk.length) h1 (tD h);rw[e];obtain⟨hP,hS⟩:=aG2 h h2;have hz:=hP.size;rw[EF];intro i j hi O J;have Z:i<kk.length:=by simpa[hz]using hi
 have U:j<kk.length:=by simpa[hz]using O
 have:=hS i j J U;have W:(fH (ord π) (Dc kk.length)).getD i 0=(fH (ord π) (Dc kk.length)).toList[i]'(by simpa using(by lia:i<(fH (ord π) (Dc kk.length)).size)):=by rw[rO (BZ (by lia))];simp
 have Y:(fH (ord π) (Dc kk.length)).getD j 0=(fH (ord π) (Dc kk.length)).toList[j]'(by simpa using(by lia:j<(fH (ord π) (Dc kk.length)).size)):=by rw[rO (BZ (by lia))];simp
 rw[F8,F8,<- W,<- Y];rw[h1 _ _ (hP.lt h i) (hP.lt h j)];exact Ic this
inductive aG5(h:Bb)(v:Ac)(k:K3):Prop
 | mk (t:_) (u1:_) (u2:_) (u3:_) (q0:v=.ref t) (q1:E7 h t #[.int k.1 u1,.int k.2.1 u2,.str k.2.2 u3]):aG5 h v k
def aDc(h:Bb)(v:Ac)(k:K3):Prop:=aG5 h v k
def aDc.weak{h:Bb}{v:Ac}{k:K3}(x:aDc h v k):aL8 h v:=by
 obtain⟨t,u1,u2,u3,e,ht⟩:=x;exact⟨t,k.1,k.2.1,k.2.2,u1,u2,u3,e,ht⟩
def aM2{J:Bool}{v1 v2:Ac}{x y:K3}{C:Bool->Ad->Prop}(Y:aDc s.heap v1 x)(W:aDc s.heap v2 y)(h:C (jL x y) s):wpAny (model prog w) A (keyLt' (tuples' J) v1 v2) C E s:=by
 obtain⟨a1,b1,c1⟩:=x;obtain⟨a2,b2,c2⟩:=y;obtain⟨p1,t1,t2,t3,rfl,Y⟩:=Y;obtain⟨p2,u1,u2,u3,rfl,W⟩:=W;dsimp only at Y W;unfold jL at h;dsimp only at h;show wpAny _ _ (DE (.ref p1) >>= _) _ _ _;refine Aa (tE Y ?_);refine Aa (tE W ?_);dsimp only[List.zip_cons_cons,List.zipIdx_cons,List.zip_nil_left];rw[List.zipIdx_nil];have e1:∀{Q:Bool->Ad->Prop} {a b:Int} {t u:Tok},Q (a==b) s->wpAny (model prog w) A (eqBool (.int a t) (.int b u)) Q E s:=fun{Q a b t u} q=>aC1 (y:=.int a) (x:=.int b) ⟨t,rfl⟩ ⟨u,rfl⟩ rfl rfl prog w _ _ q;have e2:∀{Q:Bool->Ad->Prop} {a b:Str} {t u:Tok},Q (a==b) s->wpAny (model prog w) A (eqBool (.str a t) (.str b u)) Q E s:=fun{Q a b t u} q=>Fb a t b u prog w _ _ q;refine Aa ?_;rw[Em];refine Aa (Aa (e1 ?_));cases hz:(a1==a2)with
 | false=>
  rw[hz]at h;refine BV (by decide) ?_;refine Aa ?_;show wpAny _ _ (oneLt' (J&&0==0) (BN a1 t1) (BN a2 u1)) _ _ _;cases J
  .exact aD5 (Af (Af (Af h)))
  .exact oneLt_int (Af (Af (Af h)))
 | true=>
  rw[hz,Ib rfl]at h;refine AM (by decide) (Af ?_);dsimp only;rw[Em];refine Aa (Aa (e1 ?_));cases O:(b1==b2)with
  | false=>
   rw[O]at h;refine BV (by decide) ?_;refine Aa ?_;have Z:(J&&((0+1:Nat)==0))=false:=by cases J<;>rfl
   show wpAny _ _ (oneLt' (J&&(0+1==0)) (BN b1 t2) (BN b2 u2)) _ _ _;rw[Z];exact aD5 (Af (Af (Af h)))
  | true=>
   rw[O,Ib rfl]at h;refine AM (by decide) (Af ?_);dsimp only;rw[Em];refine Aa (Aa (e2 ?_));cases U:(c1==c2)with
   | false=>
    rw[U]at h;refine BV (by decide) ?_;refine Aa ?_;have Z:(J&&((0+1+1:Nat)==0))=false:=by cases J<;>rfl
    show wpAny _ _ (oneLt' (J&&(0+1+1==0)) (BG c1 t3) (BG c2 u3)) _ _ _;rw[Z];exact aJa (Af (Af (Af h)))
   | true=>
    rw[U,Ib rfl]at h;refine AM (by decide) (Af ?_);dsimp only;rw[List.forIn_nil];exact Af (Af h)
def wV{ks its:List Ac}(J:ks.length=its.length)(i:Nat):kas_item (ks.toArray.zip its.toArray) i=(ks.getD i .none,its.getD i .none):=by
 unfold kas_item;by_cases h:i<ks.length
 .have hz:i<(ks.toArray.zip its.toArray).size:=by simp[J];lia
  rw[Bw,BZ hz,Ba,Ba,Ai h,Ai (by lia)];simp
 .have hz:¬ i<(ks.toArray.zip its.toArray).size:=by simp[J];lia
  rw[Bw,E4 (by lia),Ba,Ba,A2 (by lia),A2 (by lia)];rfl
def aMd{b:Bool}{ks its:List Ac}{kk:List K3}{Q:Unit×Gy->Ad->Prop}(J:ks.length=its.length)(U:kk.length=its.length)(h2:2<=its.length)(W:its.length<64)(Z:∀ i,i<its.length->aDc s.heap (ks.getD i .none) (kk.getD i k0))
  (h:∀(st:Gy) (p:List Nat),aBY kk p->(arrOf st).map (·.2)=(p.map fun i=>its.getD i .none).toArray->failedOf st=none->Q ((),st) s):wpAny (model prog w) A (sortRuns'.run (SortSt.mk' (tuples' b) (ks.toArray.zip its.toArray) #[] 7 none)) Q E s:=by
 have hz:(ks.toArray.zip its.toArray).size=its.length:=by simp[J]
 have main:=kas_runs (prog:=prog) (w:=w) (A:=A) (E:=E) (κ:=tuples' b) (it:=ks.toArray.zip its.toArray) (n:=its.length) (s:=s) (Q:=fun u st s'=>s'=s/\Q (u,st) s) (G:=fun p s'=>p=fH (fun i j=>jL (kk.getD i k0) (kk.getD j k0)) (Dc its.length)/\s'=s) h2 W (fun p' O s' ac ha hf hG=>?_)
  (iW.wpO (n:=its.length) (P:=Pm its.length) (o:=fun i j=>jL (kk.getD i k0) (kk.getD j k0)) (fun i j C hi hj hC=>?_) (tD (by lia)) ⟨rfl,rfl⟩)
 .have e1:kas_st (tuples' b) (ks.toArray.zip its.toArray) (AY its.length).toArray=SortSt.mk' (tuples' b) (ks.toArray.zip its.toArray) #[] 7 none:=by
   unfold kas_st;have:=kas_range (ks.toArray.zip its.toArray);rw[hz]at this;rw[this]
  rw[e1]at main;exact Bt main (fun r s' z=>by
   obtain⟨rfl,q⟩:=z;exact q) fun e s' z=>z
 .obtain⟨rfl,rfl⟩:=hG;have Y:=aG4 (kk:=kk) (by lia);rw[U]at Y;refine⟨rfl,h O _ Y ?_ hf⟩;rw[ha];apply CF.mp;rw[Array.map_map,Array.toList_map];show _=Hl _ _;refine FD fun i _=>?_;show(kas_item (ks.toArray.zip its.toArray) i).2=_;rw[wV J]
 .unfold kas_cmp;rw[wV J,wV J];exact aM2 (Z i hi) (Z j hj) hC
def aM3{a kS:Ag}{ks its:List Ac}{kk:List K3}{e e1:Nat}{P:PySem.Fin->Ad->Prop}(ha:s.heap.get? a=some (seqObj "list" #[] e1))(hk:s.heap.get? kS=some (seqObj "list" ks.toArray e))(ae:a≠kS)(hl:ks.length=its.length)(aa:its.length<64)(Z:kk.length=its.length)(hK:∀ i,i<its.length->aDc s.heap (ks.getD i .none) (kk.getD i k0))
  (h:∀ p:List Nat,aBY kk p->P (Fin.done (HX BY)) { s with heap:=(s.heap.update kS (Bx fun _=>#[])).update a (Bx fun _=>(p.map fun i=>its.getD i .none).toArray) }):wpAny (model prog w) A (ksk_end a false its.toArray e1 (.ref kS) ks.toArray) P E s:=by
 have z:∀ n:Nat,n<64->n<=sizeLine:=fun n hn=>aJ (by lia);have U:(ks.toArray.zip its.toArray).size=its.length:=by simp[hl]
 have Y:∀(st:Gy) (p:List Nat),aBY kk p->(arrOf st).map (·.2)=(p.map fun i=>its.getD i .none).toArray->failedOf st=none->wpAny (model prog w) A (ksk_tail a false e1 (.ref kS) st) P E s:=fun st p ho O hf=>by
  have af:=ho.1.length_eq;rw[CQ]at af;have ad:(arrOf st).size=its.length:=by
   have h1:((arrOf st).map (·.2)).size=(arrOf st).size:=Array.size_map ..
   have h2:(p.map fun i=>its.getD i BY).toArray.size=p.length:=by simp
   rw[O]at h1;lia
  refine aMa ha hk ae (by rw[Au];exact z _ (by lia)) (by rw[ad];exact z _ aa) hf ?_;rw[O];exact h p ho
 unfold ksk_end;dsimp only;by_cases h2:its.length<2
 .have J:its.toArray.size<2:=by simpa using h2
  rw[Ia Aq,Ib J];refine Aa (Af ?_);rw[Ib J,Ia Aq];refine Aa (Af ?_);refine Y _ (AY its.length) ⟨by rw[Z],fun _=>?_⟩ ?_ rfl
  .rw[EF];intro i j hi W am;simp at hi W;lia
  .show(ks.toArray.zip its.toArray).map (·.2)=_
   apply CF.mp;rw[Array.toList_map,Array.toList_zip];show Hl Prod.snd (ks.zip its)=_;rw[List.map_snd_zip (by lia)];apply Cv;intro j;rw[AF];by_cases W:j<its.length
   .rw[C4 W,Ai W];simp[W]
   .rw[A2 (by lia),A2 (by simpa using W)];rfl
 .have J:¬ its.toArray.size<2:=by simpa using h2
  rw[Ia Aq,Ia J];refine Aa (aL9 (fun v hv=>?_) fun b=>?_)
  .obtain⟨i,hi,rfl⟩:=Fi.mp hv;have:=(hK i (by lia)).weak;rw[Ba,Ai hi]at this;exact this
  rw[Ia J,Ia Aq];exact Aa (aMd hl Z (by lia) aa hK fun st p ho O hf=>Y st p ho O hf)
inductive aD9(H:Hp)(v:Ac)(k:K3):Prop
 | mk (t:_) (q0:v=.ref t) (q1:H t=some (.tup [.int k.1,.int k.2.1,.str k.2.2])):aD9 H v k
def aG6(H:Hp)(v:Ac)(k:K3):Prop:=aD9 H v k
def aG6.real{H:Hp}{s:Ad}{v:Ac}{k:K3}(I:Inv X dl σ H s)(h:aG6 H v k):aDc s.heap v k:=by
 obtain⟨t,rfl,ht⟩:=h;obtain⟨_,its,J,hT⟩:cZ X.prog X.w H s.heap t (.tup [.int k.1,.int k.2.1,.str k.2.2]):=I.hok _ _ ht;cases J with
 | cons r1 J=>
  cases J with
  | cons r2 J=>
   cases J with
   | cons r3 J=>
    cases J;obtain⟨u1,e1⟩:=r1;obtain⟨u2,e2⟩:=r2;obtain⟨u3,e3⟩:=r3;subst e1 e2 e3;exact⟨t,u1,u2,u3,rfl,hT⟩
structure KsX(KR:V->K3->Prop)(H:Hp)(xd:List V)(ks:List Ac)(kk:List K3):Prop where
 len:ks.length=xd.length/\kk.length=xd.length
 key:∀ i,i<xd.length->aG6 H (ks.getD i .none) (kk.getD i k0)
 kr:∀ i,i<xd.length->KR (xd.getD i .non) (kk.getD i k0)
def KsX.nil{KR:V->K3->Prop}{H:Hp}:KsX KR H [] [] []:=⟨⟨rfl,rfl⟩,fun i hi=>by simp at hi,fun i hi=>by simp at hi⟩
def KsX.same{KR:V->K3->Prop}{H H':Hp}{xd:List V}{ks:List Ac}{kk:List K3}(h:KsX KR H xd ks kk)(s:aU H H'):KsX KR H' xd ks kk:=
 ⟨h.len,fun i hi=>by obtain⟨t,e,ht⟩:=h.key i hi;exact⟨t,e,s _ _ ht⟩,h.kr⟩
def pF{α:Type}(l:List α)(x d:α)(i:Nat):(l++[x]).getD i d=if i<l.length then l.getD i d else if i=l.length then x else d:=by
 rw[Ba,Ba];by_cases h:i<l.length
 .rw[Ib h,Cg h]
 .rw[Ia h,Dw (by lia)];by_cases h2:i=l.length
  .rw[Ib h2,h2];simp
  .rw[Ia h2,A2 (by simp;lia)];rfl
def KsX.snoc{KR:V->K3->Prop}{H:Hp}{xd:List V}{ks:List Ac}{kk:List K3}{y:V}{a b:Int}{c:Str}{t:Ag}(h:KsX KR H xd ks kk)(J:KR y (a,b,c))(ht:H t=some (.tup [.int a,.int b,.str c])):KsX KR H (xd++[y]) (ks++[AV t]) (kk++[(a,b,c)]):=by
 obtain⟨l1,l2⟩:=h.len;refine⟨⟨by simp[l1],by simp[l2]⟩,fun i hi=>?_,fun i hi=>?_⟩
 .rw[pF,pF,l1,l2];by_cases h1:i<xd.length
  .rw[Ib h1,Ib h1];exact h.key i h1
  .have:i=xd.length:=by simp at hi;lia
   rw[Ia h1,Ia h1,Ib this,Ib this];exact⟨t,rfl,ht⟩
 .rw[pF,pF,l2];by_cases h1:i<xd.length
  .rw[Ib h1,Ib h1];exact h.kr i h1
  .have:i=xd.length:=by simp at hi;lia
   rw[Ia h1,Ia h1,Ib this,Ib this];exact J
def aFA{k:Nat}{f:Ag}{fd:Ay}{x:Str}{sp:Sp}{A':AK}{E:Ac->Ad->Prop}(F:cC X.prog X.w X.K X.mg X.base CX0 k f fd [x] sp)(hr:eO k A')(hA:A'.frames=some X.stack)(hb:dY X.K fd [x] [])
  {D kS:Ag} {H0:Hp} {e1:Nat} {xs:List V} {KR:V->K3->Prop} (fD:∀ H',H' D=none->nS X dl H' D) (fK:∀ H',H' kS=none->nS X dl H' kS) (ap:D≠kS)
  (ah:∀ y∈xs,∀(H':Hp) (Q:VK),aU H0 H'->(∀ t a b c J,aU H' J->J t=some (.tup [.int a,.int b,.str c])->KR y (a,b,c)->Q (.ref t) J)->sp [y] H' Q E0) {er:Ac->Ac->Sem (ForInStep PUnit)} {Q:Ad->Prop}
  {U:Ac->PUnit->Sem (ForInStep PUnit)} (Y:∀ v u,U v u=(do
   let r <- (call (.ref f) [v]).attempt
   match r with
   | Except.ok k=>do
    Es (.ref kS) fun x=>x.push k
    pure (CJ Hr)
   | Except.error e=>er v e)):
  ∀(aY:List Ac) (xr:List V) (s:Ad) (H:Hp) (ks:List Ac) (kk:List K3) (xd:List V) (e:Nat),cE xr aY->(∀ y∈xr,y∈xs)->Inv X dl σ H s->aU H0 H->H D=none->H kS=none->s.heap.get? D=some (seqObj "list" #[] e1)->s.heap.get? kS=some (seqObj "list" ks.toArray e)->KsX KR H xd ks kk->ks.length+aY.length<64->
   (∀(s':Ad) (H':Hp) (aa:List Ac) (ax:List K3) (e':Nat),Inv X dl σ H' s'->aU H0 H'->H' D=none->H' kS=none->s'.heap.get? D=some (seqObj "list" #[] e1)->s'.heap.get? kS=some (seqObj "list" aa.toArray e')->KsX KR H' (xd++xr) aa ax->aa.length=ks.length+aY.length->Q s')->
   wpAny (model X.prog X.w) A' (forIn aY Hr U) (fun _ s'=>Q s') E s:=by
 intro aY
 induction aY with
 | nil=>
  intro xr s H ks kk xd e r O I S hD hK gD gK hk af q;rw[List.forIn_nil];cases r;exact Af (q s H ks kk e I S hD hK gD gK (by rw[B5];exact hk) rfl)
 | cons v aY ih=>
  intro xr s H ks kk xd e r O I S hD hK gD gK hk af q;rw[An]at af;cases r with
  | @cons y _ aq _ r1 r2=>
  rw[Em,Y];refine Aa (Aa (Dt ?_));have I3:Inv X ((D,seqObj "list" #[] e1)::(kS,seqObj "list" ks.toArray e)::dl) σ H s:=I.pins_of fun p Z=>by
   rcases Ao.mp Z with z|Z
   .subst z;exact⟨gD,hD,(fD H hD).2.1,(fD H hD).2.2.1,fun v z=>by cases z⟩
   .rcases Ao.mp Z with z|Z
    .subst z;exact⟨gK,hK,(fK H hK).2.1,(fK H hK).2.2.1,fun v z=>by cases z⟩
    .exact I.pin p (A5 _ Z)
  have e0:aBw X.prog X.w X.K X.mg X.base A' X.stack s H:=⟨hA,I.env0.mod,I.env0.bs,I.env0.bsz,I.env0.funs,I.env0.frf,I.env0.hok,I.env0.bare⟩
  refine CC (C2 (F.run A' X.stack s H ⟨[v],[]⟩ [v] [y] (fun u J=>∃ t a b c,u=.ref t/\J t=some (.tup [.int a,.int b,.str c])/\aU H J/\KR y (a,b,c)) E0 hr e0 (hb s [v] I.kIn rfl) (.cons r1 .nil)
   (ah y (O y AQ) H _ S fun t a b c J s2 h2 W=>⟨t,a,b,c,rfl,h2,s2,W⟩)) fun r s' hq=>?_)
  cases r with
  | error e=>exact BE hq
  | ok fl=>
   cases fl with
   | next=>exact BE hq
   | brk=>exact BE hq
   | cont=>exact BE hq
   | ret u=>
    obtain⟨vv,H',I',r',t,a,b,c,rfl,ht,S',W⟩:=I3.after hq;cases r';obtain⟨gD',hD',_⟩:=I'.pin (D,seqObj "list" #[] e1) (A5 _ AQ);obtain⟨gK',hK',_⟩:=I'.pin (kS,seqObj "list" ks.toArray e) (A5 _ (AN _ AQ));have I4:Inv X dl σ H' s':=I'.pins_of fun p Z=>I'.pin p (A5 _ (AN _ (AN _ Z)));refine Aa (F2 gK' rfl ?_ (aJ (by rw[Au];lia)) (by rw[Array.size_push,Au];exact Nat.le_succ_of_le (aJ (by lia))));refine Af ?_;have ag:=get?_update_seq gK' (fun x=>x.push (.ref t));have ep:(ks.toArray.push (.ref t))=(ks++[AV t]).toArray:=by simp
    rw[ep]at ag;have I5:Inv X dl σ H' { s' with heap:=s'.heap.update kS (Bx fun x=>x.push (.ref t)) }:=I4.turnedL (t':=s'.toks) (fp:=[kS]) (fun b o hb e=>by
     rw[BB _ _ _ _ (fun z=>hb (by simp[z]))];exact e) fun b hb=>by
      rw[Bd.mp hb];exact fK H' hK'
    refine ih aq _ H' (ks++[AV t]) (kk++[(a,b,c)]) (xd++[y]) _ r2 (fun y hy=>O y (AN _ hy)) I5 (S.trans S') hD' hK' ?_ ag ((hk.same S').snoc W ht) (by rw[Am,D3];lia) fun an J am ak aw a1 a2 a3 a4 a5 a6 a7 a8=>?_
    .show(s'.heap.update kS _).get? D=_;rw[BB _ _ _ _ ap];exact gD'
    .refine q an J am ak aw a1 a2 a3 a4 a5 a6 ?_ (by rw[a8,Am,D3,An];lia);rw[B2]at a7;exact a7
def aBZ{k:Nat}{f l:Ag}{fd:Ay}{x:Str}{sp:Sp}{xs:List V}{its:List Ac}{KR:V->K3->Prop}{Q:VK}{E:Ac->Ad->Prop}(F:cC X.prog X.w X.K X.mg X.base CX0 k f fd [x] sp)(hr:eO (k+2) X.A)(hb:dY X.K fd [x] [])
  (I:Inv X dl σ H s) (rv:cE xs its) (aj:∀(B:AK) (Q':List Ac->Ad->Prop) (E':Ac->Ad->Prop),B.handled=none->(∀(h1:Bb) (tk:Nat),(∀ b u,s.heap.get? b=some u->h1.get? b=some u)->s.heap.objs.size<=h1.objs.size->Q' its { s with heap:=h1,toks:=tk })->wpAny (model X.prog X.w) B (collect (.ref l)) Q' E' s) (bo:xs.length<64)
  (ar:∀ y∈xs,∀(H':Hp) (Q:VK),aU H H'->(∀ t a b c ai,aU H' ai->ai t=some (.tup [.int a,.int b,.str c])->KR y (a,b,c)->Q (.ref t) ai)->sp [y] H' Q E0)
  (q:∀ D (kk:List K3) (p:List Nat) H',aU H H'->H D=none->kk.length=xs.length->(∀ i,i<xs.length->KR (xs.getD i .non) (kk.getD i k0))->aBY kk p->H' D=some (.lst (p.map fun i=>xs.getD i .non))->Q (.ref D) H'):
  wpAny (model X.prog X.w) X.A (call (.builtin "sorted") [.ref l] [(Be "key",.ref f)]) (EP X dl σ Q) E s:=by
 have bb:=rv.length;have zz:its.length<=sizeLine:=aJ (by lia);refine call_function_entry_kw kind_sorted plain_sorted entry_sorted (ksk_s1 _ _) ?_;refine Aa (Af ?_);refine Aa (aj _ _ _ hr.hd fun h1 tk av au=>?_);refine Aa (Hm ?_ zz);dsimp only;obtain⟨D,hD⟩:∃ D,D=h1.objs.size:=⟨_,rfl⟩
 have J:(h1.push (seqObj "list" its.toArray 0)).get? D=some (seqObj "list" its.toArray 0):=by
  rw[hD];exact AE _ rfl
 have Y:∀ b o,s.heap.get? b=some o->(h1.push (seqObj "list" its.toArray 0)).get? b=some o:=fun b o e=>Ah _ (av b o e);have ad:(h1.push (seqObj "list" its.toArray 0)).objs.size=D+1:=by rw[size_push',hD]
 change wpAny _ _ (do let _ <- holding [AV h1.objs.size] (call (.builtin "list.sort") [AV h1.objs.size] [(Be "key",.ref f)]);ret (AV h1.objs.size)) _ _ { s with heap:=h1.push (seqObj "list" its.toArray 0),toks:=tk };rw[<- hD];generalize h1.push (seqObj "list" its.toArray 0)=h2 at J Y ad ⊢;have ag:s.heap.objs.size<=D:=by rw[hD];exact au
 refine Aa (Bg (wpAny_call_entry_kw slot_list_sort ⟨_,J,rfl⟩ entry_list_sort ?_ (ksk_l1 _ _)));rw[ksk_t1];unfold ksk_tree;refine Aa (listItems_at J rfl ?_);refine Aa (F2 J rfl ?_ (by rw[Au];exact zz) (A3 _));have O:=get?_update_seq J (fun _=>#[]);generalize (if ((#[]:Array Ac).size==its.toArray.size)=true then 0 else 0+1)=e1 at O;have W:∀ b o,s.heap.get? b=some o->(h2.update D (Bx fun _=>#[])).get? b=some o:=fun b o e=>by
  rw[BB _ _ _ _ (AU (AZ (Az e) ag))];exact Y b o e
 have ac:(h2.update D (Bx fun _=>#[])).objs.size=D+1:=by rw[F9,ad]
 dsimp only;generalize h2.update D (Bx fun _=>#[])=h3 at O W ac ⊢;refine Aa (seqEpoch_at O rfl ?_);refine Aa (wpAny_newTuple ?_ (by simpa using zz));refine Aa (Hm ?_ (A3 _));dsimp only;refine Bg ?_;obtain⟨kS,hkS⟩:∃ kS,kS=(h3.push { cls:=Bc "tuple",data:=Ei its.toArray.toList.toArray }).objs.size:=⟨_,rfl⟩
 have ao:((h3.push { cls:=Bc "tuple",data:=Ei its.toArray.toList.toArray }).push { cls:=Bc "list",data:=Ei ([]:List Ac).toArray }).get? kS=some (seqObj "list" ([]:List Ac).toArray 0):=by
  rw[hkS];exact AE _ rfl
 have am:((h3.push { cls:=Bc "tuple",data:=Ei its.toArray.toList.toArray }).push { cls:=Bc "list",data:=Ei ([]:List Ac).toArray }).get? D=some (seqObj "list" #[] e1):=Ah _ (Ah _ O);have Z:∀ b o,s.heap.get? b=some o->((h3.push { cls:=Bc "tuple",data:=Ei its.toArray.toList.toArray }).push { cls:=Bc "list",data:=Ei ([]:List Ac).toArray }).get? b=some o:=fun b o e=>Ah _ (Ah _ (W b o e));have aa:kS=D+2:=by rw[hkS,B4,ac]
 rw[<- hkS];generalize (h3.push { cls:=Bc "tuple",data:=Ei its.toArray.toList.toArray }).push { cls:=Bc "list",data:=Ei ([]:List Ac).toArray }=h4 at ao am Z ⊢;have ah:D≠kS:=AU (by rw[aa];exact Bz (B9 _));have I4:Inv X dl σ H { s with heap:=h4,toks:=tk }:=I.kept (t':=tk) Z;have lD:s.heap.objs.size<=D:=ag;have lK:s.heap.objs.size<=kS:=by rw[aa];exact AH ag (Nat.le_add_right _ _)
 have nD:H D=none:=I.hok.fresh lD;have nK:H kS=none:=I.hok.fresh lK;have fD:∀ H',H' D=none->nS X dl H' D:=fun H' hn=>I.fpOk lD hn;have fK:∀ H',H' kS=none->nS X dl H' kS:=fun H' hn=>I.fpOk lK hn;unfold ksk_rest;refine Aa (DF ?_);refine Aa ?_;rw[<- Array.forIn_toList];have aE:eO k X.A.in1.in1:=(hr.in1).in1;refine aFA (KR:=KR) (X:=X) (dl:=dl) (σ:=σ) (A':=X.A.in1.in1) F aE I.ok.frames hb (D:=D) (kS:=kS) (H0:=H) (e1:=e1) (xs:=xs) fD fK ah ar (er:=fun v e=>do
     rule "list.sort.key-raised"
     let aq <- DE (.ref kS)
     Es (.ref kS) fun x=>#[]
     letGo aq.toList.reverse [e]
     Es (AV D) fun x=>its.toArray
     throw e
     pure (CJ Hr)) (fun v u=>by congr 1) its xs _ H [] [] [] 0 rv (fun y hy=>hy) I4 (aU.refl H) nD nK am ao KsX.nil (by simp;lia) ?_
 intro s' H' ks kk e' I' S af aB ak ap U bn;rw[List.nil_append]at U;obtain⟨z1,z2⟩:=U.len;refine Aa (listItems_at ap rfl ?_);refine aM3 (kk:=kk) ak ap ah (by lia) (by lia) (by lia) (fun i hi=>(U.key i (by lia)).real I') fun p ho=>?_;refine⟨_,rfl,Af ⟨_,rfl,?_⟩⟩;have ay:∀ i∈p,i<xs.length:=fun i hi=>by
  have:=ho.1.mem_iff.mp hi;rw[Ce]at this;lia
 have aA:=zD rv p ay;have I6:Inv X dl σ H' { s' with heap:=(s'.heap.update kS (Bx fun _=>#[])).update D (Bx fun _=>(p.map fun i=>its.getD i .none).toArray) }:=I'.turnedL (t':=s'.toks) (fp:=[kS,D]) (fun b o hb e=>by
  rw[BB _ _ _ _ (fun z=>hb (by simp[z])),BB _ _ _ _ (fun z=>hb (by simp[z]))];exact e) fun b hb=>by
   simp only[Ao,AB,or_false]at hb;rcases hb with rfl|rfl
   .exact fK H' aB
   .exact fD H' af
 have ax:((s'.heap.update kS (Bx fun _=>#[])).update D (Bx fun _=>(p.map fun i=>its.getD i .none).toArray)).get? D=_:=get?_update_seq (c:="list") (xs:=#[]) (n:=e1) (by
  rw[BB _ _ _ _ ah];exact ak) fun _=>(p.map fun i=>its.getD i .none).toArray
 have aI:=ho.1.length_eq;rw[CQ]at aI;have aC:(p.map fun i=>xs.getD i V.non).length<=sizeLine:=aJ (by rw[Ab];lia);exact⟨.ref D,_,I6.track (ob:=.lst (p.map fun i=>xs.getD i .non)) (fD H' af) ⟨aC,_,_,aA,ax⟩,rfl,q D kk p _ (S.trans (aM af)) nD (by lia) (fun i hi=>U.kr i hi) ho aH⟩
section
variable{a:Ag}{ee:List (Key×V)}{k:Key}{u r:Ac}
end
section
variable{o f:Bf}{fe fc:Pos}{td ty tx:TE}
end
def aKc(v d:Ag):HO:=.ext fun h=>h.IsValuesView v d
section
variable{o:Bf}{fe fc:Pos}{td:TE}
end
section
variable{v d:Ag}{vs:List (Key×Ac)}
def wW(hh:A.handled=none){E:Ac->Ad->Prop}{s:Ad}{Q:List Ac->Ad->Prop}(hv:s.heap.IsValuesView v d)(hm:s.heap.DictOf (cV prog w) d vs)(hz:vs.length<=1000)
  (h:∀(h':Bb) (tk:Nat),(∀ b u,s.heap.get? b=some u->h'.get? b=some u)->s.heap.objs.size<=h'.objs.size->Q (vs.map (·.2)) { s with heap:=h',toks:=tk }):wpAny (model prog w) A (collect (.ref v)) Q E s:=by
 have⟨ov,hov,hcv,hdv⟩:=id hv;have⟨od,es,ep,hod,hrest⟩:=id hm;have ap:=Az hov;have ad:=Az hod;unfold collect;apply Aa;apply FR;apply Ck F.entry_proto_collect;rw[Cq F.plain_proto_collect];show wpAny _ A.in1 (newList [] >>= fun l=>again (.builtin "list.__iadd__" ⟨[l,.ref v],[]⟩)) _ _ s;apply Aa;refine BH (Af ⟨Ep EY _,Ck F.entry_list_iadd ?_⟩);rw[Cq EY];have ac:(s.heap.push { cls:=.type "list",data:=.seq ([]:List Ac).toArray }).get? v=some ov:=Ah _ hov;have ah:(s.heap.push { cls:=.type "list",data:=.seq ([]:List Ac).toArray }).get? d=some od:=Ah _ hod;have ax:(s.heap.push { cls:=.type "list",data:=.seq ([]:List Ac).toArray }).get? s.heap.objs.size=some { cls:=.type "list",data:=.seq ([]:List Ac).toArray }:=AE _ rfl;have e1:Builtin.List.listSameRef (.ref s.heap.objs.size) (.ref v)=false:=by
  show(s.heap.objs.size==v)=false;simpa using CD ap
 show wpAny _ A.in1 (Da (.ref s.heap.objs.size) (.ref v) (.ref s.heap.objs.size)) _ _ _;unfold Da;refine Aa (Cf (T:="dict_values") ⟨ov,ac,hcv⟩ ?_);rw[Ia (by rw[e1];decide)];refine Aa (wpAny_pyIter_values (kvs:=vs) (ep:=ep) (knd:=cV prog w) ⟨ov,ac,hcv,hdv⟩ ⟨od,es,ah,hrest⟩ ?_);have an:(s.heap.push { cls:=.type "list",data:=.seq ([]:List Ac).toArray }).objs.size=s.heap.objs.size+1:=B4 _ _;obtain⟨I,hI⟩:∃ I,I=(s.heap.push { cls:=.type "list",data:=.seq ([]:List Ac).toArray }).objs.size:=⟨_,rfl⟩
 dsimp only;have gI:((s.heap.push { cls:=.type "list",data:=.seq ([]:List Ac).toArray }).push { cls:=.type "dict_valueiterator",data:=.fields #[.ref d,.int 0 0,.int vs.length 0,.int ep 0] }).get? I=some { cls:=.type "dict_valueiterator",data:=.fields #[.ref d,.int 0 0,.int vs.length 0,.int ep 0] }:=by
  rw[hI];exact AE _ rfl
 have O:∀ b u,(s.heap.push { cls:=.type "list",data:=.seq ([]:List Ac).toArray }).get? b=some u->((s.heap.push { cls:=.type "list",data:=.seq ([]:List Ac).toArray }).push { cls:=.type "dict_valueiterator",data:=.fields #[.ref d,.int 0 0,.int vs.length 0,.int ep 0] }).get? b=some u:=fun b u e=>Ah _ e;rw[<- hI];generalize (s.heap.push { cls:=.type "list",data:=.seq ([]:List Ac).toArray }).push { cls:=.type "dict_valueiterator",data:=.fields #[.ref d,.int 0 0,.int vs.length 0,.int ep 0] }=h2 at gI O ⊢;have aa:=O _ _ ac;have au:=O _ _ ah;have ai:=O _ _ ax;have U:I=s.heap.objs.size+1:=by rw[hI,an]
 refine Aa (Bg ?_);unfold Builtin.List.listLengthHint;refine Aa (Ez (T:="dict_values") ⟨ov,aa,hcv⟩ F.slot_dict_values_len.lookup ?_);generalize hid:("dict_values.__len__":String)=aq
 wp_delta
 rw[show splitId aq=some ("dict_values","__len__") from by subst hid;trivial];subst hid;refine Aa (Cb (b:=true) (T:="dict_values") ⟨ov,aa,hcv⟩ (by rw[He];kernel_rfl) ?_);refine AM (by rfl) ?_;refine BV (by trivial) ?_;refine Aa (Cf (T:="dict_values") ⟨ov,aa,hcv⟩ ?_);refine Af ?_;refine BV (by trivial) ?_;refine Aa (DF ?_);have ar:d≠I:=by rw[U];exact AU (Bz ad)
 have am:s.heap.objs.size∉[I,d]:=by
  rw[U];simp only[Ao,AB,or_false,not_or];exact⟨AU (B9 _),CD ad⟩
 apply Aa;show wpAny _ A.in1 (updateSeq s.heap.objs.size (·.push .none) >>= fun _=>updateSeq s.heap.objs.size (·.pop)) _ _ _
 apply Aa;refine Fv ai rfl ?_;have ak:=Bo (Bx (·.push BY)) ai rfl
 refine Fv ak rfl ?_;have ao:=Bo (Bx (·.pop)) ak rfl
 have ae:∀ b u,b≠s.heap.objs.size->h2.get? b=some u->((h2.update s.heap.objs.size (Bx (·.push BY))).update s.heap.objs.size (Bx (·.pop))).get? b=some u:=
  fun b u nb e=>(BO _ _ (CY nb)).trans ((BO _ _ (CY nb)).trans e)
 have W:=Walks.dictValues (prog:=prog) (w:=w) (knd:=cV prog w) (A:=A.in1) hh I d ar vs ep;have av:I≠s.heap.objs.size:=by rw[U];exact CD (B9 _)
 refine Af ⟨Ep F.plain_extend_loop _,codeAny_extend_loopS (GM W) (aJ (by lia)) s.heap.objs.size am _ _ 0 _ _ _ rfl (A3 _) ⟨⟨_,ae _ _ av gI,rfl,rfl⟩,⟨od,es,ae _ _ (AU ad) au,hrest⟩⟩ ao (ItemsOf.nil _) fun s' J c' Y aj Z=>?_⟩;show wpAny _ A (load s.heap.objs.size >>= _) _ _ s';apply Aa;refine wpAny_load aj (Af ?_);have⟨h',g',d',tk',os'⟩:=s';have g1:=Y.gens;have g2:=Y.os;have g3:=Y.drawn;dsimp only at g1 g2 g3;subst g1 g2 g3;have ag:J.toList=vs.map (·.2):=by
  apply Cv;intro j;by_cases hj:j<J.size
  .obtain⟨k,hk⟩:=Z.2 j J[j] (by simp[hj]);rw[AF,hk];simp[hj]
  .have:=Z.1;rw[A2 (by simpa using hj),A2 (by rw[Ab];lia)]
 rw[ag];refine h h' tk' (fun b u e=>?_) (DX (Az aj));have af:=Az e;have nb:b≠s.heap.objs.size:=AU af;have nI:b≠I:=by rw[U];exact AU (Bz af)
 exact Y.heap b u (by simp[nb,nI]) (ae b u nb (O b u (Ah _ e)))
end
def aM4(K:Ae)(sp:Sp)(ta:TA):TE:=fun σ H Q=>ta σ H fun vs H1=>∃(l:Ag) (xs:List V) (KR:V->K3->Prop),vs=[V.ref l]/\(SqL K H1 l xs\/∃ d ee,H1 l=some (aKc l d)/\H1 d=some (.dK ee)/\xs=ee.map (·.2))/\xs.length<64/\
 (∀ y∈xs,∀(H':Hp) (Q:VK),aU H1 H'->(∀ t a b c H'',aU H' H''->H'' t=some (.tup [.int a,.int b,.str c])->KR y (a,b,c)->Q (.ref t) H'')->sp [y] H' Q E0)/\
 ∀ D (kk:List K3) (p:List Nat) H',aU H1 H'->H1 D=none->kk.length=xs.length->(∀ i,i<xs.length->KR (xs.getD i .non) (kk.getD i k0))->aBY kk p->H' D=some (.lst (p.map fun i=>xs.getD i .non))->Q (.ref D) H'
def aJc{ee:List (Key×V)}{vs:List (Key×Ac)}(r:KV ee vs):cE (ee.map (·.2)) (vs.map (·.2)):=by
 induction r with
 | nil=>exact .nil
 | cons h _ J=>exact .cons h.2 J
section
variable{ta:TA}
def aDd{k:Nat}{f:Ag}{fd:Ay}{x g:Str}{sp:Sp}{p pk kp pos:Pos}(F:cC X.prog X.w X.K X.mg X.base CX0 k f fd [x] sp)(hr:eO (k+2) X.A)(hb:dY X.K fd [x] [])(hg:Gl X "sorted")(hm:X.mg "sorted"=none)(Z:Gl X g)(ac:X.mg g=some (.ref f))(ha:PA X [e] ta)
  (hd:(g==("__debug__":Str))=false:=by decide) (he:starEach [e] X.env=[(false,eval e X.env)]:=by rfl):
  PE X (.Call (.Name "sorted" p) [e] [⟨some "key",.Name g pk,kp⟩] pos) (aM4 X.K sp ta):=by
 constructor;intro dl s σ H Q I h;refine Dn (nV I hg hm boot_sorted ?_ (by decide) (by decide));refine callWith_builtin_kwB (by rw[he];rfl) (by rfl) ?_;have J:=ha pos dl s σ H _ I h
 .rw[he]at J ⊢;refine evalArgs_kwB (by rfl) (thn J fun us s1 ⟨vs,H1,I1,r,q1⟩=>?_);obtain⟨l,xs,KR,rfl,O,h64,hkey,q⟩:=q1;have ad:PK X [⟨some "key",.Name g pk,kp⟩] (nG (tC (.ref f)) aAw):=aI4 (cG Z ac rfl hd) aKL;refine thn (ad pos dl s1 σ H1 (fun zs H2=>zs=[V.ref f]/\H2=H1) I1 ⟨rfl,rfl⟩) fun ws s2 ⟨zs,H2,U,rz,ez,eH⟩=>?_;subst ez eH;cases rz with
  | cons r1 r2=>
   cases r1;cases r2;cases r with
   | cons r3 r4=>
    cases r3;cases r4;rcases O with O|⟨d,ee,O,Y,rfl⟩
    .obtain⟨its,rv,pl,_⟩:=U.list O;have W:=rv.length;refine aBZ (KR:=KR) F hr hb U rv (fun B Q' E' hB hq=>?_) h64 hkey q;refine collect_list pl.isList (hq _ s2.toks (fun b u e=>?_) ?_) (aJ (by lia))
     .rw[BB _ _ _ _ (AU (Az e))];exact Ah _ e
     .rw[F9,B4];exact CU _
    .obtain⟨hv,_,_⟩:cZ X.prog X.w H2 s2.heap l (aKc l d):=U.hok l _ O;obtain⟨_,_,vs,rel,dd⟩:=aGy U.hok Y;have W:=rel.length;rw[Ab]at h64;refine aBZ (KR:=KR) F hr hb U (aJc rel) (fun B Q' E' hB hq=>?_) (by rw[Ab];exact h64) hkey q;exact wW hB hv dd (by lia) fun h' tk k1 k2=>hq h' tk k1 k2
end
inductive Fm:V->Str->Prop
 | str (z:Str) (h:z.length<=sizeLine):Fm (.str z) z
 | int (i:Int) (h:i.natAbs.log2<1920):Fm (.int i) (toString i)
abbrev TJ:=Str->St->Hp->VK->Prop
structure PJ(X:Cx)(es:List Bf)(t:TJ):Prop where
 run:∀(dl:Ii) (s:Ad) (σ:St) (H:Hp) (Q:VK) (acc:Str),Inv X dl σ H s->t acc σ H Q->wpAny (model X.prog X.w) X.A (joinParts acc (evalEach es X.env)) (EP X dl σ Q) X.xe s
inductive J0(acc:Str)(σ:St)(H:Hp)(Q:VK):Prop
 | mk (h:acc.length<=sizeLine) (q:Q (.str acc) H):J0 acc σ H Q
inductive JC(z:Str)(t:TJ)(acc:Str)(σ:St)(H:Hp)(Q:VK):Prop
 | mk (h:(acc++z).length<=sizeLine) (q:t (acc++z) σ H Q):JC z t acc σ H Q
inductive JF(t:TJ)(acc:Str)(σ:St)(x:V)(H:Hp)(Q:VK):Prop
 | mk (z:Str) (f:Fm x z) (h:(acc++z).length<=sizeLine) (q:t (acc++z) σ H Q):JF t acc σ x H Q
section
variable{t:TJ}
end
open PySem PySem.Spec PyProof.Rows PySem.Builtin PySem.Builtin.Str
def aFB(l:List (GQ×Tok)):cE ((l.map (·.1)).map V.str) (strValues l):=by
 induction l with
 | nil=>exact .nil
 | cons p l J=>exact .cons ⟨p.2,rfl⟩ J
inductive aEa(x:V)(xs:List V)(H:Hp)(Q:VK):Prop
 | mk (z y:GQ) (h0:x=.str z) (h1:xs=[.str y]) (hy:(y.length==0)=false) (hz:z.length+2<=sizeLine) (q:∀ L,H L=none->Q (.ref L) (upd H L (.lst ((AA z y).map V.str)))):aEa x xs H Q
def aK2:V->List V->Hp->VK->Prop:=fun x xs H Q=>aEa x xs H Q
def iD{X:Cx}:MtR X "str.split" aK2:=by
 intro dl s σ H x xs v us Q I Z r h;obtain⟨z,y,rfl,rfl,hy,hz,q⟩:=h;obtain⟨t,rfl⟩:=Z;obtain⟨u,rfl,ru⟩:=gS r;obtain⟨u',rfl⟩:=ru;have J:∀(l:List (GQ×Tok)) (W:Nat),l.map (·.1)=AA z y->l.length<=sizeLine->EP X dl σ Q (.ref s.heap.objs.size) { s with heap:=s.heap.push { cls:=.type "list",data:=.seq (strValues l).toArray },toks:=W }:=fun l W e Y=>
  ⟨.ref _,_,I.lnew (ys:=(AA z y).map V.str) (by rw[<- e];exact aFB l) (by rw[<- e,Ab,Ab];exact Y),rfl,q _ I.fresh⟩
 have hn:(partsBetween z (occurrences z y 0 z.length (z.length+1)) y.length).length<=sizeLine:=by
  have e1:=StrLaws.occ_length_le z y 0 z.length (z.length+1);rw[length_partsBetween];lia
 have O:(1:Nat)<=sizeLine:=by decide
 cases h1:(decide (z.length<y.length)||decide (strKind z<strKind y))
 .cases U:(occurrences z y 0 z.length (z.length+1)).isEmpty
  .refine Fl Gr (EO _ _ _) Gf (F1 _ _) (meets_str_split_sep z y t u' h1 hy U (by lia) hn) ?_;show wants (EP X dl σ Q) X.xe _ { s with toks:=_,heap:=s.heap.push { cls:=.type "list",data:=.seq (strsFrom s.toks (partsBetween z (occurrences z y 0 z.length (z.length+1)) y.length)).toArray } };rw[strsFrom_eq];refine J (numbered s.toks _) _ ((numbered_texts _ _).trans ((Ia (ne_true_of_eq_false h1)).trans (Ia (ne_true_of_eq_false U))).symm) ?_;have:=congrArg EJ (numbered_texts s.toks (partsBetween z (occurrences z y 0 z.length (z.length+1)) y.length));rw[Ab]at this;rw[this];exact hn
  .exact Fl Gr (EO _ _ _) Gf (F1 _ _) (meets_str_split_not_found z y t u' h1 hy U)
    (J [(z,t)] s.toks ((Ia (ne_true_of_eq_false h1)).trans (Ib U)).symm O)
 .exact Fl Gr (EO _ _ _) Gf (F1 _ _) (meets_str_split_cannot_occur z y t u' h1)
   (J [(z,t)] s.toks (Ib h1).symm O)
def aG7{c:Nat}{u v X Y:List Nat}(J:c∉u)(O:c∉v)(h:u++c::X=v++c::Y):u=v/\X=Y:=by
 induction u generalizing v with
 | nil=>
  cases v with
  | nil=>simp at h;exact⟨rfl,h⟩
  | cons b v=>simp at h;exact absurd (by simp[h.1]) O
 | cons a u U=>
  cases v with
  | nil=>simp at h;exact absurd (by simp[h.1]) J
  | cons b v=>
   simp at h J O;obtain⟨rfl,h⟩:=h;obtain⟨e,f⟩:=U J.2 O.2 h;exact⟨by rw[e],f⟩
def gO(a b:Str):(a++b).cps.toList=a.cps.toList++b.cps.toList:=by
 show(a.cps++b.cps).toList=_;simp
def aG8{c:Nat}:∀(as bs:List Str),as≠[]->bs≠[]->(∀ a∈as,c∉a.cps.toList)->(∀ b∈bs,c∉b.cps.toList)->(By ⟨#[c]⟩ as).cps.toList=(By ⟨#[c]⟩ bs).cps.toList->as=bs:=by
 have one:∀(a b:Str) (q:Str) (r:List Str),(By ⟨#[c]⟩ (b::q::r)).cps.toList=b.cps.toList++c::(By ⟨#[c]⟩ (q::r)).cps.toList:=fun a b q r=>by
  show(b++(⟨#[c]⟩:Str)++By ⟨#[c]⟩ (q::r)).cps.toList=_;rw[gO,gO];simp
 intro as
 induction as with
 | nil=>intro bs h;exact absurd rfl h
 | cons a as Y=>
  intro bs _ W U O e;cases bs with
  | nil=>exact absurd rfl W
  | cons b bs=>
   cases as with
   | nil=>
    cases bs with
    | nil=>
     have J:a.cps.toList=b.cps.toList:=e;have:a=b:=Str.ext' (CF.mp J);rw[this]
    | cons q r=>
     rw[one a]at e;have J:a.cps.toList=b.cps.toList++c::(By ⟨#[c]⟩ (q::r)).cps.toList:=e;exact absurd (by rw[J];simp) (U a (by simp))
   | cons p as=>
    cases bs with
    | nil=>
     rw[one a]at e;have J:a.cps.toList++c::(By ⟨#[c]⟩ (p::as)).cps.toList=b.cps.toList:=e;exact absurd (by rw[<- J];simp) (O b (by simp))
    | cons q r=>
     rw[one a,one a]at e;obtain⟨e1,e2⟩:=aG7 (U a (by simp)) (O b (by simp)) e;have:a=b:=Str.ext' (CF.mp e1);rw[this,Y (q::r) (by simp) (by simp) (fun z hz=>U z (by simp at hz ⊢;exact .inr hz)) (fun z hz=>O z (by simp at hz ⊢;exact .inr hz)) e2]
def mO{c:Nat}{ws:List Str}(hn:ws≠[])(hw:∀ z∈ws,c∉z.cps.toList):AA (By ⟨#[c]⟩ ws) ⟨#[c]⟩=ws:=by
 refine aG8 (c:=c) _ _ ?_ hn (C8 _ c) hw ?_
 .intro z;have:=split_pos (By ⟨#[c]⟩ ws) ⟨#[c]⟩;rw[z]at this;simp at this
 .rw[C9]
open PySem PySem.Spec PyProof.Rows PySem.NumText
inductive aKd(xs:List V)(H:Hp)(Q:VK):Prop
 | mk (x:V) (z:Str) (h0:xs=[x]) (f:Fm x z) (q:Q (.str z) H):aKd xs H Q
def aK3:List V->Hp->VK->Prop:=fun xs H Q=>aKd xs H Q
theorem zF{X:Cx}:gR X (.type "str") aK3:=by
 intro dl s σ H xs J Q I r h;obtain⟨x,z,rfl,f,q⟩:=h;obtain⟨u,rfl,ru⟩:=gS r;cases f with
 | str z hz=>
  obtain⟨t,rfl⟩:=ru;exact P.str_of_str ⟨.str z,H,I,⟨_,rfl⟩,q⟩
 | int i hi=>
  obtain⟨t,rfl⟩:=ru;exact P.str_of_int hi ⟨.str _,H,I.tok _,⟨_,rfl⟩,q⟩
inductive aKe(xs:List V)(H:Hp)(Q:VK):Prop
 | mk (z:Str) (n:Int) (h0:xs=[.str z]) (hn:PySem.intText? z=some n) (hl:z.length<=640) (q:Q (.int n) H):aKe xs H Q
def aK4:List V->Hp->VK->Prop:=fun xs H Q=>aKe xs H Q
def zG{X:Cx}:gR X (.type "int") aK4:=by
 intro dl s σ H xs J Q I r h;obtain⟨z,n,rfl,hn,hl,q⟩:=h;obtain⟨u,rfl,ru⟩:=gS r;obtain⟨t,rfl⟩:=ru;exact PySem.W.KIN.call_text hn hl ⟨.int n,H,I.tok _,⟨_,rfl⟩,q⟩
def aDe{m k:Nat}(h:m<10^k)(W:0<k):(BW 10 m).length<=k:=by
 induction k generalizing m with
 | zero=>cases W
 | succ k U=>
  by_cases hm:m<10
  .rw[Nat.toDigits_of_lt_base hm];simp
  .have J:m%10<10:=HM m (by decide);have t:BW 10 (m/10)++BW 10 (m%10)=BW 10 (10*(m/10)+m%10):=En (by decide) (by lia) J;rw[Nat.div_add_mod]at t;rw[<- t,Am,Nat.toDigits_of_lt_base J];have O:0<k:=by
    cases k with
    | zero=>simp at h;lia
    | succ k=>lia
   have:=U (m:=m/10) (by rw[Hj]at h;lia) O;simp;exact this
def wX(m:Nat):∀ c∈(Be (toString ((m:Nat):Int))).cps.toList,48<=c/\c<=57:=by
 intro c hc;rw[Cz]at hc;obtain⟨ch,hch,e⟩:=Bn.mp hc;have r:=digit_range (Nat.isDigit_of_mem_toDigits (by decide) (by decide) hch);rw[<- e];exact r
def aEb{m k:Nat}(h:m<10^k)(J:0<k):(Be (toString ((m:Nat):Int))).length<=k:=by
 show(Be (toString ((m:Nat):Int))).cps.size<=k;rw[<- AL,Cz,Ab];exact aDe h J
def aK5(m:Nat):(Be (toString ((m:Nat):Int))).cps.toList≠[]:=by
 rw[Cz];intro e;have h:=toDigits_len_ge 10 m;rw[FC.mp e]at h;exact absurd h (by decide)
def wY{m k:Nat}(h:m<10^k)(J:0<k)(h6:k<=640):PySem.intText? (Be (toString ((m:Nat):Int)))=some (m:Int):=by
 have e:=intText_digits (wX m) (aK5 m) (AH (aEb h J) (AH h6 (by decide)));rw[Cz,PySem.W.KIN.val_back]at e;exact e
section
variable{K:Type}[DecidableEq K]{knd:HeapKind prog w K}
end
open PySem PySem.SetTable
inductive aG9(t:Dd):Probe->Nat->Prop
 | here {p:Probe} {n:Nat}:t.slot p.j=.empty->aG9 t p n
 | step {p:Probe} {n:Nat}:aG9 t (t.advance p) n->aG9 t p (n+1)
def aNl(t:Dd)(i perturb:Nat):Probe:={ j:=i,more:=runEnd t.mask i-i,i:=i,perturb:=perturb,dummy:=none }
def orb(m:Nat):Nat->Nat->Nat
 | 0,i=>i
 | k+1,i=>orb m k ((i*5+1)%m)
structure aMe(t:Dd)(n:Nat):Prop where
 size:t.place.size=n
 nod:t.dummies=#[]
 mask:(t.mask=7/\n<=4)\/(t.mask=31/\n<=18)
inductive aHa(owner:Array (Option Nat)):Nat->Nat->Nat->Prop
 | here {i p n:Nat}:(owner.getD i (some 0)).isNone=true->aHa owner i p (n+1)
 | step {i p n:Nat}:aHa owner (SetTable.leap 31 i p).1 (SetTable.leap 31 i p).2 n->aHa owner i p (n+1)
structure aNz(owner:Array (Option Nat))(k:Nat):Prop where
 size:owner.size=32
 perm:((AY 32).filterMap fun j=>owner.getD j none).Perm (AY k)
inductive aKf(prog:Ar)(w:AW)(h:Bb)(ks:List (List Str))(v:Ac):Prop
 | mk (b:_) (k:_) (q0:v=.ref b) (q1:IsTupleKey (strKind prog w) h k b) (q2:k∈ks):aKf prog w h ks v
def ElT(prog:Ar)(w:AW)(h:Bb)(ks:List (List Str))(v:Ac):Prop:=aKf prog w h ks v
structure aNA(prog:Ar)(w:AW)(h:Bb)(a:Ag)(rs:List Ag)(ks:List (List Str))(o:Obj)(es:Array (Int×Ac))(ep:Nat)(t:Dd):Prop where
 at_:h.get? a=some o
 ex:o.ExactSet
 data:o.data=.set es ep t
 perm:(es.toList.map (·.2)).Perm (rs.map AV)
 els:∀ e∈es.toList,ElT prog w h ks e.2
 tab:aMe t es.size
 led:wP w es t
abbrev P2:=Str×Str
inductive aEc(h:Bb)(v:Ac)(x:P2):Prop
 | mk (t:_) (u1:_) (u2:_) (q0:v=.ref t) (q1:E7 h t #[.str x.1 u1,.str x.2 u2]):aEc h v x
def aNm(h:Bb)(v:Ac)(x:P2):Prop:=aEc h v x
def aHb(H:Hp)(r:Ag):P2:=match H r with
 | some (.tup [.str x,.str y])=>(x,y)
 | _=>("","")
def aNn(H:Hp)(rs:List Ag):Prop:=∀ r∈rs,H r=some (.tup [.str (aHb H r).1,.str (aHb H r).2])
section
variable{a:Ag}
end
theorem aEd:∀{rs:List Ag}{its:List Ac},cE (rs.map V.ref) its->its=rs.map AV
 | [],_,.nil=>rfl
 | r::rs,_,.cons e q=>by
  rw[aEd q];cases e;rfl
section
variable{d I:Ag}{od:Obj}{es:Array DictEntry}{ep i:Nat}
end
def aFC(l:List Ac):slicePick l.toArray none none (some (-1))=l.reverse.toArray:=by
 rw[<- aGM l];unfold slicePick;have e:sliceRange (sliceBounds none none (some (-1)) l.toArray.size).1 (sliceBounds none none (some (-1)) l.toArray.size).2.1 (sliceBounds none none (some (-1)) l.toArray.size).2.2=(AY l.length).map fun(m:Nat)=>((l.length:Int)-1+(m:Int)*(-1)).toNat:=by
  have J:sliceBounds none none (some (-1)) l.toArray.size=((l.length:Int)-1,-1,-1):=by
   unfold sliceBounds;simp
  rw[J];unfold sliceRange;have h1:¬ ((-1:Int)>0):=by lia
  simp only[h1,if_false];have O:(if (l.length:Int)-1>-1 then((l.length:Int)-1 - -1 - -1-1)/(- -1) else 0).toNat=l.length:=by
   rw[Int.neg_neg,Int.ediv_one];split<;>lia
  rw[O];exact FD fun m _=>by congr 1;lia
 rw[e,List.filterMap_map];rfl
section
variable{st:Bf}{ts:TE}{p2:Pos}
def aMf(K:Ae)(te ts:TE):TE:=fun σ H Q=>te σ H fun x H1=>ts σ H1 fun y H2=>∃ a xs,y=.int (-1)/\x=.ref a/\SqL K H2 a xs/\∀ p,H2 p=none->Q (.ref p) (upd H2 p (.lst xs.reverse))
def aEe(U:PE X e te)(W:PE X st ts):PE X (.Subscript e (.Slice none none (some st) p2) pos) (aMf X.K te ts):=by
 constructor;intro dl s σ H Q I h;refine Hg (thn (U dl s σ H _ I h) fun v s1 ⟨x,H1,Z,r1,Y⟩=>?_);refine wpAny_Slice ?_;rw[Ho];refine Af (Af ?_);rw[evalPart_some];refine thn (W dl s1 σ H1 _ Z Y) fun u s2 ⟨y,H2,O,r2,q2⟩=>?_;obtain⟨a,xs,rfl,rfl,hx,q⟩:=q2;obtain⟨t,rfl⟩:=r2;cases r1;have J:Inv X dl σ H2 { s2 with heap:=s2.heap.push { cls:=.type "slice",data:=.fields #[.none,.none,.int (-1) t] } }:=O.kept (t':=s2.toks) fun b ob q=>Ah _ q;obtain⟨its,r,ht,hz⟩:=J.list hx;have hl:=r.length;refine tail_any (ops:=[.ref a,.ref s2.heap.objs.size]) ht.isList.typeIs slot_list_getitem.lookup ?_ (by with_unfolding_all rfl);refine wpAny_getItem_list_slice ht.isList (Heap.IsSliceOf.new ..) .none .none (.int (-1) t) (by decide) ?_ (by rw[Au];lia);rw[aFC];refine⟨.ref _,_,J.laid (t':=s2.toks) (o:=.lst xs.reverse) (fun b ob q=>Ah _ q) (Ap _) ?_,rfl,q _ (J.hok.fresh (Ap _))⟩;exact⟨by rw[DC];exact hz,_,0,r.reverse,AE _ rfl⟩
end
structure Fly(P:Ar)(w:AW)(outer:List Env)(H H':Hp)(s:Ad)(x:Ag)(C:Ac)(s':Ad):Prop where
 os:s'.os=s.os
 bare:EL s'.gens
 ex:∃(B:Bb) (a0:Ac),Heap.FlyingW B outer x C a0 s'.heap/\HOk P w H' B/\(∀ b o,s.heap.get? b=some o->H b=none->b∉frs outer->B.get? b=some o)/\∀ b o,s.heap.get? b=some o->b∉frs outer->∃ o',B.get? b=some o'
 frf:∀ b∈frs outer,H b=none
 slot:∀ b o,s.heap.get? b=some o->H b=none->b∈frs outer->∃ sl,s'.heap.get? b=some { o with slots:=sl }
 free:∀ b o,s.heap.get? b=some o->H b=none->H' b=none
 tups:∀ b xs,H b=some (.tup xs)->H' b=some (.tup xs)
 frzs:∀ b o u,H b=some (.frz o u)->H' b=some (.frz o u)
 tbls:∀ b ps,H b=some (.tbl ps)->∃ more,H' b=some (.tbl (ps++more))
def CXr(P:Ar)(w:AW):CXT:=fun outer H s E e s'=>∃(x:Ag) (C:Ac) (H':Hp),e=.ref x/\Fly P w outer H H' s x C s'/\E C none H'
def Fly.un{P:Ar}{w:AW}{outer:List Env}{H H':Hp}{s s':Ad}{x:Ag}{C:Ac}(h:Fly P w outer H H' s x C s'):Un (frs outer) [] H H' s.heap s'.heap:=by
 obtain⟨B,a0,fl,hok,hk,ht⟩:=h.ex;refine⟨fun b o e n J _=>fl.1 b o (hk b o e n J),fun b o e n J _=>h.slot b o e n J,fun b o e n _=>h.free b o e n,fun b o e _=>?_,h.tups,h.frzs,h.tbls⟩;by_cases hm:b∈frs outer
 .obtain⟨sl,e1⟩:=h.slot b o e (h.frf b hm) hm;exact⟨_,e1⟩
 .obtain⟨o1,e1⟩:=ht b o e hm;exact⟨o1,fl.1 b o1 e1⟩
def Fly.hok{P:Ar}{w:AW}{outer:List Env}{H H':Hp}{s s':Ad}{x:Ag}{C:Ac}(h:Fly P w outer H H' s x C s'):HOk P w H' s'.heap:=by
 obtain⟨B,a0,fl,hok,hk,ht⟩:=h.ex;exact hok.kept fl.1
section
variable{N:List Str}{E:XK}
end
structure aNo(h:Bb)(C:Ag)(fh:List Ac)(newId:String)(tl:List Ac)(N':Ag)(nm q:Str)(bs:List Ac)(hdct:Bool)(sn:List Str)(sub:List Ac)(ab:Bool)(col:Option Bool)(dd:Option Ag)(k0 k1 k2 k3 k5:Option Ac)(mN:Str->Option Ac):Prop where
 ob:h.get? C=some (excClassObj nm q C N' bs tl hdct sn sub ab col dd k0 k1 k2 k3 k5 newId)
 ns:h.Ns N' mN
 ni:mN "__init__"=none
 tl:OwnTail h fh tl
section
variable{N:List Str}{E:XK}
end
def Fly.lands{P:Ar}{w:AW}{M:DM}{A:AK}{env:Env}{outer:List Env}{L:Ag}{base:Bb}{H H':Hp}{s s2:Ad}{x:Ag}{C:Ac}{Q E:Ac->Ad->Prop}{R:Ad->Prop}(F:Fly P w (env::outer) H H' s x C s2)
  (U:s.heap.FunFrames base (env::outer)) (O:A.frames=some (env::outer)) (Z:env.frame=some L) (k:∀ h5,Fly P w (env::outer) H H' s x C { s2 with heap:=h5 }->R { s2 with heap:=h5 }):
  wpAny M A (noteFrame (.ref x) env) (fun _ s3=>wpAny M A (setFlight (.ref x) none) (fun _ s4=>R s4) E s3) E s2:=by
 obtain⟨B,a0,fl,hokB,hkB,htB⟩:=F.ex;refine wpAny_looks_onW O Z fl fun Y J u4=>?_;refine wpAny_landsW (s:={ s2 with heap:=Y }) J fun h5 W u5=>k h5 ?_;refine⟨F.os,F.bare,⟨B,a0,W,hokB,hkB,htB⟩,F.frf,fun b o q n hm=>?_,F.free,F.tups,F.frzs,F.tbls⟩;obtain⟨sl,e1⟩:=F.slot b o q n hm;obtain⟨_,o2,e2,hd⟩:=U.mem hm;rw[q]at e2;cases e2;obtain⟨sl2,e3⟩:=(u4.trans u5) b _ e1 hd;exact⟨sl2,e3⟩
def Inv.caught{X:Cx}{dl:Ii}{σ:St}{H H':Hp}{s s':Ad}{x:Ag}{C:Ac}(I:Inv X dl σ H s)(F:Fly X.prog X.w X.stack H H' s x C s'):Inv X dl σ H' s':=
 I.call' (ch:=[]) F.os F.un F.hok F.bare (fun b z=>absurd z (by simp))
def Fly.obj{P:Ar}{w:AW}{outer:List Env}{H H':Hp}{s s':Ad}{x:Ag}{C:Ac}(F:Fly P w outer H H' s x C s'):∃ ob vs,s'.heap.get? x=some ob/\ob.cls=C/\ob.data=.fields vs:=by
 obtain⟨B,a0,fl,_⟩:=F.ex;obtain⟨_,_,_,oe,vs,_,_,_,he,hc,hd,_⟩:=fl;exact⟨oe,vs,he,hc.1,hd⟩
section
variable{κ:Eu}{it:Array ET}
def tG(prog:Ar)(w:AW)(A:AK)(s:Ad)(κ:Eu)(it:Array ET):Prop:=
 ∀ x y,x∈it.toList->y∈it.toList->∀ C:Bool->Ad->Prop,(∀ b,C b s)->wpAny (model prog w) A (keyLt' κ x.1 y.1) C (fun _ _=>False) s
variable(hc:tG prog w A s κ it)
include hc
end
def Pl(a b out:Array ET)(ia ib:Nat):Prop:=(out.toList++(a.toList.drop ia++b.toList.drop ib)).Perm (a.toList++b.toList)
section
variable{a b out:Array ET}{ia ib k:Nat}
end
structure Sg(st st':Gy):Prop where
 kind:kindOf st'=kindOf st
 arr:arrOf st'=arrOf st
 pend:pendingOf st'=pendingOf st
 fail:failedOf st'=failedOf st
structure GL(a b:Array ET)(x:Nat)(out:Array ET)(ia ib:Nat):Prop where
 pl:Pl a b out ia ib
 la:ia+1<a.size
 lb:ib<b.size
 on:x<=ia+ib
section
variable{κ:Eu}{it:Array ET}(hc:tG prog w A s κ it)
include hc
end
def Ph(a b out:Array ET)(na nb:Nat):Prop:=(out.toList++(a.toList.take na++b.toList.take nb)).Perm (a.toList++b.toList)
section
variable{a b out:Array ET}{na nb k:Nat}
end
structure GH(a b:Array ET)(x:Nat)(out:Array ET)(na nb:Nat):Prop where
 pl:Ph a b out na nb
 la:1<=na
 lb:2<=nb
 ua:na<=a.size
 ub:nb<=b.size
 on:x+na+nb<=a.size+b.size
section
variable{κ:Eu}{it:Array ET}(hc:tG prog w A s κ it)
include hc
end
structure Sm(st st':Gy):Prop where
 kind:kindOf st'=kindOf st
 arr:(arrOf st').Perm (arrOf st)
 pend:pendingOf st'=pendingOf st
 fail:failedOf st'=failedOf st
structure GS(κ:Eu)(it:Array ET)(st:Gy):Prop where
 kind:kindOf st=κ
 perm:(arrOf st).Perm it
 fail:failedOf st=none
section
variable{κ:Eu}{it:Array ET}
variable(hc:tG prog w A s κ it)
include hc
end
def aMg:List (Nat×Nat×Nat)->Nat->Nat->Prop
 | [],a,b=>a=b
 | r::l,a,b=>r.1=a/\1<=r.2.1/\aMg l (a+r.2.1) b
section
variable{κ:Eu}{it:Array ET}
variable(hc:tG prog w A s κ it)
include hc
end
section
variable{κ:Eu}{it:Array ET}
structure SR(κ:Eu)(it:Array ET)(lo:Nat)(st:Gy):Prop where
 gs:GS κ it st
 le:lo<=it.size
 sg:aMg (pendingOf st).toList 0 lo
variable(hc:tG prog w A s κ it)
include hc
end
def aHc(c:Ag)(qual:Str):HO:=.ext fun h=>h.CodeRec (.ref c) qual
structure aNp(T:Ag)(pos:Pos)(qual:Str)(H:Hp):Prop where
 ex:∃ ps,H T=some (.tbl ps)/\TriplesOk ps.toList/\(codeAmong pos ps.toList=none\/∃ c,codeAmong pos ps.toList=some (.ref c)/\H c=some (aHc c qual))
def aNq(T:Ag)(H H':Hp):Prop:=∀ b o,b≠T->H b=some o->H' b=some o
structure aMh(ps fs:List Str)(sc:CV):Prop where
 kind:sc.kind=.function
 co:sc.isCoroutine=false
 gen:sc.isGenerator=false
 nd:ps.Nodup
 par:∀ x∈ps,sc.names.lookup x=some .local
 fr:∀ x∈fs,sc.names.lookup x=some .free
 nocell:∀ y∈sc.names,y.2≠.cell
inductive aEf(h:Bb)(v:Ac):Prop
 | mk (t:_) (a:_) (b:_) (u1:_) (u2:_) (q0:v=.ref t) (q1:E7 h t #[.int a u1,.int b u2]):aEf h v
def aNr(h:Bb)(v:Ac):Prop:=aEf h v
inductive aEg(H:Hp)(v:Ac):Prop
 | mk (t:_) (a:_) (b:_) (q0:v=.ref t) (q1:H t=some (.tup [.int a,.int b])):aEg H v
def aNs(H:Hp)(v:Ac):Prop:=aEg H v
section
variable{ta:TA}
end
def aFD(lo st:Int)(n:Nat):It:=⟨fun i _=>i<n,fun i H x H'=>H'=H/\x=.int (lo+i*st),fun i _=>n<=i⟩
def aB0{P:Ar}{w:AW}{K:Ae}{tg:Bf}(it:Ag)(lo st:Int)(n:Nat):aBp P w K tg (aFD lo st n) [it] it (fun i h=>G8 h it (lo+(i:Nat)*st) ((n:Int)-(i:Nat)) st) where
 mem:=by simp
 obj:=fun i h st b O=>by
  have e:b=it:=by simpa using O
  subst e;exact⟨_,st,fun v z=>by
   have z':Gg _=Data.cell v:=z;cases z'⟩
 keep:=fun i h h' st k=>k it (by simp) _ st
 item:=by
  intro X Z hw hK hc i dl s σ H E I U J Y;subst Z hw hK;obtain⟨f0,f1,f2,f3,f4,f5⟩:=U it (by simp);have W:=Walks.range (prog:=X.prog) (w:=X.w) (I.ok.hd hc) it lo st n;refine W.item i s _ _ Y J fun v h' tk hv J kk=>?_;obtain⟨t,rfl⟩:=hv;have I1:Inv X dl σ H { s with heap:=h',toks:=tk }:=I.turned (fun b o O e=>kk b o (by simpa using O) e) f0 f1 f3 f4 f5;exact⟨_,rfl,aBq (s:={ s with heap:=h',toks:=tk }) (n:="range_iterator") J rfl rfl (by decide) ⟨.int (lo+i*st),H,I1,⟨t,rfl⟩,⟨rfl,rfl⟩,J,fun b O=>(U b O).1⟩⟩
 done:=by
  intro X Z hw hK hc i dl s σ H E I U J Y;subst Z hw hK;obtain⟨f0,f1,f2,f3,f4,f5⟩:=U it (by simp);exact wpAny_pyNext_range_end (I.ok.hd hc) J (by have:n<=i:=Y;lia) fun h' eb=>⟨rfl,I.turned (t':=s.toks) (fun b o O e=>eb b o O e) f0 f1 f3 f4 f5⟩
 self:=fun _ _ _ _ _ st h=>wpAny_pyIter_rangeiter st h
section
variable{tg:Bf}
def aMi(lo hi st:Int)(n:Nat)(ta:TA):TI:=fun σ H R=>ta σ H fun vs H1=>vs=[.int lo,.int hi,.int st]/\R (aFD lo st n) H1
def zI{a b c:Bf}{ta:TA}{p pos:Pos}{lo hi st:Int}{n:Nat}(W:st≠0)(Y:EV lo hi st=true)(hn:(n:Int)=CM lo hi st)(aa:Ed (hi-lo) st=false)(hg:Gl X "range")(hm:X.mg "range"=none)(ha:PA X [a,b,c] ta)(hs:starEach [a,b,c] X.env=[(false,eval a X.env),(false,eval b X.env),(false,eval c X.env)]:=by rfl)(O:starEach [b,c] X.env=[(false,eval b X.env),(false,eval c X.env)]:=by rfl):
  PI X tg (.Call (.Name "range" p) [a,b,c] [] pos) (aMi lo hi st n ta):=by
 constructor;intro dl s σ H R I h;refine Call_ (nV I hg hm boot_range (Cr (thn (ha pos dl s σ H _ I h) fun us s1 ⟨vs,H1,I1,r1,q1⟩=>?_) (by rw[hs,O]) (by rw[O];rfl)));obtain⟨e,q⟩:=q1;subst e;cases r1 with
 | cons r J=>
  cases J with
  | cons r' J=>
   cases J with
   | cons Z J=>
    cases J;obtain⟨t,rfl⟩:=r;obtain⟨t',rfl⟩:=r';obtain⟨t'',rfl⟩:=Z;refine call_range_3 W ?_ (.inl aa);refine wpAny_pyIter_range (IsRange.new ..) Y ?_;have U:Inv X dl σ H1 { s1 with heap:=s1.heap.push { cls:=.type "range",data:=.fields #[.int lo t,.int hi t',.int st t''] },toks:=s1.toks }:=I1.kept fun b o e=>Ah _ e;refine⟨(s1.heap.push { cls:=.type "range",data:=.fields #[.int lo t,.int hi t',.int st t''] }).objs.size,[(s1.heap.push { cls:=.type "range",data:=.fields #[.int lo t,.int hi t',.int st t''] }).objs.size],_,_,H1,rfl,
     U.kept (t':=s1.toks) fun b o e=>Ah _ e,aB0 _ lo st n,?_,fun b hb=>?_,q⟩
    .have e1:lo+((0:Nat):Int)*st=lo:=by simp
     have e2:((n:Nat):Int)-((0:Nat):Int)=CM lo hi st:=by rw[<- hn];simp
     show G8 _ _ (lo+((0:Nat):Int)*st) (((n:Nat):Int)-((0:Nat):Int)) st;rw[e1,e2];exact AE _ rfl
    .have e:b=(s1.heap.push { cls:=.type "range",data:=.fields #[.int lo t,.int hi t',.int st t''] }).objs.size:=by simpa using hb
     subst e;exact U.fpOk (Ap _) (U.hok.fresh (Ap _))
def aB1{lo st:Int}{n:Nat}{g:TG}{W:TT}{te:TE}{Z:St}{H₀:Hp}{Q:VK}(J:Nat->List V->St->Hp->Prop)(h0:J 0 [] Z H₀)(hn:n<=sizeLine)(O:∀ i ys σ H,J i ys σ H->ys.length<=i)
  (hs:∀ i ys σ H,i<n->J i ys σ H->g (.int (lo+i*st)) σ H fun U H2=>W U H2 fun b Y=>if b=true then te U Y fun v H4=>J (i+1) (ys++[v]) U H4 else J (i+1) ys U Y)
  (hd:∀ ys σ H,J n ys σ H->∀ D,H D=none->Q (.ref D) (upd H D (.lst ys))):nH (aFD lo st n) g W te Z H₀ Q:=
 pC n J h0 hn O (fun i _ _ _ h _=>h) (fun _ _ _ _=>Ap _) (fun i ys σ H v H' hi p y=>by
  obtain⟨e,rfl⟩:=y;subst e;exact hs i ys σ _ hi p) hd
end
inductive aDf(H:Hp):V->Prop
 | str (z:Str):aDf H (.str z)
 | non:aDf H .non
 | int (i:Int):aDf H (.int i)
 | bl (b:Bool):aDf H (.bl b)
 | lst {a:Ag} {xs:List V} (e:H a=some (.lst xs)):aDf H (.ref a)
 | tup {a:Ag} {xs:List V} (e:H a=some (.tup xs)):aDf H (.ref a)
inductive Thg(H:Hp):V->Option (List V)->Prop
 | lst {a:Ag} {xs:List V} (e:H a=some (.lst xs)) (h:∀ v∈xs,aDf H v):Thg H (.ref a) (some xs)
 | tup {a:Ag} {xs:List V} (e:H a=some (.tup xs)):Thg H (.ref a) none
 | dct {a:Ag} {ee:List (Key×V)} (e:H a=some (.dK ee)):Thg H (.ref a) none
 | non:Thg H .non none
 | str (z:Str):Thg H (.str z) none
 | bl (b:Bool):Thg H (.bl b) none
inductive RpV(H:Hp):V->Str->Prop
 | non:RpV H .non "None"
 | bl (b:Bool):RpV H (.bl b) (if b then "True" else "False")
 | str (z:Str) (h:(reprText z).length<=sizeLine):RpV H (.str z) (reprText z)
 | ref {a:Ag} {m:Bool} {d:Aj} (r:RdV m H (.ref a) d) (h1:d.showable=true) (h2:d.depth<=20) (h3:d.shown.length<=sizeLine):RpV H (.ref a) d.shown
inductive oO(xs:List V)(H:Hp)(Q:VK):Prop
 | mk (x:V) (z:Str) (q0:xs=[x]) (q1:RpV H x z) (q2:Q (.str z) H):oO xs H Q
def aAM:List V->Hp->VK->Prop:=fun xs H Q=>oO xs H Q
theorem aDg{k:Nat}(O:eO k X.A):gR X (.builtin "repr") aAM:=by
 intro dl s σ H xs J Q I r h;obtain⟨x,z,rfl,hx,q⟩:=h;cases hx with
 | non=>
  obtain⟨u,rfl,ru⟩:=gS r;cases ru;exact P.repr_of_none ⟨.str _,H,I.tok _,⟨_,rfl⟩,q⟩
 | bl b=>
  obtain⟨u,rfl,ru⟩:=gS r;cases ru;exact P.repr_of_bool ⟨.str _,H,I.tok _,⟨_,by cases b<;>rfl⟩,q⟩
 | str z h=>
  obtain⟨u,rfl,ru⟩:=gS r;obtain⟨t,rfl⟩:=ru;exact P.repr_of_str ⟨.str _,H,I.tok _,⟨_,rfl⟩,q⟩ h
 | @ref a m d rd h1 h2 U=>exact aFs O dl s σ H _ J Q I r ⟨a,m,d,rfl,rd,h1,h2,U,q⟩
def OkS:Nat->Aj->Prop
 | 0,d=>(∃ z,d=.str z)\/∃ i,d=.int i
 | n+1,d=>(∃ z,d=.str z)\/(∃ i,d=.int i)\/∃ ds,d=.tuple ds/\∀ e∈ds,OkS n e
open Classical in
open Classical in
open Classical in
inductive aMj(X:Cx)(dl:Ii)(σ:St)(E':XK)(x:Ac)(s':Ad):Prop
 | mk (H1:_) (s1:_) (q0:Inv X dl σ H1 s1) (q1:CXr X.prog X.w X.stack H1 s1 E' x s'):aMj X dl σ E' x s'
def XP(X:Cx)(dl:Ii)(σ:St)(E':XK)(x:Ac)(s':Ad):Prop:=aMj X dl σ E' x s'
structure PX(X:Cx)(e:Bf)(te:XK->TE):Prop where
 run:∀(E':XK) (dl:Ii) (s:Ad) (σ:St) (H:Hp) (Q:VK),Inv X dl σ H s->te E' σ H Q->wpAny (model X.prog X.w) X.A (eval e X.env) (EP X dl σ Q) (XP X dl σ E') s
structure PXs(X:Cx)(b:List BA)(tb:XK->TS):Prop where
 run:∀(E':XK) (dl:Ii) (s:Ad) (σ:St) (H:Hp) (D:lY),Inv X dl σ H s->tb E' D σ H->wpAny (model X.prog X.w) X.A (execs b X.env) (SP X dl D) (XP X dl σ E') s
section
variable{k:Nat}{fd:Ay}{ps:List Str}{sp:Sp}{x:Str}{p:Pos}{t:TA}{te:XK->TE}
end
abbrev Cx.hand(X:Cx)(v:Ac):Cx:={ X with A:=X.A.mark (some v),calm:=false,xe:=fun _ _=>False }
section
variable{v:Ac}
def Inv.hand(I:Inv X dl σ H s)(v:Ac):Inv (X.hand v) dl σ H s:=
 have ok:=I.ok
 ⟨⟨ok.mod,ok.kind,ok.glob,ok.blt,ok.above,ok.inj,ok.has,ok.cab,(fun z=>by cases z),ok.frames,ok.stk,ok.exf,ok.bs,ok.bsz,ok.noex,ok.exfs,ok.funs,ok.frf⟩,I.os,I.bare,I.base,I.loc,I.cell,I.free,I.freeC,I.pin,I.hok,I.len⟩
def Inv.unhand(I:Inv (X.hand v) dl σ H s)(ok:X.Ok):Inv X dl σ H s:=⟨ok,I.os,I.bare,I.base,I.loc,I.cell,I.free,I.freeC,I.pin,I.hok,I.len⟩
def pG{M:DM}{A:AK}{E:Ac->Ad->Prop}{i:Nat}{x:Str}{pos:Pos}{Q:Unit->Ad->Prop}(I:Inv X dl σ H s)(hN:X.N.Nodup)(hi:X.N[i]?=some x)(hk:X.env.scope.names.lookup x=some .local)
  (h:∀ s',Inv X dl (σ.set i none) H s'->Q () s'):wpAny M A (do bindName X.env x .none;unbindBehindTheSuite X.env x pos) Q E s:=by
 obtain⟨m,hn,hl⟩:=id I.loc;have O:(X.env.scope.kind==.class||(X.env.scope.kind==.module&&X.env.locals != X.env.globals))=false:=by rw[I.ok.kind];rfl
 have Y:i<σ.length:=by rw[I.len];exact(AO.mp hi).1
 have cne:=I.cne;refine wpAny_nameGoes_keeps hk hn O fun h' v aa J=>?_;obtain⟨oL,_,_,hoL,_⟩:=id hn;refine h _ ⟨I.ok,I.os,I.bare,⟨fun b o e n W U=>?_,fun b o e n W U=>?_,I.base.free,fun b o e U=>?_,I.base.tups,I.base.frzs,I.base.tbls⟩,⟨_,aa,fun j y v' e1 e2 e3=>?_⟩,fun y c e=>?_,I.free,I.freeC,fun p hp=>?_,fun b ob e=>?_,by simpa using I.len⟩
 .exact(J.2 b (AU (AZ (Az e) I.ok.above))).trans (I.base.keep b o e n W U)
 .obtain⟨sl,e1⟩:=I.base.slot b o e n W U;exact⟨sl,(J.2 b (AU (AZ (Az e) I.ok.above))).trans e1⟩
 .obtain⟨o',e1⟩:=I.base.there b o e U;exact⟨o',(J.2 b (AU (AZ (Az e) I.ok.above))).trans e1⟩
 .by_cases Z:j=i
  .subst Z;rw[E6 Y]at e2;cases e2
  .rw[Fk (CY Z)]at e2;obtain⟨u',r',q⟩:=hl j y v' e1 e2 e3;refine⟨u',r',?_⟩;rcases q with⟨k,e⟩|⟨k,c,e,z⟩
   .refine .inl ⟨k,?_⟩;have:y≠x:=fun e=>Z (vL hN e1 (e▸hi));simp[this,e]
   .exact .inr ⟨k,c,e,z.sameBut J (cne y c e)⟩
 .obtain⟨w',z⟩:=I.cell y c e;exact⟨w',z.sameBut J (cne y c e)⟩
 .obtain⟨e,n,ne,nf,d⟩:=I.pin p hp;exact⟨(J.2 p.1 ne).trans e,n,ne,nf,d⟩
 .refine(I.hok b ob e).stay (fun c w' hc q=>(J.2 c ?_).trans q) (fun _ q=>q) fun _ _ q=>q;rintro rfl;rcases hc with rfl|hc
  .rw[I.free]at e;cases e
  .rw[I.free]at hc;cases hc
end
def aNt(y:Ag)(C:Ac):HO:=.ext fun h=>∃ ob vs,h.get? y=some ob/\ob.cls=C/\ob.data=.fields vs
def Fly.again{P:Ar}{w:AW}{M:DM}{A:AK}{env:Env}{outer:List Env}{base:Bb}{H H':Hp}{s s2:Ad}{x:Ag}{C:Ac}{E:Ac->Ad->Prop}{R:Ad->Prop}(F:Fly P w (env::outer) H H' s x C s2)
  (J:s.heap.FunFrames base (env::outer)) (k:∀ h5,Fly P w (env::outer) H H' s x C { s2 with heap:=h5 }->R { s2 with heap:=h5 }):
  wpAny M A (setFlight (.ref x) none) (fun _ s4=>R s4) E s2:=by
 obtain⟨B,a0,fl,hokB,hkB,htB⟩:=F.ex;refine lands_againW fl fun h5 O u5=>k h5 ?_;refine⟨F.os,F.bare,⟨B,a0,O,hokB,hkB,htB⟩,F.frf,fun b o q n hm=>?_,F.free,F.tups,F.frzs,F.tbls⟩;obtain⟨sl,e1⟩:=F.slot b o q n hm;obtain⟨_,o2,e2,hd⟩:=J.mem hm;rw[q]at e2;cases e2;obtain⟨sl2,e3⟩:=u5 b _ e1 hd;exact⟨sl2,e3⟩
def aDh{P:Ar}{w:AW}{H:Hp}{h:Bb}{a:Ag}{o:HO}(x:cZ P w H h a o):∃ ob,h.get? a=some ob:=by
 cases o with
 | lst xs=>obtain⟨_,_,_,_,e⟩:=x;exact⟨_,e⟩
 | tup xs=>obtain⟨_,_,_,_,e,_⟩:=x;exact⟨_,e⟩
 | dK ee=>obtain⟨_,_,_,_,o,_,_,e,_⟩:=x;exact⟨_,e⟩
 | dT ee=>obtain⟨_,_,_,_,o,_,_,e,_⟩:=x;exact⟨_,e⟩
 | set S n=>obtain⟨o,_,_,_,e,_⟩:=x;exact⟨_,e⟩
 | ins C dx fs=>obtain⟨_,_,_,e,_⟩:=x;exact⟨_,e⟩
 | own y=>exact x
 | xd fs=>obtain⟨_,⟨_,_,_,e,_⟩,_⟩:=x;exact⟨_,e⟩
 | rng lo hi=>obtain⟨_,_,_,e⟩:=x;exact⟨_,e⟩
 | frz ob u=>exact⟨_,x.1⟩
 | tbl ps=>exact⟨_,x⟩
 | met f y=>exact⟨_,x⟩
 | ext φ=>exact x.2.1
def unE(ie:Nat)(D:lY):lY:={ nx:=fun σ H=>D.nx (σ.set ie none) H,rt:=D.rt,bk:=fun σ H=>D.bk (σ.set ie none) H,ct:=fun σ H=>D.ct (σ.set ie none) H }
open PySem PySem.Spec PyProof.Rows PySem.W Builtin Builtin.ObjectAttr PySem.Calls Builtin.Getset_descriptor
structure wZ(K:Ae)(D:Ag):Prop where
 ga:findIn K (.ref D) "__getattribute__"=some (some (.builtin "BaseException.__getattribute__"))
 gn:findIn K (.ref D) "__getattr__"=some none
 mb:mroIn K D (.type "BaseException")=some true
 hd:hasDictIn K D=true
 ha:findIn K (.ref D) "__class__"=some (some (.builtin "object.__class__"))
 hm:mroIn K D (.type "object")=some true
 hn:specialIn K (.builtin "object.__class__") "__get__"=some (some (.builtin "getset_descriptor.__get__"))
 ht:takesIn K (.builtin "object.__class__")=some true
def uD(y:Ag)(C:Ac)(h:Bb):Prop:=∃ ob vs,h.get? y=some ob/\ob.cls=C/\ob.data=.fields vs
def uD.ty{y:Ag}{C:Ac}{h:Bb}{M:DM}(x:uD y C h):HR M h (typeOf (.ref y)) C:=by
 obtain⟨ob,vs,ho,hc,_⟩:=x;rw[<- hc];unfold typeOf;exact(Looks.ld ho).andThen .now
def aHd{K:Ae}{M:DM}{h:Bb}{D y:Ag}(k:wZ K D)(X:K.In h):HR M h (Builtin.ObjectAttr.find (.ref y) (.ref D) "__class__") (.bind (.builtin "getset_descriptor.__get__") (.builtin "object.__class__")):=by
 have a1:=EG (M:=M) X k.ha;have a2:HR M h (Builtin.ObjectAttr.getOf (some (.builtin "object.__class__"))) (some (.builtin "getset_descriptor.__get__")):=looks_specialIn X k.hn;have a3:=looks_takesIn (M:=M) X k.ht;exact a1.andThen (a2.andThen (Looks.andThen (a:=some (.builtin "getset_descriptor.__get__",.builtin "object.__class__")) (a3.andThen .now) (Looks.tag .now)))
def aJd{prog:Ar}{w:AW}{A:AK}{s:Ad}{K:Ae}{D y:Ag}{J:Ac}{R:Hh->Ad->Prop}(k:wZ K D)(X:K.In s.heap)(p:uD y (.ref D) s.heap)(q:R (.ok (.ret (.ref D))) s):
  codeAny (model prog w) A (.call (.builtin "getset_descriptor.__get__") ⟨[.builtin "object.__class__",.ref y,J],[]⟩) R s:=by
 obtain⟨hp,g,d,t,os⟩:=s;have O:=p.ty (M:=model prog w);have U:=GJ (M:=model prog w) X k.hm;refine C3 KF.slot_gs.plain KF.entry_gs (KF.slot_gs.check _ _ _ _ _ _ _ _ KF.type_class (KF.args_gs _ _ _) (?_));unfold Builtin.«getset_descriptor.__get__» descrGet;rw[dga_obj];refine Aa (Af ?_);unfold descrGetter descrCheckInstance descrNameAndClass isInstance;simp only[KF.owner_class]
 repeat lk
 refine⟨DN _ (by trivial),Ck KF.entry_class (?_)⟩;unfold Builtin.«object.__class__» shownTypeOf
 repeat lk
 exact q
def aFE{prog:Ar}{w:AW}{A:AK}{E:Ac->Ad->Prop}{J:Bb}{g:Array EU}{d:Hw}{t:Nat}{os:OsState}{K:Ae}{D y:Ag}{tk:Tok}{Q:Fin->Ad->Prop}(k:wZ K D)(X:K.In J)(p:uD y (.ref D) J)(q:Q (.done (.ret (.ref D))) ⟨J,g,d,t,os⟩):
  wpAny (model prog w) A (Builtin.«object.__getattribute__» ⟨[.ref y,.str "__class__" tk],[]⟩) Q E ⟨J,g,d,t,os⟩:=by
 have b0:=p.ty (M:=model prog w);have b3:=aHd (M:=model prog w) (y:=y) k X;unfold Builtin.«object.__getattribute__»;refine Aa (Af (Aa (Af (Aa (b0.at (Aa (b3.at ?_)))))));show wpAny _ _ (holding [.builtin "object.__class__"] (call (.builtin "getset_descriptor.__get__") [.builtin "object.__class__",.ref y,.ref D]) >>= ret) _ _ _;exact Aa (Bg (CC (aJd (s:=⟨J,g,d,t,os⟩) k X p (Af q))))
def zJ{M:DM}{A:AK}{E:Ac->Ad->Prop}{O:Bb}{g:Array EU}{d:Hw}{t:Nat}{os:OsState}{K:Ae}{D y:Ag}{J:Ac}{Q:Unit->Ad->Prop}(k:wZ K D)(X:K.In O)(p:uD y (.ref D) O)(q:Q () ⟨O,g,d,t,os⟩):
  wpAny M A (checkBuiltinCall "BaseException.__getattribute__" ⟨[.ref y,J],[]⟩) Q E ⟨O,g,d,t,os⟩:=by
 have b0:=p.ty (M:=M);have b4:=GJ (M:=M) X k.mb;have W:builtinKind "BaseException.__getattribute__"=some .slot:=by trivial
 have U:splitId "BaseException.__getattribute__"=some ("BaseException","__getattribute__"):=by trivial
 have Y:=F.args_bexc_ga (.ref y) J;simp only[checkBuiltinCall,W,U];refine Aa (Aa (b0.at (b4.at ?_)))
 repeat wp_step
 exact q
def aFF{prog:Ar}{w:AW}{A:AK}{E:Ac->Ad->Prop}{s:Ad}{K:Ae}{D y:Ag}{Q:Option Ac->Ad->Prop}(k:wZ K D)(X:K.In s.heap)(p:uD y (.ref D) s.heap)(q:Q (some (.ref D)) { s with toks:=s.toks+1 }):
  wpAny (model prog w) A (getAttr? (.ref y) "__class__") Q E s:=by
 obtain⟨hp,g,d,t,os⟩:=s;have b0:=p.ty (M:=model prog w);have b1:=EG (M:=model prog w) X k.ga;have b2:=EG (M:=model prog w) X k.gn;have b4:=GJ (M:=model prog w) X k.mb;have O:=Eo.ga.bind (.ref y);unfold getAttr? getAttrBy? getAttrBy;refine Aa (wpAny_mkText (Aa (Dt (Bg (Aa (b0.at (Aa (b1.at ?_))))))));show wpAny _ _ (if (onTheHeap (.ref D)&&De "BaseException.__getattribute__"==De "object.__getattribute__")=true then _ else getAttrByItsOwn _ _ _ _ _ _) _ _ _;have J:(De "BaseException.__getattribute__"==De "object.__getattribute__")=false:=by trivial
 rw[Ia (by rw[J,A1];exact Aq)];unfold getAttrByItsOwn hookBefore;refine Aa ?_;show wpAny _ _ (typeLookup (.ref D) "__getattr__") _ _ _;refine b2.at ?_;refine Aa (Dt (Bg ?_));show wpAny _ _ (boundAndCalled _ _ _) _ _ _;unfold boundAndCalled;rw[O];refine Aa (Af ?_);refine CC (C3 Eo.ga.plain F.entry_bexc_ga (zJ k X p (aFE k X p ?_)));exact Af (Af q)
def aB2{K:Ae}{y D:Ag}(k:wZ K D):KitX K (.ref y) (.ref D) (uD y (.ref D)):=by
 have hc:∃ o cd,K.lookup D=some o/\o.data=.cls cd:=by
  obtain⟨cdD,hcD,_⟩:=any_some k.hd;unfold clsIn at hcD;split at hcD
  .rename_i c' d' O W J;exact⟨_,O,J,rfl⟩
  .cases hcD
 obtain⟨o,cd,J,hd⟩:=hc;refine⟨fun M h _ p=>p.ty,fun M h X _ A Q E s kp q=>?_,fun h Y dd Z n sl X U=>Bool.eq_false_iff.mpr fun q=>?_,fun X p q=>aFF k X p q⟩
 .have e:=kp _ _ (X _ _ J);obtain⟨oc,od,oda,osl⟩:=o;dsimp only at hd;subst hd;unfold isType loadHead;exact Aa (wpAny_loadPart e (Af q))
 .have e:D=Y:=AV.inj (beq_iff_eq.mp q);subst e;have z:=(X _ _ J).symm.trans U;cases z;cases hd
section
variable{H':Hp}{L:Ii}{b:Ag}{o:Obj}
variable{h':Bb}{fs:List Ag}
end
section
variable{N:List Str}{E:XK}
structure aNu(cl:List (Str×Ag))(L:Ii)(fs:List Str)(zs:List V):Prop where
 pr:Gz (fun(x:Str) (v:V)=>∃ b o u,cl.lookup x=some b/\L.lookup b=some o/\o.data=.cell (some u)/\cQ v u) fs zs
 all:∀ x b,cl.lookup x=some b->∃ o u,L.lookup b=some o/\o.data=.cell u
 inj:∀ x y b,cl.lookup x=some b->cl.lookup y=some b->x=y
end
section
variable{k:Nat}{x:Str}{p:Pos}
end
inductive Thn(H:Hp):V->Prop
 | non:Thn H .non
 | bl (b:Bool):Thn H (.bl b)
 | int (i:Int):Thn H (.int i)
 | str (z:Str):Thn H (.str z)
 | lst {a:Ag} {xs:List V} (e:H a=some (.lst xs)):Thn H (.ref a)
 | tup {a:Ag} {xs:List V} (e:H a=some (.tup xs)):Thn H (.ref a)
 | dct {a:Ag} {ee:List (Key×V)} (e:H a=some (.dK ee)):Thn H (.ref a)
section
variable{T:String}{r d:Ag}{n:Nat}{P:Nat->Ac->Prop}{OK:Bb->Prop}
end
def aM5(P:Ar)(w:AW)(h:Bb)(q:Ag)(kv:Key×Ac):Prop:=∃ o key n,h.get? q=some o/\o.cls=.type "tuple"/\o.data=.seq #[key,kv.2] n/\(cV P w).is kv.1 key=true
open PySem.W in
section
variable{d:Ag}{ee:List (Key×V)}
end
section
variable{tg:Bf}
end
inductive aKg(h:Bb)(v:Ac)(z:Str):Prop
 | mk (t:_) (u:_) (a:_) (b:_) (q0:v=.ref t) (q1:E7 h t #[.str z u,a,b]):aKg h v z
def NmT(h:Bb)(v:Ac)(z:Str):Prop:=aKg h v z
inductive oP(xs:List V)(H:Hp)(Q:VK):Prop
 | mk (i:Int) (q0:xs=[.int i]) (q1:i.natAbs.log2<1920) (q2:Q (.str (toString i:String)) H):oP xs H Q
def aAN:List V->Hp->VK->Prop:=fun xs H Q=>oP xs H Q
theorem aDi:gR X (.builtin "repr") aAN:=by
 intro dl s σ H xs J Q I r h;obtain⟨i,rfl,hs,q⟩:=h;obtain⟨u,rfl,ru⟩:=gS r;obtain⟨t,rfl⟩:=ru;exact P.repr_of_int hs ⟨.str _,H,I.tok _,⟨_,rfl⟩,q⟩
mutual
def ltD:Aj->Aj->Bool
 | .str x,.str y=>decide (x.cps.toList<y.cps.toList)
 | .int i,.int j=>decide (i<j)
 | .tuple xs,.tuple ys=>ltL xs ys
 | _,_=>false
def ltL:List Aj->List Aj->Bool
 | [],[]=>false
 | [],_::_=>true
 | _::_,[]=>false
 | x::xs,y::ys=>if PyData.eqv x y=true then ltL xs ys else ltD x y
end
mutual
def okD:Aj->Aj->Bool
 | .str _,.str _=>true
 | .int _,.int _=>true
 | .tuple xs,.tuple ys=>okL xs ys
 | _,_=>false
def okL:List Aj->List Aj->Bool
 | x::xs,y::ys=>if PyData.eqv x y=true then okL xs ys else okD x y
 | _,_=>true
end
mutual
def plD:Aj->Bool
 | .str _=>true
 | .int _=>true
 | .tuple xs=>plL xs
 | _=>false
def plL:List Aj->Bool
 | []=>true
 | x::xs=>plD x&&plL xs
end
structure aNB(d:Aj):Prop where
 fm:∃ k xs,d=.tuple (.str k::xs)
 pl:plD d=true
 ly:d.canLay0=true
 dp:d.depth<=6
inductive aKh(h:Bb)(v:Ac)(d:Aj):Prop
 | mk (as:_) (q0:Reads h v d as):aKh h v d
def RdT(h:Bb)(v:Ac)(d:Aj):Prop:=aKh h v d
inductive aKi(h:Bb)(v:Ac):Prop
 | mk (t:_) (z:_) (u:_) (aY:_) (q0:v=.ref t) (q1:E7 h t (BG z u::aY).toArray):aKi h v
def FsT(h:Bb)(v:Ac):Prop:=aKi h v
inductive rP(K:Ae)(x:V)(y:V)(H:Hp)(Q:VK):Prop
 | mk (p:_) (q:_) (xs:_) (q0:x=.ref p) (q1:y=.ref q) (q2:SqL K H p xs) (q3:SqL K H q []) (q4:Q (.bl (decide (0<xs.length))) H):rP K x y H Q
def w5(K:Ae):V->V->Hp->VK->Prop:=fun x y H Q=>rP K x y H Q
def aB3(J:X.A.units<cLine):OpR X (compareOp .NotEq) (w5 X.K):=by
 intro dl s σ H x y v u Q I U O h;obtain⟨p,q,xs,rfl,rfl,h1,h2,hq⟩:=h;cases xs with
 | nil=>exact aGI J dl s σ H _ _ v u Q I U O ⟨p,q,[],[],rfl,rfl,h1,h2,rfl,rfl,hq⟩
 | cons z r=>
  cases U;cases O;obtain⟨us,r1,p1,_⟩:=I.list h1;obtain⟨ws,r2,p2,_⟩:=I.list h2;have W:=r1.length;have Y:=r2.length;refine SeqAt.RcNeAt.lists_lengths p1.isList p2.isList (by simp at W Y ⊢;lia) J X.prog X.w _ _ ?_;rw[Ic (show 0<(z::r).length by simp)]at hq;exact⟨.bl _,H,I,rfl,hq⟩
def Ite(a : Ag) : It :=
  ⟨fun i H => ∃ xs x, H a = some (.lst xs) /\ xs[i]? = some x,
   fun i H v H' => ∃ t x, v = .ref t /\ H t = none /\ H' = upd H t (.tup [.int i, x]) /\ ∀ xs, H a = some (.lst xs) -> xs[i]? = some x,
   fun i H => ∃ xs, H a = some (.lst xs) /\ xs.length <= i⟩
def aFG{P:Ar}{w:AW}{K:Ae}{es:List Bf}{kk:Nat}{tp:Pos}(a e it:Ag)(ne:e≠it):
  aBp P w K (.Tuple es kk tp) (Ite a) [e,it] e (fun i h=>(∃ J,IsEnum h e it (i:Int) J)/\h.IsListIter it a i) where
 mem:=by simp
 obj:=fun i h st c hc=>by
  have⟨⟨J,he⟩,⟨o1,e1,_,d1⟩⟩:=st;simp only[Ao,AB,or_false]at hc;rcases hc with rfl|rfl
  .exact⟨_,he,fun v q=>by cases q⟩
  .exact⟨_,e1,fun v q=>by rw[d1]at q;cases q⟩
 keep:=fun i h h' st k=>by
  have⟨⟨J,he⟩,h1⟩:=st;exact⟨⟨J,k e (by simp) _ he⟩,h1.at fun o z=>k it (by simp) o z⟩
 item:=by
  intro X hP hw hK hc i dl s σ H E I W st Z;subst hP hw hK;have⟨xs,x,hxa,hx⟩:=Z;have⟨us,r1,p1,z1⟩:=I.list (aP hxa);have⟨u,hu,ru⟩:=r1.get hx;have⟨⟨J,he⟩,h1⟩:=st;refine wpAny_pyNext_enum_item he h1 p1.isList (x:=u) (by simpa using hu) ne fun h' q1 q2 q3 q4 q5=>⟨_,rfl,?_⟩
  refine wpAny_letOwnedTupleGo_enum q1 fun O ad sb=>?_;have lt:∀{c o},s.heap.get? c=some o->s.heap.objs.size≠c:=fun z=>CD (Az z);have kk:∀ c o,c∉[e,it]->s.heap.get? c=some o->O.get? c=some o:=fun c o hc z=>by
   simp only[Ao,AB,or_false,not_or]at hc;exact sb.extBut _ _ hc.1 (q5 c o hc.1 hc.2 z)
  have I1:Inv X dl σ H { s with heap:=O,toks:=s.toks+1 }:=I.turnedL kk W;have nT:H s.heap.objs.size=none:=I.hok.fresh (Ap _);have Y:O.get? s.heap.objs.size=some { cls:=.type "tuple",data:=.seq #[.int i s.toks,u] }:=sb.extBut _ _ (lt he) q3;have I2:Inv X dl σ (upd H s.heap.objs.size (.tup [.int i,x])) { s with heap:=O,toks:=s.toks+1 }:=by
   refine I1.track (I.fpOk (Ap _) nT) ⟨aJ (show 2<=1000000 by decide),[.int i s.toks,u],.cons ⟨_,rfl⟩ (.cons ru .nil),_,Y,⟨rfl,_,rfl⟩,rfl⟩
  have U:((i+1:Nat):Int)=(i:Int)+1:=by push_cast;rfl
  have af:IsEnum O e it ((i+1:Nat):Int) u:=by rw[U];exact ad
  refine⟨.ref s.heap.objs.size,_,I2,rfl,⟨_,x,rfl,nT,rfl,fun ak z=>?_⟩,?_,fun c hc=>?_⟩
  .rw[hxa]at z;cases z;exact hx
  .exact⟨⟨u,af⟩,q2.at fun o z=>sb.extBut _ _ ne.symm z⟩
  .have ae:c≠s.heap.objs.size:=by
    simp only[Ao,AB,or_false]at hc;rcases hc with rfl|rfl
    .exact(lt he).symm
    .obtain⟨_,z,_⟩:=h1;exact(lt z).symm
   rw[bE ae];exact(W c hc).1
 done:=by
  intro X hP hw hK hc i dl s σ H E I W st Z;subst hP hw hK;have⟨xs,hxa,hend⟩:=Z;have⟨us,r1,p1,z1⟩:=I.list (aP hxa);have l1:=r1.length;have⟨⟨J,he⟩,h1⟩:=st;refine wpAny_pyNext_enum_end (I.ok.hd hc) he h1 p1.isList (E4 (by simp;lia)) fun h' q7=>⟨rfl,I.turnedL (t':=s.toks) (fun c o hc z=>?_) W⟩
  simp only[Ao,AB,or_false,not_or]at hc;exact q7 c o hc.2 z
 self:=fun _ _ _ _ _ st h=>by
  obtain⟨⟨J,he⟩,_⟩:=st;exact wpAny_pyIter_enum he h
def aMk(ta:TA):TI:=fun σ H R=>ta σ H fun vs H1=>∃ a xs,vs=[.ref a]/\H1 a=some (.lst xs)/\R (Ite a) H1
def aAO{x:Bf}{ta:TA}{p pos:Pos}{es:List Bf}{kk:Nat}{Z:Pos}(Y:Gl X "enumerate")(hm:X.mg "enumerate"=none)(ha:PA X [x] ta)(hs:starEach [x] X.env=[(false,eval x X.env)]:=by rfl):
  PI X (.Tuple es kk Z) (.Call (.Name "enumerate" p) [x] [] pos) (aMk ta):=by
 constructor;intro dl s σ H R I h;refine Call_ (nV I Y hm boot_enumerate (Cr (thn (ha pos dl s σ H _ I h) fun W s1 ⟨vs,H1,U,r1,O⟩=>?_) (by rw[hs];rfl) (by rfl)));obtain⟨a,xs,e,hxa,q⟩:=O;subst e;obtain⟨u,rfl,ru⟩:=gS r1;cases ru;obtain⟨W,r1,p1,z1⟩:=U.list (aP hxa);refine call_enumerate_list p1.isList fun h' O q2 q3 q4=>?_;refine wpAny_pyIter_enum O ?_;refine⟨_,[s1.heap.objs.size+1,s1.heap.objs.size],_,_,H1,rfl,U.kept (t':=s1.toks) q4,aFG a (s1.heap.objs.size+1) s1.heap.objs.size (Nat.succ_ne_self _),⟨⟨_,O⟩,q2⟩,fun c hc=>?_,q⟩;have J:s1.heap.objs.size<=c:=by
  simp only[Ao,AB,or_false]at hc;rcases hc with rfl|rfl
  .exact Nat.le_add_right _ 1
  .exact Ap _
 exact U.fpOk J (U.hok.fresh J)
def aB4{a:Ag}{xs:List V}{g:TG}{tb:TS}{D:lY}{σ:St}{H:Hp}(J:Nat->St->Hp->Prop)(h0:J 0 σ H)(hl:∀ i σ H,J i σ H->H a=some (.lst xs))
  (hs:∀ i x t σ H,xs[i]?=some x->H t=none->J i σ H->g (.ref t) σ (upd H t (.tup [.int i,x])) fun Y H2=>tb { D with nx:=J (i+1),ct:=J (i+1),bk:=D.nx } Y H2) (hd:∀ σ H,J xs.length σ H->D.nx σ H):
  ∃ W:Nat->Nat->St->Hp->Prop,(∃ m,W 0 m σ H)/\∀ i m σ H,W i m σ H->
   ((Ite a).stop i H/\D.nx σ H)\/((Ite a).go i H/\∃ N:St->Hp->Prop,(∀ U H',N U H'->∃ m',m'<m/\W (i+1) m' U H')/\∀ x H',(Ite a).yld i H x H'->g x σ H' fun Y H2=>tb { D with nx:=N,ct:=N,bk:=D.nx } Y H2):=by
 refine⟨fun i m σ H=>m=xs.length-i/\i<=xs.length/\J i σ H,⟨xs.length,by simp,A3 _,h0⟩,?_⟩;rintro i m σ H ⟨rfl,hi,p⟩;have Z:=hl i σ H p;by_cases O:i<xs.length
 .refine .inr ⟨⟨xs,xs[i],Z,by simp[O]⟩,J (i+1),fun U H' p'=>⟨xs.length-(i+1),by lia,rfl,O,p'⟩,fun v H' y=>?_⟩;obtain⟨t,x',rfl,ht,rfl,ex⟩:=y;exact hs i x' t σ H (ex xs Z) ht p
 .have e:i=xs.length:=by lia
  subst e;exact .inl ⟨⟨xs,Z,Ap _⟩,hd σ H p⟩
def aFH{a:Ag}{xs:List V}{g:TG}{Y:TT}{te:TE}{σ₀:St}{H₀:Hp}{Q:VK}(J:Nat->List V->St->Hp->Prop)(h0:J 0 [] σ₀ H₀)(hn:xs.length<=sizeLine)(O:∀ i ys σ H,J i ys σ H->ys.length<=i)
  (W:∀ i ys σ H,J i ys σ H->H a=some (.lst xs))
  (hs:∀ i x t ys σ H,xs[i]?=some x->H t=none->J i ys σ H->g (.ref t) σ (upd H t (.tup [.int i,x])) fun U H2=>Y U H2 fun b Z=>if b=true then te U Z fun v H4=>J (i+1) (ys++[v]) U H4 else J (i+1) ys U Z)
  (hd:∀ ys σ H,J xs.length ys σ H->∀ D,H D=none->Q (.ref D) (upd H D (.lst ys))):nH (Ite a) g Y te σ₀ H₀ Q:=
 pC xs.length J h0 hn O (fun i ys σ H h p=>⟨xs,xs[i],W i ys σ H p,by simp[h]⟩) (fun ys σ H p=>⟨xs,W _ ys σ H p,Ap _⟩) (fun i ys σ H v H' hi p y=>by
  obtain⟨t,x,e,ht,e2,hx⟩:=y;subst e e2;exact hs i x t ys σ _ (hx xs (W i ys σ _ p)) ht p) hd
inductive jT(x:V)(xs:List V)(H:Hp)(Q:VK):Prop
 | mk (z:_) (y:_) (q0:x=.str z) (q1:xs=[.str y]) (q2:Q (.bl (Txt.startswith z y)) H):jT x xs H Q
def uS:V->List V->Hp->VK->Prop:=fun x xs H Q=>jT x xs H Q
def yE{X:Cx}:MtR X "str.startswith" uS:=by
 intro dl s σ H x xs v O Q I J r h;obtain⟨z,y,rfl,rfl,q⟩:=h;obtain⟨t,rfl⟩:=J;obtain⟨u,rfl,ru⟩:=gS r;obtain⟨u',rfl⟩:=ru;exact call_gives F.slot_str_startswith (EO _ _ _) F.entry_str_startswith (F.args_str_startswith_2 _ _) (gives_str_startswith z y t u') ⟨.bl _,H,I,rfl,q⟩
def aK6{X:Cx}{a:Ag}{vs:List (Key×Ac)}{ee:List (Key×V)}(hd:∀ h:Bb,X.K.In h->h.DictOf (cV X.prog X.w) a vs)(rel:KV ee vs)(hz:(a==sysModules)=false):OpR X (compareOp .In) (fun x y H Q=>∃ k,x=kV k/\y=.ref a/\Q (.bl ((gY ee k).isSome)) H):=by
 intro dl s σ H x y v u Q I J O h;obtain⟨k,rfl,rfl,q⟩:=h;cases O;refine wpAny_in_of (uB J) hz (hd _ I.kIn).mapOf ?_;rw[<- (rel.val k).isSome_eq];exact⟨.bl _,H,I.tok _,rfl,q⟩
def aJe{a:Bf}{pos:Pos}{ta:TE}(ha:PE X a ta):PE X (.UnaryOp .Not a pos) (fun σ H Q=>ta σ H fun x H1=>∃ k,aKJ X.K x H1 k/\Q (.bl (!k)) H1):=by
 constructor;intro dl s σ H Q I h;refine UnaryOp_ (thn (ha dl s σ H _ I h) fun v s1 ⟨x,H1,U,r1,O⟩=>?_);obtain⟨k,hk,q⟩:=O;exact not_of (thn (aGn dl s1 σ H1 x v (fun c H2=>c=k/\H2=H1) U r1 ⟨k,hk,rfl,rfl⟩) fun c s2 ⟨H2,J,e1,e2⟩=>by
  subst e1 e2;exact⟨.bl (!c),H2,J,rfl,q⟩)
section
variable{t:TA}
end
inductive rQ(K:Ae)(x:V)(y:V)(H:Hp)(Q:VK):Prop
 | mk (p:_) (q:_) (xs:_) (q0:x=.ref p) (q1:y=.ref q) (q2:SqL K H p xs) (q3:SqL K H q []) (q4:Q (.bl (decide (xs=[]))) H):rQ K x y H Q
def aDj(K:Ae):V->V->Hp->VK->Prop:=fun x y H Q=>rQ K x y H Q
def aB5(J:X.A.units<cLine):OpR X (compareOp .Eq) (aDj X.K):=by
 intro dl s σ H x y v u Q I U O h;obtain⟨p,q,xs,rfl,rfl,h1,h2,hq⟩:=h;cases xs with
 | nil=>exact aAH J dl s σ H _ _ v u Q I U O ⟨p,q,[],[],rfl,rfl,h1,h2,rfl,rfl,hq⟩
 | cons z r=>
  cases U;cases O;obtain⟨us,r1,p1,_⟩:=I.list h1;obtain⟨ws,r2,p2,_⟩:=I.list h2;have W:=r1.length;have Y:=r2.length;refine SeqAt.eq_list_lengthsAt p1.isList p2.isList (by simp at W Y ⊢;lia) J ?_;rw[Ie (show¬ (z::r)=[] by simp)]at hq;exact⟨.bl _,H,I,rfl,hq⟩
structure aNv(T:Ag)(Ps:List Pos)(qual:Str)(H:Hp):Prop where
 ex:∃ ps,H T=some (.tbl ps)/\TriplesOk ps.toList/\∀ pos∈Ps,codeAmong pos ps.toList=none\/∃ c,codeAmong pos ps.toList=some (.ref c)/\H c=some (aHc c qual)
section
variable{k:Nat}{x:Str}{p:Pos}
end
section
variable{ta:TA}
end
abbrev Kq(H H':Hp):Prop:=∀ b o,H b=some o->(∀ kv r,o≠.dK (kv::r))->(∀ ps,o≠.tbl ps)->H' b=some o
def aMl(M:DM)(Γ:Er)(p:Pos)(e:End)(s':Ad)(h:Option Ac)(g:Bool)(l:List Ac)(k:Hh->Sem Fin)(s₁:Ad):End->Prop
 | .ret r=>Eb M Γ p (k r) [] s₁ e s'
 | .susp v g₀ l₀ k₀ c₀ p₀ fs=>e=.susp v g₀ l₀ k₀ c₀ p₀ (fs++[.ret k h g l Γ.code p []])/\s'=s₁
def aKj(M:DM)(Γ:Er)(p:Pos)(g:Nat)(s:Ad)(r:Resume)(res:GenResult)(s1:Ad):EU->Prop
 | .fresh c=>(r=.send .none/\∃ e₁ s₁,Eb M (Γ.wake c p) p (M.den c) [] (s.setGen g .running) e₁ s₁/\res=e₁.result/\s1=s₁.setGen g e₁.genState)\/(∃ v,r=.send v/\v≠.none/\res=.justStarted/\s1=s)\/∃ x,r=.throw x/\res=.raised x/\s1=s.setGen g .finished
 | .suspended k₀ _ c₀ p₀ fs _=>∃ e₁ s₁,Eb M (Γ.wake c₀ p) p₀ (k₀ r) fs (s.setGen g .running) e₁ s₁/\res=e₁.result/\s1=s₁.setGen g e₁.genState
 | .running=>res=.running/\s1=s
 | .finished=>res=.finished/\s1=s
def aM6(M:DM)(Γ:Er)(e:End)(s':Ad)(F:Frame)(fs:List Frame)(s₁:Ad):End->Prop
 | .ret r=>match F with
  | .ret k _ _ _ c₁ p₁ _=>Eb M (Γ.goto c₁) p₁ (k r) fs s₁ e s'
  | .gen g k _ c₁ p₁=>Eb M (Γ.goto c₁) p₁ (k (End.ret r).result) fs (s₁.setGen g .finished) e s'
 | .susp v g₀ l₀ k₀ c₀ p₀ fs₀=>(splitAtGen (F::fs)=none->e=.susp v g₀ l₀ k₀ c₀ p₀ (fs₀++F::fs)/\s'=s₁)/\
  ∀ pre g k c₁ p₁ aY,splitAtGen (F::fs)=some (pre,(g,k,c₁,p₁),aY)->Eb M (Γ.goto c₁) p₁ (k (.yielded v)) aY (s₁.setGen g (End.susp v g₀ l₀ k₀ c₀ p₀ (fs₀++pre)).genState) e s'
def aM7(M:DM)(Γ:Er)(p:Pos)(s:Ad)(e:End)(s':Ad):Sem Fin->Prop
 | .pure (.done f)=>e=.ret (.ok f)/\s'=s
 | .pure (.again c)=>Eb M (Γ.goto c) p (M.den c) [] s e s'
 | .raise x=>e=.ret (.error x)/\s'=s
 | .yield v g l k=>e=.susp v g l k Γ.code p []/\s'=s
 | .rule _ k=>Eb M Γ p (k ()) [] s e s'
 | .at p' k=>Eb M Γ p' (k ()) [] s e s'
 | .load a _ k=>∃ o,s.heap.get? a=some o/\Eb M Γ p (k o) [] s e s'
 | .update a _ f k=>Eb M Γ p (k ()) [] { s with heap:=s.heap.update a f } e s'
 | .loadIfAlive a k=>Eb M Γ p (k (s.heap.get? a)) [] s e s'
 | .point _ k=>Eb M Γ p (k ()) [] s e s'
 | .alloc o k=>Eb M Γ p (k s.heap.objs.size) [] { s with heap:=s.heap.push o } e s'
 | .fresh k=>Eb M Γ p (k s.toks) [] { s with toks:=s.toks+1 } e s'
 | .ask k=>Eb M Γ p (k ⟨M.prog,M.w.params⟩) [] s e s'
 | .choose src n k=>Eb M Γ p (k (M.w.draws src (s.drawn.get src)%n)) [] { s with drawn:=s.drawn.bump src } e s'
 | .os q _ k=>Eb M Γ p (k (Os.step s.os q).2) [] { s with os:=(Os.step s.os q).1 } e s'
 | .handled own k=>Eb M Γ p (k (if own then Γ.own else Γ.handled)) [] s e s'
 | .genState g k=>∃ st,s.gens[g]?=some st/\Eb M Γ p (k st.seen) [] s e s'
 | .stack k=>Eb M Γ p (k ((Γ.code,p)::Γ.below)) [] s e s'
 | .thread k=>Eb M Γ p (k 0) [] s e s'
 | .newGen c k=>Eb M Γ p (k s.gens.size) [] { s with gens:=s.gens.push (.fresh c) } e s'
 | .call c h g l k=>∃ e₁ s₁,Eb M (Γ.enter c h p) p (M.den c) [] s e₁ s₁/\aMl M Γ p e s' h g l k s₁ e₁
 | .resume g r _ k=>∃ st res s1,s.gens[g]?=some st/\aKj M Γ p g s r res s1 st/\Eb M Γ p (k res) [] s1 e s'
 | _=>True
def aMm(M:DM)(Γ:Er)(p:Pos)(t:Sem Fin)(s:Ad)(e:End)(s':Ad):List Frame->Prop
 | []=>aM7 M Γ p s e s' t
 | F::fs=>∃ e₁ s₁,Eb M (Γ.over (F::fs)) p t [] s e₁ s₁/\aM6 M Γ e s' F fs s₁ e₁
section
variable{M:DM}{Γ:Er}{p:Pos}{t:Sem Fin}{fs:List Frame}{e:End}{s':Ad}
def fW(h:Eb M Γ p t fs s e s'):aMm M Γ p t s e s' fs:=by
 induction h with
 | done=>exact⟨rfl,rfl⟩
 | raise=>exact⟨rfl,rfl⟩
 | yield=>exact⟨rfl,rfl⟩
 | load q r=>exact⟨_,q,r⟩
 | genState q r=>exact⟨_,q,r⟩
 | call a b=>exact⟨_,_,a,b⟩
 | callSusp a=>exact⟨_,_,a,rfl,rfl⟩
 | resumeFresh q a c b=>exact⟨_,_,_,q,.inl ⟨rfl,_,_,a,rfl,rfl⟩,b⟩
 | resumeSuspended q a c b=>exact⟨_,_,_,q,⟨_,_,a,rfl,rfl⟩,b⟩
 | resumeJustStarted q n r=>exact⟨_,_,_,q,.inr (.inl ⟨_,rfl,n,rfl,rfl⟩),r⟩
 | resumeThrowFresh q r=>exact⟨_,_,_,q,.inr (.inr ⟨_,rfl,rfl,rfl⟩),r⟩
 | resumeRunning q r=>exact⟨_,_,_,q,⟨rfl,rfl⟩,r⟩
 | resumeFinished q r=>exact⟨_,_,_,q,⟨rfl,rfl⟩,r⟩
 | segRet a b=>exact⟨_,_,a,b⟩
 | segGen a b=>exact⟨_,_,a,b⟩
 | segSuspOut q a=>exact⟨_,_,a,⟨fun _=>⟨rfl,rfl⟩,fun _ _ _ _ _ _ J=>by cases q.symm.trans J⟩⟩
 | segSuspGen q a _ b=>exact⟨_,_,a,⟨fun J=>(by cases q.symm.trans J),fun _ _ _ _ _ _ J=>by cases q.symm.trans J;exact b⟩⟩
 | _=>assumption
def pH{g:Nat}{r:Resume}{l:List Ac}{k:GenResult->Sem Fin}{st:EU}(h:Eb M Γ p (.resume g r l k) [] s e s')(q:s.gens[g]?=some st):∃ J s1,aKj M Γ p g s r J s1 st/\Eb M Γ p (k J) [] s1 e s':=by
 obtain⟨_,_,_,q2,w,b⟩:=fW h;cases q.symm.trans q2;exact⟨_,_,w,b⟩
def w6(h:Eb M Γ p t fs s e s'):∀{Y:End}{W:Ad},Eb M Γ p t fs s Y W->e=Y/\s'=W:=by
 have y:∀{a b:End} {c d:Ad},a=b/\c=d->b=a/\d=c:=fun h=>⟨h.1.symm,h.2.symm⟩
 induction h with
 | done=>exact fun h=>y (fW h)
 | raise=>exact fun h=>y (fW h)
 | yield=>exact fun h=>y (fW h)
 | load q _ U=>exact fun h=>by obtain⟨_,q2,r⟩:=fW h;cases q.symm.trans q2;exact U r
 | genState q _ U=>exact fun h=>by obtain⟨_,q2,r⟩:=fW h;cases q.symm.trans q2;exact U r
 | call _ _ J O=>exact fun h=>by obtain⟨_,_,a,b⟩:=fW h;obtain⟨rfl,rfl⟩:=J a;exact O b
 | callSusp _ J=>exact fun h=>by obtain⟨_,_,a,b⟩:=fW h;obtain⟨rfl,rfl⟩:=J a;exact y b
 | resumeFresh q _ _ _ J O=>
  intro _ _ h;obtain⟨_,_,⟨_,_,_,a,rfl,rfl⟩|⟨_,e,n,_⟩|⟨_,e,_⟩,b⟩:=pH h q
  .obtain⟨rfl,rfl⟩:=J a;exact O b
  .cases e;exact absurd rfl n
  .cases e
 | resumeSuspended q _ _ _ J O=>exact fun h=>by obtain⟨_,_,⟨_,_,a,rfl,rfl⟩,b⟩:=pH h q;obtain⟨rfl,rfl⟩:=J a;exact O b
 | resumeJustStarted q n _ U=>
  intro _ _ h;obtain⟨_,_,⟨e,_⟩|⟨_,_,_,rfl,rfl⟩|⟨_,e,_⟩,b⟩:=pH h q
  .cases e;exact absurd rfl n
  .exact U b
  .cases e
 | resumeThrowFresh q _ U=>
  intro _ _ h;obtain⟨_,_,⟨e,_⟩|⟨_,e,_⟩|⟨_,e,rfl,rfl⟩,b⟩:=pH h q
  .cases e
  .cases e
  .cases e;exact U b
 | resumeRunning q _ U=>exact fun h=>by obtain⟨_,_,⟨rfl,rfl⟩,b⟩:=pH h q;exact U b
 | resumeFinished q _ U=>exact fun h=>by obtain⟨_,_,⟨rfl,rfl⟩,b⟩:=pH h q;exact U b
 | segRet _ _ J O=>exact fun h=>by obtain⟨_,_,a,b⟩:=fW h;obtain⟨rfl,rfl⟩:=J a;exact O b
 | segGen _ _ J O=>exact fun h=>by obtain⟨_,_,a,b⟩:=fW h;obtain⟨rfl,rfl⟩:=J a;exact O b
 | segSuspOut q _ J=>exact fun h=>by obtain⟨_,_,a,b⟩:=fW h;obtain⟨rfl,rfl⟩:=J a;exact y (b.1 q)
 | segSuspGen q _ _ _ J O=>exact fun h=>by obtain⟨_,_,a,b⟩:=fW h;obtain⟨rfl,rfl⟩:=J a;exact O (b.2 _ _ _ _ _ _ q)
 | _=>rename_i U;exact fun h=>U (fW h)
end
def aFI{M:DM}{Γ:Er}{p:Pos}{g:Nat}{r:Resume}{s:Ad}{U O:GenResult}{s' W:Ad}(h:Wakes M Γ p g r s U s')(J:Wakes M Γ p g r s O W):U=O/\s'=W:=by
 unfold Wakes at h J;split at h
 .exact h.elim
 .rename_i c e;rw[e]at J;split at h
  .dsimp only at J;obtain⟨e₁,s₁,a,_,rfl,rfl⟩:=h;obtain⟨e₂,s₂',a₂,_,rfl,rfl⟩:=J;obtain⟨x,y⟩:=w6 a a₂;cases x;cases y;exact⟨rfl,rfl⟩
  .rename_i Y;dsimp only at J;split at J
   .rename_i hz;injection hz with hz;exact absurd hz Y
   .obtain⟨rfl,rfl⟩:=h;obtain⟨rfl,rfl⟩:=J;exact⟨rfl,rfl⟩
   .rename_i hz;cases hz
  .dsimp only at J;obtain⟨rfl,rfl⟩:=h;obtain⟨rfl,rfl⟩:=J;exact⟨rfl,rfl⟩
 .rename_i e;rw[e]at J;dsimp only at J;obtain⟨e₁,s₁,a,_,rfl,rfl⟩:=h;obtain⟨e₂,s₂',a₂,_,rfl,rfl⟩:=J;obtain⟨x,y⟩:=w6 a a₂;cases x;cases y;exact⟨rfl,rfl⟩
 all_goals
  rename_i e;rw[e]at J;dsimp only at J;obtain⟨rfl,rfl⟩:=h;obtain⟨rfl,rfl⟩:=J;exact⟨rfl,rfl⟩
def aJf{α:Type}{M:DM}{Γ:Er}:∀(t:Sem α) {Q U:α->Pos->Ad->Prop}{E O:Ac->Pos->Ad->Prop}{p:Pos}{s:Ad},Cn M Γ t Q E p s->Cn M Γ t U O p s->Cn M Γ t (fun a p s=>Q a p s/\U a p s) (fun e p s=>E e p s/\O e p s) p s:=by
 intro t
 induction t with
 | pure a=>intro Q U E O p s h h';rw[Cn]at *;exact⟨h,h'⟩
 | raise e=>intro Q U E O p s h h';rw[Cn]at *;exact⟨h,h'⟩
 | unsupported w=>intro Q U E O p s h h';rw[Cn]at h;exact h.elim
 | finish w=>intro Q U E O p s h h';rw[Cn]at h;exact h.elim
 | register w k=>intro Q U E O p s h h';rw[Cn]at h;exact h.elim
 | yield v g l k=>intro Q U E O p s h h';rw[Cn]at h;exact h.elim
 | fork c k=>intro Q U E O p s h h';rw[Cn]at h;exact h.elim
 | await a f d l k=>intro Q U E O p s h h';rw[Cn]at h;exact h.elim
 | rule W k J=>intro Q U E O p s h h';rw[Cn]at *;exact J _ h h'
 | «at» q k J=>intro Q U E O p s h h';rw[Cn]at *;exact J _ h h'
 | load a q k J=>
  intro Q U E O p s h h';rw[Cn]at *;obtain⟨o,x,y⟩:=h;obtain⟨o',x',y'⟩:=h';rw[x]at x';cases x';exact⟨o,x,J _ y y'⟩
 | update a q f k J=>intro Q U E O p s h h';rw[Cn]at *;exact⟨h.1,J _ h.2 h'.2⟩
 | loadIfAlive a k J=>intro Q U E O p s h h';rw[Cn]at *;exact J _ h h'
 | point l k J=>intro Q U E O p s h h';rw[Cn]at *;exact J _ h h'
 | alloc o k J=>intro Q U E O p s h h';rw[Cn]at *;exact J _ h h'
 | fresh k J=>intro Q U E O p s h h';rw[Cn]at *;exact J _ h h'
 | ask k J=>intro Q U E O p s h h';rw[Cn]at *;exact J _ h h'
 | choose Y n k J=>intro Q U E O p s h h';rw[Cn]at *;exact⟨h.1,J _ h.2 h'.2⟩
 | os q l k J=>intro Q U E O p s h h';rw[Cn]at *;exact J _ h h'
 | call c hd g l k J=>
  intro Q U E O p s h h';rw[Cn]at *;obtain⟨r,s1,a,b⟩:=h;obtain⟨r',s1',a',b'⟩:=h';obtain⟨x,y⟩:=w6 a a';cases x;cases y;exact⟨r,s1,a,J _ b b'⟩
 | handled own k J=>intro Q U E O p s h h';rw[Cn]at *;exact J _ h h'
 | genState g k J=>
  intro Q U E O p s h h';rw[Cn]at *;obtain⟨o,x,y⟩:=h;obtain⟨o',x',y'⟩:=h';rw[x]at x';cases x';exact⟨o,x,J _ y y'⟩
 | newGen c k J=>intro Q U E O p s h h';rw[Cn]at *;exact J _ h h'
 | resume g r l k J=>
  intro Q U E O p s h h';rw[Cn]at *;obtain⟨res,s1,a,b⟩:=h;obtain⟨res',s1',a',b'⟩:=h';obtain⟨x,y⟩:=aFI a a';cases x;cases y;exact⟨res,s1,a,J _ b b'⟩
 | stack k J=>intro Q U E O p s h h';rw[Cn]at *;exact J _ h h'
 | thread k J=>intro Q U E O p s h h';rw[Cn]at *;exact J _ h h'
def rS{α:Type}{M:DM}{A:AK}{t:Sem α}{Q O:α->Ad->Prop}{E J:Ac->Ad->Prop}{s:Ad}(h:wpAny M A t Q E s)(h':wpAny M A t O J s):wpAny M A t (fun a s=>Q a s/\O a s) (fun e s=>E e s/\J e s) s:=
 fun Γ p i=>aJf t (h Γ p i) (h' Γ p i)
inductive aHe(h:Bb)(x:Ag):Prop
 | mk (ob:_) (vs:_) (T:_) (oT:_) (ts:_) (q0:h.get? x=some ob) (q1:ob.data=.fields vs) (q2:vs[2]?=some .none) (q3:vs[1]?=some (.ref T)) (q4:T≠x) (q5:h.get? T=some oT) (q6:oT.data=.fields ts) (q7:3<ts.size):aHe h x
def aM8(h:Bb)(x:Ag):Prop:=aHe h x
section
variable{M:DM}
end
def CXc(P:Ar)(w:AW):CXT:=fun outer H s E e s'=>CXr P w outer H s E e s'/\∃ x,e=.ref x/\aM8 s'.heap x
section
variable{N:List Str}{E:XK}
end
section
variable{env:Env}{nm q:Str}{N:Ag}{bs bm:List Ac}{hdct:Bool}{sn:List Str}{sub:List Ac}{ab:Bool}{col:Option Bool}{dd:Option Ag}{k0 k1 k2 k3 k5:Option Ac}{newId:String}
end
section
variable{env:Env}
variable{nm q:Str}{N:Ag}{bs bm fh:List Ac}{hdct:Bool}{sn:List Str}{sub:List Ac}{ab:Bool}{col:Option Bool}{dd:Option Ag}{k0 k1 k2 k3 k5:Option Ac}{B newId fg:String}
end
section
variable{N:List Str}{E:XK}
end
inductive aKk(X:Cx)(dl:Ii)(σ:St)(E':XK)(x:Ac)(s':Ad):Prop
 | mk (H1:_) (s1:_) (q0:Inv X dl σ H1 s1) (q1:CXc X.prog X.w X.stack H1 s1 E' x s'):aKk X dl σ E' x s'
def XPc(X:Cx)(dl:Ii)(σ:St)(E':XK)(x:Ac)(s':Ad):Prop:=aKk X dl σ E' x s'
structure PXc(X:Cx)(e:Bf)(te:XK->TE):Prop where
 run:∀(E':XK) (dl:Ii) (s:Ad) (σ:St) (H:Hp) (Q:VK),Inv X dl σ H s->te E' σ H Q->wpAny (model X.prog X.w) X.A (eval e X.env) (EP X dl σ Q) (XPc X dl σ E') s
structure aNC(X:Cx)(b:List BA)(tb:XK->TS):Prop where
 run:∀(E':XK) (dl:Ii) (s:Ad) (σ:St) (H:Hp) (D:lY),Inv X dl σ H s->tb E' D σ H->wpAny (model X.prog X.w) X.A (execs b X.env) (SP X dl D) (XPc X dl σ E') s
section
variable{k:Nat}{fd:Ay}{ps:List Str}{sp:Sp}{x:Str}{p:Pos}{t:TA}{te:XK->TE}
end
section
variable{N:List Str}{E:XK}
end
mutual
inductive RdL(H:Hp):V->Aj->Prop
 | non:RdL H .non .none
 | bl (b:Bool):RdL H (.bl b) (.bool b)
 | int (i:Int):RdL H (.int i) (.int i)
 | str (z:Str):RdL H (.str z) (.str z)
 | lst {a:Ag} {xs:List V} {ds:List Aj} (e:H a=some (.lst xs)) (n:a≠sysModules) (r:aHf H xs ds):RdL H (.ref a) (.list ds)
 | tup {a:Ag} {xs:List V} {ds:List Aj} (e:H a=some (.tup xs)) (r:aHf H xs ds):RdL H (.ref a) (.tuple ds)
 | dc0 {a:Ag} (e:H a=some (.dK [])):RdL H (.ref a) (.dict [])
 | dc1 {a:Ag} {k:Str} {v:V} {d:Aj} (e:H a=some (.dK [(Ak k,v)])) (r:RdL H v d):RdL H (.ref a) (.dict [(.str k,d)])
inductive aHf(H:Hp):List V->List Aj->Prop
 | nil:aHf H [] []
 | cons {x:V} {d:Aj} {xs:List V} {ds:List Aj} (a:RdL H x d) (r:aHf H xs ds):aHf H (x::xs) (d::ds)
end
def hid(H:Hp)(h:Ag):Hp:=fun b=>if b=h then none else H b
def aHg{H:Hp}{h:Ag}:hid H h h=none:=Ib rfl
def tH{H:Hp}{h b:Ag}(n:b≠h):hid H h b=H b:=Ia n
section
variable{σ1:St}{H1:Hp}{s1:Ad}{h:Ag}{xs:List V}
end
inductive aHh(h:Bb)(x D:Ag):Prop
 | mk (ob:_) (vs:_) (T:_) (oT:_) (ts:_) (q0:h.get? x=some ob) (q1:ob.data=.fields vs) (q2:ob.dict=some D) (q3:vs[1]?=some (.ref T)) (q4:T≠x) (q5:h.get? T=some oT) (q6:oT.data=.fields ts) (q7:3<ts.size):aHh h x D
def aAP(h:Bb)(x D:Ag):Prop:=aHh h x D
def w8{o:Obj}{f:Array Ac->Array Ac}:(ES f o).dict=o.dict:=by
 unfold ES;split<;>rfl
section
variable{M:DM}{D:Ag}
def aEh{base:Bb}{env:Env}{outer:List Env}{L e:Ag}{U:Obj}{vs:Array Ac}{head:Ac}{J:Bool}
  (Y:A.frames=some (env::outer)) (hl:s.heap.FunFrames base (env::outer)) (hf:env.frame=some L) (he:s.heap.get? e=some U) (hd:U.data=.fields vs) (W:1<vs.size) (h2:U.dict=some D):
  wpAny M A (do let a <- frameOf env;let pl <- entryPlaceOf L J;let b <- EntryCells.newEntry head a .none (rawInt L) .none pl;setField (.ref e) 1 b) (fun _ s'=>aAP s'.heap e D) E s:=by
 have O:e∉(env::outer).filterMap (·.frame):=fun hm=>by
  obtain⟨_,o,ho,hnf⟩:=hl.mem hm;rw[he]at ho;cases ho;exact hnf vs hd
 refine Aa (wpAny_frameOf_fun Y hl hf fun h1 q1=>Aa (wpAny_entryPlaceOf fun pl Z=>?_));unfold EntryCells.newEntry newFields;refine Aa (BH ?_ (Z.sizeOk5 _ _ _ _ _));have e1:h1.get? e=some U:=(q1.2.1 e O).trans he;refine CO (Ah _ e1) hd (by lia) ?_;have ne:h1.objs.size≠e:=CD (Az e1);refine⟨_,_,h1.objs.size,_,_,Bo _ (Ah _ e1) (CL (BQ hd _)),BQ hd _,w8.trans h2,?_,ne,(BO _ _ ne.symm).trans (AE _ rfl),rfl,?_⟩
 .simp[W]
 .simp only[Au,Am,An,El];lia
def w9{e:Ag}(h:aAP s.heap e D):wpAny M A (setFlight (.ref e) none) (fun _ s'=>aAP s'.heap e D) E s:=by
 obtain⟨ob,vs,T,oT,ts,h1,h2,h3,h4,h5,h6,h7,h8⟩:=h;unfold setFlight;refine Aa (Et h1 h2 h4 ?_);rw[Ib (show(AV T != BY)=true from by simp)];refine CO h6 h7 h8 ⟨ob,vs,T,_,_,(BO _ _ h5).trans h1,h2,h3,h4,h5,Bo _ h6 (CL (BQ h7 _)),BQ h7 _,?_⟩;rw[Array.size_setIfInBounds];exact h8
def aB6{base:Bb}{env:Env}{outer:List Env}{L e:Ag}{O:Obj}{vs:Array Ac}
  (J:A.frames=some (env::outer)) (Y:s.heap.FunFrames base (env::outer)) (W:env.frame=some L) (U:s.heap.get? e=some O) (hd:O.data=.fields vs) (h1:vs[1]?=some .none) (h2:O.dict=some D):
  wpAny M A (noteFrame (.ref e) env) (fun _ s'=>aAP s'.heap e D) E s:=by
 unfold noteFrame;simp only[W];refine Aa (Et U hd h1 ?_);rw[Ia (by decide)];exact aEh J Y W U hd (Array.getElem?_eq_some_iff.mp h1).1 h2
def aDk{base:Bb}{env:Env}{outer:List Env}{L e:Ag}(O:A.frames=some (env::outer))(Y:s.heap.FunFrames base (env::outer))(W:env.frame=some L)(h:aAP s.heap e D):
  wpAny M A (noteFrame (.ref e) env) (fun _ s'=>aAP s'.heap e D) E s:=by
 obtain⟨ob,vs,T,oT,ts,h1,h2,h3,h4,h5,h6,h7,h8⟩:=id h;unfold noteFrame;simp only[W];refine Aa (Et h1 h2 h4 ?_);rw[Ib (show(AV T != BY)=true from by simp)];refine Aa (Et h6 h7 (BZ h8) ?_);split
 .exact Af h
 .refine Aa (CO h6 h7 h8 ?_);have other:∀ b,b≠T->(s.heap.update T (ES (·.setIfInBounds 3 BY))).get? b=s.heap.get? b:=fun b J=>BO _ _ (CY J)
  refine aEh (base:=base) O (Y.of_keeps fun b o J U=>⟨o,(other b fun z=>?_).trans J,rfl⟩) W ((other e h5.symm).trans h1) h2 (Array.getElem?_eq_some_iff.mp h4).1 h3;rw[z,h6]at J;cases J;exact U ts h7
def aAQ{base:Bb}{env:Env}{outer:List Env}{L e:Ag}{O:Obj}{vs:Array Ac}
  (J:A.frames=some (env::outer)) (W:s.heap.FunFrames base (env::outer)) (Y:env.frame=some L) (U:s.heap.get? e=some O) (hd:O.data=.fields vs) (h1:vs[1]?=some .none) (h2:O.dict=some D):
  wpAny M A (leaving env (.ref e)) (fun _ s'=>aAP s'.heap e D) E s:=by
 unfold leaving;exact Aa (Bt (aB6 J W Y U hd h1 h2) (fun _ s' h'=>w9 h') fun _ _ z=>z)
end
section
variable{g:Array EU}{d:Hw}{t:Nat}{os:OsState}
variable{nm q:Str}{N:Ag}{bs bm fh:List Ac}{hdct:Bool}{sn:List Str}{sub:List Ac}{ab:Bool}{col:Option Bool}{dd:Option Ag}{k0 k1 k2 k3 k5:Option Ac}{B newId fg:String}
abbrev aDl(C:Ag)(t:Ag):Obj:={ cls:=.ref C,data:=.fields #[.ref t,.none,.none,.none,.bool false,.none] }
abbrev jU(h:Bb)(C:Ag)(aY:List Ac):Bb:=(h.push { cls:=.type "tuple",data:=.seq aY.toArray }).push (aDl C h.objs.size)
def uT(F:Gs B newId fg fh)(T:OwnTail h fh bm){mN:Str->Option Ac}{aY:List Ac}{Z:Ag}{oI:Obj}{Q:Fin->Ad->Prop}
  (U:h.get? C=some (excClassObj nm q C N bs bm hdct sn sub ab col dd k0 k1 k2 k3 k5 newId)) (hn:h.Ns N mN) (hi:mN "__init__"=some (.ref Z))
  (ad:h.get? Z=some oI) (aa:oI.cls=.type "function")
  (hq:wpAny (model prog w) A (call (.ref Z) (.ref (h.objs.size+1)::aY)) (fun r s'=>r=.none/\Q (.done (.ret (.ref (h.objs.size+1)))) s') E ⟨jU h C aY,g,d,t,os⟩) (J:aY.length<=sizeLine):
  wpAny (model prog w) A (Builtin.«type.__call__» ⟨.ref C::aY,[]⟩) Q E ⟨h,g,d,t,os⟩:=by
 repeat (first|with_reducible refine D9 U ?_|with_reducible refine wpAny_madeBy_exc U ?_|wp_step)
 refine codeAny_call_builtin_code (DN _ F.quiet) (wpAny_check_new_subT F T U ?_);refine codeAny_exc_new_subT F T U ?_ J;show wpAny _ _ _ _ _ _;have kp:∀ b o,h.get? b=some o->(jU h C aY).get? b=some o:=fun b o e=>Ah _ (Ah _ e);have Y:=kp _ _ U;have W:=kp _ _ ad;have af:(jU h C aY).Ns N mN:=let ⟨o,es,ep,e,r⟩:=hn;⟨o,es,ep,kp _ _ e,r⟩
 have O:(jU h C aY).get? (h.objs.size+1)=some (aDl C h.objs.size):=by heap_get
 have ac:(AV C::bm).contains (.ref C)=true:=by simp
 have T₁:=T.keeps (h':=jU h C aY) kp;unfold isInstance
 repeat (first|with_reducible refine D9 O ?_|(with_reducible refine wpAny_isSubtype_exc Y ?_;rw[ac])|wp_step)
 show wpAny _ _ (typeLookup (.ref C) _) _ _ _;refine wpAny_typeLookup_tail Y af T₁ F.mroIs F.init.lookup ?_;rw[hi];refine Bg (Aa ?_);unfold bindSpecial;refine Aa (Cf (T:="function") ⟨_,W,aa⟩ ?_);rw[Ib (by decide)];refine Af (Aa (Bt hq (fun r s' hr=>?_) fun _ _ x=>x));obtain⟨rfl,hQ⟩:=hr
 wp_walk
 exact hQ
def aDm(F:Gs B newId fg fh)(T:OwnTail h fh bm){mN:Str->Option Ac}{aY:List Ac}{U:Ag}{Z:Obj}{Q:Ac->Ad->Prop}
  (O:h.get? C=some (excClassObj nm q C N bs bm hdct sn sub ab col dd k0 k1 k2 k3 k5 newId)) (hn:h.Ns N mN) (hi:mN "__init__"=some (.ref U))
  (Y:h.get? U=some Z) (W:Z.cls=.type "function")
  (hq:wpAny (model prog w) (A.under (.builtin "type.__call__" ⟨.ref C::aY,[]⟩)) (call (.ref U) (.ref (h.objs.size+1)::aY)) (fun r s'=>r=.none/\Q (.ref (h.objs.size+1)) s') E ⟨jU h C aY,g,d,t,os⟩) (J:aY.length<=sizeLine):
  wpAny (model prog w) A (call (.ref C) aY) Q E ⟨h,g,d,t,os⟩:=by
 have f1:=tc_lookup;have f2:=tc_bind (.ref C);have hT:(⟨h,g,d,t,os⟩:Ad).TypeIs (.ref C) "type":=⟨_,O,rfl⟩
 refine CC (Fy ?_);show wpAny _ _ (callAny (.ref C) _) _ _ _
 repeat (any_goals (first|assumption|with_reducible refine D9 O ?_|wp_step))
 exact⟨rfl,codeAny_call_builtin_at (DN _ (by trivial)) entry_typeCall (wpAny_check_type_call_sub O (uT F T O hn hi Y W hq J))⟩
end
def CXd(P:Ar)(w:AW):CXT:=fun outer H s E e s'=>∃ D,CXr P w outer H s (fun C _ H'=>E C (some D) H') e s'/\∃ x,e=.ref x/\aAP s'.heap x D
def iJ(y:Ag)(C:Ag)(dx:Option Ag):HO:=.ext fun h=>∃ t sl,h.get? y=some ⟨.ref C,dx,.fields #[.ref t,.none,.none,.none,.bool false,.none],sl⟩
section
variable{N:List Str}{E:XK}
def aJg{dl:Ii}{σ:St}{H1:Hp}{s1:Ad}{e C:Ag}{dx:Option Ag}(I:Inv (iV (CXr P w) P w K mg base N qual scope f cd A outer s H E) dl σ H1 s1)
  (hx:H1 e=some (iJ e C dx)) (aa:s.heap.get? e=none) (hE:E (.ref C) none (hid H1 e)):(iV (CXr P w) P w K mg base N qual scope f cd A outer s H E).xe (.ref e) s1:=by
 have ag:∀ env∈(envOfC qual scope s.heap.objs.size f cd::outer),∀ b,env.frame=some b->b∈e::frs (envOfC qual scope s.heap.objs.size f cd::outer):=fun env O b J=>.tail _ (Cm.mpr ⟨env,O,J⟩);have W:s1.heap.FunFrames base (envOfC qual scope s.heap.objs.size f cd::outer):=I.stack;have af:∀ b∈frs (envOfC qual scope s.heap.objs.size f cd::outer),H1 b=none:=I.stkFree;obtain⟨⟨t,sl,O⟩,_⟩:cZ P w H1 s1.heap e (iJ e C dx):=I.hok _ _ hx;show wpAny _ _ (leaving _ _) _ _ _;have hB:∀ b o,(hideAll s1.heap (e::frs (envOfC qual scope s.heap.objs.size f cd::outer))).get? b=some o->s1.heap.get? b=some o:=fun b o q=>of_hideAll _ q;have Z:(hideAll s1.heap (e::frs (envOfC qual scope s.heap.objs.size f cd::outer))).get? e=none:=hideAll_none _ AQ;refine wpAny_leaving_firstW (base:=hideAll s1.heap (e::frs (envOfC qual scope s.heap.objs.size f cd::outer))) (a0:=.ref t) (L:=s.heap.objs.size) I.ok.frames (funFrames_hide W ag) rfl O hB Z rfl rfl rfl fun ad ae=>?_;have⟨y1,⟨_,_,y2⟩,y3,x4⟩:=ae;have x1:Heap.FlyingW (hideAll s1.heap (e::frs (envOfC qual scope s.heap.objs.size f cd::outer))) outer e (.ref C) (.ref t) ad:=⟨y1,Z,y2,y3⟩
 have hL:∀ b,b∈frs (envOfC qual scope s.heap.objs.size f cd::outer)->b=s.heap.objs.size\/b∈frs outer:=fun b J=>by
  have⟨env,O,U⟩:=Cm.mp J;rcases Ao.mp O with rfl|O
  .exact .inl (BS.inj U).symm
  .exact .inr (Cm.mpr ⟨env,O,U⟩)
 have Y:∀ b o,s.heap.get? b=some o->b∉frs outer->b∉e::frs (envOfC qual scope s.heap.objs.size f cd::outer):=fun b o q nf hm=>by
  rcases Ao.mp hm with z|hm
  .rw[z,aa]at q;cases q
  .rcases hL b hm with z|z
   .rw[z]at q;exact absurd (Az q) (Cd _)
   .exact nf z
 have slot:∀ b o,s.heap.get? b=some o->H b=none->b∈frs outer->∃ sl,ad.get? b=some { o with slots:=sl }:=fun b o q n U=>by
  obtain⟨sl,e1⟩:=I.base.slot b o q n U (by simp[iV]);have hm:b∈frs (envOfC qual scope s.heap.objs.size f cd::outer):=by
   have⟨env,O,U⟩:=Cm.mp U;exact Cm.mpr ⟨env,.tail _ O,U⟩
  have⟨_,o2,e2,hd⟩:=W.mem hm;rw[e1]at e2;cases e2;obtain⟨sl2,e3⟩:=x4 b _ e1 hd;exact⟨sl2,e3⟩
 have nE:∀ b o,H1 b=some o->o≠iJ e C dx->b≠e:=fun b o q n z=>by
  rw[z,hx]at q;cases q;exact n rfl
 refine⟨e,.ref C,hid H1 e,rfl,⟨I.os,I.bare,⟨_,_,x1,fun a o q=>?_,fun b o q n nf=>HQ _ (I.base.keep b o q n nf (by simp[iV])) (Y b o q nf),fun b o q nf=>?_⟩,I.ok.frf,slot,fun b o q n=>?_,fun b xs q=>?_,fun b o u q=>?_,fun b ps q=>?_⟩,hE⟩
 .have ne:a≠e:=fun z=>by rw[z,aHg]at q;cases q
  rw[tH ne]at q;refine(I.hok a o q).stay (fun b u J e'=>HQ _ e' fun hm=>?_) (fun b q=>?_) fun b xs q=>?_
  .rcases Ao.mp hm with z|hm
   .rcases J with J|J
    .exact ne (J.symm.trans z)
    .rw[z,hx]at J;cases J
   .have hn:=af b hm;rcases J with rfl|J
    .rw[q]at hn;cases hn
    .rw[J]at hn;cases hn
  .rw[tH (nE b _ q (fun z=>nomatch z))];exact q
  .rw[tH (nE b _ q (fun z=>nomatch z))];exact q
 .obtain⟨o1,e1⟩:=I.base.there b o q (by simp[iV]);exact⟨o1,HQ _ e1 (Y b o q nf)⟩
 .have:=I.base.free b o q n (by simp[iV]);unfold hid;split
  .rfl
  .exact this
 .have q:=I.base.tups b xs q;rw[tH (nE b _ q (fun z=>nomatch z))];exact q
 .have q:=I.base.frzs b o u q;rw[tH (nE b _ q (fun z=>nomatch z))];exact q
 .obtain⟨more,q⟩:=I.base.tbls b ps q;exact⟨more,by rw[tH (nE b _ q (fun z=>nomatch z))];exact q⟩
def aHi{dl:Ii}{σ:St}{H1:Hp}{s1:Ad}{e C D:Ag}(I:Inv (iV (CXd P w) P w K mg base N qual scope f cd A outer s H E) dl σ H1 s1)
  (U:H1 e=some (iJ e C (some D))) (J:s.heap.get? e=none) (Y:E (.ref C) (some D) (hid H1 e)):(iV (CXd P w) P w K mg base N qual scope f cd A outer s H E).xe (.ref e) s1:=by
 have W:Inv (iV (CXr P w) P w K mg base N qual scope f cd A outer s H (fun C _ H'=>E C (some D) H')) dl σ H1 s1:=I.wish (iV (CXr P w) P w K mg base N qual scope f cd A outer s H (fun C _ H'=>E C (some D) H')).xe;have a:=aJg W U J Y;have O:s1.heap.FunFrames base (envOfC qual scope s.heap.objs.size f cd::outer):=I.stack;obtain⟨⟨t,sl,he⟩,_⟩:cZ P w H1 s1.heap e (iJ e C (some D)):=I.hok _ _ U;have b:=aAQ (M:=model P w) (A:=A.deeper (envOfC qual scope s.heap.objs.size f cd)) (E:=fun _ _=>False) (s:=s1) (base:=base) (e:=e) I.ok.frames O rfl he rfl rfl rfl;exact Bt (rS a b) (fun _ s2 ⟨Z,q2⟩=>⟨D,Z,e,rfl,q2⟩) fun _ _ z=>z.2.elim
def Fun.okRd{x qual:Str}{st:BA}{f:Ag}{fd:Ay}{N ps:List Str}{k:Nat}{sp:Sp}(F:Fun K x qual st f fd)(S:mG N ps (bC st))(len:∀ vs H Q E,sp vs H Q E->vs.length=ps.length)
  (O:∀(J:Ac) (A:AK) (outer:List Env) (s:Ad) (H:Hp) (vs:List V) (Q:VK) (E:XK),eO k (A.deeper (envOfC qual (bC st) s.heap.objs.size f J))->sp vs H Q E->
   ∃ t,PSs (iV (CXd P w) P w K mg base N qual (bC st) f J A outer s H E) (dZ st) t/\t { nx:=fun _ H'=>Q .non H',rt:=Q } (start N vs) H):cC P w K mg base (CXd P w) (k+1) f fd ps sp:=by
 obtain⟨oc,od,kV,doc,pm,an,J,ct,osl,rfl,lk,hcd⟩:=F.ex;exact aJ7 lk hcd S len fun A outer s H vs Q E W U=>O J A outer s H vs Q E W U
end
def qF:List Ac->Bool
 | .ref _::r=>qF r
 | l=>l==[.type "ValueError",.type "Exception",.type "BaseException",.type "object"]
def aFJ(self:Ac)(l:List Ac):qF l=true->refuseLoop self "__setattr__" l=pure ():=by
 induction l with
 | nil=>intro e;cases e
 | cons v r J=>
  intro e;cases v with
  | ref c=>rw[refuseLoop_ref];exact J e
  | _=>rw[beq_iff_eq.mp e];exact PySem.F.store_ValueError.passes self
def aK7(l:List Ac):qF l=true->l.contains (.type "object")=true:=by
 induction l with
 | nil=>intro e;cases e
 | cons v r J=>
  intro e;cases v with
  | ref c=>rw[List.contains_cons,J e,Bool.or_true]
  | _=>rw[beq_iff_eq.mp e];decide
section
variable{K:Frag}{x:Ag}{R:Hh->Ad->Prop}
def aFK{W:Obj}{od:Option Obj}{name:Str}{tk:Tok}{v:Ac}{r:Option Ac}(X:K.In s.heap)(I:InstAt s.heap x W C od)(Y:(clsIn K C).any (fun cd=>qF cd.mro)=true)(ht:takerIn K C name=some r)
  (h:∀ b,wpAny (model prog w) A.in1 (match r with|some a=>Builtin.ObjectAttr.setByDescriptor a (.ref x) v|none=>Builtin.ObjectAttr.storeInOwnDict (.ref x) (.ref C) (.str name tk) name v b)
   (fun O s'=>match O with|.done f=>R (.ok f) s'|.again c'=>c'.quiet=true/\codeAny (model prog w) A c' R s') (fun e s'=>R (.error e) s') s):
  codeAny (model prog w) A (.call (.builtin "object.__setattr__") ⟨[.ref x,.str name tk,v],[]⟩) R s:=by
 have J:=PySem.F.store_object;obtain⟨cd,hc,ho⟩:=any_some Y;have ne:cd.mro.isEmpty=false:=by cases q:cd.mro with|nil=>rw[q]at ho;cases ho|cons _ _=>rfl
 have sub:HR (model prog w) s.heap (isInstance (.ref x) (.type "object")) true:=I.type.andThen (GJ X (by unfold mroIn;rw[hc,Option.bind_some,Ia (by rw[ne];decide),aK7 _ ho]));refine C3 J.slot.plain J.entry (@check_slot (model prog w) _ _ s "object.__setattr__" "object" "__setattr__" (.ref x) [.str name tk,v] [] _ J.kind J.split sub (J.args (.ref x) (.str name tk) v) ?_);obtain⟨attr,ha,hr⟩:=Option.bind_eq_some_iff.mp ht;have hm:HR (model prog w) s.heap (mroOf (.ref C)) cd.mro:=(looks_clsIn X hc).andThen .now;have U:HR (model prog w) s.heap (Builtin.ObjectAttr.storeTaker? attr) r:=by
  cases attr with
  | none=>cases hr;exact .now
  | some a=>
   obtain⟨b,hb,rfl⟩:=BD.mp hr;refine(looks_takesIn X hb).andThen ?_;cases b<;>exact .now
 rw[osa_eq,refuse_eq];refine Aa (Aa (I.type.here (Aa (hm.here ?_))));rw[aFJ _ _ ho];refine Af (Aa (I.type.here (Aa ((EG X ha).here (Aa (U.here ?_))))));exact h _
def aJh{E:Ac->Ad->Prop}{name:Str}{v:Ac}{vs sl}{Q:Unit->Ad->Prop}(X:K.In s.heap)(W:s.heap.get? x=some ⟨.ref C,none,.fields vs,sl⟩)
  (hs:findIn K (.ref C) "__setattr__"=some (some (.builtin "object.__setattr__"))) (O:(clsIn K C).any (fun cd=>qF cd.mro)=true) (ht:takerIn K C name=some none) (hh:hasDictIn K C=true)
  (h:∀ h' tk,h'.get? x=some ⟨.ref C,some s.heap.objs.size,.fields vs,sl⟩->(∀ b o,b≠x->s.heap.get? b=some o->h'.get? b=some o)->h'.Ns1 s.heap.objs.size (fun y=>if y=name then some v else none)->Q () { s with heap:=h',toks:=tk }):
  wpAny (model prog w) A (setAttr (.ref x) name v) Q E s:=by
 have J:InstAt s.heap x ⟨.ref C,none,.fields vs,sl⟩ C none:=⟨W,rfl,rfl,Cw⟩
 refine set_plain X J hs (aFK (s:={ s with toks:=s.toks+1 }) (r:=none) X J O ht fun b=>?_);have⟨cd,hc,hd'⟩:=any_some hh;refine Aa (Af (Aa (Aa (wpAny_loadPart W (Aa (Looks.here (s:={ s with toks:=s.toks+1 }) (looks_clsIn X hc) ?_))))));rw[hd'];have⟨O,g,d,t,os⟩:=s;rw[Ia (by decide)];dsimp only at W h ⊢;rw[Ia (by simp[typeHasDict])];have U:(O.push { cls:=.type "dict",data:=.dict #[] }).get? x=some ⟨.ref C,none,.fields vs,sl⟩:=Ah _ W;have Y:x≠O.objs.size:=AU (Az W);refine Aa (wpAny_alloc' ?_);refine Aa (wpAny_update' U ?_);refine Af ?_;have af:((O.push { cls:=.type "dict",data:=.dict #[] }).update x fun o=>{ cls:=o.cls,dict:=some O.objs.size,data:=o.data,slots:=o.slots }).get? O.objs.size
   =some { cls:=.type "dict",data:=.dict #[] }:=
  (BB _ _ _ _ Y.symm).trans (Heap.get?_push_at rfl rfl)
 have ad:((O.push { cls:=.type "dict",data:=.dict #[] }).update x fun o=>{ cls:=o.cls,dict:=some O.objs.size,data:=o.data,slots:=o.slots }).Ns O.objs.size (fun _=>none):=
  ⟨_,#[],_,af,rfl,fun e he=>absurd he (by simp),fun _=>rfl⟩
 have ag:((O.push { cls:=.type "dict",data:=.dict #[] }).update x fun o=>{ cls:=o.cls,dict:=some O.objs.size,data:=o.data,slots:=o.slots }).get? x=some ⟨.ref C,some O.objs.size,.fields vs,sl⟩:=Bo _ U rfl;have ae:∀ b o,b≠x->O.get? b=some o->((O.push { cls:=.type "dict",data:=.dict #[] }).update x fun o=>{ cls:=o.cls,dict:=some O.objs.size,data:=o.data,slots:=o.slots }).get? b=some o:=fun b o hb e=>(BB _ _ _ _ hb).trans (Ah _ e);show wpAny _ _ (Builtin.ObjectAttr.storeInDict O.objs.size (.str name t) name v) _ _ _;unfold Builtin.ObjectAttr.storeInDict Builtin.ObjectAttr.newKeyGuard;refine Aa (Af (Aa (wpAny_nsSet1 (Heap.Ns1.of_empty ad) fun h' Z hs=>?_)));have⟨oD,esD,epD,hoD,hdD,hcD⟩:=Z.count (Within.cons name v Within.nil);refine Aa (wpAny_lookBehind hoD (by rw[hdD];exact pastItsLine_dict (AH hcD (by rw[An,El,D0];lia))) ?_);refine Af (h h' _ ((hs.2 x Y).trans ag) (fun b o hb e=>(hs.2 b (AU (Az e))).trans (ae b o hb e)) Z)
end
structure aK8(K:Frag)(C:Ag)(f:Str):Prop where
 sa:findIn K (.ref C) "__setattr__"=some (some (.builtin "object.__setattr__"))
 ov:(clsIn K C).any (fun cd=>qF cd.mro)=true
 na:takerIn K C f=some none
 hd:hasDictIn K C=true
section
variable{a:Ag}{f:Str}{v:V}
def aFL{y:V}{u:Ac}{Q:Unit->Ad->Prop}(I:Inv X dl σ H s)(e:H a=some (iJ a C none))(c:aK8 X.K C f)(ry:cQ y u)
  (h:∀ D s',H D=none->Inv X dl σ (upd (upd H a (iJ a C (some D))) D (.xd [(f,y)])) s'->Q () s'):wpAny (model X.prog X.w) A (setAttr (.ref a) f u) Q E s:=by
 obtain⟨⟨t0,osl,ho⟩,_,st⟩:cZ X.prog X.w H s.heap a (iJ a C none):=I.hok _ _ e;refine aJh I.kIn ho c.sa c.ov c.na c.hd fun h' tk Y Z hn=>h s.heap.objs.size _ I.fresh ?_;have U:a≠s.heap.objs.size:=AU (Az ho);have ne:=U.symm;have J:(s.heap.update a fun o=>{ o with dict:=some s.heap.objs.size }).get? a=some ⟨.ref C,some s.heap.objs.size,.fields #[.ref t0,.none,.none,.none,.bool false,.none],osl⟩:=Bo _ ho rfl;have I1:=I.write (x:=a) (e:=a) (o:=iJ a C (some s.heap.objs.size)) (h':=s.heap.update a fun o=>{ o with dict:=some s.heap.objs.size }) (t':=s.toks) (by rw[e];exact Cw) (.inl rfl)
  (fun b q O z=>(BB _ _ _ _ O).trans z) ⟨_,J⟩ ⟨⟨t0,osl,J⟩,⟨_,J⟩,fun g1 g2 ⟨t,sl,p1⟩ k=>⟨t,sl,k _ p1⟩⟩
 have W:(s.heap.update a fun o=>{ o with dict:=some s.heap.objs.size }).objs.size=s.heap.objs.size:=F9 _ _ _;refine I1.laid (a:=s.heap.objs.size) (o:=.xd [(f,y)]) (t':=tk) (fun b q z=>?_) (DA W) ⟨_,hn,fun g=>?_⟩
 .by_cases O:b=a
  .rw[O]at z ⊢;dsimp only at z;rw[J]at z;cases z;exact Y
  .exact Z b q O ((BB _ _ _ _ O).symm.trans z)
 .show pP (Fj g [(f,y)]) _;by_cases q:g=f
  .rw[Ib q,q];simp only[Fj,beq_self_eq_true];exact ry
  .rw[Ia q];have:(g==f)=false:=beq_false_of_ne q;simp only[Fj,this];exact Cw
end
def aMn(K:Frag)(ta tv:TE)(f:Str):TS:=fun D σ H=>tv σ H fun y H1=>ta σ H1 fun x H2=>∃ a C,x=.ref a/\H2 a=some (iJ a C none)/\aK8 K C f/\∀ d,H2 d=none->D.nx σ (upd (upd H2 a (iJ a C (some d))) d (.xd [(f,y)]))
def aJi{X:Cx}{o value:Bf}{f:Str}{pos ff:Pos}{ta tv:TE}(ha:PE X o ta)(Z:PE X value tv)(Y:swapsWith value (some (.Attribute o f ff)) pos.line X.env=pure false):PS X (.Assign [.Attribute o f ff] value pos) (aMn X.K ta tv f):=by
 constructor;intro dl s σ H D I h;refine plainObj_wpAny_Assign_Attribute (thn (Z dl s σ H _ I h) fun u s1 ⟨y,H1,I1,ry,q⟩=>thn (ha dl s1 σ H1 _ I1 q) fun ov s2 ⟨x,H2,J,rx,a,C,ex,O,c,U⟩=>?_) Y;subst ex;obtain rfl:ov=AV a:=rx;exact aFL J O c ry fun d s3 nd W=>⟨σ,_,W,U d nd⟩
inductive aHj(C:Ag)(f:Str)(vs:List V)(H:Hp)(Q:VK)(u3_:XK):Prop
 | mk (x:_) (v:_) (q0:vs=[.ref x,v]) (q1:H x=some (iJ x C none)) (q2:∀ D,H D=none->Q .non (upd (upd H x (iJ x C (some D))) D (.xd [(f,v)]))):aHj C f vs H Q u3_
def aJj(C:Ag)(f:Str):Sp:=fun vs H Q u3_=>aHj C f vs H Q u3_
def tI(K:Frag)(C fI:Ag)(fh:List Ac)(newId:String):Bool:=match K.lookup C with
 | some o=>(match o.data with
  | .cls cd=>(match cd.mro with
   | .ref C'::bm=>(match o.slots.toList with
    | [_,_,_,_,some (.builtin n),_]=>C'==C&&n==newId&&!cd.hasDel&&tailIn K fh bm&&nsOkIn K cd.ns&&nsIn K cd.ns "__init__"==some (some (.ref fI))&&o.cls==.type "type"
    | _=>false)
   | _=>false)
  | _=>false)
 | _=>false
structure aAR(h:Bb)(C fI:Ag)(fh:List Ac)(newId:String)(tl:List Ac)(N':Ag)(nm q:Str)(bs:List Ac)(hdct:Bool)(sn:List Str)(sub:List Ac)(ab:Bool)(col:Option Bool)(dd:Option Ag)(k0 k1 k2 k3 k5:Option Ac)(mN:Str->Option Ac):Prop where
 ob:h.get? C=some (excClassObj nm q C N' bs tl hdct sn sub ab col dd k0 k1 k2 k3 k5 newId)
 ns:h.Ns N' mN
 ni:mN "__init__"=some (.ref fI)
 tl:OwnTail h fh tl
def aAR.keeps{h h':Bb}{C J:Ag}{fh:List Ac}{newId:String}{tl:List Ac}{O:Ag}{nm q:Str}{bs:List Ac}{hdct:Bool}{sn:List Str}{sub:List Ac}{ab:Bool}{col:Option Bool}{dd:Option Ag}{k0 k1 k2 k3 k5:Option Ac}{U:Str->Option Ac}
  (x:aAR h C J fh newId tl O nm q bs hdct sn sub ab col dd k0 k1 k2 k3 k5 U) (k:∀ b o,h.get? b=some o->h'.get? b=some o):aAR h' C J fh newId tl O nm q bs hdct sn sub ab col dd k0 k1 k2 k3 k5 U:=⟨k _ _ x.ob,x.ns.keeps k,x.ni,x.tl.keeps k⟩
def aDn{K:Frag}{h:Bb}{N:Ag}{mg:Str->Option Ac}{n:Str}{v:Ac}(X:K.In h)(G:h.Ns N mg)(e:nsIn K N n=some (some v)):mg n=some v:=by
 obtain⟨o,es,ep,ho,hd,_,hf⟩:=G;unfold nsIn at e;split at e
 .rename_i q;have z:=X _ _ q;rw[ho]at z;cases z;cases hd;split at e
  .rename_i J;cases e;rw[<- hf];unfold nsFind findBy;rw[<- Array.find?_toList,J];rfl
  .split at e<;>cases e
 .cases e
inductive aAZq(h:Bb)(C Y:Ag)(fh:List Ac)(n:String):Prop|mk(tl N' nm q bs hdct sn sub ab col dd k0 k1 k2 k3 k5 mN:_)(o:aAR h C Y fh n tl N' nm q bs hdct sn sub ab col dd k0 k1 k2 k3 k5 mN)
def aEi{K:Ae}{h:Bb}{C Y:Ag}{fh:List Ac}{newId:String}(X:K.In h)(J:tI K C Y fh newId=true):
  aAZq h C Y fh newId:=by
 unfold tI at J;split at J
 .rename_i o lk;split at J
  .rename_i cl ec;split at J
   .rename_i ai Z;split at J
    .rename_i j0 j1 j2 j3 U j5 es;simp only[Aw,beq_iff_eq,FX]at J;obtain⟨⟨⟨⟨⟨⟨z1,z2⟩,z3⟩,z4⟩,z5⟩,z6⟩,z7⟩:=J;subst z1 z2;have W:o.slots=#[j0,j1,j2,j3,some (.builtin U),j5]:=CF.mp es;have⟨oc,od,oe,os⟩:=o;cases cl;simp only at ec W z7 Z z3 z5 z6;subst ec z7 Z z3 W;exact⟨_,_,_,_,_,_,_,_,_,_,_,_,_,_,_,_,_,X _ _ lk,.of_isNs (isNs_of_in X z5),aDn X (.of_isNs (isNs_of_in X z5)) z6,tail_of_in X z4⟩
    .cases J
   .cases J
  .cases J
 .cases J
section
variable{N:List Str}{E:XK}
def aJk{X:Cx}{C Y:Ag}{W:Ay}{kI:Nat}{fn n1 n2:Str}{B newId fg:String}{fh:List Ac}{dl:Ii}{σ:St}{H:Hp}{s:Ad}{v:V}{u:Ac}{Q:Ac->Ad->Prop}(FB:Gs B newId fg fh)(hq:tI X.K C Y fh newId=true)
  (F:cC X.prog X.w X.K X.mg X.base CX0 kI Y W [n1,n2] (aJj C fn)) (hr:eO (kI+1) X.A) (hb:dY X.K W [n1,n2] []) (hf:isFn X.K (.ref Y)=true) (I:Inv X dl σ H s) (r:cQ v u)
  (h:∀ e D H' s',X.s₀.heap.get? e=none->H e=none->H D=none->D≠e->H'=upd (upd H e (iJ e C (some D))) D (.xd [(fn,v)])->Inv X dl σ H' s'->Q (.ref e) s'):wpAny (model X.prog X.w) X.A (call (.ref C) [u]) Q X.xe s:=by
 have⟨hp,g,d,t,os⟩:=s;obtain⟨tl,N',nm,q,bs,hdct,sn,sub,ab,col,dd,k0,k1,k2,k3,k5,mN,hO⟩:=aEi (C:=C) I.kIn hq;obtain⟨oI,hoI,hcI⟩:∃ oI,hp.get? Y=some oI/\oI.cls=.type "function":=by
  have e:=beq_iff_eq.mp hf;have⟨o,ho,hc⟩:=BD.mp e;exact⟨o,I.kIn _ _ ho,hc⟩
 have aa:∀ b o,hp.get? b=some o->(hp.push { cls:=.type "tuple",data:=.seq [u].toArray }).get? b=some o:=fun b o e=>Ah _ e;have I1:Inv X dl σ H { heap:=hp.push { cls:=.type "tuple",data:=.seq [u].toArray },gens:=g,drawn:=d,toks:=t,os:=os }:=I.kept (t':=t) aa;have sz:(hp.push { cls:=.type "tuple",data:=.seq [u].toArray }).objs.size=hp.objs.size+1:=B4 _ _;have O:(jU hp C [u]).get? (hp.objs.size+1)=some (aDl C hp.objs.size):=by heap_get
 have Z:=I1.laid (a:=hp.objs.size+1) (o:=iJ (hp.objs.size+1) C none) (h':=jU hp C [u]) (t':=t) (fun b o e=>Ah _ e) (DA sz)
  ⟨⟨_,_,O⟩,⟨_,O⟩,fun g1 g2 ⟨t,sl,p1⟩ k=>⟨t,sl,k _ p1⟩⟩
 have ae:H (hp.objs.size+1)=none:=I.hok.fresh (CU _);refine aDm FB hO.tl hO.ob hO.ns hO.ni hoI hcI ?_ (by rw[D0];show 1<=_;decide);have ac:eO kI _:=hr.make C [u] [];refine CC (C2 (F.run _ X.stack _ _ ⟨[.ref (hp.objs.size+1),u],[]⟩ [.ref (hp.objs.size+1),u] [.ref (hp.objs.size+1),v] (fun w H'=>w=.non/\∃ D,H D=none/\D≠hp.objs.size+1/\H'=upd (upd H (hp.objs.size+1) (iJ (hp.objs.size+1) C (some D))) D (.xd [(fn,v)])) E0 ac
  (Z.env0.make C [u] []) (hb _ [.ref (hp.objs.size+1),u] Z.kIn rfl) (.cons rfl (.cons r .nil)) ⟨_,_,rfl,aH,fun D U=>⟨rfl,D,?_,?_,?_⟩⟩) fun r s' J=>?_)
 .rw[bE (fun z=>by rw[z,aH]at U;cases U)]at U;exact U
 .exact fun z=>by rw[z,aH]at U;cases U
 .rw[aAq]
 .cases r with
  | error e=>exact BE J
  | ok fl=>
   cases fl with
   | ret w'=>
    have⟨v',H',I3,rv,ev,D,q1,q2,q3⟩:=Z.after J;subst ev;refine⟨rv,h _ D H' s' ?_ ae q1 q2 q3 I3⟩;cases z:X.s₀.heap.get? (hp.objs.size+1)with
    | none=>rfl
    | some o=>
     have l1:=Az z;have l2:X.s₀.heap.objs.size<=hp.objs.size:=I.sz;exact absurd (AZ l1 l2) (Nat.not_lt.mpr (CU _))
   | next=>exact BE J
   | brk=>exact BE J
   | cont=>exact BE J
end
section
variable{env:Env}{nm q:Str}{N:Ag}{bs bm:List Ac}{hdct:Bool}{sn:List Str}{sub:List Ac}{ab:Bool}{col:Option Bool}{dd:Option Ag}{k0 k1 k2 k3 k5:Option Ac}{newId:String}
def aFM{s:Ad}{Y:Sem Ac}{Q:Flow->Ad->Prop}(J:bm.contains (.type "BaseException")=true)(Z:A.handled=none)
  (h:wpAny (model prog w) A Y (fun v O=>∃ e t dx W,v=.ref e/\O.heap.get? C=some (excClassObj nm q C N bs bm hdct sn sub ab col dd k0 k1 k2 k3 k5 newId)/\O.heap.get? e=some ⟨.ref C,dx,.fields #[.ref t,.none,.none,.none,.bool false,.none],W⟩/\E (.ref e) O) E s):
  wpAny (model prog w) A (raiseStmt env (some Y) none) Q E s:=by
 have U:(AV C::bm).contains (.type "BaseException")=true:=by rw[List.contains_cons,J,Bool.or_true]
 unfold raiseStmt;refine Aa (Bt h (fun v O h₁=>?_) fun _ _ x=>x);obtain⟨e,t,dx,W,rfl,hC,he,hE⟩:=h₁;obtain⟨hp,g,d,tk,os⟩:=O;dsimp only at hC he
 repeat (first|with_reducible refine D9 he ?_|with_reducible refine D9 hC ?_|(with_reducible refine wpAny_isSubtype_exc hC ?_;rw[U])|wp_step)
 exact wpAny_raiseNew_none Z hE
end
section
variable{N:List Str}{E:XK}
def zL{x:Str}{C Y:Ag}{U:Ay}{kI:Nat}{fn n1 n2:Str}{B newId fg:String}{fh:List Ac}{np fc pos:Pos}{e0:Bf}{t:TA}(FB:Gs B newId fg fh)(hg:Gl (iV (CXd P w) P w K mg base N qual scope f cd A outer s H E) x)(hm:mg x=some (.ref C))(hq:tI K C Y fh newId=true)
  (FI:cC P w K mg base CX0 kI Y U [n1,n2] (aJj C fn)) (hr:eO (kI+1) (A.deeper (envOfC qual scope s.heap.objs.size f cd))) (hb:dY K U [n1,n2] []) (hf:isFn K (.ref Y)=true) (ha:PA (iV (CXd P w) P w K mg base N qual scope f cd A outer s H E) [e0] t)
  (he:starEach [e0] (iV (CXd P w) P w K mg base N qual scope f cd A outer s H E).env=[(false,eval e0 (iV (CXd P w) P w K mg base N qual scope f cd A outer s H E).env)]:=by rfl) (hd:(x==("__debug__":Str))=false:=by decide):
  PS (iV (CXd P w) P w K mg base N qual scope f cd A outer s H E) (.Raise (some (.Call (.Name x np) [e0] [] fc)) none pos) (fun D σ H1=>t σ H1 fun vs H2=>∃ v,vs=[v]/\∀ D,H2 D=none->E (.ref C) (some D) (upd H2 D (.xd [(fn,v)]))):=by
 constructor;intro dl s1 σ H1 D I h;obtain⟨tl,N',nm,q,bs,hdct,sn,sub,ab,col,dd,k0,k1,k2,k3,k5,mN,hO⟩:=aEi (C:=C) I.ok.mod.kin hq;have o1:=hO.keeps I.bk;rw[arm_exec_Raise];refine Aa (Ds (aFM (C:=C) (nm:=nm) (q:=q) (N:=N') (bs:=bs) (bm:=tl) (hdct:=hdct) (sn:=sn) (sub:=sub) (ab:=ab) (col:=col) (dd:=dd) (k0:=k0) (k1:=k1) (k2:=k2) (k3:=k3) (k5:=k5) (newId:=newId) (o1.tl.hasType FB.hasBase) (I.ok.hd rfl) ?_));refine Aa (Bt (wpAny_Call_ofName (Bt ((cG (v:=.ref C) hg hm rfl hd).run dl s1 σ H1 (fun v H'=>v=.ref C/\H'=H1) I ⟨rfl,rfl⟩) (fun u s2 hu=>?_) fun _ _ y=>y)) (fun v s₃ h₃=>Aa (Ds (Af h₃))) fun _ _ x=>x);obtain⟨v,H2,I2,rv,rfl,rfl⟩:=hu;cases rv;have J:=ha fc dl s2 σ H2 _ I2 h;unfold callWith;refine Aa (Bg (Bt (Q:=fun a s3=>∃ v u O,a=⟨[u],[]⟩/\Inv (iV (CXd P w) P w K mg base N qual scope f cd A outer s H E) dl σ O s3/\cQ v u/\∀ D,O D=none->E (.ref C) (some D) (upd O D (.xd [(fn,v)]))) ?_ (fun a s3 h3=>Aa (Ds ?_)) fun _ _ x=>x))
 .rw[he]at J ⊢;refine Fe (Bt J (fun us s3 hu=>?_) fun _ _ y=>y);obtain⟨vs,O,I3,r3,v,rfl,hE⟩:=hu;cases r3 with
  | cons r r3=>cases r3;exact⟨_,_,O,rfl,I3,r,hE⟩
 .obtain⟨v,u,O,rfl,I3,r3,hE⟩:=h3;have o3:=hO.keeps I3.bk;have⟨hp,g,d,tk,os⟩:=s3;rw[he];simp only[backTo];refine Aa (wpAny_keeperOf_exc o3.ob ?_);refine Aa (aJk FB hq FI hr hb hf I3 r3 fun e D H' s' n0 ne nD W eH Z=>Aa (Bg (wpAny_point (Af ?_))));have hx:H' e=some (iJ e C (some D)):=by rw[eH,bE (CY W),aH]
  obtain⟨⟨t0,sl,ho⟩,_⟩:cZ P w H' s'.heap e (iJ e C (some D)):=Z.hok _ _ hx;refine⟨e,t0,some D,sl,rfl,(hO.keeps Z.bk).ob,ho,aHi Z hx n0 ?_⟩;have eh:hid H' e=upd O D (.xd [(fn,v)]):=by
   rw[eH];funext b;unfold hid;by_cases z:b=e
   .rw[Ib z,z,bE (CY W),ne]
   .rw[Ia z];unfold upd;simp only[Ia z]
  rw[eh];exact hE D nD
end
def nO(y:Ag)(C:Ac)(D:Ag):HO:=.ext fun h=>∃ ob vs,h.get? y=some ob/\ob.cls=C/\ob.data=.fields vs/\ob.dict=some D
def aHk{prog:Ar}{w:AW}{A:AK}{E:Ac->Ad->Prop}{s:Ad}{K:Ae}{C y D:Ag}{name:Str}{v:Ac}{ob:Obj}{vs:Array Ac}{mA:Str->Option Ac}{ex:Bool}{Q:Ac->Ad->Prop}(k:wZ K C)(X:K.In s.heap)
  (U:s.heap.get? y=some ob) (hc:ob.cls=.ref C) (hd:ob.data=.fields vs) (hD:ob.dict=some D) (hn:s.heap.Ns1 D mA) (ha:findIn K (.ref C) name=some none) (hv:mA name=some v) (Y:handedIn v=true) (q:Q v { s with toks:=s.toks+1 }):
  wpAny (model prog w) A (getAttr (.ref y) name ex) Q E s:=by
 obtain⟨od,hod,hl⟩:=yL hn;have J:W.InstAt s.heap y ob C (some od):=⟨U,hc,by unfold notCls;rw[hd],by rw[hD];exact hod⟩
 obtain⟨hp,g,d,t,os⟩:=s;have p:uD y (.ref C) hp:=⟨ob,vs,U,hc,hd⟩
 have b0:=p.ty (M:=model prog w);have b1:=EG (M:=model prog w) X k.ga;have b2:=EG (M:=model prog w) X k.gn;have b3:=looks_find (M:=model prog w) X J (findObj_own k.hd ha rfl (by rw[hl,hv]));have Z:=Eo.ga.bind (.ref y);unfold getAttr getAttrBy;refine Aa (wpAny_mkText (Bg (Aa (b0.at (Aa (b1.at ?_))))));show wpAny _ _ (if (onTheHeap (.ref C)&&De "BaseException.__getattribute__"==De "object.__getattribute__")=true then _ else getAttrByItsOwn _ _ _ _ _ _) _ _ _;have O:(De "BaseException.__getattribute__"==De "object.__getattribute__")=false:=by trivial
 rw[Ia (by rw[O,A1];exact Aq)];unfold getAttrByItsOwn hookBefore;refine Aa ?_;show wpAny _ _ (typeLookup (.ref C) "__getattr__") _ _ _;refine b2.at ?_;refine Aa (Dt (Bg ?_));unfold callGetattribute;rw[Ia (by show¬ ((ex&&false)=true);rw[A1];exact Aq)];unfold boundAndCalled;rw[Z];refine Aa (Af ?_);refine CC (C3 Eo.ga.plain F.entry_bexc_ga (zJ k X p ?_));unfold Builtin.«object.__getattribute__»;refine Aa (Af (Aa (Af (Aa (b0.at (Aa (b3.at ?_)))))));refine Af ?_;show wpAny _ _ (handedOut v) _ _ _;rw[handedOut_of Y];exact Af q
section
variable{f:Str}{ta:TE}
def aMo(K:Frag)(ta:TE)(f:Str):TE:=fun σ H Q=>ta σ H fun x H1=>∃ y C D fs v,x=.ref y/\H1 y=some (nO y (.ref C) D)/\H1 D=some (.xd fs)/\wZ K C/\findIn K (.ref C) f=some none/\fs.lookup f=some v/\Q v H1
def aJl(W:PE X e ta)(O:attributeBase e f X.env (eval e X.env)=eval e X.env):PE X (.Attribute e f pos) (aMo X.K ta f):=by
 constructor;intro dl s σ H Q I h;refine aI3 O (thn (W dl s σ H _ I h) fun u s1 ⟨x,H1,J,Z,y,C,D,fs,v,ex,U,Y,c,n,l,q⟩=>?_);subst ex;obtain rfl:u=AV y:=Z;obtain⟨⟨ob,vs,ho,hc,hd,hD⟩,_⟩:cZ X.prog X.w H1 s1.heap y (nO y (.ref C) D):=J.hok _ _ U;obtain⟨mA,hn,r⟩:cZ X.prog X.w H1 s1.heap D (.xd fs):=J.hok _ _ Y;obtain⟨u,hu,ru⟩:=pP.some_of (v:=v) (o:=mA f) (by rw[<- l];exact r f);exact aHk c J.kIn ho hc hd hD hn n hu (aFi ru) ⟨v,H1,J.tok _,ru,q⟩
inductive lM(K:Ae)(xs:List V)(H:Hp)(Q:VK):Prop
 | mk (y C D:Ag) (v:V) (c:Ac) (b:Bool) (q0:xs=[.ref y,v]) (q1:(∀ u,cQ v u->u=c)) (q2:H y=some (nO y (.ref C) D)) (q3:wZ K C) (q4:kitOne K (.ref C) c=some b) (q5:Q (.bl b) H):lM K xs H Q
def xA(K:Ae):List V->Hp->VK->Prop:=fun xs H Q=>lM K xs H Q
def rT:gR X (.builtin "isinstance") (xA X.K):=by
 intro dl s σ H xs J Q I r h;obtain⟨y,C,D,v,c,b,rfl,hv,hy,k,e,q⟩:=h;cases r with
 | cons r1 r=>
 cases r with
 | cons r2 r=>
 cases r;cases(show _=AV y from r1);cases hv _ r2;obtain⟨⟨ob,vs,ho,hc,hd,_⟩,_⟩:cZ X.prog X.w H s.heap y (nO y (.ref C) D):=I.hok _ _ hy;exact kia_one (aB2 k) I.kIn ⟨ob,vs,ho,hc,hd⟩ e (fun z=>nomatch z) fun tk=>⟨.bl b,H,I.tok tk,rfl,q⟩
inductive jV(K:Ae)(xs:List V)(H:Hp)(Q:VK):Prop
 | mk (y C D tp:Ag) (cs:List Ag) (b:Bool) (q0:xs=[.ref y,.ref tp]) (q1:H tp=some (.tup (cs.map V.ref))) (q2:H y=some (nO y (.ref C) D)) (q3:wZ K C) (q4:kitAny K (.ref C) (cs.map AV)=some b) (q5:Q (.bl b) H):jV K xs H Q
def uU(K:Ae):List V->Hp->VK->Prop:=fun xs H Q=>jV K xs H Q
def pX:gR X (.builtin "isinstance") (uU X.K):=by
 intro dl s σ H xs J Q I r h;obtain⟨y,C,D,tp,cs,b,rfl,ht,hy,k,e,q⟩:=h;cases r with
 | cons r1 r=>
 cases r with
 | cons r2 r=>
 cases r;cases(show _=AV y from r1);cases(show _=AV tp from r2);obtain⟨⟨ob,vs,ho',hc',hd',_⟩,_⟩:cZ X.prog X.w H s.heap y (nO y (.ref C) D):=I.hok _ _ hy;obtain⟨_,its,rv,hT⟩:cZ X.prog X.w H s.heap tp (.tup (cs.map V.ref)):=I.hok _ _ ht;obtain⟨⟨cls,dd,data,sl⟩,ho,hc,n,hd⟩:=hT.tup;simp only at hc hd;subst hc hd;obtain rfl:=aEd rv;exact kia_tup (aB2 k) I.kIn ⟨ob,vs,ho',hc',hd'⟩ ho e (fun z=>nomatch z) fun tk=>⟨.bl b,H,I.tok tk,rfl,q⟩
end
inductive aKl(X:Cx)(dl:Ii)(σ:St)(E':XK)(x:Ac)(s':Ad):Prop
 | mk (H1:_) (s1:_) (q0:Inv X dl σ H1 s1) (q1:CXd X.prog X.w X.stack H1 s1 E' x s'):aKl X dl σ E' x s'
def XPd(X:Cx)(dl:Ii)(σ:St)(E':XK)(x:Ac)(s':Ad):Prop:=aKl X dl σ E' x s'
structure PXd(X:Cx)(e:Bf)(te:XK->TE):Prop where
 run:∀(E':XK) (dl:Ii) (s:Ad) (σ:St) (H:Hp) (Q:VK),Inv X dl σ H s->te E' σ H Q->wpAny (model X.prog X.w) X.A (eval e X.env) (EP X dl σ Q) (XPd X dl σ E') s
structure aMp(X:Cx)(b:List BA)(tb:XK->TS):Prop where
 run:∀(E':XK) (dl:Ii) (s:Ad) (σ:St) (H:Hp) (D:lY),Inv X dl σ H s->tb E' D σ H->wpAny (model X.prog X.w) X.A (execs b X.env) (SP X dl D) (XPd X dl σ E') s
section
variable{k:Nat}{fd:Ay}{ps:List Str}{sp:Sp}{x:Str}{p:Pos}{t:TA}{te:XK->TE}
def aJm{dl:Ii}{σ:St}{H:Hp}{s:Ad}{Q:VK}{W:XK}{J:List Ac}{vs:List V}(F:cC X.prog X.w X.K X.mg X.base (CXd X.prog X.w) k f fd ps sp)(hr:eO k X.A)(Z:dY X.K fd ps [])
  (I:Inv X dl σ H s) (r:cE vs J) (h:sp vs H Q W):wpAny (model X.prog X.w) X.A (call (.ref f) J) (EP X dl σ Q) (XPd X dl σ W) s:=by
 have Y:J.length=ps.length:=by rw[<- r.length];exact F.len _ _ _ _ h
 have U:=Z s J I.kIn (by rw[B5];exact Y);rw[B5]at U;refine CC (C2 (F.run X.A X.stack s H ⟨J,[]⟩ J vs Q W hr I.env0 U r h) fun r s' O=>?_);cases r with
 | error e=>exact⟨H,s,I,O⟩
 | ok fl=>
  cases fl with
  | ret u=>exact I.after O
  | next=>exact BE O
  | brk=>exact BE O
  | cont=>exact BE O
def aHl(F:cC X.prog X.w X.K X.mg X.base (CXd X.prog X.w) k f fd ps sp)(Z:eO k X.A)(hg:Gl X x)(hm:X.mg x=some (.ref f))(hk:AS X.K (.ref f)=true)(Y:dY X.K fd ps [])
  (ha:PA X.nox (e::es) t) (J:(x==("__debug__":Str))=false:=by decide) (he:starEach (e::es) X.env=(false,eval e X.env)::starEach es X.env:=by rfl) (O:(backTo pos (starEach es X.env)).any (·.1)=false:=by rfl):
  PXd X (.Call (.Name x p) (e::es) [] pos) (fun U=>fun σ H Q=>t σ H fun vs H1=>sp vs H1 Q U):=by
 constructor;intro U dl s σ H Q I h;refine Dn (uV I hg hm ?_ J);refine Fp (h₀:=X.base) I.ok.mod.kin hk (Bt (ha pos dl s σ H _ (I.wish _) h) (fun us s1 ⟨vs,H1,W,r,q⟩=>⟨W.kIn,?_⟩) fun _ _ z=>BE z) he O;exact aJm F Z Y W.unwish r q
def aHm{i:Nat}{ff:Pos}(hN:X.N.Nodup)(hi:X.N[i]?=some x)(W:Loc X.env.scope x)(U:PXd X e te)(Y:swapsWith e (some (.Name x ff)) pos.line X.env=pure false:=by rfl)(hf:X.fn x=true\/X.env.scope.names.lookup x=some .local:=by first|exact .inl rfl|exact .inr rfl|assumption):
  aMp X [.Assign [.Name x ff] e pos] (fun J D σ H=>te J σ H fun v H1=>D.nx (σ.set i (some v)) H1):=by
 constructor;intro J dl s σ H D I h;refine Gw (wpAny_Assign_Name (thn (U.run J dl s σ H _ I h) fun v s1 ⟨y,H1,I1,r1,Z⟩=>?_) Y);exact kT I1 hN hi W r1 (fun s2 O=>DP ⟨_,H1,O,Z⟩) hf
end
def Fly.trackE{X:Cx}{dl:Ii}{σ:St}{H H':Hp}{s s':Ad}{x D:Ag}{C:Ac}(I:Inv X dl σ H s)(ad:X.stack=X.env::X.outer)(ac:X.env.frame=some X.env.locals)(ae:X.ex=[])(F:Fly X.prog X.w X.stack H H' s x C s')(dt:aAP s'.heap x D):
  H' x=none/\Inv X dl σ (upd H' x (nO x C D)) s':=by
 have J:=I.caught F;obtain⟨ob,vs,ho,hc,hd⟩:=F.obj;have af:ob.dict=some D:=by
  obtain⟨ob',_,_,_,_,z1,_,z3,_⟩:=dt;rw[ho]at z1;cases z1;exact z3
 obtain⟨B,a0,fl,hokB,hkB,htB⟩:=F.ex;have hB:B.get? x=none:=fl.2.1;have hn:H' x=none:=by
  cases q:H' x with
  | none=>rfl
  | some o=>
   obtain⟨o',e⟩:=aDh (hokB x o q);rw[hB]at e;cases e
 have W:∀ b∈frs X.stack,b≠x:=fun b O z=>by
  obtain⟨_,o,e,h⟩:=fl.2.2.1.mem O;rw[z,ho]at e;cases e;exact h vs hd
 have aa:X.env.locals∈frs X.stack:=by rw[ad];exact Cm.mpr ⟨_,AQ,ac⟩
 have Z:∀ b o,s.heap.get? b=some o->b≠x:=fun b o e z=>by
  by_cases O:b∈frs X.stack
  .exact W b O z
  .obtain⟨o',e'⟩:=htB b o e O;rw[z,hB]at e';cases e'
 have U:∀ b o,X.s₀.heap.get? b=some o->b≠x:=fun b o e=>by
  obtain⟨o',e'⟩:=I.base.there b o e (by rw[ae];simp);exact Z b o' e'
 have Y:∀ b u,H' b=some u->b≠x:=fun b u e=>aZ e hn;refine⟨hn,⟨J.ok,J.os,J.bare,⟨J.base.keep,J.base.slot,fun b o e n hx=>?_,J.base.there,fun b xs e=>?_,fun b o u e=>?_,fun b ps e=>?_⟩,J.loc,J.cell,?_,fun y c e=>?_,fun p hp=>?_,fun b o e=>?_,J.len⟩⟩
 .rw[bE (U b o e)];exact J.base.free b o e n hx
 .have q:=J.base.tups b xs e;rw[bE (Y b _ q)];exact q
 .have q:=J.base.frzs b o u e;rw[bE (Y b _ q)];exact q
 .obtain⟨more,q⟩:=J.base.tbls b ps e;exact⟨more,by rw[bE (Y b _ q)];exact q⟩
 .rw[bE (W _ aa)];exact J.free
 .obtain⟨v,o,e2,h2⟩:=J.cell y c e;rw[bE fun z=>by rw[z,ho]at e2;cases e2;rw[hd]at h2;cases h2];exact J.freeC y c e
 .obtain⟨e,n,ne,nf,d⟩:=J.pin p hp;refine⟨e,?_,ne,nf,d⟩;rw[bE (Z _ _ (I.pin p hp).1)];exact n
 .by_cases O:b=x
  .subst O;rw[aH]at e;cases e;exact⟨⟨ob,vs,ho,hc,hd,af⟩,⟨ob,ho⟩,fun h1 h2 ⟨o1,v1,e1,c1,d1,g1⟩ k=>⟨o1,v1,k _ e1,c1,d1,g1⟩⟩
  .rw[bE O]at e;exact(J.hok b o e).stay (fun c v _ q=>q) (fun c q=>by rw[bE (Y c _ q)];exact q) fun c xs q=>by rw[bE (Y c _ q)];exact q
def aFN{X:Cx}{W:List BA}{tb:XK->TS}{ie:Nat}{dn n:Str}{C0:Ag}{b₀:BA}{U:List BA}{th:TS}{np ad pos:Pos}
  (J:X.stack=X.env::X.outer) (Y:X.env.frame=some X.env.locals) (ag:X.ex=[]) (hb:aMp X W tb) (hg:Gl X dn) (hm:X.mg dn=some (.ref C0)) (hN:X.N.Nodup) (O:X.N[ie]?=some n) (hn:X.env.scope.names.lookup n=some .local)
  (hh:∀ v,PSs (X.hand v) (b₀::U) th) (hd:(dn==("__debug__":Str))=false:=by decide):
  PS X (.Try W [.ExceptHandler (some (.Name dn np)) (some n) (b₀::U) ad] [] [] pos) (fun D σ H=>tb (fun C dx H'=>exmOne X.K C (.ref C0)=some true/\∀ y d,dx=some d->H' y=none->th (unE ie D) (σ.set ie (some (.ref y))) (upd H' y (nO y C d))) D σ H):=by
 constructor;intro dl s σ H D I h;refine wpAny_Try_except (Bt (hb.run _ dl s σ H D I h) (fun f s1 r=>?_) fun e s1 z=>?_)
 .cases f with
  | next=>exact DP r
  | _=>exact r
 .obtain⟨H1,s0,I1,dD,⟨x,C,H',rfl,F,hx,hy⟩,x',ex,hc⟩:=z;cases ex;have aa:s0.heap.FunFrames X.base (X.env::X.outer):=J▸I1.stack;have F':Fly X.prog X.w (X.env::X.outer) H1 H' s0 x C s1:=J▸F;have a:=F'.lands (M:=model X.prog X.w) (A:=X.A) (Q:=fun _ _=>False) (E:=fun _ _=>False) (R:=fun s4=>∃ h5,s4={ s1 with heap:=h5 }/\Fly X.prog X.w (X.env::X.outer) H1 H' s0 x C s4) aa (J▸I1.ok.frames) Y fun h5 F5=>⟨h5,rfl,F5⟩
  obtain⟨B',a0,fl,_⟩:=F'.ex;have b:=aDk (M:=model X.prog X.w) (A:=X.A) (E:=fun _ _=>False) (s:=s1) (e:=x) (J▸I1.ok.frames) fl.2.2.1 Y hc;refine Bt (rS a b) (fun _ s3 ⟨q1,q2⟩=>?_) fun _ _ z=>z.2.elim;refine Bt (rS q1 (w9 (E:=fun _ _=>False) q2)) (fun _ s4 ⟨⟨h5,e5,F5⟩,af⟩=>?_) fun _ _ z=>z.2.elim;subst e5;have I5:=I1.caught (s':={ s1 with heap:=h5 }) (by rw[J];exact F5);refine wpAny_handleBy_cons (codeAny_handlers_test ?_) (by intro q;cases q);refine uV (X:=X.hand (.ref x)) (I5.hand _) hg hm ?_ hd;have⟨ob,vs,ho,hc,hd5⟩:=F5.obj;have LT:HR (model X.prog X.w) h5 (typeOf (.ref x)) C:=by
   rw[<- hc];unfold typeOf;exact(Looks.ld ho).andThen .now
  refine(exm_one (M:=model X.prog X.w) I5.kIn LT hx).at ?_;refine codeAny_handlers_suite_as ?_;refine Bt (rS (F5.again (M:=model X.prog X.w) (E:=fun _ _=>False) (R:=fun s6=>∃ h6,s6={ s1 with heap:=h6 }/\Fly X.prog X.w (X.env::X.outer) H1 H' s0 x C s6) aa fun h6 F6=>⟨h6,rfl,F6⟩) (w9 (E:=fun _ _=>False) af)) (fun _ s6 ⟨⟨h6,e6,F6⟩,ai⟩=>?_) fun _ _ z=>z.2.elim;subst e6;obtain⟨hnx,I6⟩:=Fly.trackE (s':={ s1 with heap:=h6 }) I1 J Y ag (by rw[J];exact F6) ai;refine kT (X:=X.hand (.ref x)) (I6.hand _) hN O (.inl hn) (v:=.ref x) rfl (fun s7 I7=>?_) (.inr hn);refine Bt ((hh (.ref x)).run dl s7 _ _ (unE ie D) I7 (hy x dD rfl hnx)) (fun f s8 r=>?_) fun _ _ z=>BE z;cases f with
  | next=>
   have⟨σ',H'',I8,q⟩:=r;exact pG (I8.unhand I.ok) hN O hn fun s9 Z=>⟨_,_,Z,q⟩
  | brk=>
   have⟨σ',H'',I8,q⟩:=r;exact pG (I8.unhand I.ok) hN O hn fun s9 Z=>⟨_,_,Z,q⟩
  | cont=>
   have⟨σ',H'',I8,q⟩:=r;exact pG (I8.unhand I.ok) hN O hn fun s9 Z=>⟨_,_,Z,q⟩
  | ret u=>
   have⟨v,σ',H'',I8,rr,q⟩:=r;exact pG (I8.unhand I.ok) hN O hn fun s9 Z=>⟨v,_,_,Z,rr,q⟩
def rV(c n:Nat):Str:=⟨(C5 n c).toArray⟩
theorem aB7(c:Nat):∀(n:Nat) (a:Array Nat),(C5 n (#[c]:Array Nat)).foldl (·++·) a=a++(C5 n c).toArray
 | 0,a=>by simp
 | n+1,a=>by
  rw[List.replicate_succ,Gj,aB7 c n,List.replicate_succ];apply CF.mp;simp
inductive uE(x:V)(y:V)(H:Hp)(Q:VK):Prop
 | mk (c:_) (k:_) (q0:x=.str ⟨#[c]⟩) (q1:y=.int k) (q2:1<k) (q3:k<1000) (q4:Q (.str (rV c k.toNat)) H):uE x y H Q
def aFO:V->V->Hp->VK->Prop:=fun x y H Q=>uE x y H Q
def aEj{X:Cx}:OpR X (binaryOp .Mult) aFO:=by
 intro dl s σ H x y v u Q I U O h;obtain⟨c,k,rfl,rfl,h1,h2,q⟩:=h;obtain⟨t,rfl⟩:=U;obtain⟨t',rfl⟩:=O;have J:(⟨#[c]⟩:Str).length=1:=rfl;refine PySem.P.mul_str (by rw[Ie (by lia),Ie (by lia)];rfl) (fun _ _=>by
  rw[J];have:(1:Int)<=(2^63-1)/k:=Int.le_ediv_of_mul_le (by lia) (by lia);lia) (fun _ _=>by
  rw[J];exact Ie (by rw[Nat.one_mul,D0];lia)) ?_
 rw[Ia (by lia),Ia (by
  rw[J];have:(k==1)=false:=beq_false_of_ne (by lia);rw[this];decide)]
 have e:(⟨(C5 k.toNat (⟨#[c]⟩:Str).cps).foldl (·++·) #[]⟩:Str)=rV c k.toNat:=by
  unfold rV;show(⟨(C5 k.toNat (#[c]:Array Nat)).foldl (·++·) #[]⟩:Str)=_
  rw[aB7];simp
 rw[e];refine⟨?_,.str (rV c k.toNat),H,I.tok _,⟨_,rfl⟩,q⟩;refine aJ ?_;show(C5 k.toNat c).toArray.size<=1000000;rw[Au,Fd];lia
inductive aK9(x:V)(xs:List V)(H:Hp)(Q:VK):Prop
 | mk (z y:GQ) (h0:x=.str z) (h1:xs=[.str y]) (hy:(y.length==0)=false) (hz:z.length<=sizeLine) (q:∀ t,H t=none->Q (.ref t) (upd H t (.tup [.str (Ha z y).1,.str (Ha z y).2.1,.str (Ha z y).2.2]))):aK9 x xs H Q
inductive aKm(x:V)(vs:List V)(H:Hp)(Q:VK):Prop
 | mk (l:Ag) (xs:List V) (i:Nat) (y:V) (h0:x=.ref l) (h1:vs=[.int i,y]) (hH:H l=some (.lst xs)) (hi:i<=xs.length) (hz:xs.length<sizeLine) (q:Q .non (upd H l (.lst (xs.take i++y::xs.drop i)))):aKm x vs H Q
def aJn:V->List V->Hp->VK->Prop:=fun x vs H Q=>aKm x vs H Q
def tJ{X:Cx}:MtM X "list.insert" aJn:=by
 intro dl s σ H x vs v us Q I Y Z h;obtain⟨l,xs,i,y,rfl,rfl,hH,hi,hz,q⟩:=h;cases Y;obtain⟨u,u2,rfl,ru,ru2⟩:=Z.two;obtain⟨t,rfl⟩:=ru;obtain⟨z,its,n,r,hl,e⟩:=I.lstM hH;have U:((sizeLine:Nat):Int)<2^63:=by trivial
 have h1:-(2^63)<=(i:Int):=Int.le_trans (by trivial:-(2^63)<=(0:Int)) (Int.natCast_nonneg i);have h2:(i:Int)<2^63:=Int.lt_trans (by lia:(i:Int)<((sizeLine:Nat):Int)) U;have J:¬ (!Builtin.List.listFitsIndex (i:Int))=true:=by
  rw[fitsIndex_both h1 h2];exact Aq
 have O:its.toArray.size<=sizeLine:=by rw[Au];lia
 generalize W:(i:Int)=j at J;have hm:=AutoSeq1.list_insert_list_int_val_1 l its.toArray n j t u2 J O;refine Fl F.slot_list_insert ⟨_,e,rfl⟩ F.entry_list_insert (F.args_list_insert_3 _ _ _) hm ⟨e,?_⟩;subst W;refine⟨.non,_,I.lset (its':=its.take i++u2::its.drop i) hH e ?_ ((r.take i).append (.cons ru2 (r.drop i))) ?_,rfl,q⟩
 .have e1:(if (i:Int)<0 then((i:Int)+(its.toArray.size:Int)).toNat else min (i:Int).toNat its.toArray.size)=i:=by
   rw[Ia (by lia),Au];lia
  show(its.toArray.extract 0 (if (i:Int)<0 then((i:Int)+(its.toArray.size:Int)).toNat else min (i:Int).toNat its.toArray.size)).push u2++its.toArray.extract (if (i:Int)<0 then((i:Int)+(its.toArray.size:Int)).toNat else min (i:Int).toNat its.toArray.size)=_;rw[e1];apply CF.mp;simp;exact Bi (by rw[B7];exact Ap _)
 .rw[Am,An,AJ,B7];lia
end L2
namespace K71
open PySem L2
def nW{a b:Str}{X Y:Prop}(n:a≠b)(h:Y):if decide (V.str a=V.str b)=true then X else Y:=dH (fun g=>absurd (V.str.inj (Ig g)) n) fun _=>h
def yW{a:Str}{X Y:Prop}(h:X):if decide (V.str a=V.str a)=true then X else Y:=dH (fun _=>h) fun g=>absurd (Ic rfl) g
def zZ0:([]:List V).length<=sizeLine:=aJ (show 0<=1000000 by decide)
def zZ1{a0:V}:[a0].length<=sizeLine:=aJ (show 1<=1000000 by decide)
def zZ2{a0 a1:V}:[a0,a1].length<=sizeLine:=aJ (show 2<=1000000 by decide)
def zZ3{a0 a1 a2:V}:[a0,a1,a2].length<=sizeLine:=aJ (show 3<=1000000 by decide)
def zZ4{a0 a1 a2 a3:V}:[a0,a1,a2,a3].length<=sizeLine:=aJ (show 4<=1000000 by decide)
def zZ5{a0 a1 a2 a3 a4:V}:[a0,a1,a2,a3,a4].length<=sizeLine:=aJ (show 5<=1000000 by decide)
def zZ6{a0 a1 a2 a3 a4 a5:V}:[a0,a1,a2,a3,a4,a5].length<=sizeLine:=aJ (show 6<=1000000 by decide)
def zZ8{a0 a1 a2 a3 a4 a5 a6 a7:V}:[a0,a1,a2,a3,a4,a5,a6,a7].length<=sizeLine:=aJ (show 8<=1000000 by decide)
def zZ9{a0 a1 a2 a3 a4 a5 a6 a7 a8:V}:[a0,a1,a2,a3,a4,a5,a6,a7,a8].length<=sizeLine:=aJ (show 9<=1000000 by decide)
def aJo{a0 a1 a2 a3 a4 a5 a6 a7 a8 a9:V}:[a0,a1,a2,a3,a4,a5,a6,a7,a8,a9].length<=sizeLine:=aJ (show 10<=1000000 by decide)
def scA{N P:List Str}{J:CV}(a:J.kind=.function:=by rfl)(b:J.isCoroutine=false:=by rfl)(c:J.isGenerator=false:=by rfl)(d:N.Nodup:=by trivial)(e:N.take P.length=P:=by rfl)
  (f:∀ x∈P,J.names.lookup x=some .local\/J.names.lookup x=some .cell:=by trivial) (g:∀ y∈J.names,y.2≠.free:=by trivial):mG N P J:=⟨a,b,c,d,e,f,g⟩
def bkA{N:List Str}{src:List (Option Nat)}{scope osc:CV}{oN:List Str}(a:scope.kind=.function:=by rfl)(b:∀ y∈scope.names,y.2≠.cell:=by trivial)(c:∀ y∈scope.names,y.2=.local->scope.names.lookup y.1=some .local:=by trivial)
  (d:∀ y∈scope.names,y.2=.free->osc.names.lookup y.1=some .cell\/osc.names.lookup y.1=some .free:=by trivial) (e:src.length=N.length:=by rfl) (f:aDX N src scope oN=true:=by rfl):BlkOk N src scope osc oN:=⟨a,b,c,d,e,f⟩
abbrev Fn(K:Ae)(x:Str)(st:BA)(f:Ag)(fd:Ay):Prop:=Fun K x x st f fd
variable{P:Ar}{w:AW}{K:Ae}{mg:Str->Option Ac}{base:Bb}
def okA{x qual:Str}{st:BA}{f:Ag}{fd:Ay}{ps:List Str}{k:Nat}{sp:Sp}(F:Fun K x qual st f fd)(N:List Str)
  (O:∀(J:Ac) (A:AK) (outer:List Env) (s:Ad) (H:Hp) (vs:List V) (Q:VK) (E:XK),eO k (A.deeper (Dl qual (bC st) s.heap.objs.size f J))->N.Nodup->sp vs H Q E->
   ∃ t,PSs (iV CX0 P w K mg base N qual (bC st) f J A outer s H E).nox (dZ st) t/\t { nx:=fun _ H'=>Q .non H',rt:=Q } (start N vs) H)
  (S:mG N ps (bC st):=by exact scA)
  (len:∀ vs H Q E,sp vs H Q E->vs.length=ps.length:=by intro _ _ _ _ h;first|(cases h;subst_vars;rfl)|(repeat(cases h;rename_i h);all_goals subst_vars;rfl)):cC P w K mg base CX0 (k+1) f fd ps sp:=F.ok S len fun J A outer s H vs Q E U=>O J A outer s H vs Q E U S.nd
def bdA{x qual:Str}{st:BA}{f:Ag}{fd:Ay}{ps:List Str}(F:Fun K x qual st f fd)
  (h:∀(kV U Z:Ac) (Y:Option Ag) (W ct:Ac) (O:List Ac),O.length=ps.length->bindArgs (BC x qual (fU st) (dZ st) (bC st) .none kV U Z Y W ct) ⟨O,[]⟩=pure (ps.zip O):=by intro _ _ _ _ _ _ O J;first|(obtain⟨_,rfl⟩:=aLE J;rfl)|(obtain⟨_,_,rfl⟩:=aIS J;rfl)|(obtain⟨_,_,_,rfl⟩:=aIT J;rfl)|(obtain⟨_,_,_,_,rfl⟩:=aKx J;rfl)|(obtain⟨_,_,_,_,_,rfl⟩:=aMH J;rfl)):dY K fd ps []:=F.binds h
variable(P w K mg base) in
structure Cal(k:Nat)(x:Str)(ps:List Str)(sp:Sp):Prop where
 ex:∃ f fd,cC P w K mg base CX0 k f fd ps sp/\mg x=some (.ref f)/\AS K (.ref f)=true/\dY K fd ps []
def bO{X:Cx}{k:Nat}{x:Str}{ps:List Str}{sp:Sp}{e:Bf}{es:List Bf}{t:TA}{p pos:Pos}{j:Nat}(F:Cal X.prog X.w X.K X.mg X.base k x ps sp)(U:eO j X.A)(ha:PA X (e::es) t)(Z:k<=j:=by decide)(W:Gl X x:=by rfl)(J:(x==("__debug__":Str))=false:=by decide)(Y:starEach (e::es) X.env=(false,eval e X.env)::starEach es X.env:=by rfl)(O:(backTo pos (starEach es X.env)).any (·.1)=false:=by rfl):
  PE X (.Call (.Name x p) (e::es) [] pos) (aJ6 sp [] E0 t):=by
 obtain⟨f,fd,G,m,k,b⟩:=F.ex;exact iA G (U.mono Z) W m k b .nil oG ha J Y O
def pa1{X:Cx}{e:Bf}{te:TE}(a:PE X e te)(s:oJ e=true:=by rfl):PA X [e] (nG te aAw):=cU a dP s
def pa2{X:Cx}{e e1:Bf}{te J:TE}(a:PE X e te)(a1:PE X e1 J)(s:oJ e=true:=by rfl)(s1:oJ e1=true:=by rfl):PA X [e,e1] (nG te (nG J aAw)):=cU a (pa1 a1 s1) s
def pa3{X:Cx}{e e1 e2:Bf}{te O J:TE}(a:PE X e te)(a1:PE X e1 O)(a2:PE X e2 J)(s:oJ e=true:=by rfl)(s1:oJ e1=true:=by rfl)(s2:oJ e2=true:=by rfl):PA X [e,e1,e2] (nG te (nG O (nG J aAw))):=cU a (pa2 a1 a2 s1 s2) s
def cT{X:Cx}{op:G9}{r:R2}{a b:Bf}{ta tb:TE}{pos:Pos}(O:OpR X (compareOp op) r)(ha:PE X a ta)(J:PE X b tb)(h:op≠.In:=by decide)(h2:op≠.NotIn:=by decide):PT X (.Compare a [op] [b] pos) (aBs (tOp r ta tb)):=eJ O ha J (fA _ h h2)
def cF{X:Cx}(i:Nat){x:Str}{e:Bf}{te:TE}{pos ff:Pos}(hN:X.N.Nodup)(J:PE X e te)(hi:X.N[i]?=some x:=by rfl)(O:Loc X.env.scope x:=by exact Bp rfl)(U:swapsWith e (some (.Name x ff)) pos.line X.env=pure false:=by rfl)(W:X.fn x=true\/X.env.scope.names.lookup x=some .local:=by first|exact .inl rfl|exact .inr rfl|assumption):
  PS X (.Assign [.Name x ff] e pos) (aIZ te (bT i)):=sV hN hi O J U W
def top(i:Nat):BA:=PySem.Challenge.pw_dykelengths_k71_what_writes_no_roll.main.body.getD i (.Pass ⟨0,0,0,0⟩)
abbrev aAS:BA:=top 17
abbrev zM:BA:=top 29
abbrev aB8:BA:=top 30
abbrev aAT:BA:=top 31
abbrev aEk:BA:=top 33
abbrev tK:BA:=top 34
abbrev tM:BA:=top 35
abbrev tN:BA:=top 36
abbrev zO:BA:=top 37
abbrev aEl:BA:=top 38
abbrev xB:BA:=top 39
abbrev xC:BA:=top 40
abbrev lN:BA:=top 41
abbrev lO:BA:=top 42
abbrev xD:BA:=top 43
abbrev rW:BA:=top 44
abbrev oQ:BA:=top 45
abbrev xE:BA:=top 46
abbrev aHn:BA:=top 48
abbrev tO:BA:=top 56
abbrev aDo:BA:=top 57
abbrev aAU:BA:=top 58
abbrev aEm:BA:=top 59
abbrev aHo:BA:=top 60
abbrev aMq:BA:=top 66
abbrev aHp:BA:=top 67
abbrev aDp:BA:=top 68
abbrev aEn:BA:=top 69
abbrev aHq:BA:=top 70
abbrev aHr:BA:=top 71
abbrev aDq:BA:=top 72
abbrev aMr:BA:=top 73
abbrev tP:BA:=top 81
abbrev aJp:BA:=top 14
abbrev rX:BA:=top 74
abbrev aEo:BA:=top 75
abbrev aB9:BA:=top 76
abbrev aAV:BA:=top 77
abbrev aCa:BA:=top 78
abbrev aEp:BA:=top 79
abbrev aDr:BA:=top 83
abbrev aEq:BA:=top 84
abbrev aHs:BA:=top 88
abbrev aHt:BA:=top 89
abbrev aHu:BA:=top 91
abbrev aCb:BA:=top 32
abbrev aCc:BA:=top 49
abbrev aHv:BA:=top 50
abbrev aHw:BA:=top 51
abbrev aCd:BA:=top 61
abbrev uZ:BA:=top 62
abbrev tQ:BA:=top 63
abbrev aHx:BA:=top 64
abbrev aHy:BA:=top 80
abbrev mQ:BA:=top 82
abbrev zQ:BA:=top 85
abbrev aEr:BA:=top 86
abbrev aDs:BA:=top 87
abbrev aEs:BA:=top 90
abbrev yF:BA:=top 92
def bH(z:Str):Bool:=decide (1<=z.length/\z.length<=8)&&z.cps.toList.all fun c=>decide (97<=c/\c<=122)
def isL(c:Nat):Bool:=decide (97<=c/\c<=122)
def iQ(i:Nat):Nat:=97+i%26
def aAW(i:Nat):isL (iQ i)=true:=by
 unfold isL iQ;exact Ic (by lia)
abbrev abc:Str:=Be "abcdefghijklmnopqrstuvwxyz"
def aHz:abc.cps.toList=EI 97 26:=by trivial
def aHA{i:Int}(J:0<=i)(h1:i<26):atI abc.cps.toList i=some (iQ i.toNat):=by
 obtain⟨j,rfl⟩:∃ j:Nat,i=j:=⟨i.toNat,by lia⟩
 unfold atI ixN;rw[aHz,Ib J,Ib (by simpa using h1)];simp only[BK,Option.bind_some];rw[List.getElem?_range' (by lia)];unfold iQ;congr 1;lia
def aJq:abc.length=26:=by trivial
def mk(l:List Nat):Str:=⟨l.toArray⟩
def aLa{a b:List Nat}(h:mk a=mk b):a=b:=by
 have:=congrArg (fun z:Str=>z.cps.toList) h;simpa[mk]using this
def mS(l:List Nat):(mk l).length=l.length:=by
 show l.toArray.size=_;simp
def aDt(a b:List Nat):mk a++mk b=mk (a++b):=by
 show(⟨a.toArray++b.toArray⟩:Str)=_;simp[mk]
def aCe(t k:Nat):List Nat:=[iQ (t+7*k),iQ (t+k/26)]
def bij:Nat->Nat->List Nat
 | 0,_=>[]
 | f+1,n=>if n=0 then[] else bij f ((n-1)/2)++[n%2]
def bin(t n:Nat):List Nat:=(bij 6 n).map fun d=>iQ (t+9*d)
def aJr:∀ t<26,((AY 44).map (aCe t)).Nodup:=by trivial
def aLb:∀ t<26,((AY 44).map fun k=>bin t (k+1)).Nodup:=by trivial
def aJs:∀ k<44,1<=(bij 6 (k+1)).length/\(bij 6 (k+1)).length<=8:=by trivial
def word(one:Bool)(b:List Nat)(sp t k:Nat):List Nat:=if one then bin t (k+1) else b.take sp++aCe t k++b.drop sp
def aLc{α:Type}{f:Nat->α}{n m:Nat}(h:((AY n).map f).Nodup)(hm:m<=n):((AY m).map f).Nodup:=by
 obtain⟨d,rfl⟩:∃ d,n=m+d:=⟨n-m,by lia⟩
 rw[List.range_add,Al]at h;exact(Dp.mp h).1
def aHB{α β:Type}{f:α->β}(O:∀ a b,f a=f b->a=b){l:List α}(h:l.Nodup):(l.map f).Nodup:=by
 rw[List.nodup_iff_pairwise_ne]at h ⊢;exact Do.mpr (h.imp fun J e=>J (O _ _ e))
def aJt{one:Bool}{b:List Nat}{sp t m:Nat}(ht:t<26)(hm:m<=44):((AY m).map fun k=>mk (word one b sp t k)).Nodup:=by
 refine aLc (n:=44) ?_ hm;have e:((AY 44).map fun k=>mk (word one b sp t k))=((AY 44).map (word one b sp t)).map mk:=by rw[Cp];rfl
 rw[e];refine aHB (fun _ _ h=>aLa h) ?_;cases one with
 | true=>exact aLb t ht
 | false=>
  have e2:(AY 44).map (word false b sp t)=((AY 44).map (aCe t)).map fun q=>b.take sp++q++b.drop sp:=by rw[Cp];rfl
  rw[e2];refine aHB (fun x y h=>?_) (aJr t ht);exact List.append_cancel_left (List.append_cancel_right h)
def aCf{l:List Nat}(h1:1<=l.length)(h8:l.length<=8)(ha:∀ c∈l,isL c=true):bH (mk l)=true:=by
 unfold bH;rw[mS,Ic ⟨h1,h8⟩,Ax];have e:(mk l).cps.toList=l:=by simp[mk]
 rw[e,AR];exact ha
def gE{z:Str}(h:bH z=true):1<=z.length/\z.length<=8:=by
 unfold bH at h;rw[Aw]at h;exact Ig h.1
def aFP{one:Bool}{b:List Nat}{sp t k:Nat}(O:k<44)(W:b.length<=6)(ha:∀ c∈b,isL c=true):bH (mk (word one b sp t k))=true:=by
 cases one with
 | true=>
  have h:=aJs k O;refine aCf (by show 1<=(bin t (k+1)).length;unfold bin;rw[Ab];lia) (by show(bin t (k+1)).length<=8;unfold bin;rw[Ab];lia) (fun c hc=>?_);have J:c∈bin t (k+1):=hc;unfold bin at J;obtain⟨d,_,rfl⟩:=Bn.mp J;exact aAW _
 | false=>
  have U:(word false b sp t k).length=b.length+2:=by
   show(b.take sp++aCe t k++b.drop sp).length=_;rw[Am,Am,AJ,B7];show min sp b.length+2+(b.length-sp)=_;lia
  refine aCf (by lia) (by lia) (fun c hc=>?_);have J:c∈b.take sp++aCe t k++b.drop sp:=hc;rcases A4.mp J with h|h
  .rcases A4.mp h with h|h
   .exact ha c (Dv h)
   .unfold aCe at h;simp only[Ao,AB,or_false]at h;rcases h with rfl|rfl
    .exact aAW _
    .exact aAW _
  .exact ha c (List.mem_of_mem_drop h)
theorem aHC{α:Type}{x:α}:∀{l:List α}{j:Nat},l.Nodup->x∉l->(l.set j x).Nodup
 | [],_,_,_=>by simp
 | y::r,0,h,J=>by
  rw[List.set_cons_zero,Dg]at *;exact⟨fun z=>J (AN _ z),h.2⟩
 | y::r,j+1,h,J=>by
  rw[List.set_cons_succ];rw[Dg]at *;refine⟨fun z=>?_,aHC h.2 fun z=>J (AN _ z)⟩;rcases DB z with z|z
  .exact h.1 z
  .exact J (z▸AQ)
def pY:List Str:=["as","with","part","field","none","done","write","back","join"]
def aDu:∀ z∈pY,bH z=true:=by trivial
def fO:∀ ns:List Str,(ns.map V.str).all iH=true
 | []=>rfl
 | _::r=>by simpa[iH]using fO r
def mT(z:Str):∀ ns:List Str,inV (.str z) (ns.map V.str)=decide (z∈ns):=by
 intro ns;unfold inV;rw[List.any_map];rw[BR,D8,decide_eq_true_iff];constructor
 .rintro⟨y,hy,e⟩;have:y=z:=by simpa[eqV]using e
  exact this▸hy
 .intro h;exact⟨z,h,by simp[eqV]⟩
abbrev iE:Key:=Ak ("cells":Str)
abbrev kAt:Key:=Ak ("at":Str)
abbrev jW:Key:=Ak ("left":Str)
def iR(c:Ag)(a l:Int):List (Key×V):=[(iE,.ref c),(kAt,.int a),(jW,.int l)]
def aLd:¬ (iE=kAt):=by trivial
def aLe:¬ (iE=jW):=by trivial
def aJu:¬ (kAt=jW):=by trivial
def aM9:¬ (jW=kAt):=fun e=>aJu e.symm
def aFQ(c:Ag)(a l:Int):gY (iR c a l) iE=some (.ref c):=by
 unfold iR;rw[lE rfl]
def aLf(c:Ag)(a l:Int):gY (iR c a l) kAt=some (.int a):=by
 unfold iR;rw[cR aLd,lE rfl]
def aHD(c:Ag)(a l:Int):gY (iR c a l) jW=some (.int l):=by
 unfold iR;rw[cR aLe,cR aJu,lE rfl]
def aLg(c:Ag)(a l J:Int):iL (iR c a l) kAt (.int J)=iR c J l:=by
 unfold iL iR;rw[Ib (by rw[D8];exact⟨(kAt,.int a),by simp,Ic rfl⟩)];simp only[A6,DS,Ia aLd,Ia aM9,Ib]
def aHE(c:Ag)(a l J:Int):iL (iR c a l) jW (.int J)=iR c a J:=by
 unfold iL iR;rw[Ib (by rw[D8];exact⟨(jW,.int l),by simp,Ic rfl⟩)];simp only[A6,DS,Ia aLe,Ia aJu,Ib]
def aLh{H:Hp}{p c:Ag}{a l:Int}(h:H p=some (.dK (iR c a l))):sX H p (.str "left") (some (.int l)):=by
 have:=sX.k (k:=jW) h;rw[aHD]at this;exact this
def aNa{H:Hp}{p c:Ag}{a l:Int}(h:H p=some (.dK (iR c a l))):sX H p (.str "at") (some (.int a)):=by
 have:=sX.k (k:=kAt) h;rw[aLf]at this;exact this
def aNb{H:Hp}{p c:Ag}{a l:Int}(h:H p=some (.dK (iR c a l))):sX H p (.str "cells") (some (.ref c)):=by
 have:=sX.k (k:=iE) h;rw[aFQ]at this;exact this
def aMs{H:Hp}{p c:Ag}{a l:Int}(J:Int)(h:H p=some (.dK (iR c a l))):aBC H p (.str "left") (.int J) (upd H p (.dK (iR c a J))):=by
 have:=aBC.k (k:=jW) (v:=.int J) h (fM (by show 3<=1000;decide));rw[aHE]at this;exact this
def aNc{H:Hp}{p c:Ag}{a l:Int}(J:Int)(h:H p=some (.dK (iR c a l))):aBC H p (.str "at") (.int J) (upd H p (.dK (iR c J l))):=by
 have:=aBC.k (k:=kAt) (v:=.int J) h (fM (by show 3<=1000;decide));rw[aLg]at this;exact this
structure cW(H:Hp)(p c:Ag)(ns:List Int)(a:Int):Prop where
 ob:∃ l,0<=l/\H p=some (.dK (iR c a l))
 ce:H c=some (.lst (ns.map V.int))
 ge:0<=a
 sm:ns.length<=63
def cW.same{H H':Hp}{p c:Ag}{ns:List Int}{a:Int}(x:cW H p c ns a)(h:aU H H'):cW H' p c ns a:=by
 obtain⟨⟨l,hl,e⟩,ce,ge,sm⟩:=x;exact⟨⟨l,hl,h _ _ e⟩,h _ _ ce,ge,sm⟩
def cW.ne{H:Hp}{p c:Ag}{ns:List Int}{a:Int}(x:cW H p c ns a):c≠p:=by
 obtain⟨⟨l,hl,e⟩,ce,_,_⟩:=x;exact aGa ce e (by intro z;cases z)
inductive aEt(K:Ae)(vs:List V)(H:Hp)(Q:VK)(u3_:XK):Prop
 | mk (a:Ag) (ns:List Int) (q0:vs=[.ref a]) (q1:SqL K H a (ns.map V.int)) (q2:ns.length<=63) (q3:∀ p c H',cW H' p c ns 0->aU H H'->H p=none->Q (.ref p) H'):aEt K vs H Q u3_
def aKn(K:Ae):Sp:=fun vs H Q u3_=>aEt K vs H Q u3_
inductive aCg(vs:List V)(H:Hp)(Q:VK)(u3_:XK):Prop
 | mk (p c:Ag) (ns:List Int) (a m:Int) (q0:vs=[.ref p,.int m]) (q1:cW H p c ns a) (q2:a<=1000000) (q3:0<m) (q4:m<2^512) (q5:∀ r a' H',0<=r->r<m->a<=a'->a'<=a+1->cW H' p c ns a'->bM p H H'->Q (.int r) H'):aCg vs H Q u3_
def aHF:Sp:=fun vs H Q u3_=>aCg vs H Q u3_
def aMt(ns:List Int)(h:ns.length<=63):gU (ns.map V.int) none (some 63)=ns.map V.int:=by
 have e:HT.sIx (ns.map V.int).length (ns.map V.int).length (some 63)=(ns.map V.int).length:=by
  have:=HT.sIx_nat (ns.map V.int).length (ns.map V.int).length 63;rw[Ab]at this ⊢;refine Eq.trans this ?_;lia
 unfold gU;rw[e,HT.sIx_none,C6,Hi,Bh]
def aLi{f:Ag}{fd:Ay}(F:Fn K "_law_pen" aMq f fd)(O:mg "list"=none):cC P w K mg base CX0 1 f fd ["_law_script"] (aKn K):=by
 refine okA F ["_law_script"] fun ae A outer s H vs Q E hr nd h=>?_;obtain⟨a,ns,rfl,hS,hn,k⟩:=h;refine⟨_,aN (aT (aAF (gJ aO (cA fT (by rfl) O (by kernel_rfl) (gN (cN fV (pv 0) dU (cM aD)) dP)) (gJ aO aD (gJ aO aD aAE))) rfl rfl (by simp) (by decide))),?_⟩;intro p Z;refine⟨_,rfl,_,rfl,_,_,rfl,(aM Z).seq hS,fun q hq=>?_⟩;rw[aMt ns hn];refine⟨q,_,rfl,.inl (aP aH),fun c hc=>?_⟩;have Y:q≠p:=(aZ aH hq).symm;have U:c≠p:=(aZ (show upd (upd H p (HO.dK [])) q (.lst (ns.map V.int)) p=some (HO.dK []) by rw[bE Y.symm,aH]) hc).symm;refine⟨by rw[bE U.symm,bE Y.symm,aH],[(iE,.ref c),(kAt,.int 0),(jW,.int 0)],rfl,by show 3<=15;decide,?_⟩;have em:oF [] [(iE,V.ref c),(kAt,.int 0),(jW,.int 0)]=iR c 0 0:=by
  have e1:iL ([]:List (Key×V)) iE (.ref c)=[(iE,.ref c)]:=by rw[vW _ vU];rfl
  have e2:iL [(iE,V.ref c)] kAt (.int 0)=[(iE,.ref c),(kAt,.int 0)]:=by rw[vW _ (by rw[cR aLd,vU])];rfl
  have e3:iL [(iE,V.ref c),(kAt,.int 0)] jW (.int 0)=[(iE,.ref c),(kAt,.int 0),(jW,.int 0)]:=by rw[vW _ (by rw[cR aLe,cR aJu,vU])];rfl
  show iL (iL (iL [] iE (.ref c)) kAt (.int 0)) jW (.int 0)=_;rw[e1,e2,e3];rfl
 rw[em];refine k p c _ ⟨⟨0,Ft _,aH⟩,by rw[bE U,aH],Ft _,hn⟩ (fun b o e=>?_) Z;have J:b≠p:=aZ e Z;have W:b≠q:=aZ (show upd H p (HO.dK []) b=some o by rw[bE J];exact e) hq;have aa:b≠c:=aZ (show upd (upd H p (HO.dK [])) q (.lst (ns.map V.int)) b=some o by rw[bE W,bE J];exact e) hc;rw[bE J,bE aa,bE W,bE J];exact e
def aMu{c a b:Int}(hc:0<=c)(h:0<=a)(h2:a<=b):0<=c*a*a/\c*a*a<=c*b*b:=by
 have h1:0<=c*a:=GC hc h;have J:c*a<=c*b:=Int.mul_le_mul_of_nonneg_left h2 hc;exact⟨GC h1 h,Int.mul_le_mul J h2 h (GC hc (Int.le_trans h h2))⟩
def aNd(x:Int){a:Int}(h:0<=a)(h2:a<=1000000):Int.natAbs (x%(2147483629:Int)+(1213:Int)*a*a+(3:Int))<2^64:=by
 obtain⟨b1,b2⟩:=aMu (c:=(1213:Int)) (a:=a) (b:=1000000) (by decide) h h2;have e1:=CT x (show(2147483629:Int)≠0 by decide);have e2:=CK x (show 0<(2147483629:Int) by decide);lia
def aNe{x:Int}:-(2^64)<x%(2147483543:Int)/\x%(2147483543:Int)<2^64:=by
 have e1:=CT x (show(2147483543:Int)≠0 by decide);have e2:=CK x (show 0<(2147483543:Int) by decide);lia
def aJv{f:Ag}{fd:Ay}(F:Fn K "_law_take" aHp f fd)(ac:mg "len"=none)(Y:mg "abs"=none):cC P w K mg base CX0 1 f fd ["_law_pen_here","_law_many"] aHF:=by
 refine okA F ["_law_pen_here","_law_many","_law_found","_law_at","_law_cells","_law_cell","_law_one","_law_two"] fun am A outer s H vs Q E hr nd h=>?_;obtain⟨p,c,ns,a,m,rfl,hp,ha,hm,hm2,k⟩:=h;have hu:=qV hr;have ak:(A.deeper (Dl "_law_take" (bC aHp) s.heap.objs.size f am)).units<cLine:=by lia
 refine⟨_,aK (bX (cT nY (qU hu (pv 0) aO Ih) aD)
   (aK (cF 2 nd (aW gT (qU hu (pv 0) aO Ih) (pv 1)))
   (aK (aAD hu (pv 0) aO (aW wB (qU hu (pv 0) aO Ih) (pv 1)) rfl)
   (aN (aT (pv 2))))) bA)
  (aK (cF 3 nd (qU hu (pv 0) aO Ih))
  (aK (aAD hu (pv 0) aO (aW dF (pv 3) aD) rfl)
  (aK (cF 4 nd (qU hu (pv 0) aO Ih))
  (aK (cF 5 nd (aW dF (aW dF (aW mE (aW mE aD (pv 3)) (pv 3)) (aW mE aD (pv 3))) aD))
  (aK (gW <| bX (cT (aGI ak) (pv 4) (dC dP))
   (aN (cF 5 nd (aX bJ (pv 4) (aW gT (pv 3) (aQ aS (by rfl) ac Av (gN (pv 4) dP))) Ih))) bA)
  (aK (gW <| bX (kH (cT yJ (pv 3) (aQ aS (by rfl) ac Av (gN (pv 4) dP)))
    (jQ (cT aGk (aQ vO (by rfl) Y (by kernel_rfl) (gN (pv 5) dP)) (aW gH aD aD)))).pt
   (aK (aAD hu (pv 0) aO (aW wB (aQ vO (by rfl) Y (by kernel_rfl) (gN (pv 5) dP)) (pv 1)) rfl)
   (aN (aT (aW gT (aQ vO (by rfl) Y (by kernel_rfl) (gN (pv 5) dP)) (pv 1))))) bA)
  (aK (cF 6 nd (aW gT (aW gH (aW dF (aW dF (aW gT (pv 5) aD) (aW mE aD (pv 3))) aD) aD) aD))
  (aK (cF 7 nd (aW gT (aW gH (aW dF (aW dF (pv 6) (aW mE (aW mE aD (pv 3)) (pv 3))) aD) aD) aD))
  (aN (aT (aW gT (aW wB (aW gT (aW mE (pv 7) (aW dF (aW gT (pv 6) aD) aD)) aD) aD) (pv 1)))))))))))),?_⟩
 have⟨⟨l,hl0,hob⟩,hce,hge,hsm⟩:=id hp;have ae:=hp.ne;refine⟨_,rfl,p,_,rfl,aLh hob,_,_,rfl,rfl,_,rfl,dH (fun h0=>?_) (fun h0=>?_)⟩
 .exact⟨_,rfl,p,_,rfl,aLh hob,_,rfl,_,_,rfl,rfl,hm,_,rfl,p,_,rfl,aLh hob,_,rfl,_,_,rfl,rfl,yX.of hm hm2,_,rfl,p,_,rfl,aMs _ hob,_,rfl,k (l%m) a _ (CT _ (by lia)) (CK _ hm) (Ft _) (by lia) ⟨⟨l/m,Int.ediv_nonneg hl0 (by lia),aH⟩,by rw[bE ae];exact hce,hge,hsm⟩ (bM.refl p H).upd⟩
 .refine⟨_,rfl,p,_,rfl,aNa hob,_,rfl,_,_,rfl,rfl,_,rfl,p,_,rfl,aNc _ hob,_,rfl,p,_,rfl,aNb aH,_,rfl,_,_,rfl,rfl,.inl (by decide),_,rfl,_,_,rfl,rfl,.inr (by lia),_,rfl,_,_,rfl,rfl,.inl (by decide),_,_,rfl,rfl,_,_,rfl,rfl,?_⟩;have W:bM p H (upd H p (.dK (iR c (a+1) l))):=(bM.refl p H).upd;have U:(upd H p (.dK (iR c (a+1) l))) c=some (.lst (ns.map V.int)):=by rw[bE ae];exact hce
  refine⟨fun σ' H'=>∃ J:Int,σ'=[some (.ref p),some (.int m),none,some (.int a),some (.ref c),some (.int J),none,none]/\bM p H H'/\H' p=some (.dK (iR c (a+1) l))/\H' c=some (.lst (ns.map V.int)),?_,?_⟩
  .refine⟨_,rfl,A3 _,fun q hq=>?_⟩;have s2:=aM (o:=.lst []) hq;refine⟨c,q,ns.map V.int,[],rfl,rfl,aP (s2 _ _ U),aP aH,lF ns,rfl,_,rfl,dH (fun ah=>?_) (fun ah=>?_)⟩
   .have an:0<ns.length:=by
     cases ns with
     | nil=>exact absurd ah (by simp[wD])
     | cons x r=>simp
    have ai:(a%(ns.length:Int)).toNat<ns.length:=by
     have h1:=CK a (show(0:Int)<ns.length by lia);have h2:=CT a (show(ns.length:Int)≠0 by lia);lia
    have aj:atI (ns.map V.int) (a%(ns.length:Int))=some (.int (ns[(a%(ns.length:Int)).toNat])):=by
     have h2:=CT a (show(ns.length:Int)≠0 by lia);have e:=bG (xs:=ns.map V.int) (j:=(a%(ns.length:Int)).toNat) (v:=.int (ns[(a%(ns.length:Int)).toNat])) (by rw[AF,Ai ai];rfl);rw[C7 h2]at e;exact e
    have ag:atI (ns.map V.int) (a%((ns.map V.int).length:Int))=some (.int (ns[(a%(ns.length:Int)).toNat])):=by
     rw[Ab];exact aj
    exact⟨_,rfl,_,rfl,_,rfl,c,_,rfl,.inl (aP (s2 _ _ U)),_,_,rfl,rfl,(by rw[Ab];lia),c,_,_,_,rfl,rfl,aP (s2 _ _ U),ag,_,rfl,W.same s2,s2 _ _ aH,s2 _ _ U⟩
   .exact⟨_,rfl,W.same s2,s2 _ _ aH,s2 _ _ U⟩
  .rintro σ' H' ⟨J,rfl,kp,Z,O⟩;refine⟨fun σ' H'=>∃ J:Int,σ'=[some (.ref p),some (.int m),none,some (.int a),some (.ref c),some (.int J),none,none]/\bM p H H'/\H' p=some (.dK (iR c (a+1) l))/\H' c=some (.lst (ns.map V.int)),?_,?_⟩
   .refine⟨_,rfl,_,rfl,c,_,rfl,.inl (aP O),_,_,rfl,rfl,_,rfl,dH (fun h1=>?_) (fun h1=>?_)⟩
    .refine⟨_,rfl,_,rfl,_,_,rfl,rfl,⟨by decide,by decide,by decide⟩,_,_,rfl,rfl,_,rfl,dH (fun h2=>?_) (fun h2=>?_)⟩
     .refine⟨_,rfl,_,rfl,_,rfl,_,_,rfl,rfl,yX.of hm hm2,_,rfl,p,_,rfl,aMs _ Z,_,rfl,_,rfl,_,rfl,_,_,rfl,rfl,hm,?_⟩;have ad:0<=(if J<0 then -J else J):=by split<;>lia
      exact k _ (a+1) _ (CT _ (by lia)) (CK _ hm) (by lia) (Ft _) ⟨⟨_,Int.ediv_nonneg ad (by lia),aH⟩,by rw[bE ae];exact O,by lia,hsm⟩ kp.upd
     .exact⟨J,rfl,kp,Z,O⟩
    .exact bQ ⟨J,rfl,kp,Z,O⟩
   .rintro σ' H' ⟨J,rfl,kp,Z,O⟩;refine⟨_,rfl,_,_,rfl,rfl,(by show(0:Int)<_;decide),_,rfl,_,_,rfl,rfl,.inl (by decide),_,_,rfl,rfl,_,_,rfl,rfl,_,_,rfl,rfl,⟨by decide,by decide,?_⟩,_,_,rfl,rfl,(by show(0:Int)<_;decide),?_⟩
    .have e1:=CT J (show(2147483587:Int)≠0 by decide);have e2:=CK J (show 0<(2147483587:Int) by decide);show Int.natAbs (J%(2147483587:Int)+(45007:Int)*a+(11:Int))<2^64;lia
    .exact⟨_,rfl,_,rfl,_,_,rfl,rfl,.inl (by decide),_,rfl,_,_,rfl,rfl,.inr (by lia),_,_,rfl,rfl,_,_,rfl,rfl,_,_,rfl,rfl,⟨by decide,by decide,aNd _ hge ha⟩,_,_,rfl,rfl,(by show(0:Int)<_;decide),_,rfl,_,rfl,_,_,rfl,rfl,(by show(0:Int)<_;decide),_,_,rfl,rfl,_,_,rfl,rfl,.inl aNe,_,_,rfl,rfl,(by show(0:Int)<_;decide),_,_,rfl,rfl,yX.of (by decide) (by trivial),_,rfl,_,_,rfl,rfl,hm,k _ (a+1) _ (CT _ (by lia)) (CK _ hm) (by lia) (Ft _) ⟨⟨l,hl0,Z⟩,O,by lia,hsm⟩ kp⟩
structure Nms(ws:List Str):Prop where
 nd:ws.Nodup
 ok:∀ w∈ws,bH w=true
def Nms.take{ws:List Str}(h:Nms ws)(n:Nat):Nms (ws.take n):=⟨h.nd.sublist (List.take_sublist n ws),fun w hw=>h.ok w (Dv hw)⟩
inductive zS(vs:List V)(H:Hp)(Q:VK)(u3_:XK):Prop
 | mk (p c:Ag) (ns:List Int) (a:Int) (m:Nat) (q0:vs=[.ref p,.int m]) (q1:cW H p c ns a) (q2:a<=900000) (q3:m<=44) (q4:∀ l ws a' H',H l=none->H' l=some (.lst (ws.map V.str))->ws.length=m->Nms ws->a<=a'->a'<=a+30->cW H' p c ns a'->bM p H H'->Q (.ref l) H'):zS vs H Q u3_
def aEu:Sp:=fun vs H Q u3_=>zS vs H Q u3_
theorem qG(l:List Nat):∀(m s:Nat),(EI s m).filterMap (fun j=>l.toArray[j]?)=(l.drop s).take m
 | 0,s=>by simp
 | m+1,s=>by
  rw[List.range'_succ,DD];have J:=qG l m (s+1);by_cases h:s<l.length
  .have e:l.toArray[s]?=some l[s]:=by simp[h]
   rw[e];dsimp only;rw[J,Ci h,List.take_succ_cons]
  .have e:l.toArray[s]?=none:=by simp;lia
   rw[e];dsimp only;rw[J,DT (by lia),DT (by lia)];simp
def aJw:∀ n:Nat,n<7->∀ s:Nat,s<7->s<=n->Builtin.Str.strSliceIndices none (some (s:Int)) 1 n=EI 0 s:=by trivial
def aFR:∀ n:Nat,n<7->∀ s:Nat,s<7->s<=n->Builtin.Str.strSliceIndices (some (s:Int)) none 1 n=EI s (n-s):=by trivial
def aMv{b:List Nat}{s:Nat}(O:b.length<=6)(J:s<=b.length):Ea (mk b) none (some (s:Int))=mk (b.take s):=by
 unfold Ea;rw[mS,aJw _ (by lia) _ (by lia) J];split
 .next h=>
  simp at h;rw[h,Bh]
 .have e:=qG b s 0;rw[C6]at e;exact congrArg mk e
def aJx{b:List Nat}{s:Nat}(U:b.length<=6)(J:s<=b.length):Ea (mk b) (some (s:Int)) none=mk (b.drop s):=by
 unfold Ea;rw[mS,aFR _ (by lia) _ (by lia) J];split
 .next h=>
  simp at h;have:s=0\/b.length=0:=by lia
  rcases this with rfl|O
  .rfl
  .rw[List.length_eq_zero_iff.mp O];simp
 .have e:=qG b (b.length-s) s;rw[show(b.drop s).take (b.length-s)=b.drop s from Bi (by rw[B7];exact Ap _)]at e;exact congrArg mk e
def aFS(bs:List Nat):∀ J:Array Nat,(bs.map fun c=>mk [c]).foldl (fun(J:Array Nat) (p:Str)=>J++(Be "").cps++p.cps) J=J++bs.toArray:=by
 have e0:(Be "").cps=#[]:=by trivial
 induction bs with
 | nil=>intro J;simp
 | cons x r O=>
  intro J;rw[A6,Gj,O,e0];simp[mk]
def aJy(bs:List Nat):Dy "" (bs.map fun c=>mk [c])=mk bs:=by
 show Fg _ _=_;unfold Fg;cases bs with
 | nil=>rfl
 | cons x r=>
  have:=aFS r #[x];simp only[A6,List.headD_cons,List.drop_succ_cons,C6];show(⟨List.foldl _ _ _⟩:Str)=_;rw[show(mk [x]).cps=#[x] from rfl];rw[this];simp[mk]
def aAX(x:Nat){j:Int}(O:j=(x:Int)%26):atI abc.cps.toList j=some (iQ x):=by
 have J:0<=j:=by lia
 have h1:j<26:=by lia
 rw[aHA J h1];unfold iQ;congr 1;lia
def aHG(f n:Nat)(h:n≠0):bij (f+1) n=bij f ((n-1)/2)++[n%2]:=by
 show(if n=0 then[] else _)=_;rw[Ia h]
def aJz{ws:List Str}(h:∀ w∈ws,w.length=1):(ws.map (·.length)).sum=ws.length:=by
 induction ws with
 | nil=>rfl
 | cons x r J=>
  rw[A6,Co,J fun w hw=>h w (AN _ hw),h x AQ,An];lia
abbrev gF(P:Ar)(w:AW)(K:Ae)(mg:Str->Option Ac)(base:Bb):Prop:=Cal P w K mg base 1 "_law_take" ["_law_pen_here","_law_many"] aHF
def aHH{f:Ag}{fd:Ay}(F:Fn K "_law_names" aDp f fd)(bn:mg "len"=none)(af:mg "range"=none)(bp:mg "min"=none)
  (GT:gF P w K mg base):
  cC P w K mg base CX0 2 f fd ["_law_pen_here","_law_many"] aEu:=by
 refine okA F ["_law_pen_here","_law_many","_law_letters","_law_way","_law_turn","_law_k","_law_base","_law_spot","_law_found","_law_word","_law_rest","_law_terms"] fun c6 A outer s H vs Q E hr nd h=>?_;obtain⟨p,c,ns,a,m,rfl,hp,ha,hm,k⟩:=h;refine⟨_,aK (sV (i:=2) nd rfl (FU rfl) aO)
  (aK (cF 3 nd (bO GT hr (pa2 (pv 0) aD)))
  (aK (cF 4 nd (bO GT hr (pa2 (pv 0) aD)))
  (aK (cF 6 nd (eV A9 CH CG pB aO (pa1 (eU (N:=["_law_k","_law_letters","_law_pen_here"]) (src:=[none,some 2,some 0]) (osc:=bC aDp) (oN:=["_law_pen_here","_law_many","_law_letters","_law_way","_law_turn","_law_k","_law_base","_law_spot","_law_found","_law_word","_law_rest","_law_terms"]) bkA
     (iK rfl af (pa1 (aX bJ (dC (pa3 (bO GT hr (pa2 (pv 0) aD)) aD aD)) (pv 3) Ih)))
     fun cl s H fp dl C=>⟨bW (i:=0) (show(["_law_k","_law_letters","_law_pen_here"]:List Str).Nodup by trivial) rfl (Bp rfl),dJ,aX mH (pv 1) (bO GT hr (pa2 (pv 2) aD)) Ih⟩))))
  (aK (cF 7 nd (bO GT hr (pa2 (pv 0) (aW dF (aQ eQ (by rfl) bn Av (pa1 (pv 6))) aD))))
  (aK (cF 8 nd (dC dP))
  (aK (jG B1 rfl (iK rfl af (pa1 (pv 1))) (bW (i:=5) nd rfl (Bp rfl))
   (aK (cF 9 nd (aW bY (aX mH (pv 2) (aW gT (aW dF (pv 4) (aW mE aD (pv 5))) aD) Ih) (aX mH (pv 2) (aW gT (aW dF (pv 4) (aW aAu (pv 5) aD)) aD) Ih)))
   (aK (cF 9 nd (aW bY (aW bY (cN oH (pv 6) dU (cM (pv 7))) (pv 9)) (cN oH (pv 6) (cM (pv 7)) dU)))
   (aK (gW <| bX (cT cP (pv 3) aD)
    (aK (cF 9 nd aO)
    (aK (cF 10 nd (aW dF (pv 5) aD))
    (aN (aGh B1 (cT nY (pv 10) aD)
     (aK (cF 9 nd (aW bY (aX mH (pv 2) (aW gT (aW dF (pv 4) (aW mE aD (aW gT (pv 10) aD))) aD) Ih) (pv 9)))
     (aN (cF 10 nd (aW aAu (aW qB (pv 10) aD) aD)))))))) bA)
   (aN (fZ (eV A7 Bv Bu gC (pv 8) (pa1 (pv 9)))))))))
  (aK (cF 11 nd (dC (cU aO (cU aO (cU aO (cU aO (cU aO (cU aO (pa3 aO aO aO)))))))))
  (aK (gW <| bX (cT cP (bO GT hr (pa2 (pv 0) aD)) aD)
   (aN (jG B1 rfl (iK rfl af (pa1 (aQ (yK rfl) (by rfl) bp (by kernel_rfl) (pa2 (pv 1) aD)))) (bW (i:=5) nd rfl (Bp rfl))
    (aN (bX (PW.pt (kH (cT cP (bO GT hr (pa2 (pv 0) aD)) aD) (jQ (eJ iB (aX bJ (pv 11) (pv 5) Ih) (pv 8) (by with_unfolding_all rfl)))))
     (aN (nX (aX bJ (pv 11) (pv 5) Ih) (aAs (pv 8) (pv 5) qR))) bA)))) bA)
  (aN (aT (pv 8))))))))))),?_⟩
 have e0:(Be "").length=0:=by trivial
 have zA:abc.length<=sizeLine:=aJ (by rw[aJq];decide);refine⟨_,rfl,p,c,ns,a,_,rfl,hp,by lia,by decide,by trivial,fun Y a1 H1 w0 w1 l1 u1 cc cf=>?_⟩;refine⟨_,rfl,p,c,ns,a1,_,rfl,cc,by lia,by decide,by trivial,fun tt a2 H2 t0 t1 l2 u2 b1 cb=>?_⟩;obtain⟨t,rfl⟩:∃ t:Nat,tt=t:=⟨tt.toNat,by lia⟩
 refine⟨rfl,_,rfl,p,c,ns,a2,_,rfl,b1,by lia,by decide,by trivial,fun r3 a3 H3 dc dj l3 u3 cq cg=>?_⟩;refine⟨zZ3,fun q hq=>?_⟩;have sq:=aM (o:=.lst [V.int r3,.int 0,.int 6]) hq;have⟨v,hv,ap⟩:=gX (xs:=[V.int r3,.int 0,.int 6]) (i:=Y) w0 (by show Y<3;lia);obtain⟨n,rfl,hn0,hn6⟩:∃ n:Int,v=.int n/\0<=n/\n<=6:=by
  simp only[Ao,AB,or_false]at hv;rcases hv with rfl|rfl|rfl
  .exact⟨_,rfl,by lia,by lia⟩
  .exact⟨_,rfl,by lia,by lia⟩
  .exact⟨_,rfl,by lia,by lia⟩
 refine⟨_,rfl,q,_,Y,_,rfl,rfl,aP aH,ap,n,rfl,by lia,by lia,?_⟩;have kq:bM p H (upd H3 q (.lst [V.int r3,.int 0,.int 6])):=((cf.trans cb).trans cg).same sq;have bq:=cq.same sq;generalize upd H3 q (.lst [V.int r3,.int 0,.int 6])=H4 at kq bq ⊢;refine mI (fun i ys σ' H'=>∃(a':Int) (bs:List Nat) (o:Option V),σ'=[o,some (.str abc),some (.ref p)]/\cW H' p c ns a'/\bM p H H'/\a3<=a'/\a'<=a3+i/\ys=(bs.map fun c=>mk [c]).map V.str/\bs.length=i/\(∀ c∈bs,isL c=true))
  ⟨a3,[],none,rfl,bq,kq,by lia,by lia,rfl,rfl,fun w hw=>by simp at hw⟩ (aJ (by lia)) (fun i ys σ H p=>by obtain⟨_,bs,_,_,_,_,_,_,rfl,e,_⟩:=p;rw[Ab,Ab,e];exact Ap _) ?_ ?_
 .rintro i' ys σ' H5 c3 ⟨a',bs,o,rfl,aR,aA,dg,c8,rfl,hl,hb⟩;dsimp only[bT];refine bF ?_;refine⟨_,rfl,_,rfl,p,c,ns,a',_,rfl,aR,by lia,by decide,by trivial,fun r6 a6 H6 bu bv l6 u6 aq an=>?_⟩;refine⟨_,r6,iQ r6.toNat,rfl,rfl,zA,aHA bu bv,a6,bs++[iQ r6.toNat],_,rfl,aq,aA.trans an,by lia,by lia,by rw[Al,Al];rfl,by rw[Am,hl];rfl,fun c hc=>?_⟩;rcases A4.mp hc with z|z
  .exact hb c z
  .rw[Bd.mp z];exact aAW _
 .rintro ys σ' H5 ⟨a4,b,o,rfl,aR,aA,l4,u4,rfl,db,hb⟩ D hD;have ba:b.length<=6:=by lia
  refine⟨_,D,b.map (fun c=>mk [c]),rfl,rfl,aP aH,by
   rw[aJz (fun w hw=>by obtain⟨x,_,rfl⟩:=Bn.mp hw;rfl),Ab,e0];lia,?_⟩
  rw[aJy];have aq:=aR.same (aM (o:=.lst ((b.map fun c=>mk [c]).map V.str)) hD);have an:bM p H _:=aA.same (aM (o:=.lst ((b.map fun c=>mk [c]).map V.str)) hD);generalize upd H5 D (.lst ((b.map fun c=>mk [c]).map V.str))=H6 at aq an ⊢;refine⟨_,rfl,_,rfl,mk b,rfl,aJ (by rw[mS];lia),_,_,rfl,rfl,p,c,ns,a4,_,rfl,aq,by lia,by lia,by rw[mS];lia,fun ss a5 H7 s0 s1 l5 u5 aC b7=>?_⟩;rw[mS]at s1;obtain⟨sp,rfl⟩:∃ sp:Nat,ss=sp:=⟨ss.toNat,by lia⟩
  refine⟨A3 _,fun L hL=>?_⟩;have bz:=an.trans b7;have am:L≠p:=by
   have⟨l,_,z⟩:=aC.ob;exact(aZ z hL).symm
  have cr:L≠c:=(aZ aC.ce hL).symm;have bo:H L=none:=by
   cases e:H L with
   | none=>rfl
   | some x=>exact absurd (bz L x e am) (by rw[hL];simp)
  refine⟨_,rfl,m,rfl,by lia,by lia,oZ (n:=(m:Int).toNat) (fun i σ H'=>Ex3 fun o5 o9 W=>σ=[some (.ref p),some (.int m),some (.str abc),some (.int Y),some (.int t),o5,some (.str (mk b)),some (.int sp),some (.ref L),o9,W,none]/\H'=upd H7 L (.lst (((AY i).map fun k=>mk (word (decide (Y=1)) b sp t k)).map V.str))) ⟨_,_,_,rfl,rfl⟩ ?_ ?_⟩
  .rintro i σ H' hi ⟨o5,o9,W,rfl,rfl⟩;dsimp only[bT];have cy:i<44:=by lia
   refine⟨_,rfl,_,rfl,_,rfl,_,_,rfl,rfl,.inl ⟨by decide,by decide⟩,_,_,rfl,rfl,_,_,rfl,rfl,(by show(0:Int)<26;decide),_,_,iQ (t+7*i),rfl,rfl,zA,aAX _ (by lia),_,rfl,_,rfl,_,rfl,_,_,rfl,rfl,⟨by decide,by decide⟩,_,_,rfl,rfl,_,_,rfl,rfl,(by show(0:Int)<26;decide),_,_,iQ (t+i/26),rfl,rfl,zA,aAX _ (by lia),_,_,rfl,rfl,aJ (by show 1+1<=1000000;decide),?_⟩;have zB:(mk b).length<=sizeLine:=aJ (by rw[mS];lia);have ay:∀{x y},(Ea (mk b) x y).length<=6:=fun{x y}=>AH (E8 _ x y) (by rw[mS];lia);have h2:((⟨#[iQ (t+7*i)]⟩:Str)++⟨#[iQ (t+i/26)]⟩).length=2:=rfl;refine⟨_,rfl,_,rfl,_,rfl,mk b,rfl,zB,_,rfl,_,_,rfl,rfl,aJ (by have:=ay (x:=none) (y:=some (sp:Int));lia),_,rfl,_,rfl,_,rfl,mk b,rfl,zB,_,_,rfl,rfl,aJ (by have:=ay (x:=none) (y:=some (sp:Int));have:=ay (x:=some (sp:Int)) (y:=none);rw[AI];lia),?_⟩;have ew:(Ea (mk b) none (some (sp:Int))++((⟨#[iQ (t+7*i)]⟩:Str)++⟨#[iQ (t+i/26)]⟩))++Ea (mk b) (some (sp:Int)) none=mk (b.take sp++aCe t i++b.drop sp):=by
    rw[aMv ba (by lia),aJx ba (by lia)];rw[show((⟨#[iQ (t+7*i)]⟩:Str)++⟨#[iQ (t+i/26)]⟩)=mk (aCe t i) from rfl,aDt,aDt]
   rw[ew];refine⟨fun σ' H'=>∃ W,σ'=[some (.ref p),some (.int m),some (.str abc),some (.int Y),some (.int t),some (.int (0+i)),some (.str (mk b)),some (.int sp),some (.ref L),some (.str (mk (word (decide (Y=1)) b sp t i))),W,none]/\H'=upd H7 L (.lst (((AY i).map fun k=>mk (word (decide (Y=1)) b sp t k)).map V.str)),?_,?_⟩
   .refine⟨_,rfl,rfl,_,rfl,dH (fun g=>?_) (fun g=>?_)⟩
    .have g':Y=1:=V.int.inj (Ig g);subst g';refine⟨_,rfl,_,_,rfl,rfl,fun mm σ' H'=>∃(r f:Nat) (O:List Nat) (rv:Int) (wv:Str),mm=r/\rv=(r:Int)/\wv=mk (O.map fun d=>iQ (t+9*d))/\σ'=[some (.ref p),some (.int m),some (.str abc),some (.int 1),some (.int t),some (.int (0+i)),some (.str (mk b)),some (.int sp),some (.ref L),some (.str wv),some (.int rv),none]/\H'=upd H7 L (.lst (((AY i).map fun k=>mk (word (decide ((1:Int)=1)) b sp t k)).map V.str))/\bij f r++O=bij 6 (i+1)/\r<2^f/\O.length+f<=6,⟨i+1,i+1,6,[],_,_,rfl,(by show 0+(i:Int)+1=((i+1:Nat):Int);lia),(by show Be ""=mk [];trivial),rfl,rfl,by simp,by lia,by simp⟩,?_⟩;rintro mm σ' H' ⟨r,f,O,rv,wv,rfl,rfl,rfl,rfl,rfl,ai,bd,c9⟩;refine⟨_,rfl,_,_,rfl,rfl,_,rfl,dH (fun g2=>?_) (fun g2=>?_)⟩
     .have b5:(0:Int)<mm:=Ig g2;refine⟨_,fun de di h=>h,?_⟩;obtain⟨f',rfl⟩:∃ f',f=f'+1:=by
       cases f with
       | zero=>exact absurd bd (by lia)
       | succ x=>exact⟨x,rfl⟩
      have e2:mk [iQ (t+9*(mm%2))]++mk (O.map fun d=>iQ (t+9*d))=mk (((mm%2)::O).map fun d=>iQ (t+9*d)):=by rw[aDt];rfl
      refine⟨_,rfl,_,rfl,_,rfl,_,_,rfl,rfl,(by show(0:Int)<2;decide),_,_,rfl,rfl,.inl ⟨by decide,by decide⟩,_,_,rfl,rfl,_,_,rfl,rfl,(by show(0:Int)<26;decide),_,_,iQ (t+9*(mm%2)),rfl,rfl,zA,aAX _ (by lia),_,rfl,_,_,rfl,rfl,aJ (by rw[mS,Ab];show 1+_<=_;lia),_,rfl,_,_,rfl,rfl,_,_,rfl,rfl,⟨by decide,by decide⟩,(mm-1)/2,by lia,(mm-1)/2,f',(mm%2)::O,_,_,rfl,?_,e2,rfl,rfl,?_,?_,?_⟩
      .show((mm:Int)-1)/2=_;lia
      .rw[<- ai,aHG f' mm (by lia)];simp
      .rw[Hj]at bd;lia
      .rw[An];lia
     .have b5:¬ (0:Int)<mm:=fun z=>g2 (Ic z);have hz:mm=0:=by lia
      subst hz;have e3:bij f 0=[]:=by cases f<;>rfl
      rw[e3,List.nil_append]at ai;have e4:word (decide ((1:Int)=1)) b sp t i=O.map fun d=>iQ (t+9*d):=by
       rw[ai];rfl
      exact⟨some (V.int ((0:Nat):Int)),by rw[e4],rfl⟩
    .have g':¬ Y=1:=fun z=>g (Ic (by rw[z]));rw[Ie g'];exact⟨_,rfl,rfl⟩
   .rintro σ' H' ⟨W,rfl,rfl⟩;refine⟨_,rfl,.inl ⟨rfl,_,aP aH⟩,_,rfl,L,_,_,rfl,rfl,aH,by rw[Ab,Ab,CQ];exact fM (by lia),_,_,_,rfl,?_⟩;rw[aAq,Ek,Al,Al];rfl
  .rintro σ H' ⟨o5,o9,W,rfl,rfl⟩;have S8:=aM (o:=.lst (((AY (m:Int).toNat).map fun k=>mk (word (decide (Y=1)) b sp t k)).map V.str)) hL;have ar:=aC.same S8;have aI:=bz.same S8;have ao:upd H7 L (.lst (((AY (m:Int).toNat).map fun k=>mk (word (decide (Y=1)) b sp t k)).map V.str)) L=_:=aH;have hN:Nms ((AY (m:Int).toNat).map fun k=>mk (word (decide (Y=1)) b sp t k)):=by
    refine⟨aJt (by lia) (by lia),fun w hw=>?_⟩;obtain⟨k',hk',rfl⟩:=Bn.mp hw;have:=Ce.mp hk';exact aFP (by lia) ba hb
   have aF:((AY (m:Int).toNat).map fun k=>mk (word (decide (Y=1)) b sp t k)).length=m:=by rw[Ab,CQ];lia
   generalize ((AY (m:Int).toNat).map fun k=>mk (word (decide (Y=1)) b sp t k))=ws at ar aI ao hN aF ⊢;generalize upd H7 L (.lst (ws.map V.str))=H8 at ar aI ao ⊢;refine⟨zZ9,fun T hT=>?_⟩;have S9:=aM (o:=.lst (pY.map V.str)) hT;have bB:upd H8 T (.lst (pY.map V.str)) T=some (.lst (pY.map V.str)):=aH;have br:=ar.same S9;have ax:=aI.same S9;have bj:=S9 _ _ ao;have b2:T≠L:=(aZ ao hT).symm;have bc:T≠p:=by
    have⟨l,_,z⟩:=ar.ob;exact(aZ z hT).symm
   have eT:upd H8 T (.lst [V.str "as",.str "with",.str "part",.str "field",.str "none",.str "done",.str "write",.str "back",.str "join"])=upd H8 T (.lst (pY.map V.str)):=rfl;rw[eT];generalize upd H8 T (.lst (pY.map V.str))=H9 at br ax bj bB ⊢;refine⟨fun σ' H'=>∃(o5:Option V) (vs:List Str) (a6:Int),σ'=[some (.ref p),some (.int m),some (.str abc),some (.int Y),some (.int t),o5,some (.str (mk b)),some (.int sp),some (.ref L),o9,W,some (.ref T)]/\H' L=some (.lst (vs.map V.str))/\vs.length=m/\Nms vs/\cW H' p c ns a6/\a<=a6/\a6<=a+30/\bM p H H',?_,?_⟩
   .refine⟨_,rfl,p,c,ns,a5,_,rfl,br,by lia,by decide,by trivial,fun r6 a6 dh bu bv l6 u6 au ak=>?_⟩;have aw:=ak _ _ bj am;have bx:=ak _ _ bB bc;have av:=ax.trans ak;refine⟨rfl,_,rfl,dH (fun g=>?_) (fun g=>?_)⟩
    .refine⟨_,rfl,_,_,rfl,?_⟩;obtain⟨n9,hn9,n90,n91,n92⟩:∃ n9:Int,(if (9:Int)<m then(9:Int) else m)=n9/\0<=n9/\n9<=9/\n9<=m:=by
      refine⟨_,rfl,?_⟩;split<;>lia
     rw[hn9];refine⟨n9,rfl,by lia,by lia,oZ (n:=n9.toNat) (fun i σ H'=>Ex3 fun(o5:Option V) (vs:List Str) (a7:Int)=>Aw6 (σ=[some (.ref p),some (.int m),some (.str abc),some (.int Y),some (.int t),o5,some (.str (mk b)),some (.int sp),some (.ref L),o9,W,some (.ref T)]) (H' L=some (.lst (vs.map V.str))) (H' T=some (.lst (pY.map V.str))) (vs.length=m) (Nms vs) (Aw3 (cW H' p c ns a7) (a6<=a7) (a7<=a6+i/\bM p H H'))) ⟨_,ws,a6,rfl,aw,bx,aF,hN,au,by lia,by simp,av⟩ ?_ ?_⟩
     .rintro i σ H' hi ⟨be,vs,a7,rfl,ae,bw,Z,U,ag,b9,b8,kv⟩;dsimp only[bT];refine⟨_,rfl,p,c,ns,a7,_,rfl,ag,by lia,by decide,by trivial,fun r8 a8 c5 c7 c1 l8 u8 ah aj=>?_⟩;have aa:=aj _ _ ae am;have J:=aj _ _ bw bc;have aB:=kv.trans aj;refine⟨rfl,_,rfl,dH (fun g2=>?_) (fun g2=>?_)⟩
      .obtain⟨term,hterm⟩:∃ x,pY[i]?=some x:=⟨_,Ai (show i<9 by lia)⟩
       have b4:ixN (pY.map V.str).length (0+(i:Int))=some i:=by
        unfold ixN;rw[Ab,Ib (by lia),Ib (by show 0+(i:Int)<9;lia)];congr 1;lia
       have ap:atI (pY.map V.str) (0+(i:Int))=some (V.str term):=by
        unfold atI;rw[b4];simp[hterm]
       have bt:ixN (vs.map V.str).length (0+(i:Int))=some i:=by
        unfold ixN;rw[Ab,Ib (by lia),Ib (by lia)];congr 1;lia
       refine⟨_,rfl,_,rfl,T,_,_,_,rfl,rfl,aP J,ap,_,rfl,L,_,rfl,.inl (aP aa),rfl,fO vs,_,rfl,?_⟩;rw[Ib rfl,mT];refine dH (fun g3=>?_) (fun g3=>?_)
       .have b3:term∉vs:=by simpa using g3
        refine⟨_,rfl,_,rfl,T,_,_,_,rfl,rfl,aP J,ap,_,rfl,_,rfl,L,_,_,i,rfl,rfl,aa,bt,_,vs.set i term,a8,rfl,by rw[aH,<- FW],by rw[bE b2];exact J,by rw[E9,Z],⟨aHC U.nd b3,fun w hw=>?_⟩,?_,by lia,by lia,?_⟩
        .rcases DB hw with z|z
         .exact U.ok w z
         .rw[z];exact aDu term (AG hterm)
        .obtain⟨⟨l,hl,e⟩,ce,ge,sm⟩:=ah;exact⟨⟨l,hl,by rw[bE am.symm];exact e⟩,by rw[bE cr.symm];exact ce,ge,sm⟩
        .intro x o e ne;have nx:x≠L:=aZ e bo;rw[bE nx];exact aB x o e ne
       .exact⟨_,vs,a8,rfl,aa,J,Z,U,ah,by lia,by lia,aB⟩
      .exact⟨_,vs,a8,rfl,aa,J,Z,U,ah,by lia,by lia,aB⟩
     .rintro σ H' ⟨be,vs,a7,rfl,ae,bw,Z,U,ag,b9,b8,kv⟩;exact⟨_,vs,a7,rfl,ae,Z,U,ag,by lia,by lia,kv⟩
    .exact⟨_,ws,a6,rfl,aw,aF,hN,au,by lia,by lia,av⟩
   .rintro σ' H' ⟨be,vs,a6,rfl,ae,Z,U,ag,ca,cm,kv⟩;exact⟨_,rfl,k L vs a6 H' bo ae Z U ca cm ag kv⟩
structure OkD(b k:Nat)(d:Aj):Prop where
 sh:d.showable=true
 dp:d.depth<=k
 len:d.shown.length<=b
def OkD.mono{b J k O:Nat}{d:Aj}(h:OkD b k d)(U:b<=J)(W:k<=O):OkD J O d:=⟨h.sh,AH h.dp W,AH h.len U⟩
theorem aKo{b k:Nat}:∀{ds:List Aj},(∀ d∈ds,OkD b k d)->PyData.showableAll ds=true/\PyData.depthAll ds<=k/\((ds.map Ej).map (·.length)).sum<=ds.length*b
 | [],_=>⟨rfl,A3 _,by simp⟩
 | d::r,h=>by
  obtain⟨h1,h2,h3⟩:=aKo (ds:=r) fun x J=>h x (AN _ J);obtain⟨g1,g2,g3⟩:=h d AQ;refine⟨?_,?_,?_⟩
  .unfold PyData.showableAll;rw[g1,h1];rfl
  .unfold PyData.depthAll;exact Nat.max_le.mpr ⟨g2,h2⟩
  .rw[A6,A6,Co,An,Nat.succ_mul];lia
def OkD.tuple{b k n:Nat}{ds:List Aj}(h:∀ d∈ds,OkD b k d)(hn:ds.length<=n):OkD (n*(b+2)+3) (k+1) (.tuple ds):=by
 obtain⟨h1,h2,h3⟩:=aKo h;refine⟨?_,?_,?_⟩
 .unfold F3;exact h1
 .unfold FP;lia
 .unfold Ej;rw[PyProof.Rows.shownAll_eq_map];unfold tupleText;have J:=Cy (Be ", ") (ds.map Ej);have e1:(Be ", ").length=2:=by trivial
  have e2:(Be "(").length=1:=by trivial
  have e3:∀ c:Bool,(Be (if c=true then ",)" else ")")).length<=2:=by trivial
  have e4:=e3 ((ds.map Ej).length==1);rw[e1,Ab]at J;rw[AI,AI,e2];have:ds.length*b+ds.length*2<=n*(b+2):=by
   rw[<- Nat.mul_add];exact Nat.mul_le_mul_right _ hn
  lia
theorem OkD.str{z:Str}(h:GV z=true)(O:z.length<=10):OkD 102 0 (.str z):=by
 refine⟨by unfold F3;rfl,by unfold FP;exact Ap _,?_⟩;have hz:z.cps.size<=10:=O;have J:(Bj z).layable0=true:=by
  unfold PyData.layable0 PyData.canLay0 FP PyData.weight;rw[h,Ic (show(0:Nat)<=64 by decide),Ic (show z.cps.size<=2^20 by lia)];rfl
 have:=PyProof.Rows.len_repr_of_layable J;unfold Ej;lia
def aJA{i:Int}(J:0<=i)(h1:i<10^60):(Be (toString i)).length<=60:=by
 obtain⟨n,rfl⟩:∃ n:Nat,i=n:=⟨i.toNat,by lia⟩
 rw[PySem.ofString_length];show(Int.repr (n:Int)).length<=60;have e:Int.repr (n:Int)=Nat.repr n:=rfl;rw[e];exact(Nat.length_repr_le_iff (by decide)).mpr (by lia)
def OkD.int{i:Int}(J:0<=i)(h1:i<10^60):OkD 102 0 (.int i):=by
 refine⟨?_,by unfold FP;exact Ap _,?_⟩
 .unfold F3;refine Ic ?_;have h2:i.natAbs<2^200:=by
   have:(10:Int)^60<((2^200:Nat):Int):=by trivial
   lia
  by_cases hz:i.natAbs=0
  .rw[hz];decide
  .have:=(Ht hz).mpr h2;lia
 .unfold Ej;have:=aJA J h1;lia
def aHI{z:Str}(h:bH z=true):GV z=true:=by
 unfold bH at h;rw[Aw,AR]at h;unfold GV;rw[Array.all_eq_true_iff_forall_mem];intro c hc;have:=Ig (h.2 c (by simpa using hc));exact Ic (by lia)
def OkD.name{z:Str}(h:bH z=true):OkD 102 0 (.str z):=OkD.str (aHI h) (by have:=gE h;lia)
def tyN:Aj->String
 | .none=>"NoneType"
 | .bool _=>"bool"
 | .int _=>"int"
 | .str _=>"str"
 | .list _=>"list"
 | .tuple _=>"tuple"
 | .dict _=>"dict"
def oR:Aj->Bool|.str _=>true|_=>false
def fY:Aj->Bool|.tuple _=>true|_=>false
def isInt:Aj->Bool|.int _=>true|.bool _=>true|_=>false
def aAY:Aj->Bool|.bool _=>true|_=>false
def bD:Aj->Bool|.str z=>bH z|_=>false
def bZ(lo hi:Int):Aj->Bool|.int i=>decide (lo<=i/\i<=hi)|_=>false
def eY:Aj->Bool
 | .tuple [l,h,a]=>bD l&&bD h&&bZ 1 10000000 a
 | _=>false
def hU{K:Ae}(d:Aj):Bm K (.type (tyN d)) (.type "str")=some (oR d):=by
 cases d<;>dsimp only[tyN,oR]<;>first|exact rD|exact aAI (by decide) (by trivial) (by trivial)
def jX{K:Ae}(d:Aj):Bm K (.type (tyN d)) (.type "tuple")=some (fY d):=by
 cases d<;>dsimp only[tyN,fY]<;>first|exact rD|exact aAI (by decide) (by trivial) (by trivial)
def aEv{K:Ae}(d:Aj):Bm K (.type (tyN d)) (.type "int")=some (isInt d):=by
 cases d<;>dsimp only[tyN,isInt]<;>first|exact rD|exact aAI (by decide) (by trivial) (by trivial)
def aHJ{K:Ae}(d:Aj):Bm K (.type (tyN d)) (.type "bool")=some (aAY d):=by
 cases d<;>dsimp only[tyN,aAY]<;>first|exact rD|exact aAI (by decide) (by trivial) (by trivial)
def iT{K:Ae}{m:Bool}{H:Hp}{x:V}{d:Aj}(h:RdV m H x d):kX K H x (.type (tyN d)):=by
 cases h with
 | non=>exact .non
 | bl b=>exact .bl b
 | int i=>exact .int i
 | str z _=>exact .str z
 | lst _ e _ _=>exact .lst e
 | tup e _ _=>exact .tup e
 | dct _ e=>exact .dK e
inductive xF(K:Ae)(vs:List V)(H:Hp)(Q:VK)(u3_:XK):Prop
 | mk (x:_) (q0:vs=[x]) (q1:((∃ z,x=V.str z/\z.length<=1000000/\∀ H',aU H H'->Q (.bl (bH z)) H')\/(∃ t,kX K H x t/\Bm K t (.type "str")=some false/\Q (.bl false) H))):xF K vs H Q u3_
def aCh(K:Ae):Sp:=fun vs H Q u3_=>xF K vs H Q u3_
inductive aCi(vs:List V)(H:Hp)(Q:VK)(u3_:XK):Prop
 | mk (m:Bool) (x:V) (d:Aj) (q0:vs=[x]) (q1:RdV m H x d) (q2:∀ H',aU H H'->Q (.bl (bD d)) H'):aCi vs H Q u3_
def mU:Sp:=fun vs H Q u3_=>aCi vs H Q u3_
inductive aCj(vs:List V)(H:Hp)(Q:VK)(u3_:XK):Prop
 | mk (m:Bool) (x:V) (d:Aj) (q0:vs=[x]) (q1:RdV m H x d) (q2:Q (.bl (isInt d&&!aAY d)) H):aCj vs H Q u3_
def aHK:Sp:=fun vs H Q u3_=>aCj vs H Q u3_
inductive zU(vs:List V)(H:Hp)(Q:VK)(u3_:XK):Prop
 | mk (m:Bool) (x:V) (d:Aj) (lo hi:Int) (q0:vs=[x,.int lo,.int hi]) (q1:RdV m H x d) (q2:Q (.bl (bZ lo hi d)) H):zU vs H Q u3_
def vA:Sp:=fun vs H Q u3_=>zU vs H Q u3_
inductive aCk(vs:List V)(H:Hp)(Q:VK)(u3_:XK):Prop
 | mk (m:Bool) (x:V) (d:Aj) (q0:vs=[x]) (q1:RdV m H x d) (q2:∀ H',aU H H'->Q (.bl (eY d)) H'):aCk vs H Q u3_
def xG:Sp:=fun vs H Q u3_=>aCk vs H Q u3_
structure Txt(K:Ae)(mg:Str->Option Ac):Prop where
 mostFields:∃ t,mg "MOST_FIELDS"=some (.int 8 t)
 fieldAcres:∃ t,mg "MOST_FIELD_ACRES"=some (.int 1000000 t)
 isi:mg "isinstance"=none
 str:mg "str"=none
 len:mg "len"=none
 al:mg "all"=none
 int:mg "int"=none
 bool:mg "bool"=none
 tuple:mg "tuple"=none
 set:mg "set"=none
 longest:∃ t,mg "LONGEST"=some (.int 8 t)
 lastDay:∃ t,mg "LAST_DAY"=some (.int 9999 t)
 fewest:∃ t,mg "FEWEST_LANDS"=some (.int 2 t)
 most:∃ t,mg "MOST_LANDS"=some (.int 6 t)
 acres:∃ t,mg "MOST_PART_ACRES"=some (.int 10000000 t)
 inches:∃ t,mg "MOST_INCHES"=some (.int 10000000 t)
 pence:∃ t,mg "MOST_PENCE"=some (.int 1000000000 t)
 spades:∃ t,mg "MOST_SPADES"=some (.int 1000000 t)
def aHL(K:Ae):Bm K (.type "str") (.type "str")=some true:=by
 unfold Bm;rw[Ib (by rfl)]
def aAZ(a b:Nat):(!decide (([b]:List Nat)<[a]))=decide (a<=b):=by
 have:([b]:List Nat)<[a]↔b<a:=by
  constructor
  .intro h;cases h with
   | rel h=>exact h
   | cons h=>cases h
  .intro h;exact List.Lex.rel h
 by_cases h:b<a
 .rw[Ic (this.mpr h),Ie (by lia)];rfl
 .rw[Ie (fun z=>h (this.mp z)),Ic (by lia)];rfl
def aFT{f:Ag}{fd:Ay}(F:Fn K "is_name" aAS f fd)(T:Txt K mg):cC P w K mg base CX0 1 f fd ["thing"] (aCh K):=by
 refine okA F ["thing"] fun ae A outer s H vs Q E hr nd h=>?_;obtain⟨x,rfl,hx⟩:=h;obtain⟨tl,hlong⟩:=T.longest;refine⟨_,aK (bX (dL (cO (cJ (aQ cS (by rfl) T.isi (by kernel_rfl) (gN (pv 0) (gN (fF (v:=.ty "str") (by rfl) T.str (by kernel_rfl) rfl) dP)))))
   (dW (cO (qN jR jR aD (aQ eQ (by rfl) T.len Av (gN (pv 0) dP)) (cG (v:=.int 8) (by rfl) hlong ⟨_,rfl⟩))))).pt (aN (aT eZ)) bA)
  (aN (aT (aQ (qZ rfl) (by rfl) T.al (by kernel_rfl) (gN (eU (N:=["sign"]) (src:=[none]) (osc:=bC aAS) (oN:=["thing"]) bkA (aAG (pv 0))
   fun cl s H fp dl C=>⟨bW (i:=0) (show(["sign"]:List Str).Nodup by trivial) rfl (Bp rfl),dJ,oA pA pA aO (pv 0) aO⟩) dP)))),?_⟩
 rcases hx with⟨z,rfl,hz,k⟩|⟨t,ty,e,k⟩
 .refine⟨_,rfl,_,"str",_,true,rfl,kX.str z,aHL K,true,rfl,bQ ?_⟩;refine⟨_,rfl,z,rfl,aJ hz,_,_,rfl,rfl,_,rfl,?_⟩;have O:¬ (1<=z.length/\z.length<=8)->Q (.bl false) H:=fun h=>by
   have:=k H (aU.refl H);unfold bH at this;rw[Ie h]at this;exact this
  refine dH (fun h1=>?_) (fun h1=>?_)
  .have U:=Ig h1;refine⟨_,_,rfl,rfl,_,rfl,?_⟩;by_cases h8:(z.length:Int)<=8
   .rw[Ic h8];refine bQ ?_;refine⟨_,rfl,z,rfl,?_⟩;refine rB (fun i ys σ H'=>H'=H/\ys=((z.cps.toList.take i).map fun c=>V.bl (decide (97<=c/\c<=122)))/\σ.length=1) ⟨rfl,rfl,rfl⟩ (aJ hz) (fun i ys σ H' p=>by rw[p.2.1,Ab,AJ];lia) ?_ ?_
    .rintro i c ys σ H' hc ⟨rfl,rfl,hσ⟩;obtain⟨o,rfl⟩:∃ o,σ=[o]:=by
      match σ,hσ with
      | [o],_=>exact⟨o,rfl⟩
     dsimp only[bT];refine bF ?_;refine⟨_,rfl,_,_,rfl,rfl,_,rfl,?_⟩;have J:∀ b:Bool,b=decide (97<=c/\c<=122)->(H'=H'/\(Hl (fun c=>V.bl (decide (97<=c/\c<=122))) (D6 i z.cps.toList))++[V.bl b]=(z.cps.toList.take (i+1)).map (fun c=>V.bl (decide (97<=c/\c<=122)))/\([o].set 0 (some (V.str ⟨#[c]⟩))).length=1):=fun b hb=>by
      refine⟨rfl,?_,rfl⟩;rw[A0,Al,hb];have:z.cps.toList[i]?=some c:=by simpa using hc
      rw[this];rfl
     have e1:(!decide ((⟨#[c]⟩:Str).cps.toList<("a":Str).cps.toList))=decide (97<=c):=aAZ 97 c;have e2:(!decide (("z":Str).cps.toList<(⟨#[c]⟩:Str).cps.toList))=decide (c<=122):=aAZ c 122;rw[e1];refine dH (fun Z=>?_) (fun Z=>?_)
     .have Y:=Ig Z;refine⟨_,_,rfl,rfl,?_⟩;rw[e2];refine J _ ?_;rw[decide_eq_decide];lia
     .have Y:¬ 97<=c:=fun z=>Z (Ic z);refine J false ?_;rw[Ie (by lia)]
    .rintro ys σ H' ⟨rfl,rfl,hσ⟩ D hD;have W:D6 z.cps.size z.cps.toList=z.cps.toList:=by rw[<- AL];exact Bh
     rw[W];refine⟨D,z.cps.toList.map fun c=>decide (97<=c/\c<=122),rfl,aP (by rw[aH,Cp];rfl),?_⟩;have:=k _ (aM (o:=.lst (Hl (fun c=>V.bl (decide (97<=c/\c<=122))) z.cps.toList)) hD);unfold bH at this;rw[Ic (by lia),Ax]at this;rw[DU];exact this
   .rw[Ie h8];exact bF (O (by lia))
  .have U:¬ (1:Int)<=z.length:=fun z=>h1 (Ic z);exact⟨false,rfl,bF (O (by lia))⟩
 .refine⟨_,rfl,_,"str",t,false,rfl,ty,e,false,rfl,bF ?_⟩;refine bF ?_;exact k
def aJB{f:Ag}{fd:Ay}{k:Nat}{ps:List Str}{sp J:Sp}(G:cC P w K mg base CX0 k f fd ps sp)(h:∀ vs H Q E,J vs H Q E->sp vs H Q E):cC P w K mg base CX0 k f fd ps J:=
 ⟨fun vs H Q E z=>G.len vs H Q E (h vs H Q E z),fun A outer s H O U vs Q E Y e0 W r z=>G.run A outer s H O U vs Q E Y e0 W r (h vs H Q E z)⟩
def aFU(vs:List V)(H:Hp)(Q:VK)(E:XK)(h:mU vs H Q E):aCh K vs H Q E:=by
 obtain⟨m,x,d,rfl,hx,k⟩:=h;refine⟨x,rfl,?_⟩;have ty:=iT (K:=K) hx;have J:=hU (K:=K) d;cases hx with
 | str z hz=>exact .inl ⟨z,rfl,by lia,k⟩
 | non=>exact .inr ⟨_,ty,J,k H (aU.refl H)⟩
 | bl b=>exact .inr ⟨_,ty,J,k H (aU.refl H)⟩
 | int i=>exact .inr ⟨_,ty,J,k H (aU.refl H)⟩
 | lst _ _ _ _=>exact .inr ⟨_,ty,J,k H (aU.refl H)⟩
 | tup _ _ _=>exact .inr ⟨_,ty,J,k H (aU.refl H)⟩
 | dct _ _=>exact .inr ⟨_,ty,J,k H (aU.refl H)⟩
def aJC{f:Ag}{fd:Ay}(F:Fn K "is_number" zM f fd)(T:Txt K mg):cC P w K mg base CX0 1 f fd ["thing"] aHK:=by
 refine okA F ["thing"] fun J A outer s H vs Q E U nd h=>?_;obtain⟨m,x,d,rfl,hx,k⟩:=h;refine⟨_,aN (aT (dA (aQ cS (by rfl) T.isi (by kernel_rfl) (pa2 (pv 0) (fF (v:=.ty "int") (by rfl) T.int (by kernel_rfl) rfl)))
  (dR (aGf (aQ cS (by rfl) T.isi (by kernel_rfl) (pa2 (pv 0) (fF (v:=.ty "bool") (by rfl) T.bool (by kernel_rfl) rfl))))))),?_⟩
 refine⟨_,rfl,_,"int",_,_,rfl,iT hx,aEv d,_,rfl,dH (fun g=>?_) (fun g=>?_)⟩
 .rw[g,Ax]at k;exact⟨_,rfl,_,"bool",_,_,rfl,iT hx,aHJ d,_,rfl,k⟩
 .have O:isInt d=false:=by simpa using g
  rw[O]at k;exact k
def aDv{f:Ag}{fd:Ay}(F:Fn K "is_whole" aB8 f fd)(Z:Cal P w K mg base 1 "is_number" ["thing"] aHK):cC P w K mg base CX0 2 f fd ["thing","least","most"] vA:=by
 refine okA F ["thing","least","most"] fun aa A outer s H vs Q E W nd h=>?_;obtain⟨m,x,d,lo,hi,rfl,hx,k⟩:=h;refine⟨_,aN (aT (dA (bO Z W (pa1 (pv 0))) (dR (oA jR jR (pv 1) (pv 0) (pv 2))))),_,rfl,m,x,d,rfl,hx,_,rfl,dH (fun g=>?_) (fun g=>?_)⟩
 .obtain⟨i,rfl⟩:∃ i,d=.int i:=by
   cases d with
   | int i=>exact⟨i,rfl⟩
   | _=>simp[isInt,aAY]at g
  cases hx;refine⟨_,rfl,_,rfl,_,_,rfl,rfl,?_⟩;have U:Q (.bl (decide (lo<=i/\i<=hi))) H:=k;refine⟨_,rfl,dH (fun O=>?_) (fun O=>?_)⟩
  .have J:lo<=i:=Ig O;refine⟨_,rfl,_,_,rfl,rfl,?_⟩;show Q (.bl (decide (i<=hi))) H;rw[decide_eq_decide.mpr (show i<=hi↔lo<=i/\i<=hi from⟨fun z=>⟨J,z⟩,fun z=>z.2⟩)];exact U
  .have J:¬ lo<=i:=fun z=>O (Ic z);rw[Ie (fun z=>J z.1)]at U;exact U
 .have Y:(isInt d&&!aAY d)=false:=by simpa using g
  have e:bZ lo hi d=false:=by
   cases d with
   | int i=>simp[isInt,aAY]at Y
   | _=>rfl
  rw[e]at k;exact k
inductive aCl(vs:List V)(H:Hp)(Q:VK)(u3_:XK):Prop
 | mk (m:Bool) (x:V) (d:Aj) (q0:vs=[x]) (q1:RdV m H x d) (q2:Q (.bl (bZ 0 9999999 d)) H):aCl vs H Q u3_
def aDw:Sp:=fun vs H Q u3_=>aCl vs H Q u3_
abbrev gZ(P:Ar)(w:AW)(K:Ae)(mg:Str->Option Ac)(base:Bb):Prop:=Cal P w K mg base 1 "is_name" ["thing"] mU
abbrev jD(P:Ar)(w:AW)(K:Ae)(mg:Str->Option Ac)(base:Bb):Prop:=Cal P w K mg base 2 "is_whole" ["thing","least","most"] vA
def aNf{m:Bool}{H:Hp}{x1:V}{ds:List Aj}(h:dB m H [x1] ds):∃ d1,ds=[d1]/\RdV m H x1 d1:=by
 cases h with
 | cons r1 h=>
 cases h;exact⟨_,rfl,r1⟩
def aLj{m:Bool}{H:Hp}{x1 x2:V}{ds:List Aj}(h:dB m H [x1,x2] ds):∃ d1 J,ds=[d1,J]/\RdV m H x1 d1/\RdV m H x2 J:=by
 cases h with
 | cons r1 h=>
 cases h with
 | cons r2 h=>
 cases h;exact⟨_,_,rfl,r1,r2⟩
def aLk{m:Bool}{H:Hp}{x1 x2 x3:V}{ds:List Aj}(h:dB m H [x1,x2,x3] ds):∃ d1 J O,ds=[d1,J,O]/\RdV m H x1 d1/\RdV m H x2 J/\RdV m H x3 O:=by
 cases h with
 | cons r1 h=>
 cases h with
 | cons r2 h=>
 cases h with
 | cons r3 h=>
 cases h;exact⟨_,_,_,rfl,r1,r2,r3⟩
def aMw{m:Bool}{H:Hp}{x1 x2 x3 x4:V}{ds:List Aj}(h:dB m H [x1,x2,x3,x4] ds):∃ d1 J U O,ds=[d1,J,U,O]/\RdV m H x1 d1/\RdV m H x2 J/\RdV m H x3 U/\RdV m H x4 O:=by
 cases h with
 | cons r1 h=>
 cases h with
 | cons r2 h=>
 cases h with
 | cons r3 h=>
 cases h with
 | cons r4 h=>
 cases h;exact⟨_,_,_,_,rfl,r1,r2,r3,r4⟩
def aJD{f:Ag}{fd:Ay}(F:Fn K "is_part" aEk f fd)(T:Txt K mg)
  (W:gZ P w K mg base)
  (GW:jD P w K mg base):
  cC P w K mg base CX0 3 f fd ["thing"] xG:=by
 refine okA F ["thing","land","house","acres"] fun ac A outer s H vs Q E J nd h=>?_;obtain⟨m,x,d,rfl,hx,k⟩:=h;obtain⟨ta,hacres⟩:=T.acres;refine⟨_,aK (bX (PW.pt (dL (cO (cJ (aQ cS (by rfl) T.isi (by kernel_rfl) (pa2 (pv 0) (fF (v:=.ty "tuple") (by rfl) T.tuple (by kernel_rfl) rfl)))))
   (dW (cT nF (aQ aS (by rfl) T.len Av (pa1 (pv 0))) aD)))) (aN (aT eZ)) bA)
  (aK (nX (pv 0) (pZ rfl (dN (bW (i:=1) nd rfl (Bp rfl)) (dN (bW (i:=2) nd rfl (Bp rfl)) (dN (bW (i:=3) nd rfl (Bp rfl)) lZ)))))
  (aN (aT (dA (bO W J (pa1 (pv 1))) (dA (bO W J (pa1 (pv 2))) (dR (bO GW J (pa3 (pv 3) aD (cG (v:=.int 10000000) (by rfl) hacres ⟨_,rfl⟩))))))))),?_⟩
 refine⟨_,rfl,_,"tuple",_,_,rfl,iT hx,jX d,_,rfl,?_⟩;cases hd:fY d with
 | false=>
  have e:eY d=false:=by
   cases d with
   | tuple ds=>simp[fY]at hd
   | _=>rfl
  rw[e]at k;exact k H (aU.refl H)
 | true=>
  obtain⟨ds,rfl⟩:∃ ds,d=.tuple ds:=by
   cases d with
   | tuple z=>exact⟨z,rfl⟩
   | _=>simp[fY]at hd
  cases hx with
  | @tup a xs _ e hl r=>
   have Y:=r.len;refine bQ ?_;refine⟨_,rfl,a,xs,rfl,.inr (aV e),rfl,_,rfl,?_⟩;by_cases O:xs.length=3
   .rw[Ic (show V.int (xs.length:Int)=V.int 3 by rw[O];rfl)];refine bQ ?_;obtain⟨x1,x2,x3,rfl⟩:=aIT O;obtain⟨d1,d2,d3,rfl,r1,r2,r3⟩:=aLk r;refine⟨_,rfl,a,_,rfl,aV e,rfl,_,_,rfl,_,_,rfl,_,_,rfl,rfl,?_⟩;have Z:∀ H',aU H H'->Q (.bl (bD d1&&bD d2&&bZ 1 10000000 d3)) H':=k;refine⟨_,rfl,m,x1,d1,rfl,r1,fun H1 s1=>⟨_,rfl,?_⟩⟩;have k1:=Z H1 s1;refine dH (fun g=>?_) (fun g=>?_)
    .refine⟨_,rfl,m,x2,d2,rfl,r2.same s1,fun H2 s2=>⟨_,rfl,?_⟩⟩;have k2:=Z H2 (s1.trans s2);rw[g,Ax]at k2;refine dH (fun U=>?_) (fun U=>?_)
     .rw[U,Ax]at k2;exact⟨_,rfl,m,x3,d3,1,10000000,rfl,(r3.same s1).same s2,k2⟩
     .rw[(by simpa using U:bD d2=false)]at k2;exact k2
    .rw[(by simpa using g:bD d1=false)]at k1;exact k1
   .rw[Ie (show¬ V.int (xs.length:Int)=V.int 3 from fun z=>O (by injection z with z;lia))];refine bF ?_;have e2:eY (.tuple ds)=false:=by
     match ds,(show ds.length≠3 by lia)with
     | [],_=>rfl
     | [_],_=>rfl
     | [_,_],_=>rfl
     | [_,_,_],z=>exact absurd rfl z
     | _::_::_::_::_,_=>rfl
    rw[e2]at k;exact k H (aU.refl H)
def aJE{f:Ag}{fd:Ay}(F:Fn K "is_inch" aEl f fd)(T:Txt K mg)
  (J:jD P w K mg base):
  cC P w K mg base CX0 3 f fd ["thing"] aDw:=by
 refine okA F ["thing"] fun U A outer s H vs Q E O nd h=>?_;obtain⟨m,x,d,rfl,hx,k⟩:=h;obtain⟨ti,hin⟩:=T.inches;exact⟨_,aN (aT (bO J O (pa3 (pv 0) aD (aW qB (cG (v:=.int 10000000) (by rfl) hin ⟨_,rfl⟩) aD)))),_,rfl,_,_,rfl,rfl,m,x,d,0,9999999,rfl,hx,k⟩
def aA0:Aj->Bool
 | .tuple ds=>ds.all bD
 | _=>false
def aA1:Aj->Bool
 | .tuple ds=>ds.all eY
 | _=>false
inductive aCm(vs:List V)(H:Hp)(Q:VK)(u3_:XK):Prop
 | mk (m:Bool) (x:V) (d:Aj) (q0:vs=[x]) (q1:RdV m H x d) (q2:∀ H',aU H H'->Q (.bl (aA0 d)) H'):aCm vs H Q u3_
def aA2:Sp:=fun vs H Q u3_=>aCm vs H Q u3_
inductive aCn(vs:List V)(H:Hp)(Q:VK)(u3_:XK):Prop
 | mk (m:Bool) (x:V) (d:Aj) (q0:vs=[x]) (q1:RdV m H x d) (q2:∀ H',aU H H'->Q (.bl (aA1 d)) H'):aCn vs H Q u3_
def aHM:Sp:=fun vs H Q u3_=>aCn vs H Q u3_
def aJF{f:Ag}{fd:Ay}(F:Fn K "all_names" tM f fd)(T:Txt K mg)
  (GN:gZ P w K mg base):
  cC P w K mg base CX0 2 f fd ["thing"] aA2:=by
 refine okA F ["thing"] fun ac A outer s H vs Q E U nd h=>?_;obtain⟨m,x,d,rfl,hx,k⟩:=h;refine⟨_,aN (aT (dA (aQ cS (by rfl) T.isi (by kernel_rfl) (pa2 (pv 0) (fF (v:=.ty "tuple") (by rfl) T.tuple (by kernel_rfl) rfl)))
  (dR (aQ (qZ rfl) (by rfl) T.al (by kernel_rfl) (pa1 (eU (N:=["name"]) (src:=[none]) (osc:=bC tM) (oN:=["thing"]) bkA (kJ (pv 0))
    fun cl s H fp dl C=>⟨bW (i:=0) (show(["name"]:List Str).Nodup by trivial) rfl (Bp rfl),dJ,bO GN U (pa1 (pv 0))⟩)))))),?_⟩
 refine⟨_,rfl,_,"tuple",_,_,rfl,iT hx,jX d,_,rfl,?_⟩;cases hd:fY d with
 | false=>
  have e:aA0 d=false:=by
   cases d with
   | tuple ds=>simp[fY]at hd
   | _=>rfl
  rw[e]at k;exact k H (aU.refl H)
 | true=>
  obtain⟨ds,rfl⟩:∃ ds,d=.tuple ds:=by
   cases d with
   | tuple z=>exact⟨z,rfl⟩
   | _=>simp[fY]at hd
  cases hx with
  | @tup a xs _ e hl r=>
   have O:=r.len;have k':∀ H',aU H H'->Q (.bl (ds.all bD)) H':=k;refine bF ?_;refine⟨_,rfl,a,rfl,⟨xs,aV e⟩,?_⟩;refine jJ (xs:=xs) (fun i ys σ H'=>aU H H'/\ys=((ds.take i).map fun d=>V.bl (bD d))/\∃ o,σ=[o]) ⟨aU.refl H,rfl,none,rfl⟩ (aJ (by lia)) (fun i ys σ H' p=>by rw[p.2.1,Ab,AJ];lia) (fun i ys σ H' p=>aV (p.1 _ _ e)) ?_ ?_
   .rintro i y ys σ H' Y ⟨S,rfl,o,rfl⟩;dsimp only[bT];obtain⟨d',hd',r'⟩:=r.at Y;refine bF ?_;refine⟨_,rfl,m,y,d',rfl,r'.same S,fun H2 s2=>⟨S.trans s2,?_,_,rfl⟩⟩;rw[A0,hd',Al];rfl
   .rintro ys σ H1 ⟨S,rfl,o,rfl⟩ D Z;have J:D6 xs.length ds=ds:=Bi (by lia);rw[J];have W:=S.trans (aM (o:=.lst (ds.map fun d=>V.bl (bD d))) Z);refine⟨D,ds.map bD,rfl,aP (by rw[aH,Cp];rfl),?_⟩;rw[DU];exact k' _ W
def aJG{f:Ag}{fd:Ay}(F:Fn K "all_parts" tK f fd)(T:Txt K mg)
  (GN:Cal P w K mg base 3 "is_part" ["thing"] xG):
  cC P w K mg base CX0 4 f fd ["thing"] aHM:=by
 refine okA F ["thing"] fun ac A outer s H vs Q E U nd h=>?_;obtain⟨m,x,d,rfl,hx,k⟩:=h;refine⟨_,aN (aT (dA (aQ cS (by rfl) T.isi (by kernel_rfl) (pa2 (pv 0) (fF (v:=.ty "tuple") (by rfl) T.tuple (by kernel_rfl) rfl)))
  (dR (aQ (qZ rfl) (by rfl) T.al (by kernel_rfl) (pa1 (eU (N:=["part"]) (src:=[none]) (osc:=bC tK) (oN:=["thing"]) bkA (kJ (pv 0))
    fun cl s H fp dl C=>⟨bW (i:=0) (show(["part"]:List Str).Nodup by trivial) rfl (Bp rfl),dJ,bO GN U (pa1 (pv 0))⟩)))))),?_⟩
 refine⟨_,rfl,_,"tuple",_,_,rfl,iT hx,jX d,_,rfl,?_⟩;cases hd:fY d with
 | false=>
  have e:aA1 d=false:=by
   cases d with
   | tuple ds=>simp[fY]at hd
   | _=>rfl
  rw[e]at k;exact k H (aU.refl H)
 | true=>
  obtain⟨ds,rfl⟩:∃ ds,d=.tuple ds:=by
   cases d with
   | tuple z=>exact⟨z,rfl⟩
   | _=>simp[fY]at hd
  cases hx with
  | @tup a xs _ e hl r=>
   have O:=r.len;have k':∀ H',aU H H'->Q (.bl (ds.all eY)) H':=k;refine bF ?_;refine⟨_,rfl,a,rfl,⟨xs,aV e⟩,?_⟩;refine jJ (xs:=xs) (fun i ys σ H'=>aU H H'/\ys=((ds.take i).map fun d=>V.bl (eY d))/\∃ o,σ=[o]) ⟨aU.refl H,rfl,none,rfl⟩ (aJ (by lia)) (fun i ys σ H' p=>by rw[p.2.1,Ab,AJ];lia) (fun i ys σ H' p=>aV (p.1 _ _ e)) ?_ ?_
   .rintro i y ys σ H' Y ⟨S,rfl,o,rfl⟩;dsimp only[bT];obtain⟨d',hd',r'⟩:=r.at Y;refine bF ?_;refine⟨_,rfl,m,y,d',rfl,r'.same S,fun H2 s2=>⟨S.trans s2,?_,_,rfl⟩⟩;rw[A0,hd',Al];rfl
   .rintro ys σ H1 ⟨S,rfl,o,rfl⟩ D Z;have J:D6 xs.length ds=ds:=Bi (by lia);rw[J];have W:=S.trans (aM (o:=.lst (ds.map fun d=>V.bl (eY d))) Z);refine⟨D,ds.map eY,rfl,aP (by rw[aH,Cp];rfl),?_⟩;rw[DU];exact k' _ W
inductive aCo(D:List Aj->Bool)(vs:List V)(H:Hp)(Q:VK)(u3_:XK):Prop
 | mk (m:Bool) (x:V) (ds:List Aj) (q0:vs=[x]) (q1:RdV m H x (.tuple ds)) (q2:∀ H',aU H H'->Q (.bl (D ds)) H'):aCo D vs H Q u3_
def gA(D:List Aj->Bool):Sp:=fun vs H Q u3_=>aCo D vs H Q u3_
def iF:List Aj->Bool
 | [d1,d2]=>bD d1&&bZ 0 10000000 d2
 | _=>false
def uF{ds:List Aj}(h:ds.length≠2):iF ds=false:=by
 match ds,h with
 | [],_=>rfl
 | [_],_=>rfl
 | [_,_],z=>exact absurd rfl z
 | _::_::_::_,_=>rfl
def lP:List Aj->Bool
 | [d1,d2,d3]=>bD d1&&bZ 0 9999999 d2&&bD d3
 | _=>false
def aCp{ds:List Aj}(h:ds.length≠3):lP ds=false:=by
 match ds,h with
 | [],_=>rfl
 | [_],_=>rfl
 | [_,_],_=>rfl
 | [_,_,_],z=>exact absurd rfl z
 | _::_::_::_::_,_=>rfl
def oS:List Aj->Bool
 | [d1]=>bD d1
 | _=>false
def aFV{ds:List Aj}(h:ds.length≠1):oS ds=false:=by
 match ds,h with
 | [],_=>rfl
 | [_],z=>exact absurd rfl z
 | _::_::_,_=>rfl
def gP:List Aj->Bool
 | [d1,d2,d3,d4]=>bD d1&&bZ 0 9999999 d2&&bZ 0 1000000000 d3&&bZ 0 1000000 d4
 | _=>false
def xH{ds:List Aj}(h:ds.length≠4):gP ds=false:=by
 match ds,h with
 | [],_=>rfl
 | [_],_=>rfl
 | [_,_],_=>rfl
 | [_,_,_],_=>rfl
 | [_,_,_,_],z=>exact absurd rfl z
 | _::_::_::_::_::_,_=>rfl
def aCq{f:Ag}{fd:Ay}(F:Fn K "fits_measure" lO f fd)(T:Txt K mg)
  (Z:gZ P w K mg base)
  (GW:jD P w K mg base):
  cC P w K mg base CX0 6 f fd ["rest"] (gA iF):=by
 refine okA F ["rest"] fun ac A outer s H vs Q E J nd h=>?_;obtain⟨m,x,ds,rfl,hx,k⟩:=h;obtain⟨tinches,hinches⟩:=T.inches;refine⟨_,aN (aT (dA (dO cP (aQ aS (by rfl) T.len Av (pa1 (pv 0))) aD (fA _)) (dA (bO Z J (pa1 (aX bS (pv 0) aD Ih))) (dR (bO GW J (pa3 (aX bS (pv 0) aD Ih) aD (cG (v:=.int 10000000) (by rfl) hinches ⟨_,rfl⟩))))))),?_⟩;cases hx with
 | @tup a xs _ e hl r=>
  have U:=r.len;refine⟨_,rfl,a,xs,rfl,.inr (aV e),rfl,_,rfl,?_⟩;by_cases hn:xs.length=2
  .rw[Ic (show V.int (xs.length:Int)=V.int 2 by rw[hn];rfl)];refine bF ?_;obtain⟨x1,x2,rfl⟩:=aIS hn;obtain⟨d1,d2,rfl,r1,r2⟩:=aLj r;have W:∀ H',aU H H'->Q (.bl (bD d1&&bZ 0 10000000 d2)) H':=k;have s0:=aU.refl H;refine⟨_,rfl,a,_,0,_,rfl,rfl,aV (s0 _ _ e),rfl,m,x1,d1,rfl,(r1.same s0),fun H1 Y=>⟨_,rfl,?_⟩⟩;have s1:=s0.trans Y;cases O:(bD d1)with
   | false=>
    have q:=W H1 s1;rw[O]at q;simp only[Bq]at q;refine bQ ?_;exact q
   | true=>
    refine bF ?_;have q:=W H1 s1;rw[O,Ax]at q;exact⟨_,rfl,a,_,1,_,rfl,rfl,aV (s1 _ _ e),rfl,m,x2,d2,0,10000000,rfl,(r2.same s1),q⟩
  .rw[Ie (show¬ V.int (xs.length:Int)=V.int 2 from fun z=>hn (by injection z with z;lia))];refine bQ ?_;rw[uF (by lia)]at k;exact k H (aU.refl H)
def aHN{f:Ag}{fd:Ay}(F:Fn K "fits_view" xE f fd)(T:Txt K mg)
  (W:gZ P w K mg base)
  (GI:Cal P w K mg base 3 "is_inch" ["thing"] aDw):
  cC P w K mg base CX0 6 f fd ["rest"] (gA lP):=by
 refine okA F ["rest"] fun af A outer s H vs Q E J nd h=>?_;obtain⟨m,x,ds,rfl,hx,k⟩:=h;refine⟨_,aN (aT (dA (dO cP (aQ aS (by rfl) T.len Av (pa1 (pv 0))) aD (fA _)) (dA (bO W J (pa1 (aX bS (pv 0) aD Ih))) (dA (bO GI J (pa1 (aX bS (pv 0) aD Ih))) (dR (bO W J (pa1 (aX bS (pv 0) aD Ih)))))))),?_⟩;cases hx with
 | @tup a xs _ e hl r=>
  have Y:=r.len;refine⟨_,rfl,a,xs,rfl,.inr (aV e),rfl,_,rfl,?_⟩;by_cases hn:xs.length=3
  .rw[Ic (show V.int (xs.length:Int)=V.int 3 by rw[hn];rfl)];refine bF ?_;obtain⟨x1,x2,x3,rfl⟩:=aIT hn;obtain⟨d1,d2,d3,rfl,r1,r2,r3⟩:=aLk r;have U:∀ H',aU H H'->Q (.bl (bD d1&&bZ 0 9999999 d2&&bD d3)) H':=k;have s0:=aU.refl H;refine⟨_,rfl,a,_,0,_,rfl,rfl,aV (s0 _ _ e),rfl,m,x1,d1,rfl,(r1.same s0),fun H1 z1=>⟨_,rfl,?_⟩⟩;have s1:=s0.trans z1;cases O:(bD d1)with
   | false=>
    have q:=U H1 s1;rw[O]at q;simp only[Bq]at q;refine bQ ?_;exact q
   | true=>
    refine bF ?_;refine⟨_,rfl,a,_,1,_,rfl,rfl,aV (s1 _ _ e),rfl,m,x2,d2,rfl,(r2.same s1),_,rfl,?_⟩;cases Z:(bZ 0 9999999 d2)with
    | false=>
     have q:=U H1 s1;rw[O,Ax,Z]at q;simp only[Bq]at q;refine bQ ?_;exact q
    | true=>
     refine bF ?_;refine⟨_,rfl,a,_,2,_,rfl,rfl,aV (s1 _ _ e),rfl,m,x3,d3,rfl,(r3.same s1),fun H3 z3=>?_⟩;have q:=U H3 (s1.trans z3);rw[O,Ax,Z,Ax]at q;exact q
  .rw[Ie (show¬ V.int (xs.length:Int)=V.int 3 from fun z=>hn (by injection z with z;lia))];refine bQ ?_;rw[aCp (by lia)]at k;exact k H (aU.refl H)
def aFW{f:Ag}{fd:Ay}(F:Fn K "fits_alone" rW f fd)(T:Txt K mg)
  (W:gZ P w K mg base):
  cC P w K mg base CX0 6 f fd ["rest"] (gA oS):=by
 refine okA F ["rest"] fun Y A outer s H vs Q E O nd h=>?_;obtain⟨m,x,ds,rfl,hx,k⟩:=h;refine⟨_,aN (aT (dA (dO cP (aQ aS (by rfl) T.len Av (pa1 (pv 0))) aD (fA _)) (dR (bO W O (pa1 (aX bS (pv 0) aD Ih)))))),?_⟩;cases hx with
 | @tup a xs _ e hl r=>
  have J:=r.len;refine⟨_,rfl,a,xs,rfl,.inr (aV e),rfl,_,rfl,?_⟩;by_cases hn:xs.length=1
  .rw[Ic (show V.int (xs.length:Int)=V.int 1 by rw[hn];rfl)];refine bF ?_;obtain⟨x1,rfl⟩:=aLE hn;obtain⟨d1,rfl,r1⟩:=aNf r;have Z:∀ H',aU H H'->Q (.bl (bD d1)) H':=k;have s0:=aU.refl H;refine⟨_,rfl,a,_,0,_,rfl,rfl,aV (s0 _ _ e),rfl,m,x1,d1,rfl,(r1.same s0),fun H1 U=>?_⟩;have q:=Z H1 (s0.trans U);exact q
  .rw[Ie (show¬ V.int (xs.length:Int)=V.int 1 from fun z=>hn (by injection z with z;lia))];refine bQ ?_;rw[aFV (by lia)]at k;exact k H (aU.refl H)
def aDx{f:Ag}{fd:Ay}(F:Fn K "fits_breach" oQ f fd)(T:Txt K mg)
  (GN:gZ P w K mg base)
  (Y:jD P w K mg base)
  (GI:Cal P w K mg base 3 "is_inch" ["thing"] aDw):
  cC P w K mg base CX0 6 f fd ["rest"] (gA gP):=by
 refine okA F ["rest"] fun af A outer s H vs Q E J nd h=>?_;obtain⟨m,x,ds,rfl,hx,k⟩:=h;obtain⟨tpence,hpence⟩:=T.pence;obtain⟨tspades,hspades⟩:=T.spades;refine⟨_,aK (bX (PW.pt (dL (cT nF (aQ aS (by rfl) T.len Av (pa1 (pv 0))) aD) (dL (cO (cJ (bO GN J (pa1 (aX bS (pv 0) aD Ih))))) (dW (cO (cJ (bO GI J (pa1 (aX bS (pv 0) aD Ih))))))))) (aN (aT eZ)) bA) (aN (aT (dA (bO Y J (pa3 (aX bS (pv 0) aD Ih) aD (cG (v:=.int 1000000000) (by rfl) hpence ⟨_,rfl⟩))) (dR (bO Y J (pa3 (aX bS (pv 0) aD Ih) aD (cG (v:=.int 1000000) (by rfl) hspades ⟨_,rfl⟩))))))),?_⟩;cases hx with
 | @tup a xs _ e hl r=>
  have Z:=r.len;refine⟨_,rfl,a,xs,rfl,.inr (aV e),rfl,_,rfl,?_⟩;by_cases hn:xs.length=4
  .rw[Ic (show V.int (xs.length:Int)=V.int 4 by rw[hn];rfl)];refine bQ ?_;obtain⟨x1,x2,x3,x4,rfl⟩:=aKx hn;obtain⟨d1,d2,d3,d4,rfl,r1,r2,r3,r4⟩:=aMw r;have U:∀ H',aU H H'->Q (.bl (bD d1&&bZ 0 9999999 d2&&bZ 0 1000000000 d3&&bZ 0 1000000 d4)) H':=k;have s0:=aU.refl H;refine⟨_,rfl,a,_,0,_,rfl,rfl,aV (s0 _ _ e),rfl,m,x1,d1,rfl,(r1.same s0),fun H1 z1=>⟨_,rfl,?_⟩⟩;have s1:=s0.trans z1;cases O:(bD d1)with
   | false=>
    have q:=U H1 s1;rw[O]at q;simp only[Bq]at q;refine bF ?_;exact q
   | true=>
    refine bQ ?_;refine⟨_,rfl,a,_,1,_,rfl,rfl,aV (s1 _ _ e),rfl,m,x2,d2,rfl,(r2.same s1),_,rfl,?_⟩;cases W:(bZ 0 9999999 d2)with
    | false=>
     have q:=U H1 s1;rw[O,Ax,W]at q;simp only[Bq]at q;refine bF ?_;exact q
    | true=>
     refine bQ ?_;refine⟨_,rfl,a,_,2,_,rfl,rfl,aV (s1 _ _ e),rfl,m,x3,d3,0,1000000000,rfl,(r3.same s1),_,rfl,?_⟩;cases g2:(bZ 0 1000000000 d3)with
     | false=>
      have q:=U H1 s1;rw[O,Ax,W,Ax,g2]at q;simp only[Bq]at q;refine bQ ?_;exact q
     | true=>
      refine bF ?_;have q:=U H1 s1;rw[O,Ax,W,Ax,g2,Ax]at q;exact⟨_,rfl,a,_,3,_,rfl,rfl,aV (s1 _ _ e),rfl,m,x4,d4,0,1000000,rfl,(r4.same s1),q⟩
  .rw[Ie (show¬ V.int (xs.length:Int)=V.int 4 from fun z=>hn (by injection z with z;lia))];refine bF ?_;rw[xH (by lia)]at k;exact k H (aU.refl H)
def gM(ds:List Aj):Bool:=decide (ds.length=2)&&ds.all bD
def oU:List Aj->Bool
 | [.str a,.str b]=>bH a&&bH b&&!decide (a=b)
 | _=>false
def rY{ds:List Aj}(h:¬ (ds.length=2/\ds.all bD=true)):oU ds=false:=by
 unfold oU;split
 .rename_i a b;have:¬ (bH a=true/\bH b=true):=fun z=>h ⟨rfl,by simp[bD,z.1,z.2]⟩;cases ha:bH a<;>cases J:bH b<;>simp_all
 .rfl
def aLl{ds:List Aj}(h:ds.length=2)(g:ds.all bD=true):∃ a b,ds=[.str a,.str b]/\bH a=true/\bH b=true:=by
 match ds,h with
 | [d1,d2],_=>
  simp only[Di,List.all_nil,FO,Aw]at g;obtain⟨g1,g2⟩:=g;obtain⟨a,rfl,ha⟩:∃ a,d1=.str a/\bH a=true:=by
   cases d1 with
   | str a=>exact⟨a,rfl,g1⟩
   | _=>simp[bD]at g1
  obtain⟨b,rfl,hb⟩:∃ b,d2=.str b/\bH b=true:=by
   cases d2 with
   | str a=>exact⟨a,rfl,g2⟩
   | _=>simp[bD]at g2
  exact⟨a,b,rfl,ha,hb⟩
def aCr{f:Ag}{fd:Ay}(F:Fn K "fits_forfeit" lN f fd)(T:Txt K mg)
  (W:Cal P w K mg base 2 "all_names" ["thing"] aA2):
  cC P w K mg base CX0 6 f fd ["rest"] (gA gM):=by
 refine okA F ["rest"] fun Y A outer s H vs Q E U nd h=>?_;obtain⟨m,x,ds,rfl,hx,k⟩:=h;refine⟨_,aN (aT (dA (dO cP (aQ aS (by rfl) T.len Av (pa1 (pv 0))) aD (fA _)) (dR (bO W U (pa1 (pv 0)))))),?_⟩;have J:=hx;cases hx with
 | @tup a xs _ e Z r=>
  have O:=r.len;refine⟨_,rfl,a,xs,rfl,.inr (aV e),rfl,_,rfl,?_⟩;unfold gM at k;by_cases hn:xs.length=2
  .rw[Ic (show V.int (xs.length:Int)=V.int 2 by rw[hn];rfl)];refine bF ?_;rw[Ic (show ds.length=2 by lia),Ax]at k;exact⟨_,rfl,m,_,_,rfl,J,k⟩
  .rw[Ie (show¬ V.int (xs.length:Int)=V.int 2 from fun z=>hn (by injection z with z;lia))];refine bQ ?_;rw[Ie (show¬ ds.length=2 by lia)]at k;exact k H (aU.refl H)
def aHO{f:Ag}{fd:Ay}(F:Fn K "fits_mend" xD f fd)(T:Txt K mg)
  (W:Cal P w K mg base 2 "all_names" ["thing"] aA2):
  cC P w K mg base CX0 6 f fd ["rest"] (gA oU):=by
 refine okA F ["rest"] fun Z A outer s H vs Q E U nd h=>?_;obtain⟨m,x,ds,rfl,hx,k⟩:=h;refine⟨_,aN (aT (dA (dO cP (aQ aS (by rfl) T.len Av (pa1 (pv 0))) aD (fA _)) (dA (bO W U (pa1 (pv 0))) (dR (dO nF (aX bS (pv 0) aD Ih) (aX bS (pv 0) aD Ih) (fA _)))))),?_⟩;have J:=hx;cases hx with
 | @tup a xs _ e hl r=>
  have O:=r.len;refine⟨_,rfl,a,xs,rfl,.inr (aV e),rfl,_,rfl,?_⟩;by_cases hn:xs.length=2
  .rw[Ic (show V.int (xs.length:Int)=V.int 2 by rw[hn];rfl)];refine bF ?_;refine⟨_,rfl,m,_,_,rfl,J,fun H1 s1=>⟨_,rfl,?_⟩⟩;show if ds.all bD=true then _ else _
   refine dH (fun g=>?_) (fun g=>?_)
   .obtain⟨z1,z2,rfl,h1,h2⟩:=aLl (by lia) g;cases r with
    | cons r1 r=>
     cases r with
     | cons r2 r=>
      cases r;cases r1;cases r2;refine⟨_,rfl,a,_,0,_,rfl,rfl,aV (s1 _ _ e),rfl,_,rfl,a,_,1,_,rfl,rfl,aV (s1 _ _ e),rfl,rfl,?_⟩;have q:=k H1 s1;have Y:oU [.str z1,.str z2]=!decide (V.str z1=V.str z2):=by
       show(bH z1&&bH z2&&!decide (z1=z2))=_;rw[h1,h2];by_cases hz:z1=z2
       .subst hz;simp
       .rw[Ie hz,Ie (fun e=>hz (by injection e))];rfl
      rw[Y]at q;exact q
   .rw[rY fun z=>g z.2]at k;exact k H1 s1
  .rw[Ie (show¬ V.int (xs.length:Int)=V.int 2 from fun z=>hn (by injection z with z;lia))];refine bQ ?_;rw[rY fun z=>hn (by lia)]at k;exact k H (aU.refl H)
def fG(ss:List Str):Bool:=decide (ss.Pairwise fun a b=>a.cps.toList<b.cps.toList)
def aA3:Aj->Str|.str z=>z|_=>Be ""
def dM:Aj->Str
 | .tuple (.str z::_)=>z
 | _=>Be ""
def uG:Aj->Bool
 | .tuple ds=>ds.all eY&&decide (2<=ds.length/\ds.length<=6)&&fG (ds.map dM)
 | _=>false
def oV:Aj->Bool
 | .tuple ds=>ds.all bD&&decide (2<=ds.length/\ds.length<=6)&&fG (ds.map aA3)
 | _=>false
inductive xI(vs:List V)(H:Hp)(Q:VK)(u3_:XK):Prop
 | mk (a:Ag) (ss:List Str) (q0:vs=[.ref a]) (q1:(H a=some (.lst (ss.map V.str))\/H a=some (.tup (ss.map V.str)))) (q2:ss.length<=6) (q3:∀ H',aU H H'->Q (.bl (fG ss)) H'):xI vs H Q u3_
def xJ:Sp:=fun vs H Q u3_=>xI vs H Q u3_
inductive aCs(vs:List V)(H:Hp)(Q:VK)(u3_:XK):Prop
 | mk (m:Bool) (x:V) (d:Aj) (q0:vs=[x]) (q1:RdV m H x d) (q2:∀ H',aU H H'->Q (.bl (uG d)) H'):aCs vs H Q u3_
def aHP:Sp:=fun vs H Q u3_=>aCs vs H Q u3_
inductive aCt(vs:List V)(H:Hp)(Q:VK)(u3_:XK):Prop
 | mk (m:Bool) (x:V) (d:Aj) (q0:vs=[x]) (q1:RdV m H x d) (q2:∀ H',aU H H'->Q (.bl (oV d)) H'):aCt vs H Q u3_
def aHQ:Sp:=fun vs H Q u3_=>aCt vs H Q u3_
theorem xK{m:Bool}{H:Hp}:∀{xs:List V}{ds:List Aj},dB m H xs ds->ds.all bD=true->xs=(ds.map aA3).map V.str
 | _,_,.nil,_=>rfl
 | _,_,.cons (d:=d) r rs,h=>by
  rw[Di,Aw]at h;have J:=xK rs h.2;cases d with
  | str z=>
   cases r;rw[J];rfl
  | _=>simp[bD]at h
def aJH{f:Ag}{fd:Ay}(F:Fn K "are_lands" zO f fd)(T:Txt K mg)
  (GA:Cal P w K mg base 2 "all_names" ["thing"] aA2)
  (GR:Cal P w K mg base 1 "is_rising" ["things"] xJ):
  cC P w K mg base CX0 5 f fd ["thing"] aHQ:=by
 refine okA F ["thing"] fun ag A outer s H vs Q E hr nd h=>?_;obtain⟨m,x,d,rfl,hx,k⟩:=h;obtain⟨tf,hfew⟩:=T.fewest;obtain⟨tm,hmost⟩:=T.most;refine⟨_,aN (aT (dA (bO GA hr (pa1 (pv 0))) (dA (oA jR jR (cG (v:=.int 2) (by rfl) hfew ⟨_,rfl⟩) (aQ aS (by rfl) T.len Av (pa1 (pv 0))) (cG (v:=.int 6) (by rfl) hmost ⟨_,rfl⟩)) (dR (bO GR hr (pa1 (pv 0))))))),_,rfl,m,x,d,rfl,hx,fun H1 s1=>⟨_,rfl,?_⟩⟩;refine dH (fun g=>?_) (fun g=>?_)
 .obtain⟨ds,rfl⟩:∃ ds,d=.tuple ds:=by
   cases d with
   | tuple z=>exact⟨z,rfl⟩
   | _=>simp[aA0]at g
  have O:ds.all bD=true:=g;cases hx with
  | @tup a xs _ e hl r=>
   have ac:=r.len;have k':∀ H',aU H H'->Q (.bl (decide (2<=ds.length/\ds.length<=6)&&fG (ds.map aA3))) H':=fun H' s'=>by
    have q:Q (.bl (ds.all bD&&decide (2<=ds.length/\ds.length<=6)&&fG (ds.map aA3))) H':=k H' s';rw[O,Ax]at q;exact q
   have J:¬ (2<=ds.length/\ds.length<=6)->Q (.bl false) H1:=fun h=>by
    have q:=k' H1 s1;rw[Ie h]at q;exact q
   refine⟨_,rfl,a,xs,rfl,.inr (aV (s1 _ _ e)),_,_,rfl,rfl,_,rfl,dH (fun Z=>?_) (fun Z=>?_)⟩
   .have W:(2:Int)<=xs.length:=Ig Z;refine⟨_,_,rfl,rfl,_,rfl,dH (fun Y=>?_) (fun Y=>?_)⟩
    .have U:(xs.length:Int)<=6:=Ig Y;refine⟨_,rfl,a,ds.map aA3,rfl,.inr ?_,by rw[Ab];lia,fun H2 s2=>?_⟩
     .rw[<- xK r O];exact s1 _ _ e
     .have q:=k' H2 (s1.trans s2);rw[Ic (by lia),Ax]at q;exact q
    .have U:¬ (xs.length:Int)<=6:=fun z=>Y (Ic z);exact J (by lia)
   .have W:¬ (2:Int)<=xs.length:=fun z=>Z (Ic z);refine⟨_,rfl,bQ ?_⟩;exact J (by lia)
 .have O:aA0 d=false:=by simpa using g
  have e:oV d=false:=by
   cases d with
   | tuple ds=>
    have z:ds.all bD=false:=O;show(ds.all bD&&decide (2<=ds.length/\ds.length<=6)&&fG (ds.map aA3))=false;rw[z];rfl
   | _=>rfl
  rw[e]at k;exact k H1 s1
def zV{m:Bool}{H:Hp}{x:V}{d:Aj}(r:RdV m H x d)(h:eY d=true):∃ a xs,x=.ref a/\H a=some (.tup xs)/\atI xs 0=some (V.str (dM d)):=by
 cases d with
 | tuple ds=>
  cases r with
  | @tup a xs _ e _ r=>
   cases r with
   | nil=>simp[eY]at h
   | @cons x1 d1 _ _ r1 rs=>
    have hn:bD d1=true:=by
     unfold eY at h;split at h
     .rename_i e1;cases e1;simp only[Aw]at h;exact h.1.1
     .cases h
    cases d1 with
    | str z=>
     cases r1;refine⟨a,_,rfl,e,?_⟩;unfold atI ixN;rw[Ib (by decide),Ib (by rw[An];lia)];rfl
    | _=>simp[bD]at hn
 | _=>simp[eY]at h
def aJI{f:Ag}{fd:Ay}(F:Fn K "are_parts" tN f fd)(T:Txt K mg)
  (GA:Cal P w K mg base 4 "all_parts" ["thing"] aHM)
  (GR:Cal P w K mg base 1 "is_rising" ["things"] xJ):
  cC P w K mg base CX0 5 f fd ["thing"] aHP:=by
 refine okA F ["thing"] fun ak A outer s H vs Q E Y nd h=>?_;obtain⟨m,x,d,rfl,hx,k⟩:=h;obtain⟨tf,hfew⟩:=T.fewest;obtain⟨tm,hmost⟩:=T.most;refine⟨_,aK (bX (PW.pt (dL (cO (cJ (bO GA Y (pa1 (pv 0))))) (dW (cO (qN jR jR (cG (v:=.int 2) (by rfl) hfew ⟨_,rfl⟩) (aQ aS (by rfl) T.len Av (pa1 (pv 0))) (cG (v:=.int 6) (by rfl) hmost ⟨_,rfl⟩)))))) (aN (aT eZ)) bA)
  (aN (aT (bO GR Y (pa1 (eU (N:=["part"]) (src:=[none]) (osc:=bC tN) (oN:=["thing"]) bkA (kJ (pv 0))
    fun cl s H fp dl C=>⟨bW (i:=0) (show(["part"]:List Str).Nodup by trivial) rfl (Bp rfl),dJ,aX (r:=vQ K) bS (pv 0) aD Ih⟩))))),?_⟩
 refine⟨_,rfl,m,x,d,rfl,hx,fun H1 s1=>⟨_,rfl,?_⟩⟩;cases g:aA1 d with
 | false=>
  refine bF ?_;have e:uG d=false:=by
   cases d with
   | tuple ds=>
    have z:ds.all eY=false:=g;show(ds.all eY&&decide (2<=ds.length/\ds.length<=6)&&fG (ds.map dM))=false;rw[z];rfl
   | _=>rfl
  rw[e]at k;exact k H1 s1
 | true=>
  refine bQ ?_;obtain⟨ds,rfl⟩:∃ ds,d=.tuple ds:=by
   cases d with
   | tuple z=>exact⟨z,rfl⟩
   | _=>simp[aA1]at g
  have Z:ds.all eY=true:=g;cases hx with
  | @tup a xs _ e hl r=>
   have aa:=r.len;have k':∀ H',aU H H'->Q (.bl (decide (2<=ds.length/\ds.length<=6)&&fG (ds.map dM))) H':=fun H' s'=>by
    have q:Q (.bl (ds.all eY&&decide (2<=ds.length/\ds.length<=6)&&fG (ds.map dM))) H':=k H' s';rw[Z,Ax]at q;exact q
   have J:¬ (2<=ds.length/\ds.length<=6)->Q (.bl false) H1:=fun h=>by
    have q:=k' H1 s1;rw[Ie h]at q;exact q
   refine⟨_,rfl,a,xs,rfl,.inr (aV (s1 _ _ e)),_,_,rfl,rfl,_,rfl,dH (fun W=>?_) (fun W=>?_)⟩
   .have U:(2:Int)<=xs.length:=Ig W;refine⟨_,_,rfl,rfl,_,rfl,?_⟩;by_cases g2:(xs.length:Int)<=6
    .rw[Ic g2];refine bQ ?_;refine⟨_,rfl,a,rfl,⟨xs,aV (s1 _ _ e)⟩,?_⟩;refine jJ (xs:=xs) (fun i ys σ H'=>aU H1 H'/\ys=((ds.take i).map fun d=>V.str (dM d))/\∃ o,σ=[o]) ⟨aU.refl H1,rfl,none,rfl⟩ (aJ (by lia)) (fun i ys σ H' p=>by rw[p.2.1,Ab,AJ];lia) (fun i ys σ H' p=>aV (p.1 _ _ (s1 _ _ e))) ?_ ?_
     .rintro i y ys σ H' hy ⟨S,rfl,o,rfl⟩;dsimp only[bT];have⟨d',hd',r'⟩:=r.at hy;obtain⟨b,zs,rfl,hb,hat⟩:=zV ((r'.same s1).same S) (AR.mp Z d' (AG hd'));refine bF ?_;refine⟨_,rfl,b,zs,0,_,rfl,rfl,aV hb,hat,S,?_,_,rfl⟩;rw[A0,hd',Al];rfl
     .rintro ys σ H2 ⟨S,rfl,o,rfl⟩ D hD;have O:D6 xs.length ds=ds:=Bi (by lia);rw[O];have S1:=S.trans (aM (o:=.lst (ds.map fun d=>V.str (dM d))) hD);refine⟨D,ds.map dM,rfl,.inl (by rw[aH,Cp];rfl),by rw[Ab];lia,fun H3 s3=>?_⟩;have q:=k' H3 ((s1.trans S1).trans s3);rw[Ic (by lia),Ax]at q;exact q
    .rw[Ie g2];refine bF ?_;exact J (by lia)
   .have U:¬ (2:Int)<=xs.length:=fun z=>W (Ic z);refine⟨_,rfl,bF ?_⟩;exact J (by lia)
def uH:List Aj->Bool
 | [d1,d2]=>bD d1&&uG d2
 | _=>false
def xL:List Aj->Bool
 | [d1,d2]=>oV d1&&bD d2
 | _=>false
def aCu{ds:List Aj}(h:ds.length≠2):uH ds=false:=by
 match ds,h with
 | [],_=>rfl
 | [_],_=>rfl
 | [_,_],z=>exact absurd rfl z
 | _::_::_::_,_=>rfl
def aCv{ds:List Aj}(h:ds.length≠2):xL ds=false:=by
 match ds,h with
 | [],_=>rfl
 | [_],_=>rfl
 | [_,_],z=>exact absurd rfl z
 | _::_::_::_,_=>rfl
def aHR{f:Ag}{fd:Ay}(F:Fn K "fits_part" xB f fd)(T:Txt K mg)
  (Y:gZ P w K mg base)
  (W:Cal P w K mg base 5 "are_parts" ["thing"] aHP):
  cC P w K mg base CX0 6 f fd ["rest"] (gA uH):=by
 refine okA F ["rest"] fun Z A outer s H vs Q E J nd h=>?_;obtain⟨m,x,ds,rfl,hx,k⟩:=h;refine⟨_,aN (aT (dA (dO cP (aQ aS (by rfl) T.len Av (pa1 (pv 0))) aD (fA _)) (dA (bO Y J (pa1 (aX bS (pv 0) aD Ih))) (dR (bO W J (pa1 (aX bS (pv 0) aD Ih))))))),?_⟩;cases hx with
 | @tup a xs _ e hl r=>
  have O:=r.len;refine⟨_,rfl,a,xs,rfl,.inr (aV e),rfl,_,rfl,?_⟩;by_cases hn:xs.length=2
  .rw[Ic (show V.int (xs.length:Int)=V.int 2 by rw[hn];rfl)];refine bF ?_;obtain⟨x1,x2,rfl⟩:=aIS hn;obtain⟨d1,d2,rfl,r1,r2⟩:=aLj r;have U:∀ H',aU H H'->Q (.bl (bD d1&&uG d2)) H':=k;refine⟨_,rfl,a,_,0,_,rfl,rfl,aV e,rfl,m,x1,d1,rfl,r1,fun H1 s1=>⟨_,rfl,?_⟩⟩;refine dH (fun g=>?_) (fun g=>?_)
   .refine⟨_,rfl,a,_,1,_,rfl,rfl,aV (s1 _ _ e),rfl,m,x2,d2,rfl,r2.same s1,fun H2 s2=>?_⟩;have q:=U H2 (s1.trans s2);rw[g,Ax]at q;exact q
   .have q:=U H1 s1;rw[(by simpa using g:bD d1=false)]at q;exact q
  .rw[Ie (show¬ V.int (xs.length:Int)=V.int 2 from fun z=>hn (by injection z with z;lia))];refine bQ ?_;rw[aCu (by lia)]at k;exact k H (aU.refl H)
def aHS{f:Ag}{fd:Ay}(F:Fn K "fits_join" xC f fd)(T:Txt K mg)
  (Y:gZ P w K mg base)
  (W:Cal P w K mg base 5 "are_lands" ["thing"] aHQ):
  cC P w K mg base CX0 6 f fd ["rest"] (gA xL):=by
 refine okA F ["rest"] fun Z A outer s H vs Q E J nd h=>?_;obtain⟨m,x,ds,rfl,hx,k⟩:=h;refine⟨_,aN (aT (dA (dO cP (aQ aS (by rfl) T.len Av (pa1 (pv 0))) aD (fA _)) (dA (bO W J (pa1 (aX bS (pv 0) aD Ih))) (dR (bO Y J (pa1 (aX bS (pv 0) aD Ih))))))),?_⟩;cases hx with
 | @tup a xs _ e hl r=>
  have O:=r.len;refine⟨_,rfl,a,xs,rfl,.inr (aV e),rfl,_,rfl,?_⟩;by_cases hn:xs.length=2
  .rw[Ic (show V.int (xs.length:Int)=V.int 2 by rw[hn];rfl)];refine bF ?_;obtain⟨x1,x2,rfl⟩:=aIS hn;obtain⟨d1,d2,rfl,r1,r2⟩:=aLj r;have U:∀ H',aU H H'->Q (.bl (oV d1&&bD d2)) H':=k;refine⟨_,rfl,a,_,0,_,rfl,rfl,aV e,rfl,m,x1,d1,rfl,r1,fun H1 s1=>⟨_,rfl,?_⟩⟩;refine dH (fun g=>?_) (fun g=>?_)
   .refine⟨_,rfl,a,_,1,_,rfl,rfl,aV (s1 _ _ e),rfl,m,x2,d2,rfl,r2.same s1,fun H2 s2=>?_⟩;have q:=U H2 (s1.trans s2);rw[g,Ax]at q;exact q
   .have q:=U H1 s1;rw[(by simpa using g:oV d1=false)]at q;exact q
  .rw[Ie (show¬ V.int (xs.length:Int)=V.int 2 from fun z=>hn (by injection z with z;lia))];refine bQ ?_;rw[aCv (by lia)]at k;exact k H (aU.refl H)
def cB:List Str:=["part","join","forfeit","measure","mend","alone","breach","view"]
def dX(kind:Str)(ds:List Aj):Bool:=
 if kind="part" then uH ds else if kind="join" then xL ds else if kind="forfeit" then gM ds else if kind="measure" then iF ds else if kind="mend" then oU ds else if kind="alone" then oS ds else if kind="breach" then gP ds else lP ds
def fJ:Aj->Bool
 | .tuple (.str kind::name::day::aY)=>decide (kind∈cB)&&(bD name&&(bZ 0 9999 day&&dX kind aY))
 | _=>false
inductive zW(vs:List V)(H:Hp)(Q:VK)(u3_:XK):Prop
 | mk (m:Bool) (x:V) (d:Aj) (q0:vs=[x]) (q1:RdV m H x d) (q2:∀ H',aU H H'->Q (.bl (fJ d)) H'):zW vs H Q u3_
def vB:Sp:=fun vs H Q u3_=>zW vs H Q u3_
def aDy{ds:List Aj}(h:ds.length<3):fJ (.tuple ds)=false:=by
 match ds,h with
 | [],_=>rfl
 | [d],_=>cases d<;>rfl
 | [d,_],_=>cases d<;>rfl
def zX{d1 J O:Aj}{ds:List Aj}(h:oR d1=false):fJ (.tuple (d1::J::O::ds))=false:=by
 cases d1 with
 | str z=>simp[oR]at h
 | _=>rfl
def aHT{f ra:Ag}{fd:Ay}{Y:List (Key×Ac)}{ee:List (Key×V)}(F:Fn K "is_row" aHn f fd)(T:Txt K mg)
  (Z:∀ h:Bb,K.In h->h.DictOf (cV P w) ra Y) (rel:KV ee Y) (hz:(ra==sysModules)=false) (mF:mg "FORMS"=some (.ref ra))
  (U:∀ kind:Str,(gY ee (Ak kind)).isSome=decide (kind∈cB))
  (ah:∀(kind:Str) (v:V),gY ee (Ak kind)=some v->∃(a:Ag) (fd:Ay),v=.ref a/\cC P w K mg base CX0 6 a fd ["rest"] (gA (dX kind))/\AS K (.ref a)=true/\dY K fd ["rest"] [])
  (GN:gZ P w K mg base)
  (GW:jD P w K mg base):
  cC P w K mg base CX0 7 f fd ["thing"] vB:=by
 refine okA F ["thing","kind","name","day","fits"] fun ax A outer s H vs Q E hr nd h=>?_;obtain⟨m,x,d,rfl,hx,k⟩:=h;obtain⟨tl,hlast⟩:=T.lastDay;refine⟨_,aK (bX (PW.pt (dL (cO (cJ (aQ cS (by rfl) T.isi (by kernel_rfl) (pa2 (pv 0) (fF (v:=.ty "tuple") (by rfl) T.tuple (by kernel_rfl) rfl)))))
   (dW (cT yJ (aQ aS (by rfl) T.len Av (pa1 (pv 0))) aD)))) (aN (aT eZ)) bA)
  (aK (nX (cN uX (pv 0) dU (cM aD)) (pZ rfl (dN (bW (i:=1) nd rfl (Bp rfl)) (dN (bW (i:=2) nd rfl (Bp rfl)) (dN (bW (i:=3) nd rfl (Bp rfl)) lZ)))))
  (aK (bX (PW.pt (dL (cO (cJ (aQ cS (by rfl) T.isi (by kernel_rfl) (pa2 (pv 1) (fF (v:=.ty "str") (by rfl) T.str (by kernel_rfl) rfl)))))
   (dW (eJ (aFu Z rel hz) (pv 1) (cG (v:=.ref ra) (by rfl) mF rfl) (by with_unfolding_all rfl))))) (aN (aT eZ)) bA)
  (aK (bX (PW.pt (dL (cO (cJ (bO GN hr (pa1 (pv 2))))) (dW (cO (cJ (bO GW hr (pa3 (pv 3) aD (cG (v:=.int 9999) (by rfl) hlast ⟨_,rfl⟩)))))))) (aN (aT eZ)) bA)
  (aK (cF 4 nd (aAJ Z rel (by rfl) mF (pv 1) Ih))
  (aN (aT (aBO (k:=6) (ps:=["rest"]) (pv 4) hr (pa1 (cN uX (pv 0) (cM aD) dU))))))))),?_⟩
 refine⟨_,rfl,_,"tuple",_,_,rfl,iT hx,jX d,_,rfl,?_⟩;cases hd:fY d with
 | false=>
  have e:fJ d=false:=by
   cases d with
   | tuple ds=>simp[fY]at hd
   | _=>rfl
  rw[e]at k;exact k H (aU.refl H)
 | true=>
  obtain⟨ds,rfl⟩:∃ ds,d=.tuple ds:=by
   cases d with
   | tuple z=>exact⟨z,rfl⟩
   | _=>simp[fY]at hd
  cases hx with
  | @tup a xs _ e hl r=>
   have am:=r.len;refine bQ ?_;refine⟨_,rfl,a,xs,rfl,.inr (aV e),_,_,rfl,rfl,_,rfl,?_⟩;by_cases hn:(xs.length:Int)<3
   .rw[Ic hn];refine bF ?_;rw[aDy (by lia)]at k;exact k H (aU.refl H)
   .rw[Ie hn];refine bQ ?_;obtain⟨x1,x2,x3,J,rfl⟩:∃ x1 x2 x3 J,xs=x1::x2::x3::J:=by
     match xs,hn with
     | [],z=>exact absurd (by decide) z
     | [_],z=>exact absurd (show(1:Int)<3 by decide) z
     | [_,_],z=>exact absurd (show(2:Int)<3 by decide) z
     | a::b::c::r,_=>exact⟨a,b,c,r,rfl⟩
    cases r with
    | @cons _ d1 _ _ r1 r=>
    cases r with
    | @cons _ d2 _ _ r2 r=>
    cases r with
    | @cons _ d3 _ ds ae rr=>
    refine⟨_,rfl,_,rfl,a,_,rfl,e,fun t H1 s1 ht=>?_⟩;have ec:gU (x1::x2::x3::J) none (some 3)=[x1,x2,x3]:=oK (α:=Nat) (x1::x2::x3::J) 3;rw[ec]at ht;refine⟨t,_,rfl,aV ht,rfl,_,_,rfl,_,_,rfl,_,_,rfl,rfl,_,rfl,_,"str",_,_,rfl,iT (r1.same s1),hU d1,_,rfl,?_⟩;cases hk:oR d1 with
    | false=>
     rw[zX hk]at k;exact k H1 s1
    | true=>
     obtain⟨kind,rfl⟩:∃ z,d1=.str z:=by
      cases d1 with
      | str z=>exact⟨z,rfl⟩
      | _=>simp[oR]at hk
     cases r1;refine bQ ?_;refine⟨_,rfl,Ak kind,rfl,rfl,_,rfl,?_⟩;rw[U kind];have k':∀ H',aU H H'->Q (.bl (decide (kind∈cB)&&(bD d2&&(bZ 0 9999 d3&&dX kind ds)))) H':=k;by_cases hw:kind∈cB
     .rw[Ic hw];refine bQ ?_;rw[Ic hw,Ax]at k';refine⟨_,rfl,m,x2,d2,rfl,r2.same s1,fun H2 s2=>⟨_,rfl,?_⟩⟩;have O:=s1.trans s2;cases g:bD d2 with
      | false=>
       refine bF ?_;have q:=k' H2 O;rw[g]at q;exact q
      | true=>
       refine bQ ?_;refine⟨_,rfl,m,x3,d3,0,9999,rfl,ae.same O,_,rfl,?_⟩;cases g2:bZ 0 9999 d3 with
       | false=>
        refine bF ?_;have q:=k' H2 O;rw[g,g2]at q;exact q
       | true=>
        refine bQ ?_;have hs:=U kind;rw[Ic hw]at hs;obtain⟨v,hv⟩:=Option.isSome_iff_exists.mp hs;obtain⟨fa,fda,rfl,FG,fk,fb⟩:=ah kind v hv;refine⟨_,rfl,Ak kind,_,rfl,hv,_,rfl,fa,gA (dX kind),rfl,⟨fda,FG,fk,fb⟩,_,rfl,_,rfl,a,_,rfl,O _ _ e,fun t2 H3 s3 W=>?_⟩;have ed:gU (V.str kind::x2::x3::J) (some 3) none=J:=wI (α:=Nat) (V.str kind::x2::x3::J) 3;rw[ed]at W;refine⟨m,_,ds,rfl,.tup W (by simp only[An]at hl;lia) ((rr.same O).same s3),fun H4 s4=>?_⟩;have q:=k' H4 ((O.trans s3).trans s4);rw[g,g2,Ax,Ax]at q;exact q
     .rw[Ie hw];refine bF ?_;have q:=k' H1 s1;rw[Ie hw]at q;exact q
inductive uI(vs:List V)(H:Hp)(Q:VK)(u3_:XK):Prop
 | mk (t:Ag) (word:Str) (x1 x2 x3:V) (aY:List V) (q0:vs=[.ref t]) (q1:H t=some (.tup (.str word::x1::x2::x3::aY))) (q2:∀ H',aU H H'->Q (if inV (.str word) [V.str "measure",.str "breach",.str "view"]=true then x3 else .non) H'):uI vs H Q u3_
def zY:Sp:=fun vs H Q u3_=>uI vs H Q u3_
def aDz{f:Ag}{fd:Ay}(F:Fn K "field_of" aCc f fd):cC P w K mg base CX0 1 f fd ["row"] zY:=by
 refine okA F ["row"] fun W A outer s H vs Q E Z nd h=>?_;obtain⟨t,word,x1,x2,x3,aY,rfl,ht,k⟩:=h;refine⟨_,aK (bX (eJ gB (aX bS (pv 0) aD Ih) (cH (pa3 aO aO aO)) (by with_unfolding_all rfl)) (aN (aT (aX bS (pv 0) aD Ih))) bA)
  (aN (aT gG)),?_⟩
 have Y:(V.str word::x1::x2::x3::aY).length=aY.length+4:=rfl;have U:atI (V.str word::x1::x2::x3::aY) 0=some (.str word):=bG (j:=0) rfl;have a3:atI (V.str word::x1::x2::x3::aY) 3=some x3:=bG (j:=3) rfl;refine⟨_,rfl,t,_,0,_,rfl,rfl,aV ht,U,zZ3,fun q O=>?_⟩;have J:=aM (o:=.tup [V.str "measure",.str "breach",.str "view"]) O;refine⟨q,_,rfl,.inr (aV aH),rfl,rfl,_,rfl,?_⟩;have k1:=k _ J;rw[Ia Aq];refine dH (fun g=>?_) (fun g=>?_)
 .rw[Ib g]at k1;exact⟨_,rfl,t,_,3,_,rfl,rfl,aV (J _ _ ht),a3,k1⟩
 .rw[Ia g]at k1;exact k1
def aA4{H:Hp}{p c a:Ag}{ns:List Int}{t:Int}{o:HO}(O:cW H p c ns t)(e:H a=some o)(h:∀ J r,o≠.dK (J::r)):a≠p:=by
 obtain⟨l,_,e2⟩:=O.ob;exact aGa e e2 (h _ _)
def aLm{m:Bool}{H H':Hp}{p c:Ag}{ns:List Int}{t:Int}{x:V}{d:Aj}(r:RdV m H x d)(J:cW H p c ns t)(k:bM p H H'):RdV m H' x d:=r.keep fun a o e h=>k a o e (aA4 J e h)
def aA5{m:Bool}{H H':Hp}{p c:Ag}{ns:List Int}{t:Int}{x:List V}{d:List Aj}(r:dB m H x d)(J:cW H p c ns t)(k:bM p H H'):dB m H' x d:=r.keep fun a o e h=>k a o e (aA4 J e h)
def bU{H H':Hp}{p c a:Ag}{ns:List Int}{t:Int}{xs:List V}(e:H a=some (.lst xs))(J:cW H p c ns t)(k:bM p H H'):H' a=some (.lst xs):=k a _ e (aA4 J e (fun _ _ z=>nomatch z))
def aA6{H H':Hp}{p c a:Ag}{ns:List Int}{t:Int}{xs:List V}(e:H a=some (.tup xs))(J:cW H p c ns t)(k:bM p H H'):H' a=some (.tup xs):=k a _ e (aA4 J e (fun _ _ z=>nomatch z))
inductive aEw(vs:List V)(H:Hp)(Q:VK)(u3_:XK):Prop
 | mk (p c:Ag) (ns:List Int) (a lo hi:Int) (q0:vs=[.ref p,.int lo,.int hi]) (q1:cW H p c ns a) (q2:a<=900000) (q3:0<=lo) (q4:lo<=hi) (q5:hi<=10^9) (q6:∀ n a' H',lo<=n->n<=hi->a<=a'->a'<=a+3->cW H' p c ns a'->bM p H H'->Q (.int n) H'):aEw vs H Q u3_
def aEx:Sp:=fun vs H Q u3_=>aEw vs H Q u3_
def aLn{f:Ag}{fd:Ay}(F:Fn K "_law_number" aEn f fd)(J:mg "min"=none)(Z:gF P w K mg base):
  cC P w K mg base CX0 2 f fd ["_law_pen_here","_law_bottom","_law_most"] aEx:=by
 refine okA F ["_law_pen_here","_law_bottom","_law_most","_law_way","_law_near"] fun ao A outer s H vs Q E U nd h=>?_;obtain⟨p,c,ns,a,lo,hi,rfl,hp,ha,h0,h1,h2,k⟩:=h;refine⟨_,aK (cF 3 nd (bO Z U (pa2 (pv 0) aD)))
  (aK (cF 4 nd (aW dF (pv 1) (bO Z U (pa2 (pv 0) (aQ (yK rfl) (by rfl) J (by kernel_rfl) (pa2 aD (aW dF (aW qB (pv 2) (pv 1)) aD)))))))
  (aN (aT (aX bJ (dC (cU (pv 1) (pa3 (pv 2) (pv 4) (aW dF (pv 1) (bO Z U (pa2 (pv 0) (aW dF (aW qB (pv 2) (pv 1)) aD))))))) (pv 3) Ih)))),?_⟩
 have b9:(10:Int)^9+1<2^512:=by trivial
 have e9:(10:Int)^9=1000000000:=by trivial
 refine⟨_,rfl,p,c,ns,a,_,rfl,hp,by lia,by decide,by trivial,fun r1 a1 H1 af ai l1 u1 aa ad=>?_⟩;refine⟨_,rfl,_,rfl,_,rfl,_,rfl,_,_,rfl,rfl,_,_,rfl,rfl,_,_,rfl,?_⟩;obtain⟨O,hmm,m0,m1⟩:∃ O:Int,(if hi-lo+1<12 then hi-lo+1 else 12)=O/\0<O/\O<=hi-lo+1:=by
  refine⟨_,rfl,?_⟩;split<;>lia
 rw[hmm];refine⟨p,c,ns,a1,_,rfl,aa,by lia,m0,by lia,fun r2 a2 H2 am an l2 u2 Y W=>?_⟩;refine⟨_,_,rfl,rfl,_,rfl,_,rfl,_,rfl,_,rfl,_,rfl,_,rfl,_,rfl,_,_,rfl,rfl,_,_,rfl,rfl,p,c,ns,a2,_,rfl,Y,by lia,by lia,by lia,fun r3 a3 H3 ah ak l3 u3 ac ae=>?_⟩;refine⟨_,_,rfl,rfl,zZ4,fun q hq=>?_⟩;have sq:=aM (o:=.lst [V.int lo,.int hi,.int (lo+r2),.int (lo+r3)]) hq;obtain⟨v,hv,hat⟩:=gX (xs:=[V.int lo,.int hi,.int (lo+r2),.int (lo+r3)]) (i:=r1) af (by show r1<4;lia);obtain⟨n,rfl,hn0,hn1⟩:∃ n:Int,v=.int n/\lo<=n/\n<=hi:=by
  simp only[Ao,AB,or_false]at hv;rcases hv with rfl|rfl|rfl|rfl
  .exact⟨_,rfl,by lia,by lia⟩
  .exact⟨_,rfl,by lia,by lia⟩
  .exact⟨_,rfl,by lia,by lia⟩
  .exact⟨_,rfl,by lia,by lia⟩
 exact⟨_,rfl,q,_,r1,_,rfl,rfl,aP aH,hat,k n a3 _ hn0 hn1 (by lia) (by lia) (ac.same sq) (((ad.trans W).trans ae).same sq)⟩
open PySem L2 PyProof.Rows
theorem xM{α:Type}:∀(l:List α) (j:Nat) (y:α),l[j]?=some y->(y::l.eraseIdx j).Perm l
 | [],j,y,h=>by simp at h
 | x::r,0,y,h=>by
  simp at h;subst h;simp
 | x::r,j+1,y,h=>by
  simp at h;have J:=xM r j y h;rw[List.eraseIdx_cons_succ];exact(List.Perm.swap x y _).trans (J.cons x)
theorem lQ{α β:Type}(f:α->β):∀(l:List α) (j:Nat),(l.map f).eraseIdx j=(l.eraseIdx j).map f
 | [],j=>by simp
 | x::r,0=>by simp
 | x::r,j+1=>by simp[lQ f r j]
inductive aCw(vs:List V)(H:Hp)(Q:VK)(u3_:XK):Prop
 | mk (p c:Ag) (ns:List Int) (a:Int) (l:Ag) (ws:List Str) (m:Nat) (q0:vs=[.ref p,.ref l,.int m]) (q1:cW H p c ns a) (q2:a<=800000) (q3:H l=some (.lst (ws.map V.str))) (q4:ws.length=10) (q5:m<=6) (q6:∀(q:Ag) (ms:List Str) (a':Int) (H':Hp),H' q=some (.lst (ms.map V.str))->ms.length=m->sortedS ms=true->(∃ us vs:List Str,ms.Perm us/\(us++vs).Perm ws)->a<=a'->a'<=a+10->cW H' p c ns a'->bM p H H'->Q (.ref q) H'):aCw vs H Q u3_
def aHU:Sp:=fun vs H Q u3_=>aCw vs H Q u3_
def aJJ{f:Ag}{fd:Ay}(F:Fn K "_law_some" aHr f fd)(W:mg "list"=none)(ae:mg "range"=none)(af:mg "sorted"=none)(ag:mg "len"=none)
  (GT:gF P w K mg base):
  cC P w K mg base CX0 2 f fd ["_law_pen_here","_law_names_here","_law_many"] aHU:=by
 refine okA F ["_law_pen_here","_law_names_here","_law_many","_law_left","_law_found"] fun aI A outer s H vs Q E hr nd h=>?_;obtain⟨p,c,ns,a,l,ws,m,rfl,hp,ha,hl,hwl,hm,k⟩:=h;refine⟨_,aK (sV (i:=3) nd rfl (FU rfl) (cA fT (by rfl) W (by kernel_rfl) (pa1 (pv 1))))
  (aK (gL (i:=4) (N:=["_law_k","_law_left","_law_pen_here"]) (src:=[none,some 3,some 0]) (osc:=bC aHr) (oN:=["_law_pen_here","_law_names_here","_law_many","_law_left","_law_found"]) bkA nd rfl
    (iK rfl ae (pa1 (pv 2)))
    fun cl s H fp dl C=>⟨bW (i:=0) (show(["_law_k","_law_left","_law_pen_here"]:List Str).Nodup by trivial) rfl (Bp rfl),dJ,aGS (K:=K) A7 DR DQ qT (pv 1) (pa1 (bO GT hr (pa2 (pv 2) (aQ (r:=jH K) aS (by rfl) ag Av (pa1 (pv 1))))))⟩)
  (aN (aT (aQ rH (by rfl) af (by kernel_rfl) (pa1 (pv 4)))))),?_⟩
 refine⟨_,rfl,l,_,rfl,.inl (aP hl),fun L hL=>?_⟩;have s0:=aM (o:=.lst (ws.map V.str)) hL;have ap:L≠p:=by
  have⟨z,_,e⟩:=hp.ob;exact(aZ e hL).symm
 have aw:L≠c:=(aZ hp.ce hL).symm;refine⟨_,rfl,m,rfl,by lia,by lia,?_⟩;refine mI (fun i ys σ' H'=>Ex3 fun(a':Int) (J vs:List Str)=>∃(o:Option V),Aw6 (σ'=[o,some (.ref L),some (.ref p)]) (cW H' p c ns a') (bM p H H') (a<=a') (a'<=a+i) (Aw3 (ys=J.map V.str) (J.length=i) (Aw3 (H' L=some (.lst (vs.map V.str))) (vs.length+i=10) ((J++vs).Perm ws))))
  ⟨a,[],ws,none,rfl,hp.same s0,aU.but s0,by lia,by lia,rfl,rfl,aH,by lia,DK _⟩ (aJ (by lia)) (fun i ys σ H p=>by obtain⟨_,J,_,_,_,_,_,_,_,rfl,e,_⟩:=p;rw[Ab,e];exact Ap _) ?_ ?_
 .rintro i ys σ' H1 hi ⟨a1,J,vs,o,rfl,O,Z,au,ai,rfl,aa,U,ar,Y⟩;dsimp only[bT];refine bF ?_;refine⟨_,rfl,.inl ⟨rfl,_,aP U⟩,_,rfl,_,rfl,L,_,rfl,.inl (aP U),p,c,ns,a1,_,rfl,O,by lia,by rw[Ab];lia,by rw[Ab];lia,fun r1 a2 H2 aG aj az aA ao ac=>?_⟩;rw[Ab]at aj;obtain⟨j,rfl⟩:∃ j:Nat,r1=j:=⟨r1.toNat,by lia⟩
  have aq:=bU U O ac;obtain⟨y,hy⟩:∃ y,vs[j]?=some y:=⟨_,Ai (by lia)⟩
  have an:seqIndex? (j:Int) (vs.map V.str).length=some j:=by
   rw[Ab];unfold seqIndex?;simp;lia
  refine⟨L,_,_,j,V.str y,rfl,rfl,aq,by lia,by lia,an,by rw[AF,hy];rfl,?_⟩;refine⟨a2,J++[y],vs.eraseIdx j,_,rfl,?_,?_,by lia,by lia,by rw[Al];rfl,by rw[Am,aa];rfl,?_,?_,?_⟩
  .obtain⟨⟨z,hz,e⟩,ce,ge,sm⟩:=ao;exact⟨⟨z,hz,by rw[bE ap.symm];exact e⟩,by rw[bE aw.symm];exact ce,ge,sm⟩
  .intro b o e ne;rw[bE (aZ e hL)];exact(Z.trans ac) b o e ne
  .rw[aH];congr 2;exact lQ V.str vs j
  .rw[Ex (by lia)];lia
  .rw[B2];exact(List.Perm.append_left J (xM vs j y hy)).trans Y
 .rintro ys σ' H1 ⟨a1,J,vs,o,rfl,O,Z,au,ai,rfl,aa,U,ar,Y⟩ D hD;have sD:=aM (o:=.lst (J.map V.str)) hD;refine⟨_,rfl,D,J,rfl,aP aH,by lia,fun q ms hq ad am=>?_⟩;have s2:=aM (o:=.lst (ms.map V.str)) hq;exact k q ms a1 _ aH (by rw[ad.length_eq,aa];lia) am ⟨J,vs,ad,Y⟩ (by lia) (by lia) ((O.same sD).same s2) ((Z.same sD).same s2)
def xN{J U:List Str}(Z:U.Perm (uR J))(hs:sortedS U=true):decide (J=U)=fG J:=by
 unfold fG;rw[decide_eq_decide];have O:=rN U hs;constructor
 .rintro rfl;have hn:J.Nodup:=Z.nodup_iff.mpr (qE J);have h2:=O.and hn;refine h2.imp fun{a b} h=>?_;rcases Fu (a.cps.toList<b.cps.toList)with z|z
  .exact z
  .exact absurd (iC (EW (Du.mp h.1) (Du.mp z))) h.2
 .intro h;have hn:J.Nodup:=h.imp fun{a b} z e=>by
   subst e;exact Gv _ z
  have h2:J.Pairwise fun a b=>¬ b.cps.toList<a.cps.toList:=h.imp fun{a b} z y=>Gv _ (List.lt_trans z y);have Y:(uR J).Perm J:=by
   refine iY J (uR J) hn (fun x W=>(aBV J x).mpr W) ?_;have:=iY (uR J) J (qE J) (fun x W=>(aBV J x).mp W);have h1:=(aFr J)
   rw[Ic hn]at h1;have h3:=Ig h1;unfold uR;lia
  exact uC (Y.symm.trans Z.symm) h2 O
theorem tR:∀(O J:List Str),wD (O.map V.str) (J.map V.str)=decide (O=J)
 | [],[]=>rfl
 | [],_::_=>rfl
 | _::_,[]=>rfl
 | a::r,b::q=>by
  show(eqV (.str a) (.str b)&&wD (r.map V.str) (q.map V.str))=_;rw[tR r q];show((a==b)&&decide (r=q))=_;rw[BR];simp
def aFX{f:Ag}{fd:Ay}(F:Fn K "is_rising" aAT f fd)(T:Txt K mg)(J:mg "list"=none)(O:mg "sorted"=none):cC P w K mg base CX0 1 f fd ["things"] xJ:=by
 refine okA F ["things"] fun Z A outer s H vs Q E hr nd h=>?_;obtain⟨a,ss,rfl,ha,hl,k⟩:=h;have hu:=qV hr;have Y:(A.deeper (Dl "is_rising" (bC aAT) s.heap.objs.size f Z)).units<cLine:=by lia
 refine⟨_,aN (aT (dO (aAH Y) (cA fT (by rfl) J (by kernel_rfl) (pa1 (pv 0))) (aQ (rL rfl) (by rfl) O (by kernel_rfl) (pa1 (cA (zC rfl) (by rfl) T.set (by kernel_rfl) (pa1 (pv 0))))) (fA _))),_,rfl,a,ss.map V.str,rfl,ha.imp aP aV,fun L hL=>?_⟩;have W:=aM (o:=.lst (ss.map V.str)) hL;refine⟨_,rfl,a,ss,rfl,ha.imp (W _ _) (W _ _),by lia,fun S hS=>?_⟩;have sS:=aM (o:=aFx P w S ss) hS;refine⟨S,ss,rfl,aH,by lia,fun l ms U hp hs=>?_⟩;have sl:=aM (o:=.lst (ms.map V.str)) U;refine⟨L,l,_,_,rfl,rfl,aP (sl _ _ (sS _ _ aH)),aP aH,fO ss,fO ms,?_⟩;rw[tR,xN hp hs];exact k _ ((W.trans sS).trans sl)
def pD(x:P3):Aj:=.tuple [.str x.1,.str x.2.1,.int x.2.2]
inductive aEy:Aj->Aj->Prop
 | short {ds:List Aj} (h:ds.length≠5):aEy (.tuple ds) (.tuple ds)
 | other {kind:Str} {n dy f l:Aj} (h1:kind≠"part") (h2:kind≠"join"):aEy (.tuple [.str kind,n,dy,f,l]) (.tuple [.str kind,n,dy,f,l])
 | part {n dy f:Aj} {T R:List P3} (hp:T.Perm R) (hr:aGY R) (h2:2<=T.length) (h6:T.length<=6) (ha:(T.map pD).all eY=true):aEy (.tuple [.str "part",n,dy,f,.tuple (T.map pD)]) (.tuple [.str "part",n,dy,f,.tuple (R.map pD)])
 | join {n dy l:Aj} {T R:List Str} (hp:T.Perm R) (hr:fG R=true) (h6:T.length<=6) (ha:(T.map Bj).all bD=true):aEy (.tuple [.str "join",n,dy,.tuple (T.map Bj),l]) (.tuple [.str "join",n,dy,.tuple (R.map Bj),l])
theorem zZ{m:Bool}{H:Hp}:∀{T:List Str},(∀ z∈T,z.length<=1000)->dB m H (T.map V.str) (T.map Bj)
 | [],_=>.nil
 | t::T,h=>.cons (.str t (h t (by simp))) (zZ fun z hz=>h z (by simp[hz]))
structure S3(H:Hp)(lf lp lh:Ag)(fs ps hs:List Str):Prop where
 f:H lf=some (.lst (fs.map V.str))
 p:H lp=some (.lst (ps.map V.str))
 h:H lh=some (.lst (hs.map V.str))
 f1:1<=fs.length
 f2:fs.length<=44
 p1:ps.length=10
 h1:hs.length=5
 nf:Nms fs
 np:Nms ps
 nh:Nms hs
def S3.but{H H':Hp}{Y W U:Ag}{fs ps O:List Str}{p c:Ag}{ns:List Int}{t:Int}(x:S3 H Y W U fs ps O)(J:cW H p c ns t)(k:bM p H H'):S3 H' Y W U fs ps O:=⟨bU x.f J k,bU x.p J k,bU x.h J k,x.f1,x.f2,x.p1,x.h1,x.nf,x.np,x.nh⟩
def S3.same{H H':Hp}{W U O:Ag}{fs ps J:List Str}(x:S3 H W U O fs ps J)(k:aU H H'):S3 H' W U O fs ps J:=⟨k _ _ x.f,k _ _ x.p,k _ _ x.h,x.f1,x.f2,x.p1,x.h1,x.nf,x.np,x.nh⟩
inductive iZ:Str->List Aj->Prop
 | part {land:Str} {R:List P3} (hl:bH land=true) (hr:aGY R) (h2:2<=R.length) (h6:R.length<=6) (ha:(R.map pD).all eY=true):iZ "part" [.str land,.tuple (R.map pD)]
 | join {land:Str} {R:List Str} (hl:bH land=true) (hr:fG R=true) (h2:2<=R.length) (h6:R.length<=6) (ha:(R.map Bj).all bD=true):iZ "join" [.tuple (R.map Bj),.str land]
 | forfeit {land house:Str} (hl:bH land=true) (hh:bH house=true):iZ "forfeit" [.str land,.str house]
 | measure {field:Str} {n:Int} (hf:bH field=true) (h0:0<=n) (h1:n<=10000000):iZ "measure" [.str field,.int n]
 | mend {house other:Str} (hh:bH house=true) (ho:bH other=true) (hne:house≠other):iZ "mend" [.str house,.str other]
 | alone {house:Str} (hh:bH house=true):iZ "alone" [.str house]
 | breach {field:Str} {n1 n2 n3:Int} (hf:bH field=true) (h10:0<=n1) (h11:n1<=9999999) (h20:0<=n2) (h21:n2<=1000000000) (h30:0<=n3) (h31:n3<=1000000):iZ "breach" [.str field,.int n1,.int n2,.int n3]
 | view {field house:Str} {n1:Int} (hf:bH field=true) (h10:0<=n1) (h11:n1<=9999999) (hh:bH house=true):iZ "view" [.str field,.int n1,.str house]
def aA7(word name:Str)(day:Int)(ds:List Aj):Aj:=.tuple (.str word::.str name::.int day::ds)
def aHV{word name:Str}{day:Int}{ds:List Aj}(h:iZ word ds)(hn:bH name=true)(h0:0<=day)(h1:day<=9999):fJ (aA7 word name day ds)=true:=by
 have go:decide (word∈cB)=true->dX word ds=true->fJ (aA7 word name day ds)=true:=fun a b=>by
  show(decide (word∈cB)&&(bH name&&(decide (0<=day/\day<=9999)&&dX word ds)))=true;rw[a,hn,b,Ic (show 0<=day/\day<=9999 from⟨h0,h1⟩)];rfl
 cases h with
 | @part U R hl hr h2 h6 ha=>
  refine go (by decide) ?_;show(bH U&&((R.map pD).all eY&&decide (2<=(R.map pD).length/\(R.map pD).length<=6)&&fG ((R.map pD).map dM)))=true;have e:(R.map pD).map dM=R.map (·.1):=by rw[Cp];rfl
  rw[hl,ha,e,Ab,Ic (show 2<=R.length/\R.length<=6 from⟨h2,h6⟩)];exact Ic (Do.mpr hr)
 | @join U R hl hr h2 h6 ha=>
  refine go (by decide) ?_;rw[show dX "join" [.tuple (R.map Bj),.str U]=xL [.tuple (R.map Bj),.str U] from by unfold dX;rw[Ia (by decide),Ib rfl]];show(((R.map Bj).all bD&&decide (2<=(R.map Bj).length/\(R.map Bj).length<=6)&&fG ((R.map Bj).map aA3))&&bH U)=true;have e:(R.map Bj).map aA3=R:=by rw[Cp];exact List.map_id R
  rw[hl,ha,e,Ab,Ic (show 2<=R.length/\R.length<=6 from⟨h2,h6⟩),hr];rfl
 | @forfeit U J hl Y=>
  refine go (by decide) ?_;rw[show dX "forfeit" [.str U,.str J]=gM [.str U,.str J] from by unfold dX;rw[Ia (by decide),Ia (by decide),Ib rfl]];show(true&&(bH U&&(bH J&&true)))=true;rw[hl,Y];rfl
 | @measure O n hf h0 h1=>
  refine go (by decide) ?_;rw[show dX "measure" [.str O,.int n]=iF [.str O,.int n] from by unfold dX;rw[Ia (by decide),Ia (by decide),Ia (by decide),Ib rfl]];show(bH O&&decide (0<=n/\n<=10000000))=true;rw[hf,Ic (show 0<=n/\n<=10000000 from⟨h0,h1⟩)];rfl
 | @mend J other Y ho an=>
  refine go (by decide) ?_;rw[show dX "mend" [.str J,.str other]=oU [.str J,.str other] from by unfold dX;rw[Ia (by decide),Ia (by decide),Ia (by decide),Ia (by decide),Ib rfl]];show(bH J&&bH other&&!decide (J=other))=true;rw[Y,ho,Ie an];rfl
 | @alone J Y=>
  refine go (by decide) ?_;rw[show dX "alone" [.str J]=oS [.str J] from by unfold dX;rw[Ia (by decide),Ia (by decide),Ia (by decide),Ia (by decide),Ia (by decide),Ib rfl]];exact Y
 | @breach O W n2 n3 hf Z aa aj am ai ah=>
  refine go (by decide) ?_;rw[show dX "breach" [.str O,.int W,.int n2,.int n3]=gP [.str O,.int W,.int n2,.int n3] from by unfold dX;rw[Ia (by decide),Ia (by decide),Ia (by decide),Ia (by decide),Ia (by decide),Ia (by decide),Ib rfl]];show(bH O&&decide (0<=W/\W<=9999999)&&decide (0<=n2/\n2<=1000000000)&&decide (0<=n3/\n3<=1000000))=true;rw[hf,Ic (show 0<=W/\W<=9999999 from⟨Z,aa⟩),Ic (show 0<=n2/\n2<=1000000000 from⟨aj,am⟩),Ic (show 0<=n3/\n3<=1000000 from⟨ai,ah⟩)];rfl
 | @view O J W hf Z aa Y=>
  refine go (by decide) ?_;rw[show dX "view" [.str O,.int W,.str J]=lP [.str O,.int W,.str J] from by unfold dX;rw[Ia (by decide),Ia (by decide),Ia (by decide),Ia (by decide),Ia (by decide),Ia (by decide),Ia (by decide)]];show(bH O&&decide (0<=W/\W<=9999999)&&bH J)=true;rw[hf,Ic (show 0<=W/\W<=9999999 from⟨Z,aa⟩),Y];rfl
def jY{m:Bool}{H:Hp}{z:Str}(h:bH z=true):RdV m H (.str z) (.str z):=.str z (by have:=(gE h).2;lia)
def aHW{w:Str}(h:w∈cB):w.length<=1000:=by
 have:∀ w∈cB,w.length<=1000:=by decide
 exact this w h
def aDA{J U vs ws:List Str}(hs:PyProof.Rows.sortedS J=true)(Y:J.Perm U)(Z:(U++vs).Perm ws)(hn:Nms ws):fG J=true/\∀ z∈J,bH z=true:=by
 have W:U.Nodup:=(Dp.mp (Z.nodup_iff.mpr hn.nd)).1;have O:J.Nodup:=Y.nodup_iff.mpr W;refine⟨Ic (((rN J hs).and O).imp fun{a b} h=>?_),fun z hz=>hn.ok z (Z.mem_iff.mp (Cs _ (Y.mem_iff.mp hz)))⟩;rcases Fu (a.cps.toList<b.cps.toList)with z|z
 .exact z
 .exact absurd (iC (EW (Du.mp h.1) (Du.mp z))) h.2
def FIn(word:Str)(ds:List Aj)(fs:List Str):Prop:=inV (.str word) [V.str "measure",.str "breach",.str "view"]=true->∀ z aY,ds=.str z::aY->z∈fs
inductive aAa(vs:List V)(H:Hp)(Q:VK)(u3_:XK):Prop
 | mk (p c:Ag) (ns:List Int) (a:Int) (word name:Str) (day:Int) (tS lf lp lh:Ag) (fs ps hs:List Str) (q0:vs=[.ref p,.str word,.str name,.int day,.ref tS]) (q1:cW H p c ns a) (q2:a<=700000) (q3:H tS=some (.tup [.ref lf,.ref lp,.ref lh])) (q4:S3 H lf lp lh fs ps hs) (q5:word∈cB) (q6:bH name=true) (q7:∀(t:Ag) (ds:List Aj) (aY:List V) (a':Int) (H':Hp),H' t=some (.tup (.str word::.str name::.int day::aY))->dB false H' aY ds->iZ word ds->FIn word ds fs->a<=a'->a'<=a+80->cW H' p c ns a'->bM p H H'->Q (.ref t) H'):aAa vs H Q u3_
def aEz:Sp:=fun vs H Q u3_=>aAa vs H Q u3_
def aHX{f:Ag}{fd:Ay}(F:Fn K "_law_row_of" aDq f fd)(Y:mg "len"=none)(av:mg "tuple"=none)
  (GT:gF P w K mg base)
  (GN:Cal P w K mg base 2 "_law_number" ["_law_pen_here","_law_bottom","_law_most"] aEx)
  (GS:Cal P w K mg base 2 "_law_some" ["_law_pen_here","_law_names_here","_law_many"] aHU):
  cC P w K mg base CX0 3 f fd ["_law_pen_here","_law_word","_law_name","_law_day","_law_sorts"] aEz:=by
 refine okA F ["_law_pen_here","_law_word","_law_name","_law_day","_law_sorts","_law_fields","_law_plots","_law_houses","_law_land","_law_at","_law_house","_law_field","_law_some_here","_law_parts","_law_inch"] fun dw A outer s H vs Q E hr nd h=>?_;obtain⟨p,c,ns,a,word,name,day,tS,lf,lp,lh,fs,ps,hs,rfl,hp,ha,htS,h3,hwd,hnm,k⟩:=h;refine⟨_,aK (nX (pv 4) (pZ rfl (dN (bW (i:=5) nd rfl (Bp rfl)) (dN (bW (i:=6) nd rfl (Bp rfl)) (dN (bW (i:=7) nd rfl (FU rfl)) lZ)))))
  (aK (cF 8 nd (aX bJ (pv 6) (bO GT hr (pa2 (pv 0) (aQ aS (by rfl) Y Av (pa1 (pv 6))))) Ih))
  (aK (cF 9 nd (bO GT hr (pa2 (pv 0) (aQ aS (by rfl) Y Av (pa1 (pv 7))))))
  (aK (cF 10 nd (aX bJ (pv 7) (pv 9) Ih))
  (aK (cF 11 nd (aX bJ (pv 5) (bO GT hr (pa2 (pv 0) (aQ aS (by rfl) Y Av (pa1 (pv 5))))) Ih))
  (aK (bX (eJ gB (pv 1) (cH (pa2 aO aO)) (by with_unfolding_all rfl))
   (aK (cF 12 nd (bO GS hr (pa3 (pv 0) (pv 6) (aX bJ (dC (pa3 aD aD (aW dF aD (bO GT hr (pa2 (pv 0) aD))))) (bO GT hr (pa2 (pv 0) aD)) Ih))))
   (aK (bX (cT cP (pv 1) aO) (aN (aT (cH (cU (pv 1) (cU (pv 2) (pa3 (pv 3) (cA cK (by rfl) av (by kernel_rfl) (pa1 (pv 12))) (pv 8))))))) bA)
   (aK (gL (i:=13) (N:=["_law_one","_law_houses","_law_pen_here"]) (src:=[none,some 7,some 0]) (osc:=bC aDq) (oN:=["_law_pen_here","_law_word","_law_name","_law_day","_law_sorts","_law_fields","_law_plots","_law_houses","_law_land","_law_at","_law_house","_law_field","_law_some_here","_law_parts","_law_inch"]) bkA nd rfl
     (hZ (pv 12))
     fun cl s H fp dl C=>⟨bW (i:=0) (show(["_law_one","_law_houses","_law_pen_here"]:List Str).Nodup by trivial) rfl (Bp rfl),dJ,cH (pa3 (pv 0) (aX (r:=aKO K) bJ (pv 1) (bO GT hr (pa2 (pv 2) (aQ (r:=jH K) aS (by rfl) Y Av (pa1 (pv 1))))) Ih) (bO GN hr (pa3 (pv 2) aD (aW gH aD aD))))⟩)
   (aN (aT (cH (cU (pv 1) (cU (pv 2) (pa3 (pv 3) (pv 8) (cA cK (by rfl) av (by kernel_rfl) (pa1 (pv 13))))))))))))
   bA)
  (aK (bX (cT cP (pv 1) aO) (aN (aT (cH (cU (pv 1) (cU (pv 2) (pa3 (pv 3) (pv 8) (pv 10))))))) bA)
  (aK (bX (cT cP (pv 1) aO) (aN (aT (cH (cU (pv 1) (cU (pv 2) (pa3 (pv 3) (pv 11) (bO GN hr (pa3 (pv 0) aD (aW gH aD aD))))))))) bA)
  (aK (bX (cT cP (pv 1) aO) (aN (aT (cH (cU (pv 1) (cU (pv 2) (pa3 (pv 3) (pv 10) (aX bJ (pv 7) (aW gT (aW dF (aW dF (pv 9) aD) (bO GT hr (pa2 (pv 0) (aW qB (aQ aS (by rfl) Y Av (pa1 (pv 7))) aD)))) (aQ aS (by rfl) Y Av (pa1 (pv 7)))) Ih))))))) bA)
  (aK (bX (cT cP (pv 1) aO) (aN (aT (cH (cU (pv 1) (pa3 (pv 2) (pv 3) (pv 10)))))) bA)
  (aK (cF 14 nd (bO GN hr (pa3 (pv 0) aD (aW qB (aW gH aD aD) aD))))
  (aK (bX (cT cP (pv 1) aO) (aN (aT (cH (cU (pv 1) (cU (pv 2) (cU (pv 3) (pa3 (pv 11) (pv 14) (pv 10)))))))) bA)
  (aN (aT (cH (cU (pv 1) (cU (pv 2) (cU (pv 3) (cU (pv 11) (pa3 (pv 14) (bO GN hr (pa3 (pv 0) aD (aW gH aD aD))) (bO GN hr (pa3 (pv 0) aD (aW gH aD aD)))))))))))))))))))))),?_⟩
 have ad:∀(aY:List V) (ds:List Aj) (H':Hp) (a':Int),dB false H' aY ds->iZ word ds->FIn word ds fs->cW H' p c ns a'->bM p H H'->a<=a'->a'<=a+80->∀ t,H' t=none->Q (.ref t) (upd H' t (.tup (.str word::.str name::.int day::aY))):=fun aY ds H' a' hR hS c1 h1 h2 h4 h5 t ht=>k t ds aY a' _ aH (hR.same (aM ht)) hS c1 h4 h5 (h1.same (aM ht)) (h2.same (aM ht));have cp:∀ j:Int,0<=j->j<=1000000->aFg 10 j:=fun j h1 h2=>⟨h1,h2,by decide⟩
 have p6:((10:Int)^CI 6)=1000000:=by trivial
 have p7:((10:Int)^CI 7)=10000000:=by trivial
 have p9:((10:Int)^CI 9)=1000000000:=by trivial
 have e9:(10:Int)^9=1000000000:=by trivial
 have z2:(2:Nat)<=sizeLine:=aJ (by decide);have z3:(3:Nat)<=sizeLine:=aJ (by decide);have z4:(4:Nat)<=sizeLine:=aJ (by decide);have z5:(5:Nat)<=sizeLine:=aJ (by decide);have z6:(6:Nat)<=sizeLine:=aJ (by decide);have z7:(7:Nat)<=sizeLine:=aJ (by decide);have cr:=h3.p1;have b5:=h3.h1;have d3:=h3.f1;have dm:=h3.f2;refine⟨_,rfl,tS,_,rfl,aV htS,rfl,_,_,rfl,_,_,rfl,_,_,rfl,rfl,_,rfl,_,rfl,_,rfl,lp,_,rfl,.inl (aP h3.p),p,c,ns,a,_,rfl,hp,by lia,by rw[Ab];lia,by rw[Ab];lia,fun r1 a1 H1 c0 ca ef ec bv bw=>?_⟩;have ay:=h3.but hp bw;have⟨v,hv,aa⟩:=gX (xs:=ps.map V.str) (i:=r1) c0 ca;obtain⟨land,hland,rfl⟩:=Bn.mp hv;have U:=h3.np.ok land hland;refine⟨lp,_,r1,_,rfl,rfl,aP ay.p,aa,_,rfl,_,rfl,lh,_,rfl,.inl (aP ay.h),p,c,ns,a1,_,rfl,bv,by lia,by rw[Ab];lia,by rw[Ab];lia,fun r2 a2 H2 eE cv dz dD bg bu=>?_⟩;have aE:=ay.but bv bu;rw[Ab]at cv;obtain⟨j2,rfl⟩:∃ j2:Nat,r2=j2:=⟨r2.toNat,by lia⟩
 obtain⟨house,hj2⟩:∃ y,hs[j2]?=some y:=⟨_,Ai (by lia)⟩
 have J:=h3.nh.ok house (AG hj2);have aa:atI (hs.map V.str) ((j2:Nat):Int)=some (V.str house):=bG (by rw[AF,hj2];rfl);refine⟨_,rfl,_,rfl,lh,_,(j2:Int),_,rfl,rfl,aP aE.h,aa,_,rfl,_,rfl,_,rfl,lf,_,rfl,.inl (aP aE.f),p,c,ns,a2,_,rfl,bg,by lia,by rw[Ab];lia,by rw[Ab];lia,fun r3 a3 H3 cx c6 et dt c5 bx=>?_⟩;have bI:=aE.but bg bx;have⟨v,hv,aa⟩:=gX (xs:=fs.map V.str) (i:=r3) cx c6;obtain⟨field,hfield,rfl⟩:=Bn.mp hv;have O:=h3.nf.ok field hfield;refine⟨lf,_,r3,_,rfl,rfl,aP bI.f,aa,?_⟩;have k3:=(bw.trans bu).trans bx;refine⟨_,rfl,z2,fun q hq=>?_⟩;have sq:=aM (o:=.tup [V.str "part",.str "join"]) hq;have ac:=c5.same sq;have aq:=bI.same sq;have k4:=k3.same sq;have bL:upd H3 q (.tup [V.str "part",.str "join"]) q=_:=aH;refine⟨q,_,rfl,.inr (aV bL),rfl,rfl,_,rfl,?_⟩;generalize upd H3 q (.tup [V.str "part",.str "join"])=H4 at ac aq k4 bL ⊢;refine dH (fun g1=>?_) (fun g1=>?_)
 .refine⟨_,rfl,_,rfl,_,rfl,p,c,ns,a3,_,rfl,ac,by lia,by decide,by trivial,fun x1 a5 H5 ey d5 ev dy bP cf=>?_⟩;refine⟨_,_,rfl,rfl,z3,fun u hu=>?_⟩;have su:=aM (o:=.lst [V.int 2,.int 6,.int (2+x1)]) hu;refine⟨_,rfl,p,c,ns,a5,_,rfl,bP.same su,by lia,by decide,by trivial,fun x2 a6 H6 ci eB ea ez bN bj=>?_⟩;have⟨v,hv,aa⟩:=gX (xs:=[V.int 2,.int 6,.int (2+x1)]) (i:=x2) ci (by show x2<3;lia);obtain⟨n,rfl,hn,hn2⟩:∃ n:Nat,v=.int n/\n<=6/\2<=n:=by
   simp only[Ao,AB,or_false]at hv;rcases hv with rfl|rfl|rfl
   .exact⟨2,rfl,by lia,by lia⟩
   .exact⟨6,rfl,by lia,by lia⟩
   .exact⟨(2+x1).toNat,by congr 1;lia,by lia,by lia⟩
  have bo:bM p H4 H6:=(cf.same su).trans bj;refine⟨u,_,x2,_,rfl,rfl,aP (bU aH (bP.same su) bj),aa,?_⟩;have b4:=aq.but ac bo;refine⟨p,c,ns,a6,lp,ps,n,rfl,bN,by lia,b4.p,cr,hn,fun L ms a7 H7 hL eb c2 bp d7 d4 ao bi=>?_⟩;have⟨us,vv,hpu,hpw⟩:=bp;obtain⟨hris,hnms⟩:=aDA c2 hpu hpw h3.np;have c4:=b4.but bN bi;have k7:=(k4.trans bo).trans bi;refine⟨_,rfl,rfl,_,rfl,dH (fun g2=>?_) (fun g2=>?_)⟩
  .refine⟨_,rfl,_,rfl,_,rfl,_,rfl,L,_,rfl,.inl ⟨aP hL,fun tt aI=>?_⟩⟩;have st:=aM (o:=.tup (ms.map V.str)) aI;have Z:word="join":=by
    have:=Ig g2;injection this
   have aC:(ms.map Bj).all bD=true:=by
    rw[DU,AR];exact fun z hz=>hnms z hz
   exact⟨_,rfl,z5,fun t ht=>ad _ [.tuple (ms.map Bj),.str land] _ a7 (.cons (.tup aH (by rw[Ab];lia) (zZ fun z hz=>by have:=(gE (hnms z hz)).2;lia)) (.cons (jY U) .nil)) (by rw[Z];exact .join U hris (by lia) (by lia) aC) (by rw[Z];exact fun z=>absurd z (by decide)) (ao.same st) (k7.same st) (by lia) (by lia) t ht⟩
  .refine⟨_,rfl,L,rfl,⟨_,aP hL⟩,?_⟩;refine iM (K:=K) (xs:=ms.map V.str) (fun i ys σ' H'=>∃(a':Int) (o:Option V),σ'=[o,some (.ref lh),some (.ref p)]/\cW H' p c ns a'/\bM p H7 H'/\a7<=a'/\a'<=a7+4*i/\ys.length=i/\∃ R:List P3,dB false H' ys (R.map pD)/\R.map (·.1)=ms.take i/\(R.map pD).all eY=true)
    ⟨a7,none,rfl,ao,bM.refl p H7,by lia,by lia,rfl,[],.nil,by simp,rfl⟩ (aJ (by rw[Ab];lia)) (fun i ys σ H p=>by obtain⟨_,_,_,_,_,_,_,e,_⟩:=p;lia) (fun i ys σ H p=>by obtain⟨_,_,_,_,kk,_⟩:=p;exact aP (bU hL ao kk)) ?_ ?_
   .rintro i x ys σ' H8 hx ⟨a8,o,rfl,am,k8,cb,b0,aG,R,rR,eR,aR⟩;have hi:i<ms.length:=by
     have:=(AO.mp hx).1;simpa using this
    have ex:x=V.str ms[i]:=by
     rw[AF,Ai hi]at hx;cases hx;rfl
    subst ex;have bK:=hnms _ (B8 hi);dsimp only[bT];have bn:=bU c4.h ao k8;refine bF ?_;refine⟨_,rfl,_,rfl,_,rfl,_,rfl,lh,_,rfl,.inl (aP bn),p,c,ns,a8,_,rfl,am,by lia,by rw[Ab];lia,by rw[Ab];lia,fun r4 a9 H9 bq ax ei eC bz aF=>?_⟩;have⟨v,hv,aa⟩:=gX (xs:=hs.map V.str) (i:=r4) bq ax;obtain⟨hse,hhse,rfl⟩:=Bn.mp hv;have aw:=h3.nh.ok hse hhse;refine⟨lh,_,r4,_,rfl,rfl,aP (bU bn am aF),aa,_,rfl,_,_,rfl,rfl,cp _ (by decide) (by decide),p,c,ns,a9,1,10000000,(by show[V.ref p,V.int 1,V.int ((10:Int)^CI 7)]++[]=_;rw[p7];rfl),bz,by lia,by decide,by decide,by lia,fun n1 b1 G1 aj ah aL bb ae W=>?_⟩;refine⟨z3,fun q1 c8=>?_⟩;have aB:=aM (o:=.tup [V.str ms[i],.str hse,.int n1]) c8;refine⟨b1,_,rfl,ae.same aB,((k8.trans aF).trans W).same aB,by lia,by lia,by rw[Am,aG];rfl,R++[(ms[i],hse,n1)],?_,?_,?_⟩
    .rw[Al];exact dB.app ((aA5 (aA5 rR am aF) bz W).same aB) (.cons (.tup aH (by show 3<=1000;decide) (.cons (jY bK) (.cons (jY aw) (.cons (.int n1) .nil)))) .nil)
    .rw[Al,eR,A0,Ai hi];rfl
    .rw[Al,DJ,aR];show(true&&((bH ms[i]&&bH hse&&decide (1<=n1/\n1<=10000000))&&true))=true;rw[bK,aw,Ic (show 1<=n1/\n1<=10000000 from⟨aj,ah⟩)];rfl
   .rintro ys σ' H8 ⟨a8,o,rfl,am,k8,cb,b0,aG,R,rR,eR,aR⟩ D hD;rw[Ab]at b0;have sD:=aM (o:=.lst ys) hD;refine⟨_,rfl,_,rfl,_,rfl,_,rfl,_,rfl,D,_,rfl,.inl ⟨aP aH,fun tt aI=>?_⟩⟩;have st:=aM (o:=.tup ys) aI;have Z:word="part":=by
     have h0:"part"=word\/"join"=word:=by simpa[inV,eqV]using g1
     have h1:word="part"\/word="join":=h0.imp GE GE;rcases h1 with h1|h1
     .exact h1
     .exact absurd (Ic (by rw[h1])) g2
    rw[Ab,Bh]at eR;have ed:R.length=ms.length:=by rw[<- eR,Ab]
    have c3:aGY R:=by
     have:=Ig hris;rw[<- eR]at this;exact(Do (f:=fun x:P3=>x.1) (R:=fun a b:Str=>a.cps.toList<b.cps.toList)).mp this
    exact⟨z5,fun t ht=>ad _ [.str land,.tuple (R.map pD)] _ a8 (.cons (jY U) (.cons (.tup aH (by rw[aG,Ab];lia) ((rR.same sD).same st)) .nil)) (by rw[Z];exact .part U c3 (by lia) (by lia) aR) (by rw[Z];exact fun z=>absurd z (by decide)) ((am.same sD).same st) (((k7.trans k8).same sD).same st) (by lia) (by lia) t ht⟩
 .refine⟨_,rfl,rfl,_,rfl,dH (fun g2=>?_) (fun g2=>?_)⟩
  .have Z:word="forfeit":=by
    have:=Ig g2;injection this
   exact⟨_,rfl,_,rfl,_,rfl,_,rfl,_,rfl,z5,fun t ht=>ad _ [.str land,.str house] _ a3 (.cons (jY U) (.cons (jY J) .nil)) (by rw[Z];exact .forfeit U J) (by rw[Z];exact fun z=>absurd z (by decide)) ac k4 (by lia) (by lia) t ht⟩
  .refine⟨_,rfl,rfl,_,rfl,dH (fun g3=>?_) (fun g3=>?_)⟩
   .refine⟨_,rfl,_,rfl,_,rfl,_,rfl,_,rfl,_,_,rfl,rfl,cp _ (by decide) (by decide),p,c,ns,a3,0,10000000,(by show[V.ref p,V.int 0,V.int ((10:Int)^CI 7)]++[]=_;rw[p7];rfl),ac,by lia,by decide,by decide,by lia,fun n1 b1 G1 aj ah aL bb ae W=>?_⟩;have Z:word="measure":=by
     have:=Ig g3;injection this
    exact⟨z5,fun t ht=>ad _ [.str field,.int n1] _ b1 (.cons (jY O) (.cons (.int n1) .nil)) (by rw[Z];exact .measure O aj ah) (fun _ z aY e=>by cases e;exact hfield) ae (k4.trans W) (by lia) (by lia) t ht⟩
   .refine⟨_,rfl,rfl,_,rfl,dH (fun g4=>?_) (fun g4=>?_)⟩
    .refine⟨_,rfl,_,rfl,_,rfl,_,rfl,_,rfl,_,rfl,_,_,rfl,rfl,_,rfl,_,rfl,lh,_,rfl,.inl (aP aq.h),_,_,rfl,rfl,p,c,ns,a3,_,rfl,ac,by lia,by rw[Ab];lia,by rw[Ab];lia,fun r4 b1 G1 bq ax aL bb ae W=>?_⟩;have hh:=bU aq.h ac W;refine⟨_,_,rfl,rfl,_,rfl,lh,_,rfl,.inl (aP hh),_,_,rfl,rfl,by rw[Ab];lia,?_⟩;have e5:((hs.map V.str).length:Int)=5:=by rw[Ab,b5];rfl
     rw[e5]at ax;obtain⟨j4,ej4⟩:∃ j4:Nat,((j2:Int)+1+r4)%((hs.map V.str).length:Int)=j4:=⟨(((j2:Int)+1+r4)%((hs.map V.str).length:Int)).toNat,by rw[e5];lia⟩
     have cj:j4<5/\j4≠j2:=by
      rw[e5]at ej4;lia
     obtain⟨other,hot⟩:∃ y,hs[j4]?=some y:=⟨_,Ai (by lia)⟩
     have ag:=h3.nh.ok other (AG hot);have cm:house≠other:=fun z=>by
      have cs:j2<hs.length:=by lia
      have cL:j4<hs.length:=by lia
      rw[Ai cs]at hj2;rw[Ai cL]at hot;injection hj2 with hj2;injection hot with hot;rw[<- hj2,<- hot]at z;exact cj.2 ((EX h3.nh.nd).mp z).symm
     have au:atI (hs.map V.str) ((j4:Nat):Int)=some (V.str other):=bG (by rw[AF,hot];rfl);rw[<- ej4]at au;have Z:word="mend":=by
      have:=Ig g4;injection this
     exact⟨lh,_,_,_,rfl,rfl,aP hh,au,z5,fun t ht=>ad _ [.str house,.str other] _ b1 (.cons (jY J) (.cons (jY ag) .nil)) (by rw[Z];exact .mend J ag cm) (by rw[Z];exact fun z=>absurd z (by decide)) ae (k4.trans W) (by lia) (by lia) t ht⟩
    .refine⟨_,rfl,rfl,_,rfl,dH (fun g5=>?_) (fun g5=>?_)⟩
     .have Z:word="alone":=by
       have:=Ig g5;injection this
      exact⟨_,rfl,_,rfl,_,rfl,_,rfl,z4,fun t ht=>ad _ [.str house] _ a3 (.cons (jY J) .nil) (by rw[Z];exact .alone J) (by rw[Z];exact fun z=>absurd z (by decide)) ac k4 (by lia) (by lia) t ht⟩
     .refine⟨_,rfl,_,_,rfl,rfl,cp _ (by decide) (by decide),_,_,rfl,rfl,p,c,ns,a3,0,9999999,(by show[V.ref p,V.int 0,V.int ((10:Int)^CI 7-1)]++[]=_;rw[p7];rfl),ac,by lia,by decide,by decide,by lia,fun n1 b1 G1 aj ah aL bb ae W=>?_⟩;refine⟨_,rfl,rfl,_,rfl,dH (fun g6=>?_) (fun g6=>?_)⟩
      .have Z:word="view":=by
        have:=Ig g6;injection this
       exact⟨_,rfl,_,rfl,_,rfl,_,rfl,_,rfl,_,rfl,z6,fun t ht=>ad _ [.str field,.int n1,.str house] _ b1 (.cons (jY O) (.cons (.int n1) (.cons (jY J) .nil))) (by rw[Z];exact .view O aj ah J) (fun _ z aY e=>by cases e;exact hfield) ae (k4.trans W) (by lia) (by lia) t ht⟩
      .refine⟨_,rfl,_,rfl,_,rfl,_,rfl,_,rfl,_,rfl,_,_,rfl,rfl,cp _ (by decide) (by decide),p,c,ns,b1,0,1000000000,(by show[V.ref p,V.int 0,V.int ((10:Int)^CI 9)]++[]=_;rw[p9];rfl),ae,by lia,by decide,by decide,by lia,fun n2 b2 G2 ck cg du d2 br bd=>?_⟩;refine⟨_,rfl,_,_,rfl,rfl,cp _ (by decide) (by decide),p,c,ns,b2,0,1000000,(by show[V.ref p,V.int 0,V.int ((10:Int)^CI 6)]++[]=_;rw[p6];rfl),br,by lia,by decide,by decide,by lia,fun n3 b3 G3 cq da em dv b6 bt=>?_⟩;have Z:word="breach":=by
        have ng:∀ z:Str,¬ decide (V.str word=V.str z)=true->word≠z:=fun z hz e=>hz (Ic (by rw[e]));have bh:word≠"part"/\word≠"join":=by
         constructor
         .intro z;exact g1 (by rw[z];rfl)
         .intro z;exact g1 (by rw[z];rfl)
        have hm:=hwd;simp only[cB,Ao,AB,or_false]at hm;rcases hm with z|z|z|z|z|z|z|z
        .exact absurd z bh.1
        .exact absurd z bh.2
        .exact absurd z (ng _ g2)
        .exact absurd z (ng _ g3)
        .exact absurd z (ng _ g4)
        .exact absurd z (ng _ g5)
        .exact z
        .exact absurd z (ng _ g6)
       exact⟨z7,fun t ht=>ad _ [.str field,.int n1,.int n2,.int n3] _ b3 (.cons (jY O) (.cons (.int n1) (.cons (.int n2) (.cons (.int n3) .nil)))) (by rw[Z];exact .breach O aj ah ck cg cq da) (fun _ z aY e=>by cases e;exact hfield) b6 (((k4.trans W).trans bd).trans bt) (by lia) (by lia) t ht⟩
def cX:Aj->Bool
 | .tuple [f,h,a,i]=>bD f&&bD h&&bZ 1 1000000 a&&bZ 0 10000000 i
 | _=>false
inductive aAb(vs:List V)(H:Hp)(Q:VK)(u3_:XK):Prop
 | mk (m:Bool) (x:V) (d:Aj) (q0:vs=[x]) (q1:RdV m H x d) (q2:∀ H',aU H H'->Q (.bl (cX d)) H'):aAb vs H Q u3_
def aEA:Sp:=fun vs H Q u3_=>aAb vs H Q u3_
def aHY{f:Ag}{fd:Ay}(F:Fn K "is_field" aCb f fd)(T:Txt K mg)
  (GN:gZ P w K mg base)
  (GW:jD P w K mg base):
  cC P w K mg base CX0 3 f fd ["thing"] aEA:=by
 refine okA F ["thing","field","house","acres","inches"] fun ag A outer s H vs Q E W nd h=>?_;obtain⟨m,x,d,rfl,hx,k⟩:=h;obtain⟨ta,hacres⟩:=T.fieldAcres;obtain⟨ti,hinches⟩:=T.inches;refine⟨_,aK (bX (PW.pt (dL (cO (cJ (aQ cS (by rfl) T.isi (by kernel_rfl) (pa2 (pv 0) (fF (v:=.ty "tuple") (by rfl) T.tuple (by kernel_rfl) rfl)))))
   (dW (cT nF (aQ aS (by rfl) T.len Av (pa1 (pv 0))) aD)))) (aN (aT eZ)) bA)
  (aK (nX (pv 0) (pZ rfl (dN (bW (i:=1) nd rfl (Bp rfl)) (dN (bW (i:=2) nd rfl (Bp rfl)) (dN (bW (i:=3) nd rfl (Bp rfl)) (dN (bW (i:=4) nd rfl (Bp rfl)) lZ))))))
  (aK (bX (PW.pt (dL (cO (cJ (bO GN W (pa1 (pv 1))))) (dW (cO (cJ (bO GN W (pa1 (pv 2)))))))) (aN (aT eZ)) bA)
  (aN (aT (dA (bO GW W (pa3 (pv 3) aD (cG (v:=.int 1000000) (by rfl) hacres ⟨_,rfl⟩))) (dR (bO GW W (pa3 (pv 4) aD (cG (v:=.int 10000000) (by rfl) hinches ⟨_,rfl⟩))))))))),?_⟩
 refine⟨_,rfl,_,"tuple",_,_,rfl,iT hx,jX d,_,rfl,?_⟩;cases hd:fY d with
 | false=>
  have e:cX d=false:=by
   cases d with
   | tuple ds=>simp[fY]at hd
   | _=>rfl
  rw[e]at k;exact k H (aU.refl H)
 | true=>
  obtain⟨ds,rfl⟩:∃ ds,d=.tuple ds:=by
   cases d with
   | tuple z=>exact⟨z,rfl⟩
   | _=>simp[fY]at hd
  cases hx with
  | @tup a xs _ e hl r=>
   have O:=r.len;refine bQ ?_;refine⟨_,rfl,a,xs,rfl,.inr (aV e),rfl,_,rfl,?_⟩;by_cases U:xs.length=4
   .rw[Ic (show V.int (xs.length:Int)=V.int 4 by rw[U];rfl)];refine bQ ?_;obtain⟨x1,x2,x3,x4,rfl⟩:=aKx U;obtain⟨d1,d2,d3,d4,rfl,r1,r2,r3,r4⟩:=aMw r;refine⟨_,rfl,a,_,rfl,aV e,rfl,_,_,rfl,_,_,rfl,_,_,rfl,_,_,rfl,rfl,?_⟩;have k':∀ H',aU H H'->Q (.bl (bD d1&&bD d2&&bZ 1 1000000 d3&&bZ 0 10000000 d4)) H':=k;refine⟨_,rfl,m,x1,d1,rfl,r1,fun H1 s1=>⟨_,rfl,?_⟩⟩;refine dH (fun g=>?_) (fun g=>?_)
    .have Y:bD d1=false:=by simpa using g
     have:=k' H1 s1;rw[Y]at this;exact this
    .have Y:bD d1=true:=by simpa using g
     refine⟨_,rfl,m,x2,d2,rfl,r2.same s1,fun H2 s2=>⟨_,rfl,?_⟩⟩;refine dH (fun g2=>?_) (fun g2=>?_)
     .have J:bD d2=false:=by simpa using g2
      have:=k' H2 (s1.trans s2);rw[Y,J]at this;exact this
     .have J:bD d2=true:=by simpa using g2
      have:=k' H2 (s1.trans s2);rw[Y,J,Ax,Ax]at this;refine⟨_,rfl,m,x3,d3,1,1000000,rfl,(r3.same s1).same s2,_,rfl,dH (fun g3=>?_) (fun g3=>?_)⟩
      .rw[g3,Ax]at this;exact⟨_,rfl,m,x4,d4,0,10000000,rfl,(r4.same s1).same s2,this⟩
      .have Z:bZ 1 1000000 d3=false:=by simpa using g3
       rw[Z]at this;exact this
   .rw[Ie (show¬ V.int (xs.length:Int)=V.int 4 from fun z=>U (by have:=V.int.inj z;lia))];refine bF ?_;have e2:cX (.tuple ds)=false:=by
     match ds,O with
     | [],_=>rfl
     | [_],_=>rfl
     | [_,_],_=>rfl
     | [_,_,_],_=>rfl
     | [_,_,_,_],h=>exact absurd (by simpa using h) U
     | _::_::_::_::_::_,_=>rfl
    have:=k H (aU.refl H);rw[e2]at this;exact this
def qH{d:Aj}(h:cX d=true):∃(f:Str) (g a i:Aj),d=.tuple [.str f,g,a,i]/\bH f=true/\bD g=true/\bZ 1 1000000 a=true/\bZ 0 10000000 i=true:=by
 match d,h with
 | .tuple [.str f,g,a,i],h=>
  simp only[cX,bD,Aw]at h;exact⟨f,g,a,i,rfl,h.1.1.1,h.1.1.2,h.1.2,h.2⟩
 | .tuple [.none,g,a,i],h=>simp[cX,bD]at h
 | .tuple [.bool _,g,a,i],h=>simp[cX,bD]at h
 | .tuple [.int _,g,a,i],h=>simp[cX,bD]at h
 | .tuple [.list _,g,a,i],h=>simp[cX,bD]at h
 | .tuple [.tuple _,g,a,i],h=>simp[cX,bD]at h
 | .tuple [.dict _,g,a,i],h=>simp[cX,bD]at h
def aEB{m:Bool}{H:Hp}{x:V}{d:Aj}(r:RdV m H x d)(h:cX d=true):∃ a xs,x=.ref a/\H a=some (.tup xs)/\atI xs 0=some (V.str (dM d)):=by
 obtain⟨f,g,a,i,rfl,_⟩:=qH h;cases r with
 | @tup a xs _ e _ r=>
  cases r with
  | cons r1 rs=>
   cases r1;refine⟨a,_,rfl,e,?_⟩;unfold atI ixN;rw[Ib (by decide),Ib (by rw[An];lia)];rfl
mutual
inductive tT:Aj->Prop
 | non:tT .none
 | bl (b:Bool):tT (.bool b)
 | int (i:Int):tT (.int i)
 | str (z:Str):tT (.str z)
 | tup {ds:List Aj} (h:vC ds):tT (.tuple ds)
inductive vC:List Aj->Prop
 | nil:vC []
 | cons {d:Aj} {ds:List Aj} (a:tT d) (r:vC ds):vC (d::ds)
end
def fmV(g0 g1 g2 g3 g4 g5 g6 g7:Ag):List (Key×V):=[(Ak "part",.ref g0),(Ak "join",.ref g1),(Ak "forfeit",.ref g2),(Ak "measure",.ref g3),(Ak "mend",.ref g4),(Ak "alone",.ref g5),(Ak "breach",.ref g6),(Ak "view",.ref g7)]
def fmR(g0 g1 g2 g3 g4 g5 g6 g7:Ag):List (Key×Ac):=[(Ak "part",.ref g0),(Ak "join",.ref g1),(Ak "forfeit",.ref g2),(Ak "measure",.ref g3),(Ak "mend",.ref g4),(Ak "alone",.ref g5),(Ak "breach",.ref g6),(Ak "view",.ref g7)]
def aLo(U Y W g3 J Z O g7:Ag):KV (fmV U Y W g3 J Z O g7) (fmR U Y W g3 J Z O g7):=.cons ⟨rfl,rfl⟩ (.cons ⟨rfl,rfl⟩ (.cons ⟨rfl,rfl⟩ (.cons ⟨rfl,rfl⟩ (.cons ⟨rfl,rfl⟩ (.cons ⟨rfl,rfl⟩ (.cons ⟨rfl,rfl⟩ (.cons ⟨rfl,rfl⟩ (.nil))))))))
def dE(w:AW)(s:Str):AD w.params s=aKy w (Ak s):=by
 first|rfl|(unfold aKy hashStr AD;rfl)
def isS(s:Str)(t:Tok):vK (Ak s) (.str s t)=true:=by
 show Fz s (.str s t)=true;simp[Fz]
def aJK{P:Ar}{w:AW}{K:Ae}{a:Ag}{e:Nat}{x0 x1 x2 x3 x4 x5 x6 x7:Tok}{W g1 g2 g3 J Y Z U:Ag}(l:K.lookup a=some { cls:=.type "dict",data:=.dict #[⟨AD w.params "part",.str "part" x0,.ref W⟩,⟨AD w.params "join",.str "join" x1,.ref g1⟩,⟨AD w.params "forfeit",.str "forfeit" x2,.ref g2⟩,⟨AD w.params "measure",.str "measure" x3,.ref g3⟩,⟨AD w.params "mend",.str "mend" x4,.ref J⟩,⟨AD w.params "alone",.str "alone" x5,.ref Y⟩,⟨AD w.params "breach",.str "breach" x6,.ref Z⟩,⟨AD w.params "view",.str "view" x7,.ref U⟩] e }):∀ h:Bb,K.In h->h.DictOf (cV P w) a (fmR W g1 g2 g3 J Y Z U):=by
 intro h hK;refine⟨_,_,_,hK _ _ l,⟨rfl,rfl,rfl⟩,rfl,?_,?_,?_⟩
 .intro en O;simp only[F4,Ao,AB,or_false]at O;rcases O with rfl|rfl|rfl|rfl|rfl|rfl|rfl|rfl
  .exact⟨Ak "part",isS "part" x0,dE w "part"⟩
  .exact⟨Ak "join",isS "join" x1,dE w "join"⟩
  .exact⟨Ak "forfeit",isS "forfeit" x2,dE w "forfeit"⟩
  .exact⟨Ak "measure",isS "measure" x3,dE w "measure"⟩
  .exact⟨Ak "mend",isS "mend" x4,dE w "mend"⟩
  .exact⟨Ak "alone",isS "alone" x5,dE w "alone"⟩
  .exact⟨Ak "breach",isS "breach" x6,dE w "breach"⟩
  .exact⟨Ak "view",isS "view" x7,dE w "view"⟩
 .exact .cons (isS "part" x0) rfl (.cons (isS "join" x1) rfl (.cons (isS "forfeit" x2) rfl (.cons (isS "measure" x3) rfl (.cons (isS "mend" x4) rfl (.cons (isS "alone" x5) rfl (.cons (isS "breach" x6) rfl (.cons (isS "view" x7) rfl (.nil))))))))
 .show([Ak "part",Ak "join",Ak "forfeit",Ak "measure",Ak "mend",Ak "alone",Ak "breach",Ak "view"]:List Key).Nodup;trivial
def aKp(g0 g1 g2 Z W g5 Y g7:Ag)(kind:Str):gY (fmV g0 g1 g2 Z W g5 Y g7) (Ak kind)=if kind="part" then some (.ref g0) else if kind="join" then some (.ref g1) else if kind="forfeit" then some (.ref g2) else if kind="measure" then some (.ref Z) else if kind="mend" then some (.ref W) else if kind="alone" then some (.ref g5) else if kind="breach" then some (.ref Y) else if kind="view" then some (.ref g7) else none:=by
 unfold fmV;by_cases U:kind="part"
 .rw[Ib U];subst U;rfl
 rw[cR (show¬ (Ak "part":Key)=Ak kind from fun z=>U (by injection z with z;exact z.symm)),Ia U];by_cases h1:kind="join"
 .rw[Ib h1];subst h1;rfl
 rw[cR (show¬ (Ak "join":Key)=Ak kind from fun z=>h1 (by injection z with z;exact z.symm)),Ia h1];by_cases h2:kind="forfeit"
 .rw[Ib h2];subst h2;rfl
 rw[cR (show¬ (Ak "forfeit":Key)=Ak kind from fun z=>h2 (by injection z with z;exact z.symm)),Ia h2];by_cases O:kind="measure"
 .rw[Ib O];subst O;rfl
 rw[cR (show¬ (Ak "measure":Key)=Ak kind from fun z=>O (by injection z with z;exact z.symm)),Ia O];by_cases J:kind="mend"
 .rw[Ib J];subst J;rfl
 rw[cR (show¬ (Ak "mend":Key)=Ak kind from fun z=>J (by injection z with z;exact z.symm)),Ia J];by_cases h5:kind="alone"
 .rw[Ib h5];subst h5;rfl
 rw[cR (show¬ (Ak "alone":Key)=Ak kind from fun z=>h5 (by injection z with z;exact z.symm)),Ia h5];by_cases h6:kind="breach"
 .rw[Ib h6];subst h6;rfl
 rw[cR (show¬ (Ak "breach":Key)=Ak kind from fun z=>h6 (by injection z with z;exact z.symm)),Ia h6];by_cases h7:kind="view"
 .rw[Ib h7];subst h7;rfl
 rw[cR (show¬ (Ak "view":Key)=Ak kind from fun z=>h7 (by injection z with z;exact z.symm)),Ia h7];rfl
def aMx(g0 g1 g2 Z W g5 Y g7:Ag)(kind:Str):(gY (fmV g0 g1 g2 Z W g5 Y g7) (Ak kind)).isSome=decide (kind∈cB):=by
 rw[aKp];simp only[cB,Ao,AB,or_false];by_cases U:kind="part"
 .rw[Ib U,Ic (by simp[U])];rfl
 rw[Ia U];by_cases h1:kind="join"
 .rw[Ib h1,Ic (by simp[h1])];rfl
 rw[Ia h1];by_cases h2:kind="forfeit"
 .rw[Ib h2,Ic (by simp[h2])];rfl
 rw[Ia h2];by_cases O:kind="measure"
 .rw[Ib O,Ic (by simp[O])];rfl
 rw[Ia O];by_cases J:kind="mend"
 .rw[Ib J,Ic (by simp[J])];rfl
 rw[Ia J];by_cases h5:kind="alone"
 .rw[Ib h5,Ic (by simp[h5])];rfl
 rw[Ia h5];by_cases h6:kind="breach"
 .rw[Ib h6,Ic (by simp[h6])];rfl
 rw[Ia h6];by_cases h7:kind="view"
 .rw[Ib h7,Ic (by simp[h7])];rfl
 rw[Ia h7];rw[Ie (by simp[U,h1,h2,O,J,h5,h6,h7])];rfl
def aMy{P:Ar}{w:AW}{K:Ae}{mg:Str->Option Ac}{base:Bb}{U g1 Z g3 J W Y O:Ag}{d0:Ay}(G0:cC P w K mg base CX0 6 U d0 ["rest"] (gA uH))(k0:AS K (.ref U)=true)(b0:dY K d0 ["rest"] []){d1:Ay}(G1:cC P w K mg base CX0 6 g1 d1 ["rest"] (gA xL))(k1:AS K (.ref g1)=true)(b1:dY K d1 ["rest"] []){d2:Ay}(G2:cC P w K mg base CX0 6 Z d2 ["rest"] (gA gM))(k2:AS K (.ref Z)=true)(b2:dY K d2 ["rest"] []){d3:Ay}(G3:cC P w K mg base CX0 6 g3 d3 ["rest"] (gA iF))(k3:AS K (.ref g3)=true)(b3:dY K d3 ["rest"] []){d4:Ay}(G4:cC P w K mg base CX0 6 J d4 ["rest"] (gA oU))(k4:AS K (.ref J)=true)(b4:dY K d4 ["rest"] []){d5:Ay}(G5:cC P w K mg base CX0 6 W d5 ["rest"] (gA oS))(k5:AS K (.ref W)=true)(b5:dY K d5 ["rest"] []){d6:Ay}(G6:cC P w K mg base CX0 6 Y d6 ["rest"] (gA gP))(k6:AS K (.ref Y)=true)(b6:dY K d6 ["rest"] []){d7:Ay}(G7:cC P w K mg base CX0 6 O d7 ["rest"] (gA lP))(k7:AS K (.ref O)=true)(b7:dY K d7 ["rest"] []):
  ∀(kind:Str) (v:V),gY (fmV U g1 Z g3 J W Y O) (Ak kind)=some v->∃(a:Ag) (fd:Ay),v=.ref a/\cC P w K mg base CX0 6 a fd ["rest"] (gA (dX kind))/\AS K (.ref a)=true/\dY K fd ["rest"] []:=by
 intro kind v h;rw[aKp]at h;by_cases h0:kind="part"
 .rw[Ib h0]at h;cases h;subst h0;have e:dX "part"=uH:=by funext ds;unfold dX;rw[Ib rfl]
  exact⟨U,d0,rfl,by rw[e];exact G0,k0,b0⟩
 rw[Ia h0]at h;by_cases h1:kind="join"
 .rw[Ib h1]at h;cases h;subst h1;have e:dX "join"=xL:=by funext ds;unfold dX;rw[Ia (by decide),Ib rfl]
  exact⟨g1,d1,rfl,by rw[e];exact G1,k1,b1⟩
 rw[Ia h1]at h;by_cases h2:kind="forfeit"
 .rw[Ib h2]at h;cases h;subst h2;have e:dX "forfeit"=gM:=by funext ds;unfold dX;rw[Ia (by decide),Ia (by decide),Ib rfl]
  exact⟨Z,d2,rfl,by rw[e];exact G2,k2,b2⟩
 rw[Ia h2]at h;by_cases h3:kind="measure"
 .rw[Ib h3]at h;cases h;subst h3;have e:dX "measure"=iF:=by funext ds;unfold dX;rw[Ia (by decide),Ia (by decide),Ia (by decide),Ib rfl]
  exact⟨g3,d3,rfl,by rw[e];exact G3,k3,b3⟩
 rw[Ia h3]at h;by_cases h4:kind="mend"
 .rw[Ib h4]at h;cases h;subst h4;have e:dX "mend"=oU:=by funext ds;unfold dX;rw[Ia (by decide),Ia (by decide),Ia (by decide),Ia (by decide),Ib rfl]
  exact⟨J,d4,rfl,by rw[e];exact G4,k4,b4⟩
 rw[Ia h4]at h;by_cases h5:kind="alone"
 .rw[Ib h5]at h;cases h;subst h5;have e:dX "alone"=oS:=by funext ds;unfold dX;rw[Ia (by decide),Ia (by decide),Ia (by decide),Ia (by decide),Ia (by decide),Ib rfl]
  exact⟨W,d5,rfl,by rw[e];exact G5,k5,b5⟩
 rw[Ia h5]at h;by_cases h6:kind="breach"
 .rw[Ib h6]at h;cases h;subst h6;have e:dX "breach"=gP:=by funext ds;unfold dX;rw[Ia (by decide),Ia (by decide),Ia (by decide),Ia (by decide),Ia (by decide),Ia (by decide),Ib rfl]
  exact⟨Y,d6,rfl,by rw[e];exact G6,k6,b6⟩
 rw[Ia h6]at h;by_cases h7:kind="view"
 .rw[Ib h7]at h;cases h;subst h7;have e:dX "view"=lP:=by funext ds;unfold dX;rw[Ia (by decide),Ia (by decide),Ia (by decide),Ia (by decide),Ia (by decide),Ia (by decide),Ia (by decide)]
  exact⟨O,d7,rfl,by rw[e];exact G7,k7,b7⟩
 rw[Ia h7]at h;cases h
def rkD:List (Key×V):=[(Ak "measure",.int 0),(Ak "mend",.int 2),(Ak "alone",.int 2),(Ak "breach",.int 3),(Ak "view",.int 3)]
def rk(w:Str):Int:=if w="measure" then 0 else if w="mend"\/w="alone" then 2 else if w="breach"\/w="view" then 3 else 1
def aLp:∀ w∈cB,(gY rkD (Ak w)).getD (.int 1)=.int (rk w):=by trivial
inductive aEC(H:Hp)(x:V)(word name:Str)(day:Int):Prop
 | mk (t:_) (aY:_) (q0:x=.ref t) (q1:H t=some (.tup (.str word::.str name::.int day::aY))) (q2:word∈cB):aEC H x word name day
def aKq(H:Hp)(x:V)(word name:Str)(day:Int):Prop:=aEC H x word name day
def aHZ{word name:Str}{day:Int}{aY:List V}:atI (V.str word::.str name::.int day::aY) 0=some (.str word)/\atI (V.str word::.str name::.int day::aY) 1=some (.str name)/\atI (V.str word::.str name::.int day::aY) 2=some (.int day):=by
 have J:(V.str word::V.str name::V.int day::aY).length=aY.length+3:=rfl;unfold atI ixN;rw[J,Ib (by decide),Ib (by lia),Ib (by decide),Ib (by lia),Ib (by decide),Ib (by lia)];exact⟨rfl,rfl,rfl⟩
inductive aAc(vs:List V)(H:Hp)(Q:VK)(u3_:XK):Prop
 | mk (x:V) (word name:Str) (day:Int) (q0:vs=[x]) (q1:aKq H x word name day) (q2:∀(q:Ag) (H':Hp),aU H H'->H' q=some (.tup [.int day,.int (rk word),.str name])->Q (.ref q) H'):aAc vs H Q u3_
def pI:Sp:=fun vs H Q u3_=>aAc vs H Q u3_
def aH0{f:Ag}{fd:Ay}(F:Fn K "_law_place" aHy f fd):cC P w K mg base CX0 1 f fd ["_law_row_here"] pI:=by
 refine okA F ["_law_row_here","_law_ranks"] fun aa A outer s H vs Q E W nd h=>?_;obtain⟨x,word,name,day,rfl,⟨t,aY,rfl,ht,hw⟩,k⟩:=h;have Y:=qV W;refine⟨_,aK (cF 1 nd (aAF (gJ aO aD (gJ aO aD (gJ aO aD (gJ aO aD (gJ aO aD aAE))))) rfl rfl (by simp) (by decide)))
  (aN (aT (cH (pa3 (aX bS (pv 0) aD Ih) (aBF Y (pv 1) (aX bS (pv 0) aD Ih) aD ⟨rfl,rfl,rfl,rfl⟩) (aX bS (pv 0) aD Ih))))),?_⟩
 obtain⟨r0,r1,r2⟩:=aHZ (word:=word) (name:=name) (day:=day) (aY:=aY);refine fun d hd=>?_;refine⟨aH,rkD,rfl,(by show 5<=15;decide),?_⟩;rw[show oF [] rkD=rkD by first|rfl|trivial];have U:aU H (upd (upd H d (.dK [])) d (.dK rkD)):=fun b o e=>by rw[aAq,bE (aZ e hd)];exact e
 have O:upd (upd H d (.dK [])) d (.dK rkD) d=some (.dK rkD):=aH;generalize upd (upd H d (.dK [])) d (.dK rkD)=H2 at U O ⊢;have J:=U _ _ ht;refine⟨_,rfl,t,_,2,_,rfl,rfl,aV J,r2,⟨_,rfl,d,rfl,.inl ⟨rkD,.inl O⟩,_,rfl,t,_,0,_,rfl,rfl,aV J,r0,_,.inl ⟨rkD,Ak word,.inl O,rfl,rfl⟩,?_⟩⟩;rw[aLp word hw];refine⟨_,rfl,t,_,1,_,rfl,rfl,aV J,r1,zZ3,fun q Z=>?_⟩;exact k q _ (U.trans (aM Z)) aH
def rkP:List (Key×V):=[(Ak "measure",.int 0),(Ak "part",.int 1),(Ak "join",.int 1),(Ak "forfeit",.int 1),(Ak "mend",.int 2),(Ak "alone",.int 2),(Ak "breach",.int 3),(Ak "view",.int 3)]
def aJL:∀ w∈cB,gY rkP (Ak w)=some (.int (rk w)):=by trivial
structure vD(w:AW)(K:Ae)(a:Ag):Prop where
 ex:∃(e:Nat) (x0 x1 x2 x3 x4 x5 x6 x7 y0 y1 y2 y3 y4 y5 y6 y7:Tok),K.lookup a=some { cls:=.type "dict",data:=.dict #[⟨AD w.params "measure",.str "measure" x0,.int 0 y0⟩,⟨AD w.params "part",.str "part" x1,.int 1 y1⟩,⟨AD w.params "join",.str "join" x2,.int 1 y2⟩,⟨AD w.params "forfeit",.str "forfeit" x3,.int 1 y3⟩,⟨AD w.params "mend",.str "mend" x4,.int 2 y4⟩,⟨AD w.params "alone",.str "alone" x5,.int 2 y5⟩,⟨AD w.params "breach",.str "breach" x6,.int 3 y6⟩,⟨AD w.params "view",.str "view" x7,.int 3 y7⟩] e }
def vD.dict{P:Ar}{w:AW}{K:Ae}{a:Ag}(r:vD w K a):∃ vs,KV rkP vs/\∀ h:Bb,K.In h->h.DictOf (cV P w) a vs:=by
 obtain⟨e,x0,x1,x2,x3,x4,x5,x6,x7,y0,y1,y2,y3,y4,y5,y6,y7,l⟩:=r.ex;refine⟨[(Ak "measure",.int 0 y0),(Ak "part",.int 1 y1),(Ak "join",.int 1 y2),(Ak "forfeit",.int 1 y3),(Ak "mend",.int 2 y4),(Ak "alone",.int 2 y5),(Ak "breach",.int 3 y6),(Ak "view",.int 3 y7)],?_,fun h O=>⟨_,_,_,O _ _ l,⟨rfl,rfl,rfl⟩,rfl,?_,?_,?_⟩⟩
 .exact .cons ⟨rfl,_,rfl⟩ (.cons ⟨rfl,_,rfl⟩ (.cons ⟨rfl,_,rfl⟩ (.cons ⟨rfl,_,rfl⟩ (.cons ⟨rfl,_,rfl⟩ (.cons ⟨rfl,_,rfl⟩ (.cons ⟨rfl,_,rfl⟩ (.cons ⟨rfl,_,rfl⟩ (.nil))))))))
 .intro U J;simp only[F4,Ao,AB,or_false]at J;rcases J with rfl|rfl|rfl|rfl|rfl|rfl|rfl|rfl
  .exact⟨Ak "measure",isS "measure" x0,dE w "measure"⟩
  .exact⟨Ak "part",isS "part" x1,dE w "part"⟩
  .exact⟨Ak "join",isS "join" x2,dE w "join"⟩
  .exact⟨Ak "forfeit",isS "forfeit" x3,dE w "forfeit"⟩
  .exact⟨Ak "mend",isS "mend" x4,dE w "mend"⟩
  .exact⟨Ak "alone",isS "alone" x5,dE w "alone"⟩
  .exact⟨Ak "breach",isS "breach" x6,dE w "breach"⟩
  .exact⟨Ak "view",isS "view" x7,dE w "view"⟩
 .exact .cons (isS "measure" x0) rfl (.cons (isS "part" x1) rfl (.cons (isS "join" x2) rfl (.cons (isS "forfeit" x3) rfl (.cons (isS "mend" x4) rfl (.cons (isS "alone" x5) rfl (.cons (isS "breach" x6) rfl (.cons (isS "view" x7) rfl (.nil))))))))
 .show([Ak "measure",Ak "part",Ak "join",Ak "forfeit",Ak "mend",Ak "alone",Ak "breach",Ak "view"]:List Key).Nodup;trivial
def aH1{f:Ag}{fd:Ay}(F:Fn K "order" aHv f fd){J:Ag}(R:vD w K J)(W:mg "RANKS"=some (.ref J)):cC P w K mg base CX0 1 f fd ["row"] pI:=by
 refine okA F ["row"] fun U A outer s H vs Q E Y nd h=>?_;obtain⟨x,word,name,day,rfl,⟨t,aY,rfl,ht,hw⟩,k⟩:=h;obtain⟨rvs,rel,hd⟩:=R.dict (P:=P);refine⟨_,aN (aT (cH (pa3 (aX bS (pv 0) aD Ih) (aAJ hd rel (by rfl) W (aX bS (pv 0) aD Ih) Ih) (aX bS (pv 0) aD Ih)))),?_⟩;obtain⟨r0,r1,r2⟩:=aHZ (word:=word) (name:=name) (day:=day) (aY:=aY);refine⟨_,rfl,t,_,2,_,rfl,rfl,aV ht,r2,_,rfl,t,_,0,_,rfl,rfl,aV ht,r0,Ak word,_,rfl,aJL word hw,_,rfl,t,_,1,_,rfl,rfl,aV ht,r1,zZ3,fun q O=>?_⟩;exact k q _ (aM O) aH
def aMz(ds:List Aj):Prop:=∀ d∈ds,cX d=true/\OkD 5000 1 d/\d.hasDict=false
def vE(f h:Str)(a i:Int):Aj:=.tuple [.str f,.str h,.int a,.int i]
def xO{f h:Str}{a i:Int}(O:bH f=true)(J:bH h=true)(a1:1<=a)(a2:a<=1000000)(i1:0<=i)(i2:i<=10000000):cX (vE f h a i)=true/\OkD 5000 1 (vE f h a i)/\(vE f h a i).hasDict=false:=by
 refine⟨?_,?_,rfl⟩
 .show(bH f&&bH h&&decide (1<=a/\a<=1000000)&&decide (0<=i/\i<=10000000))=true;rw[O,J,Ic ⟨a1,a2⟩,Ic ⟨i1,i2⟩];rfl
 .have b:(10000000:Int)<10^60:=by trivial
  refine(OkD.tuple (n:=4) (b:=102) (k:=0) (fun d hd=>?_) (by show 4<=4;decide)).mono (by decide) (by decide);simp only[Ao,AB,or_false]at hd;rcases hd with rfl|rfl|rfl|rfl
  .exact OkD.name O
  .exact OkD.name J
  .exact OkD.int (by lia) (by lia)
  .exact OkD.int (by lia) (by lia)
inductive aAd(vs:List V)(H:Hp)(Q:VK)(u3_:XK):Prop
 | mk (p c:Ag) (ns:List Int) (a:Int) (lf lh:Ag) (ws hs:List Str) (q0:vs=[.ref p,.ref lf,.ref lh]) (q1:cW H p c ns a) (q2:a<=800000) (q3:H lf=some (.lst (ws.map V.str))) (q4:(∀ w∈ws,bH w=true)) (q5:ws.length<=44) (q6:H lh=some (.lst (hs.map V.str))) (q7:(∀ w∈hs,bH w=true)) (q8:1<=hs.length) (q9:hs.length<=44) (q10:∀ t xs ds a' H',H' t=some (.tup xs)->dB false H' xs ds->aMz ds->ds.map dM=ws->a<=a'->a'<=a+400->cW H' p c ns a'->bM p H H'->Q (.ref t) H'):aAd vs H Q u3_
def aED:Sp:=fun vs H Q u3_=>aAd vs H Q u3_
def aH2{f:Ag}{fd:Ay}(F:Fn K "_law_laying" aHq f fd)(am:mg "len"=none)(ao:mg "tuple"=none)
  (GT:gF P w K mg base)
  (GN:Cal P w K mg base 2 "_law_number" ["_law_pen_here","_law_bottom","_law_most"] aEx):
  cC P w K mg base CX0 3 f fd ["_law_pen_here","_law_fields","_law_houses"] aED:=by
 refine okA F ["_law_pen_here","_law_fields","_law_houses","_law_found","_law_field","_law_house"] fun bu A outer s H vs Q E hr nd h=>?_;obtain⟨p,c,ns,a,lf,lh,ws,hs,rfl,hp,ha,hlf,hw,hwl,hlh,hh,hl1,hl2,k⟩:=h;refine⟨_,aK (cF 3 nd (dC dP))
  (aK (jG B1 rfl (hZ (pv 1)) (bW (i:=4) nd rfl (Bp rfl))
   (aK (cF 5 nd (aX bJ (pv 2) (bO GT hr (pa2 (pv 0) (aQ aS (by rfl) am Av (pa1 (pv 2))))) Ih))
   (aN (fZ (eV A7 Bv Bu gC (pv 3) (pa1 (cH (cU (pv 4) (pa3 (pv 5) (bO GN hr (pa3 (pv 0) aD (aW gH aD aD))) (bO GN hr (pa3 (pv 0) aD (aW gH aD aD))))))))))))
  (aN (aT (cA cK (by rfl) ao (by kernel_rfl) (pa1 (pv 3)))))),?_⟩
 have cp:∀ j:Int,0<=j->j<=1000000->aFg 10 j:=fun j h1 h2=>⟨h1,h2,by decide⟩
 have p6:((10:Int)^CI 6)=1000000:=by trivial
 have p7:((10:Int)^CI 7)=10000000:=by trivial
 have e9:(10:Int)^9=1000000000:=by trivial
 refine⟨A3 _,fun L hL=>?_⟩;have S0:=aM (o:=.lst []) hL;have aG:L≠p:=by
  have⟨l,_,z⟩:=hp.ob;exact(aZ z hL).symm
 have bi:L≠c:=(aZ hp.ce hL).symm;have bc:lf≠L:=aZ hlf hL;have ba:lh≠L:=aZ hlh hL;refine⟨_,rfl,lf,rfl,⟨_,aP (S0 _ _ hlf)⟩,aGi (K:=K) (xs:=ws.map V.str) (fun i σ H'=>Ex3 fun(o4 o5:Option V) (a':Int)=>∃(xs:List V) (ds:List Aj),Aw6 (σ=[some (.ref p),some (.ref lf),some (.ref lh),some (.ref L),o4,o5]) (H' L=some (.lst xs)) (dB false H' xs ds) (aMz ds) (ds.map dM=ws.take i) (Aw6 (cW H' p c ns a') (a<=a') (a'<=a+8*i) (bM p H H') (H' lf=some (.lst (ws.map V.str))) (H' lh=some (.lst (hs.map V.str)))))
  ⟨none,none,a,[],[],rfl,aH,.nil,(fun d hd=>by simp at hd),by simp,hp.same S0,by lia,by simp,aU.but S0,S0 _ _ hlf,S0 _ _ hlh⟩ (fun i σ H' _ h=>?_) ?_ ?_⟩
 .obtain⟨_,_,_,_,_,_,_,_,_,_,_,_,_,_,h,_⟩:=h;exact aP h
 .rintro i x σ H1 hx ⟨o4,o5,a1,xs,ds,rfl,Y,Z,ad,W,J,ap,an,ae,ac,U⟩;have hi:i<ws.length:=by
   have:=(AO.mp hx).1;simpa using this
  obtain⟨fn,hfn,rfl⟩:∃ fn,ws[i]?=some fn/\x=V.str fn:=by
   rw[AF]at hx;cases e:ws[i]? with
   | none=>rw[e]at hx;cases hx
   | some z=>rw[e]at hx;exact⟨z,rfl,(BS.inj hx).symm⟩
  dsimp only[bT];refine⟨_,rfl,_,rfl,_,rfl,lh,_,rfl,.inl (aP U),p,c,ns,a1,_,rfl,J,by lia,by rw[Ab];lia,by rw[Ab];lia,fun r1 a2 H2 bd aw l2 u2 az aa=>?_⟩;have ai:=bU U J aa;have⟨v,hv,hat⟩:=gX (xs:=hs.map V.str) (i:=r1) bd aw;obtain⟨hn,hhn,rfl⟩:=Bn.mp hv;refine⟨lh,_,r1,_,rfl,rfl,aP ai,hat,?_⟩;have aA:=bU Y J aa;refine⟨_,rfl,.inl ⟨rfl,_,aP aA⟩,_,rfl,_,rfl,_,rfl,_,_,rfl,rfl,cp _ (by decide) (by decide),p,c,ns,a2,1,1000000,(by show[V.ref p,V.int 1,V.int ((10:Int)^CI 6)]++[]=_;rw[p6];rfl),az,by lia,by decide,by decide,by lia,fun n1 a3 H3 bj aR l3 u3 bh aq=>?_⟩;refine⟨_,rfl,_,_,rfl,rfl,cp _ (by decide) (by decide),p,c,ns,a3,0,10000000,(by show[V.ref p,V.int 0,V.int ((10:Int)^CI 7)]++[]=_;rw[p7];rfl),bh,by lia,by decide,by decide,by lia,fun n2 a4 H4 aE aB l4 u4 bg ah=>?_⟩;refine⟨zZ4,fun q hq=>?_⟩;have sq:=aM (o:=.tup [V.str fn,.str hn,.int n1,.int n2]) hq;have O:=((aa.trans aq).trans ah).same sq;have ak:=bU Y J O;have ay:q≠L:=(aZ (bU Y J ((aa.trans aq).trans ah)) hq).symm;have aI:=xO (hw fn (AG hfn)) (hh hn hhn) bj aR aE aB;have br:xs.length<=44:=by
   have e1:=Z.len;have e2:=congrArg EJ W;rw[Ab,AJ]at e2;lia
  refine⟨L,xs,_,rfl,rfl,ak,fM (by lia),?_⟩;have aj:=aA5 Z J O;have kL:∀(b:Ag) (o:HO),upd H4 q (.tup [V.str fn,.str hn,.int n1,.int n2]) b=some o->b≠L->upd (upd H4 q (.tup [V.str fn,.str hn,.int n1,.int n2])) L (.lst (xs++[V.ref q])) b=some o:=fun b o e ne=>by rw[bE ne];exact e
  refine⟨_,_,a4,xs++[V.ref q],ds++[vE fn hn n1 n2],rfl,aH,?_,?_,?_,?_,by lia,by lia,?_,?_,?_⟩
  .refine dB.app (aj.keepF fun b o e _ ax=>kL b o e fun z=>?_) (.cons (.tup (kL _ _ aH ay) (by show 4<=1000;decide) (.cons (.str _ (by have:=gE (hw fn (AG hfn));lia)) (.cons (.str _ (by have:=gE (hh hn hhn);lia)) (.cons (.int _) (.cons (.int _) .nil))))) .nil);rw[z,ak]at e;exact ax _ (BS.inj e).symm
  .intro d hd;rcases A4.mp hd with z|z
   .exact ad d z
   .rw[Bd.mp z];exact aI
  .rw[Al,W,A0,hfn];rfl
  .obtain⟨⟨l,hl,e⟩,ce,ge,sm⟩:=bg.same sq;exact⟨⟨l,hl,kL _ _ e aG.symm⟩,kL _ _ ce bi.symm,ge,sm⟩
  .intro b o e ne;exact kL b o ((ae.trans O) b o e ne) (aZ e hL)
  .exact kL _ _ (bU ac J O) bc
  .exact kL _ _ (bU U J O) ba
 .rintro σ H1 ⟨o4,o5,a1,xs,ds,rfl,Y,Z,ad,W,J,ap,an,ae,ac,U⟩;rw[Ab]at an W;rw[Bh]at W;refine⟨_,rfl,L,xs,rfl,.inl ⟨aP Y,fun t ht=>?_⟩⟩;have S1:=aM (o:=.tup xs) ht;exact k t xs ds a1 _ aH (Z.same S1) ad W ap (by lia) (J.same S1) (ae.same S1)
def iZ.word{word:Str}{ds:List Aj}(h:iZ word ds):word∈cB:=by
 cases h<;>decide
def iZ.len{word:Str}{ds:List Aj}(h:iZ word ds):ds.length<=4:=by
 cases h<;>simp
def iZ.fourth{word:Str}{ds:List Aj}(h:iZ word ds):∃ d J,ds=d::J/\(inV (.str word) [V.str "measure",.str "breach",.str "view"]=true->∃ z,d=.str z):=by
 cases h with
 | part _ _ _ _ _=>exact⟨_,_,rfl,fun z=>absurd z (by decide)⟩
 | join _ _ _ _ _=>exact⟨_,_,rfl,fun z=>absurd z (by decide)⟩
 | forfeit _ _=>exact⟨_,_,rfl,fun z=>absurd z (by decide)⟩
 | measure _ _ _=>exact⟨_,_,rfl,fun z=>⟨_,rfl⟩⟩
 | mend _ _ _=>exact⟨_,_,rfl,fun z=>absurd z (by decide)⟩
 | alone _=>exact⟨_,_,rfl,fun z=>absurd z (by decide)⟩
 | breach _ _ _ _ _ _ _=>exact⟨_,_,rfl,fun z=>⟨_,rfl⟩⟩
 | view _ _ _ _=>exact⟨_,_,rfl,fun z=>⟨_,rfl⟩⟩
structure dI where
 word:Str
 name:Str
 day:Int
 ds:List Aj
def dI.d(r:dI):Aj:=aA7 r.word r.name r.day r.ds
def dI.key(r:dI):L2.K3:=(r.day,rk r.word,r.name)
structure dI.Ok(r:dI)(fs:List Str):Prop where
 rs:iZ r.word r.ds
 nm:bH r.name=true
 d0:0<=r.day
 d1:r.day<=9999
 fi:FIn r.word r.ds fs
def dI.Ok.row{r:dI}{fs:List Str}(h:r.Ok fs):fJ r.d=true:=aHV h.rs h.nm h.d0 h.d1
def dI.Ok.at{r:dI}{fs:List Str}(h:r.Ok fs){m:Bool}{H:Hp}{x:V}(rd:RdV m H x r.d):aKq H x r.word r.name r.day:=by
 unfold dI.d aA7 at rd;cases rd with
 | @tup a xs _ e W q=>
  cases q with
  | cons U q=>
   cases q with
   | cons O q=>
    cases q with
    | cons J q=>
     cases U;cases O;cases J;exact⟨a,_,rfl,e,h.rs.word⟩
inductive aEE(H:Hp)(t:Ag)(ws:List Str):Prop
 | mk (ps:_) (q0:H t=some (.tup ps)) (q1:ps.length=ws.length) (q2:∀(i:Nat) (x:V),ps[i]?=some x->∃(b:Ag) (z:Str) (aY:List V),x=.ref b/\H b=some (.tup (.str z::aY))/\ws[i]?=some z):aEE H t ws
def aNw(H:Hp)(t:Ag)(ws:List Str):Prop:=aEE H t ws
def aCx(os:List dI):Prop:=os.Pairwise fun a b=>jL a.key b.key=true
def aFY{J:List dI}{kk:List L2.K3}{p:List Nat}(Z:kk=J.map dI.key)(hn:(J.map (·.name)).Nodup)(Y:aBY kk p){d:dI}:(p.map fun i=>J.getD i d).Perm J/\aCx (p.map fun i=>J.getD i d):=by
 subst Z;obtain⟨hp,hs⟩:=Y;rw[Ab]at hp;have W:∀ i∈p,i<J.length:=fun i hi=>Ce.mp (hp.mem_iff.mp hi);have U:(J.map dI.key).Nodup:=by
  refine Do.mpr ((Do.mp hn).imp fun{a b} h e=>h ?_);exact congrArg (fun z:L2.K3=>z.2.2) e
 refine⟨?_,?_⟩
 .refine(hp.map _).trans (List.Perm.of_eq ?_);apply Cv;intro j;rw[AF];by_cases O:j<J.length
  .rw[C4 O,Ai O];simp[O]
  .rw[A2 (by simpa using O),A2 (by lia)];rfl
 .have h:=hs U;have e:(p.map fun i=>(J.map dI.key).getD i k0)=(p.map fun i=>J.getD i d).map dI.key:=by
   rw[Cp];refine FD fun i hi=>?_;have:=W i hi;simp[this]
  rw[e]at h;exact Do.mp h
structure hW(H:Hp)(xs:List V)(us:List dI)(fs:List Str):Prop where
 len:xs.length=us.length
 at':∀(i:Nat) (x:V),xs[i]?=some x->∃ u,us[i]?=some u/\RdV false H x u.d/\u.Ok fs
def hW.same{H H':Hp}{xs:List V}{J:List dI}{fs:List Str}(h:hW H xs J fs)(s:aU H H'):hW H' xs J fs:=
 ⟨h.len,fun i x O=>by obtain⟨u,a,b,c⟩:=h.at' i x O;exact⟨u,a,b.same s,c⟩⟩
inductive aEF(H:Hp)(y:V)(k:L2.K3):Prop
 | mk (t:_) (aY:_) (w:_) (n:_) (d:_) (q0:y=.ref t) (q1:H t=some (.tup (.str w::.str n::.int d::aY))) (q2:k=(d,rk w,n)):aEF H y k
def aEG(H:Hp)(y:V)(k:L2.K3):Prop:=aEF H y k
def aH3{H:Hp}{y:V}{k:L2.K3}{u:dI}{fs:List Str}(h:aEG H y k)(r:RdV false H y u.d)(ok:u.Ok fs):k=u.key:=by
 obtain⟨t,aY,w,n,d,rfl,e,rfl⟩:=h;obtain⟨t',rest',e1,e2,_⟩:=ok.at r;cases e1;rw[e]at e2;cases e2;rfl
def aDB{H1 H':Hp}{xs:List V}{J:List dI}{fs:List Str}{kk:List L2.K3}{p:List Nat}(hR:hW H1 xs J fs)(hn:(J.map (·.name)).Nodup)(Z:kk.length=xs.length)(hk:∀ i,i<xs.length->aEG H1 (xs.getD i .non) (kk.getD i k0))(ho:aBY kk p)(s:aU H1 H'):
  ∃ os:List dI,os.Perm J/\aCx os/\hW H' (p.map fun i=>xs.getD i .non) os fs:=by
 have ad:=hR.len;have ek:kk=J.map dI.key:=by
  apply List.ext_getElem (by rw[Ab];lia);intro i h1 h2;have hi:i<xs.length:=by lia
  have Y:i<J.length:=by lia
  obtain⟨u,e,r,ok⟩:=hR.at' i xs[i] (Ai hi);have eu:J[i]=u:=by rw[Ai Y]at e;simpa using e
  have h3:=hk i hi;have e1:xs.getD i .non=xs[i]:=by simp[hi]
  have e2:kk.getD i k0=kk[i]:=by simp[h1]
  rw[e1,e2]at h3;rw[F8,eu];exact aH3 h3 r ok
 cases J with
 | nil=>
  have O:xs=[]:=A8 (by simpa using ad);have af:p=[]:=by
   have h:=ho.1.length_eq;rw[Z,O]at h;simpa using h
  subst O af;exact⟨[],DK _,Eh,⟨rfl,fun i x W=>by simp at W⟩⟩
 | cons u0 ae=>
  obtain⟨h1,h2⟩:=aFY (d:=u0) ek hn ho;refine⟨_,h1,h2,⟨by rw[Ab,Ab],fun i x W=>?_⟩⟩;rw[AF]at W;obtain⟨j,hj,rfl⟩:=BD.mp W;have U:j<xs.length:=by
   have:=Ce.mp (ho.1.mem_iff.mp (AG hj));lia
  obtain⟨u,e,r,ok⟩:=hR.at' j xs[j] (Ai U);refine⟨u,?_,?_,ok⟩
  .rw[AF,hj];show some ((u0::ae).getD j u0)=some u;rw[Ba,e];rfl
  .have e1:xs.getD j .non=xs[j]:=by simp[U]
   rw[e1];exact r.same s
def aJM{H1:Hp}{xs:List V}{U:List dI}{fs:List Str}(Y:hW H1 xs U fs):∀ y∈xs,∀(H':Hp) (Q:VK),aU H1 H'->(∀ t a b c J,aU H' J->J t=some (.tup [.int a,.int b,.str c])->aEG H1 y (a,b,c)->Q (.ref t) J)->pI [y] H' Q E0:=fun y W H' Q S h=>by
 obtain⟨i,hi⟩:=Eg W;obtain⟨u,_,r,ok⟩:=Y.at' i y hi;have O:=ok.at r;obtain⟨t,aY,rfl,e,hw⟩:=O;exact⟨_,u.word,u.name,u.day,rfl,⟨t,aY,rfl,S _ _ e,hw⟩,fun q H2 Z e2=>h q _ _ _ H2 Z e2 ⟨t,aY,_,_,_,rfl,e,rfl⟩⟩
inductive aEH(vs:List V)(H:Hp)(Q:VK)(u3_:XK):Prop
 | mk (p c:Ag) (ns:List Int) (a:Int) (name:Str) (day:Int) (tS lf lp lh:Ag) (fs ps hs:List Str) (q0:vs=[.ref p,.str name,.int day,.ref tS]) (q1:cW H p c ns a) (q2:a<=600000) (q3:H tS=some (.tup [.ref lf,.ref lp,.ref lh])) (q4:S3 H lf lp lh fs ps hs) (q5:bH name=true) (q6:0<=day) (q7:day<=9999) (q8:∀(x:V) (r:dI) (a':Int) (H':Hp),RdV false H' x r.d->r.name=name->r.Ok fs->a<=a'->a'<=a+90->cW H' p c ns a'->bM p H H'->Q x H'):aEH vs H Q u3_
def aKr:Sp:=fun vs H Q u3_=>aEH vs H Q u3_
def aLq{f:Ag}{fd:Ay}(F:Fn K "_law_row" aMr f fd)
  (GT:gF P w K mg base)
  (GR:Cal P w K mg base 3 "_law_row_of" ["_law_pen_here","_law_word","_law_name","_law_day","_law_sorts"] aEz):
  cC P w K mg base CX0 4 f fd ["_law_pen_here","_law_name","_law_day","_law_sorts"] aKr:=by
 refine okA F ["_law_pen_here","_law_name","_law_day","_law_sorts","_law_terms"] fun aq A outer s H vs Q E hr nd h=>?_;obtain⟨p,c,ns,a,name,day,tS,lf,lp,lh,fs,ps,hs,rfl,hp,ha,htS,h3,hnm,d0,d1,k⟩:=h;refine⟨_,aK (cF 4 nd (dC (cU aO (cU aO (cU aO (cU aO (cU aO (cU aO (cU aO (pa3 aO aO aO))))))))))
  (aN (aT (bO GR hr (cU (pv 0) (cU (aX bJ (pv 4) (bO GT hr (pa2 (pv 0) aD)) Ih) (pa3 (pv 1) (pv 2) (pv 3))))))),?_⟩
 refine⟨aJo,fun L hL=>?_⟩;have sL:=aM (o:=.lst [V.str "part",.str "join",.str "forfeit",.str "measure",.str "mend",.str "alone",.str "breach",.str "view",.str "part",.str "join"]) hL;refine⟨_,rfl,_,rfl,_,rfl,p,c,ns,a,_,rfl,hp.same sL,by lia,by decide,by trivial,fun r1 a1 H1 ad ai ak af aa U=>?_⟩;obtain⟨v,hv,hat⟩:=gX (xs:=[V.str "part",.str "join",.str "forfeit",.str "measure",.str "mend",.str "alone",.str "breach",.str "view",.str "part",.str "join"]) (i:=r1) ad (by show r1<10;lia);obtain⟨word,rfl,hw⟩:∃ word:Str,v=.str word/\word∈cB:=by
  simp only[Ao,AB,or_false]at hv;rcases hv with rfl|rfl|rfl|rfl|rfl|rfl|rfl|rfl|rfl|rfl<;>exact⟨_,rfl,by trivial⟩
 have k1:bM p H H1:=(aU.but sL).trans U;refine⟨L,_,r1,_,rfl,rfl,aP (bU aH (hp.same sL) U),hat,_,rfl,_,rfl,_,rfl,p,c,ns,a1,word,name,day,tS,lf,lp,lh,fs,ps,hs,rfl,aa,by lia,aA6 htS hp k1,h3.but hp k1,hw,hnm,fun t ds aY a2 H2 ht J O W ag ah Z Y=>?_⟩;have ao:=J.len;have an:=O.len;exact k (.ref t) ⟨word,name,day,ds⟩ a2 H2 (.tup ht (by simp only[An];lia) (.cons (.str word (aHW hw)) (.cons (jY hnm) (.cons (.int day) J)))) rfl ⟨O,hnm,d0,d1,W⟩ (by lia) (by lia) Z (k1.trans Y)
def cY(i:Int):Str:=Be (toString i)
def tS:Aj->Str|.str z=>z|.int i=>cY i|_=>Str.empty
def aH4:Aj->List Str
 | .tuple es=>es.flatMap fun e=>match e with|.tuple fs=>fs.map tS|e=>[tS e]
 | e=>[tS e]
def nQ(word:Str)(ds:List Aj):List Str:=if word="join" then(ds.take 1).flatMap aH4++(("as":Str)::(ds.drop 1).map tS) else ds.flatMap aH4
def mV(r:dI):List Str:=r.word::r.name::cY r.day::nQ r.word r.ds
def jM(x:P3):List Str:=[x.1,x.2.1,cY x.2.2]
def qI(J:Str)(R:List P3):nQ "part" [.str J,.tuple (R.map pD)]=J::R.flatMap jM:=by
 unfold nQ;rw[Ia (by decide)];show[J]++((R.map pD).flatMap _++[])=_;rw[B5,List.flatMap_map];rfl
def qJ(J:Str)(R:List Str):nQ "join" [.tuple (R.map Bj),.str J]=R++[("as":Str),J]:=by
 unfold nQ;rw[Ib rfl];show((R.map Bj).flatMap _++[])++_=_;rw[B5,List.flatMap_map];congr 1
 induction R with
 | nil=>rfl
 | cons z R O=>rw[CS,O];rfl
def tU{i:Int}(J:0<=i)(h1:i<=1000000000):i.natAbs.log2<1920:=by
 have h:i.natAbs<=1000000000:=by lia
 rcases Nat.eq_zero_or_pos i.natAbs with z|z
 .rw[z];decide
 .refine(Ht (by lia)).mpr (ED h (by trivial))
def dI.Ok.open{r:dI}{fs:List Str}(h:r.Ok fs){H:Hp}{x:V}(rd:RdV false H x r.d):∃ t ys,x=.ref t/\H t=some (.tup (.str r.word::.str r.name::.int r.day::ys))/\dB false H ys r.ds:=by
 have J:RdV false H x (.tuple (.str r.word::.str r.name::.int r.day::r.ds)):=rd;cases J with
 | tup e O q=>
  cases q with
  | cons a q=>
   cases a;cases q with
   | cons a q=>
    cases a;cases q with
    | cons a q=>
     cases a;exact⟨_,_,rfl,e,q⟩
def rd1{H:Hp}{ys:List V}{d:Aj}(h:dB false H ys [d]):∃ y,ys=[y]/\RdV false H y d:=by
 cases h with
 | cons a r=>cases r;exact⟨_,rfl,a⟩
def rd2{H:Hp}{ys:List V}{d e:Aj}(h:dB false H ys [d,e]):∃ y z,ys=[y,z]/\RdV false H y d/\RdV false H z e:=by
 cases h with
 | cons a r=>
  obtain⟨z,rfl,b⟩:=rd1 r;exact⟨_,z,rfl,a,b⟩
def rdS{m:Bool}{H:Hp}{y:V}{z:Str}(h:RdV m H y (.str z)):y=.str z:=by
 cases h;rfl
def rdI{m:Bool}{H:Hp}{y:V}{i:Int}(h:RdV m H y (.int i)):y=.int i:=by
 cases h;rfl
def jZ(d:Aj):Prop:=(∃ z,d=.str z/\bH z=true)\/∃ i,d=.int i/\0<=i/\i<=1000000000
def jZ.fm{d:Aj}(h:jZ d){m:Bool}{H:Hp}{y:V}(r:RdV m H y d):Fm y (tS d):=by
 rcases h with⟨z,rfl,hz⟩|⟨i,rfl,h0,h1⟩
 .rw[rdS r];exact .str z (aJ (by have:=(gE hz).2;lia))
 .rw[rdI r];exact .int i (tU h0 h1)
def jZ.item{d:Aj}(h:jZ d):aH4 d=[tS d]:=by
 rcases h with⟨z,rfl,hz⟩|⟨i,rfl,h0,h1⟩<;>rfl
def iZ.flat{word:Str}{ds:List Aj}(h:iZ word ds)(h1:word≠"part")(h2:word≠"join"):(∀ d∈ds,jZ d)/\nQ word ds=ds.map tS/\ds.length<=4:=by
 have W:∀{ds:List Aj},(∀ d∈ds,jZ d)->ds.length<=4->(∀ d∈ds,jZ d)/\nQ word ds=ds.map tS/\ds.length<=4:=fun{ds} h hl=>by
  refine⟨h,?_,hl⟩;unfold nQ;rw[Ia h2];clear hl
  induction ds with
  | nil=>rfl
  | cons d r ih=>rw[CS,(h d AQ).item,ih fun e Z=>h e (AN _ Z)];rfl
 have U:∀ e∈([]:List Aj),jZ e:=fun e Z=>by simp at Z
 have c0:∀{d:Aj} {ds:List Aj},jZ d->(∀ e∈ds,jZ e)->∀ e∈d::ds,jZ e:=fun{d ds} hd hs e Z=>by
  rcases Ao.mp Z with z|z
  .rw[z];exact hd
  .exact hs e z
 have J:∀{z:Str},bH z=true->jZ (.str z):=fun h=>.inl ⟨_,rfl,h⟩;have ci:∀{i:Int},0<=i->i<=1000000000->jZ (.int i):=fun h0 h1=>.inr ⟨_,rfl,h0,by lia⟩;cases h with
 | part=>exact absurd rfl h1
 | join=>exact absurd rfl h2
 | forfeit hl Y=>exact W (c0 (J hl) (c0 (J Y) U)) (by simp)
 | measure hf h0 h1=>exact W (c0 (J hf) (c0 (ci h0 (by lia)) U)) (by simp)
 | mend Y ho _=>exact W (c0 (J Y) (c0 (J ho) U)) (by simp)
 | alone Y=>exact W (c0 (J Y) U) (by simp)
 | breach hf O ae ag ai af aj=>exact W (c0 (J hf) (c0 (ci O (by lia)) (c0 (ci ag ai) (c0 (ci af (by lia)) U)))) (by simp)
 | view hf O ae hv=>exact W (c0 (J hf) (c0 (ci O (by lia)) (c0 (J hv) U))) (by simp)
def iZ.isPart{word:Str}{ds:List Aj}(h:iZ word ds)(e:word="part"):∃(J:Str) (R:List P3),ds=[.str J,.tuple (R.map pD)]/\bH J=true/\(R.map pD).all eY=true/\R.length<=6:=by
 cases h with
 | part O U h2 h6 ha=>exact⟨_,_,rfl,O,ha,h6⟩
 | _=>exact absurd e (by decide)
def iZ.isJoin{word:Str}{ds:List Aj}(h:iZ word ds)(e:word="join"):∃(J:Str) (R:List Str),ds=[.tuple (R.map Bj),.str J]/\bH J=true/\(∀ z∈R,bH z=true)/\R.length<=6:=by
 cases h with
 | join O U h2 h6 ha=>exact⟨_,_,rfl,O,fun z hz=>AR.mp ha (.str z) (List.mem_map_of_mem hz),h6⟩
 | _=>exact absurd e (by decide)
def rdT{m:Bool}{H:Hp}{y:V}{ds:List Aj}(h:RdV m H y (.tuple ds)):∃ b zs,y=.ref b/\H b=some (.tup zs)/\dB m H zs ds:=by
 cases h with
 | tup e J r=>exact⟨_,_,rfl,e,r⟩
theorem aCy{m:Bool}{H:Hp}:∀{zs:List V}{R:List Str},dB m H zs (R.map Bj)->zs=R.map V.str
 | _,[],h=>by cases h;rfl
 | _,z::R,h=>by
  cases h with
  | cons a r=>rw[rdS a,aCy r];rfl
def xP{H X:Hp}{L:Ag}{o:HO}(s:aU H X)(n:H L=none):aU H (upd X L o):=fun b u e=>by
 rw[bE (aZ e n)];exact s b u e
def aAe{H H':Hp}{a:Ag}(s:aU H H')(h:H' a=none):H a=none:=by
 cases q:H a with
 | none=>rfl
 | some o=>rw[s _ _ q]at h;cases h
def rZ{H:Hp}{a b:Ag}{o:HO}{xs:List V}(ha:H a=some o)(J:H b=some (.lst xs))(h:∀ ys,o≠.lst ys):a≠b:=fun e=>by
 rw[e,J]at ha;cases ha;exact h xs rfl
def aJN{H:Hp}{zs:List V}{R:List P3}(h:dB false H zs (R.map pD)){i:Nat}{v:V}(J:zs[i]?=some v):∃ x q,R[i]?=some x/\v=.ref q/\H q=some (.tup [.str x.1,.str x.2.1,.int x.2.2]):=by
 obtain⟨d,hd,rv⟩:=h.at J;rw[AF]at hd;obtain⟨x,hx,rfl⟩:=BD.mp hd;obtain⟨b,ws,rfl,e,r⟩:=rdT rv;cases r with
 | cons a r=>
  cases a;cases r with
  | cons a r=>
   cases a;obtain⟨y,rfl,c⟩:=rd1 r;cases c;exact⟨x,b,hx,rfl,e⟩
def aA8{R:List P3}(h:(R.map pD).all eY=true){x:P3}(J:x∈R):bH x.1=true/\bH x.2.1=true/\1<=x.2.2/\x.2.2<=10000000:=by
 have:=AR.mp h (pD x) (List.mem_map_of_mem J);have h2:(bH x.1&&bH x.2.1&&decide (1<=x.2.2/\x.2.2<=10000000))=true:=this;rw[Aw,Aw]at h2;exact⟨h2.1.1,h2.1.2,(Ig h2.2).1,(Ig h2.2).2⟩
def oW(R:List P3):(R.flatMap jM).length=3*R.length:=by
 induction R with
 | nil=>rfl
 | cons x R J=>rw[CS,Am,J,An];show 3+_=_;lia
structure mW(z:Str):Prop where
 len:z.length<=11
 free:∀ c,c<48->c∉z.cps.toList
def nR{z:Str}(h:bH z=true):mW z:=by
 refine⟨by have:=(gE h).2;lia,fun c hc hm=>?_⟩;unfold bH at h;rw[Aw,AR]at h;have:=Ig (h.2 c hm);lia
def aAf{i:Int}(O:0<=i)(h1:i<=1000000000):mW (cY i):=by
 obtain⟨m,rfl⟩:∃ m:Nat,i=m:=⟨i.toNat,by lia⟩
 have hm:m<=1000000000:=by lia
 exact⟨AH (aEb (k:=10) (ED hm (by decide)) (by decide)) (by decide),fun c hc J=>by have:=(wX m c J).1;lia⟩
def aMA:mW "as":=nR (by trivial)
def dI.Ok.words{r:dI}{fs:List Str}(h:r.Ok fs):(∀ z∈mV r,mW z)/\(mV r).length<=24:=by
 have J:∀{l:List Str},((∀ z∈l,mW z)/\l.length<=21)->(∀ z∈r.word::r.name::cY r.day::l,mW z)/\(r.word::r.name::cY r.day::l).length<=24:=fun{l} hl=>by
  refine⟨fun z hz=>?_,by simp only[An];lia⟩;have d1:=h.d1;simp only[Ao]at hz;rcases hz with rfl|rfl|rfl|hz
  .have:∀ w∈cB,bH w=true:=by trivial
   exact nR (this _ h.rs.word)
  .exact nR h.nm
  .exact aAf h.d0 (by lia)
  .exact hl.1 z hz
 refine J ?_;by_cases e1:r.word="part"
 .obtain⟨land,R,eds,hl,ha,h6⟩:=h.rs.isPart e1;rw[eds,e1,qI];refine⟨fun z hz=>?_,by rw[An,oW];lia⟩;rcases Ao.mp hz with rfl|hz
  .exact nR hl
  .obtain⟨x,hx,hz⟩:=F7.mp hz;obtain⟨p1,p2,p3,p4⟩:=aA8 ha hx;unfold jM at hz;simp only[Ao,AB,or_false]at hz;rcases hz with rfl|rfl|rfl
   .exact nR p1
   .exact nR p2
   .exact aAf (by lia) (by lia)
 by_cases e2:r.word="join"
 .obtain⟨land,R,eds,hl,ha,h6⟩:=h.rs.isJoin e2;rw[eds,e2,qJ];refine⟨fun z hz=>?_,by rw[Am];show _+2<=_;lia⟩;rcases A4.mp hz with hz|hz
  .exact nR (ha z hz)
  .simp only[Ao,AB,or_false]at hz;rcases hz with rfl|rfl
   .exact aMA
   .exact nR hl
 .obtain⟨hfl,erw,h4⟩:=h.rs.flat e1 e2;rw[erw];refine⟨fun z hz=>?_,by rw[Ab];lia⟩;obtain⟨d,hd,rfl⟩:=Bn.mp hz;rcases hfl d hd with⟨z,rfl,hn⟩|⟨i,rfl,h0,h1⟩
  .exact nR hn
  .exact aAf h0 h1
theorem oX{n:Nat}:∀{ws:List Str},(∀ z∈ws,z.length<=n)->(ws.map (·.length)).sum<=n*ws.length
 | [],_=>by simp
 | z::ws,h=>by
  have h1:=h z AQ;have h2:=oX fun y J=>h y (AN _ J);rw[A6,Co,An,Nat.mul_succ];lia
def jA(r:dI):Str:=EZ " " (mV r)
inductive uJ(vs:List V)(H:Hp)(Q:VK)(u3_:XK):Prop
 | mk (x:V) (r:dI) (fs:List Str) (q0:vs=[x]) (q1:RdV false H x r.d) (q2:r.Ok fs) (q3:∀(H':Hp),aU H H'->Q (.str (jA r)) H'):uJ vs H Q u3_
def aAg:Sp:=fun vs H Q u3_=>uJ vs H Q u3_
def jB(J:Str)(ws:List Str):EZ J ws=By J ws:=by
 show Fg J ws=_;rw[StrLaws.glued_eq_join]
def mX:Aj->List Str|.tuple ds=>("field":Str)::ds.map tS|_=>[]
def fE(d:Aj):Str:=EZ " " (mX d)
def uK(lds:List Aj)(us:List dI):Str:=EZ "\n" (lds.map fE++us.map jA)
def jN{d:Aj}(h:cX d=true):∃(f g:Str) (a i:Int),d=.tuple [.str f,.str g,.int a,.int i]/\bH f=true/\bH g=true/\1<=a/\a<=1000000/\0<=i/\i<=10000000:=by
 obtain⟨f,g,a,i,rfl,h1,h2,O,J⟩:=qH h;cases g with
 | str g=>
  cases a with
  | int a=>
   cases i with
   | int i=>
    have O:=Ig (show decide (1<=a/\a<=1000000)=true from O);have J:=Ig (show decide (0<=i/\i<=10000000)=true from J);exact⟨f,g,a,i,rfl,h1,h2,O.1,O.2,J.1,J.2⟩
   | _=>simp[bZ]at J
  | _=>simp[bZ]at O
 | _=>simp[bD]at h2
inductive sE(vs:List V)(H:Hp)(Q:VK)(u3_:XK):Prop
 | mk (t a b:Ag) (lds:List Aj) (xs:List V) (us:List dI) (fs:List Str) (q0:vs=[.ref t]) (q1:H t=some (.tup [.ref a,.ref b])) (q2:RdV false H (.ref a) (.tuple lds)) (q3:lds.all cX=true) (q4:lds.length<=8) (q5:H b=some (.tup xs)) (q6:hW H xs us fs) (q7:us.length<=40) (q8:∀(H':Hp),aU H H'->Q (.str (uK lds us)) H'):sE vs H Q u3_
def xQ:Sp:=fun vs H Q u3_=>sE vs H Q u3_
def lT{d:Aj}(h:cX d=true):(∀ z∈mX d,mW z)/\(mX d).length=5/\(fE d).length<=70:=by
 obtain⟨f,g,a,i,rfl,h1,h2,h3,h4,h5,h6⟩:=jN h;have hw:∀ z∈mX (.tuple [.str f,.str g,.int a,.int i]),mW z:=fun z hz=>by
  have J:z∈[("field":Str),f,g,cY a,cY i]:=hz;simp only[Ao,AB,or_false]at J;rcases J with rfl|rfl|rfl|rfl|rfl
  .exact nR (by trivial)
  .exact nR h1
  .exact nR h2
  .exact aAf (by lia) (by lia)
  .exact aAf (by lia) (by lia)
 refine⟨hw,rfl,?_⟩;unfold fE;rw[jB];have U:=Cy (" ":Str) (mX (.tuple [.str f,.str g,.int a,.int i]));have O:=oX fun z hz=>(hw z hz).len;have e5:(mX (.tuple [.str f,.str g,.int a,.int i])).length=5:=rfl;have e1:(" ":Str).length=1:=by decide
 rw[e5]at O;rw[e5,e1]at U;lia
def aH5{r:dI}{fs:List Str}(h:r.Ok fs):(jA r).length<=300:=by
 obtain⟨hw,hl⟩:=h.words;unfold jA;rw[jB];have J:=Cy (" ":Str) (mV r);have O:=oX fun z hz=>(hw z hz).len;have e1:(" ":Str).length=1:=by decide
 rw[e1]at J;lia
def aH6{J:List Aj}{H:Hp}{xs:List V}{O:List dI}{fs:List Str}(W:J.all cX=true)(U:hW H xs O fs):∀ z∈J.map fE++O.map jA,z.length<=300:=fun z hz=>by
 rcases A4.mp hz with h|h
 .obtain⟨d,hd,rfl⟩:=Bn.mp h;exact AH (lT (AR.mp W d hd)).2.2 (by decide)
 .obtain⟨u,hu,rfl⟩:=Bn.mp h;obtain⟨j,hj⟩:=Eg hu;obtain⟨u2,h2,_,h4⟩:=U.at' j _ (Ai (by rw[U.len];exact(AO.mp hj).1));rw[hj]at h2;cases h2;exact aH5 h4
def _root_.L2.pi_tupK{X:Cx}{K:Ae}{tg l:Bf}{tl:TE}(O:PE X l tl)(J:X.K=K:=by rfl):PI X tg l (aLO K tl):=by
 subst J;exact kJ O
def _root_.L2.BlkOk.own{N:List Str}{src:List (Option Nat)}{scope osc:CV}{oN:List Str}(h1:scope.kind=.function)(h2:∀ y∈scope.names,y.2≠.cell)(U:∀ y∈scope.names,y.2=.local->scope.names.lookup y.1=some .local)(J:∀ y∈scope.names,y.2≠.free)(h5:src.length=N.length)(h6:aDX N src scope oN=true):BlkOk N src scope osc oN:=
 ⟨h1,h2,U,fun y W O=>absurd O (J y W),h5,h6⟩
inductive FmL:List V->List Str->Prop
 | nil:FmL [] []
 | cons {v:V} {z:Str} {vs:List V} {zs:List Str} (h:Fm v z) (r:FmL vs zs):FmL (v::vs) (z::zs)
def FmL.len{vs:List V}{zs:List Str}(h:FmL vs zs):vs.length=zs.length:=by
 induction h with
 | nil=>rfl
 | cons _ _ J=>rw[An,An,J]
def FmL.at{vs:List V}{zs:List Str}(h:FmL vs zs):∀{i:Nat}{v:V},vs[i]?=some v->∃ z,zs[i]?=some z/\Fm v z:=by
 induction h with
 | nil=>intro i v J;simp at J
 | cons h _ O=>
  intro i v J;cases i with
  | zero=>cases J;exact⟨_,rfl,h⟩
  | succ i=>exact O J
def FmL.app{vs ws:List V}{zs ys:List Str}(h:FmL vs zs)(g:FmL ws ys):FmL (vs++ws) (zs++ys):=by
 induction h with
 | nil=>exact g
 | cons h _ J=>exact .cons h J
def kD{z:Str}(h:bH z=true):Fm (.str z) z:=.str z (aJ (by have:=(gE h).2;lia))
def aH7{i:Int}(J:0<=i)(h1:i<=1000000000):Fm (.int i) (cY i):=.int i (tU J h1)
theorem FmL.strs:∀{R:List Str},(∀ z∈R,bH z=true)->FmL (R.map V.str) R
 | [],_=>.nil
 | z::R,h=>.cons (kD (h z AQ)) (FmL.strs fun y J=>h y (AN _ J))
theorem FmL.flat{H:Hp}:∀{ys:List V}{ds:List Aj},dB false H ys ds->(∀ d∈ds,jZ d)->FmL ys (ds.map tS)
 | _,_,.nil,_=>.nil
 | _,_,.cons a r,h=>.cons ((h _ AQ).fm a) (FmL.flat r fun d hd=>h d (AN _ hd))
def dI.Ok.three{r:dI}{fs:List Str}(h:r.Ok fs):FmL [.str r.word,.str r.name,.int r.day] [r.word,r.name,cY r.day]:=by
 have hw:bH r.word=true:=by
  have:∀ w∈cB,bH w=true:=by trivial
  exact this _ h.rs.word
 have d1:=h.d1;exact .cons (kD hw) (.cons (kD h.nm) (.cons (aH7 h.d0 (by lia)) .nil))
def aCz{f:Ag}{fd:Ay}(F:Fn K "_law_row_text" tP f fd)(af:mg "str"=none)(J:mg "list"=none)
  :cC P w K mg base CX0 1 f fd ["_law_row_here"] aAg:=by
 refine okA F ["_law_row_here","_law_found","_law_part"] fun bq A outer s H vs Q E hr nd h=>?_;obtain⟨x,r,fs,rfl,rd,ok,k⟩:=h;refine⟨_,(aK (cF 1 nd (cA fT (by rfl) J (by kernel_rfl) (pa1 (pv 0))))
  (aK (gW (bX (cT cP (aX bS (pv 0) aD Ih) aO) (aK (cF 1 nd (cA fT (by rfl) J (by kernel_rfl) (pa1 (cN uX (pv 0) dU (cM aD)))))
   (aN (jG B1 rfl (kJ (aX bS (pv 0) aD Ih)) (g:=bT 2) (bW (i:=2) nd rfl (Bp rfl))
   (aN (cF 1 nd (aW hV (pv 1) (cA fT (by rfl) J (by kernel_rfl) (pa1 (pv 2))))))))) bA))
  (aK (gW (bX (cT cP (aX bS (pv 0) aD Ih) aO) (aN (cF 1 nd (aW hV (aW hV (cA fT (by rfl) J (by kernel_rfl) (pa1 (cN uX (pv 0) dU (cM aD)))) (cA fT (by rfl) J (by kernel_rfl) (pa1 (aX bS (pv 0) aD Ih)))) (dC (pa2 aO (aX bS (pv 0) aD Ih)))))) bA))
  (aN (aT (eV A9 CH CG pB aO (pa1 (eU (N:=["_law_word"]) (src:=[none]) (osc:=bC tP) (oN:=["_law_row_here","_law_found","_law_part"]) bkA (hZ (pv 1)) (fun cl s H fp dl C=>⟨bW (i:=0) (show(["_law_word"]:List Str).Nodup by trivial) rfl (Bp rfl),dJ,cA (r:=aK3) zF (by rfl) af (by kernel_rfl) (pa1 (pv 0))⟩))))))))),?_⟩
 obtain⟨t,ys,rfl,et,ry⟩:=ok.open rd;refine⟨_,rfl,t,_,rfl,.inr (aV et),fun L0 aA=>?_⟩;have s0:=aM (o:=.lst (V.str r.word::.str r.name::.int r.day::ys)) aA;have e0:upd H L0 (.lst (V.str r.word::.str r.name::.int r.day::ys)) L0=some (.lst (V.str r.word::.str r.name::.int r.day::ys)):=aH;generalize upd H L0 _=H0 at s0 e0 ⊢;have aa:=s0 _ _ et;have Z:=ry.same s0;have h3:=ok.three;refine⟨fun U H'=>∃(L:Ag) (vs:List V) (o:Option V),U=[some (.ref t),some (.ref L),o]/\aU H H'/\H' L=some (.lst vs)/\(r.word≠"join"->FmL vs (mV r)),?_,?_⟩
 .refine⟨_,rfl,t,_,0,_,rfl,rfl,aV aa,bG (j:=0) rfl,rfl,_,rfl,dH (fun g=>?_) fun g=>?_⟩
  .have hw:r.word="part":=V.str.inj (Ig g);have⟨land,R,eds,hl,ha,h6⟩:=ok.rs.isPart hw;rw[eds]at Z;obtain⟨y,z,rfl,ra,rb⟩:=rd2 Z;have ey:=rdS ra;subst ey;obtain⟨b,zs,rfl,eb,rz⟩:=rdT rb;have ay:zs.length=R.length:=by rw[rz.len,Ab]
   refine⟨_,rfl,4,rfl,t,_,rfl,aa,fun q H1 s1 e1=>?_⟩;have ec:gU [V.str r.word,.str r.name,.int r.day,.str land,.ref b] none (some 4)=[.str r.word,.str r.name,.int r.day,.str land]:=oK (α:=Nat) [V.str r.word,.str r.name,.int r.day,.str land,.ref b] 4;rw[ec]at e1;refine⟨q,_,rfl,.inr (aV e1),fun L hL=>?_⟩;have sL:=aM (o:=.lst [V.str r.word,.str r.name,.int r.day,.str land]) hL;have eL:upd H1 L (.lst [V.str r.word,.str r.name,.int r.day,.str land]) L=some (.lst [V.str r.word,.str r.name,.int r.day,.str land]):=aH;generalize upd H1 L _=H2 at sL eL ⊢;have s2:=s1.trans sL;have eW:mV r=[r.word,r.name,cY r.day,land]++R.flatMap jM:=by
    unfold mV;rw[eds,hw,qI];rfl
   have f4:FmL [V.str r.word,.str r.name,.int r.day,.str land] [r.word,r.name,cY r.day,land]:=h3.app (.cons (kD hl) .nil);dsimp only[bT];refine⟨_,rfl,t,_,4,_,rfl,rfl,aV (s2 _ _ aa),bG (j:=4) rfl,b,rfl,⟨_,aV (s2 _ _ eb)⟩,aAt (K:=K) (xs:=zs) (fun i σ H'=>Ex3 fun(L:Ag) (vs:List V) (o:Option V)=>Aw3 (σ=[some (.ref t),some (.ref L),o]) (aU H2 H') (H' L=some (.lst vs)/\FmL vs ([r.word,r.name,cY r.day,land]++(R.take i).flatMap jM))) ⟨L,_,_,rfl,aU.refl _,eL,by rw[List.take_zero];exact f4⟩ (fun i σ H' _ z=>by obtain⟨_,_,_,_,z,_⟩:=z;exact aV (z _ _ (s2 _ _ eb))) ?_ ?_⟩
   .rintro i v σ HI hv ⟨L',vs,o,rfl,sI,eI,fI⟩;obtain⟨x,q',hx,rfl,eq⟩:=aJN rz hv;have⟨p1,p2,a0,a1⟩:=aA8 ha (AG hx);have bt:=(AO.mp hv).1;have O:=fI.len;rw[Am,oW,AJ]at O;have bn:vs.length=4+3*min i R.length:=O;dsimp only[bT];refine⟨_,rfl,_,rfl,q',_,rfl,.inr (aV (sI _ _ (s2 _ _ eq))),fun M hM=>?_⟩;have sM:=aM (o:=.lst [V.str x.1,.str x.2.1,.int x.2.2]) hM;refine⟨L',M,_,_,rfl,rfl,sM _ _ eI,aH,aJ (by show vs.length+3<=_;lia),fun N hN=>?_⟩;have sN:=aM (o:=.lst (vs++[V.str x.1,.str x.2.1,.int x.2.2])) hN;refine⟨N,_,_,rfl,sI.trans (sM.trans sN),aH,?_⟩;rw[A0,hx,List.flatMap_append,<- B2];exact fI.app (.cons (kD p1) (.cons (kD p2) (.cons (aH7 (by lia) (by lia)) .nil)))
   .rintro σ HI ⟨L',vs,o,rfl,sI,eI,fI⟩;rw[ay,Bh,<- eW]at fI;exact⟨L',vs,o,rfl,s0.trans (s2.trans sI),eI,fun _=>fI⟩
  .have aC:r.word≠"part":=fun e=>g (by rw[e];rfl);refine⟨L0,_,_,rfl,s0,e0,fun bb=>?_⟩;have⟨hfl,erw,h4⟩:=ok.rs.flat aC bb;have eW:mV r=[r.word,r.name,cY r.day]++r.ds.map tS:=by
    unfold mV;rw[erw];rfl
   rw[eW];exact h3.app (FmL.flat Z hfl)
 rintro U H1 ⟨L1,aF,o1,rfl,s1,e1,f1⟩;have W:=s1 _ _ et;have ah:=ry.same s1;refine⟨fun U H'=>∃(L:Ag) (vs:List V) (o:Option V),U=[some (.ref t),some (.ref L),o]/\aU H H'/\H' L=some (.lst vs)/\FmL vs (mV r),?_,?_⟩
 .refine⟨_,rfl,t,_,0,_,rfl,rfl,aV W,bG (j:=0) rfl,rfl,_,rfl,dH (fun g=>?_) fun g=>?_⟩
  .have hw:r.word="join":=V.str.inj (Ig g);have⟨land,R,eds,hl,ha,h6⟩:=ok.rs.isJoin hw;rw[eds]at ah;obtain⟨y,z,rfl,ra,rb⟩:=rd2 ah;have ez:=rdS rb;subst ez;obtain⟨b,zs,rfl,eb,rz⟩:=rdT ra;have bc:=aCy rz;subst bc;have eW:mV r=[r.word,r.name,cY r.day]++R++[("as":Str),land]:=by
    unfold mV;rw[eds,hw,qJ,B2];rfl
   refine⟨_,rfl,3,rfl,t,_,rfl,W,fun q H2 s2 e2=>?_⟩;have ec:gU [V.str r.word,.str r.name,.int r.day,.ref b,.str land] none (some 3)=[.str r.word,.str r.name,.int r.day]:=oK (α:=Nat) [V.str r.word,.str r.name,.int r.day,.ref b,.str land] 3;rw[ec]at e2;refine⟨q,_,rfl,.inr (aV e2),fun L2 aw=>?_⟩;have aj:=aM (o:=.lst [V.str r.word,.str r.name,.int r.day]) aw;have ad:upd H2 L2 (.lst [V.str r.word,.str r.name,.int r.day]) L2=some (.lst [V.str r.word,.str r.name,.int r.day]):=aH;generalize upd H2 L2 _=H3 at aj ad ⊢;have s3:=s2.trans aj;refine⟨_,rfl,t,_,3,_,rfl,rfl,aV (s3 _ _ W),bG (j:=3) rfl,b,_,rfl,.inr (aV (s3 _ _ eb)),fun L3 aE=>?_⟩;have Y:=aM (o:=.lst (R.map V.str)) aE;have ag:upd H3 L3 (.lst (R.map V.str)) L3=some (.lst (R.map V.str)):=aH;generalize upd H3 L3 _=H4 at Y ag ⊢;refine⟨L2,L3,_,_,rfl,rfl,Y _ _ ad,ag,aJ (by rw[Ab];show 3+_<=_;lia),fun L4 aR=>?_⟩;have am:=aM (o:=.lst ([V.str r.word,.str r.name,.int r.day]++R.map V.str)) aR;have ae:upd H4 L4 (.lst ([V.str r.word,.str r.name,.int r.day]++R.map V.str)) L4=some (.lst ([V.str r.word,.str r.name,.int r.day]++R.map V.str)):=aH;generalize upd H4 L4 _=H5 at am ae ⊢;have s5:=s3.trans (Y.trans am);refine⟨_,rfl,t,_,4,_,rfl,rfl,aV (s5 _ _ W),bG (j:=4) rfl,zZ2,fun L5 aB=>?_⟩;have ai:=aM (o:=.lst [V.str "as",.str land]) aB;refine⟨L4,L5,_,_,rfl,rfl,ai _ _ ae,aH,aJ (by rw[Am,Ab];show 3+_+2<=_;lia),fun L6 aL=>?_⟩;have ax:=aM (o:=.lst ([V.str r.word,.str r.name,.int r.day]++R.map V.str++[V.str "as",.str land])) aL;refine⟨L6,_,_,rfl,s1.trans (s5.trans (ai.trans ax)),aH,?_⟩
   rw[eW];exact(h3.app (FmL.strs ha)).app (.cons (kD (by trivial)) (.cons (kD hl) .nil))
  .exact⟨L1,aF,o1,rfl,s1,e1,f1 fun e=>g (by rw[e];rfl)⟩
 rintro U H2 ⟨L2,au,o2,rfl,s2,e2,f2⟩;obtain⟨hw,hwl⟩:=ok.words;have O:=f2.len;refine⟨rfl,_,rfl,L2,rfl,⟨_,aP e2⟩,?_⟩;refine iM (K:=K) (xs:=au) (fun i zs U H'=>∃(o:Option V),U=[o]/\H'=H2/\zs=((mV r).take i).map V.str) ⟨none,rfl,rfl,rfl⟩ (aJ (by lia)) (fun i zs σ H' p=>by obtain⟨_,_,_,rfl⟩:=p;rw[Ab,AJ];lia) (fun i zs σ H' p=>by obtain⟨_,_,rfl,_⟩:=p;exact aP e2) ?_ ?_
 .rintro i v zs U H' hv ⟨o,rfl,rfl,rfl⟩;have⟨z,hz,fz⟩:=f2.at hv;dsimp only[bT];refine bF ?_;refine⟨_,rfl,⟨_,_,rfl,fz,_,rfl,rfl,?_⟩⟩;rw[A0,hz,Al];rfl
 rintro zs U H' ⟨o,rfl,rfl,rfl⟩ N hN;rw[O,Bh];have sN:=aM (o:=.lst ((mV r).map V.str)) hN;have bi:=oX fun z hz=>(hw z hz).len;have e1:(" ":Str).length=1:=by decide
 exact⟨" ",N,mV r,rfl,rfl,aP aH,by rw[e1];lia,k _ (s2.trans sN)⟩
def aA9{f:Ag}{fd:Ay}(F:Fn K "_law_roll_text" mQ f fd)(ac:mg "str"=none)
  (GR:Cal P w K mg base 1 "_law_row_text" ["_law_row_here"] aAg)
  :cC P w K mg base CX0 2 f fd ["_law_roll"] xQ:=by
 refine okA F ["_law_roll","_law_found"] fun aE A outer s H vs Q E hr nd h=>?_;obtain⟨t,a,b,lds,xs,us,fs,rfl,et,rl,hf,h8,eb,hR,h40,k⟩:=h;refine⟨_,(aK (gL (i:=1) (N:=["_law_part"]) (src:=[none]) (osc:=bC mQ) (oN:=["_law_roll","_law_found"]) bkA nd rfl (kJ (aX bS (pv 0) aD Ih)) (fun cl s H fp dl C=>⟨bW (i:=0) (show(["_law_part"]:List Str).Nodup by trivial) rfl (Bp rfl),dJ,aGS (r:=rJ K) (K:=K) A9 CH CG pB aO (pa1 (aW hV (dC (pa1 aO)) (eU (N:=["_law_word"]) (src:=[none]) (osc:=_) (oN:=["_law_part"]) (eo:=rfl) (BlkOk.own (by rfl) (by trivial) (by trivial) (by trivial) rfl (by rfl)) (pi_tupK (K:=K) (pv 0)) (fun cl s H fp dl C=>⟨bW (i:=0) (show(["_law_word"]:List Str).Nodup by trivial) rfl (Bp rfl),dJ,cA (r:=aK3) zF (by rfl) ac (by kernel_rfl) (pa1 (pv 0))⟩))))⟩))
  (aN (aT (eV A9 CH CG pB aO (pa1 (aW hV (pv 1) (eU (N:=["_law_row_here"]) (src:=[none]) (osc:=bC mQ) (oN:=["_law_roll","_law_found"]) bkA (kJ (aX bS (pv 0) aD Ih)) (fun cl s H fp dl C=>⟨bW (i:=0) (show(["_law_row_here"]:List Str).Nodup by trivial) rfl (Bp rfl),dJ,bO GR hr (pa1 (pv 0))⟩)))))))),?_⟩
 have⟨a',lxs,ea,el,rlx⟩:=rdT rl;cases ea;have ag:=rlx.len;have aj:=hR.len;refine⟨_,rfl,t,_,0,_,rfl,rfl,aV et,rfl,a,rfl,⟨_,aV el⟩,?_⟩;refine jJ (K:=K) (xs:=lxs) (fun i zs J H'=>∃(o:Option V),J=[o]/\aU H H'/\zs=((lds.take i).map fE).map V.str) ⟨none,rfl,aU.refl H,rfl⟩ (aJ (by lia)) (fun i zs σ H' p=>by obtain⟨_,_,_,rfl⟩:=p;rw[Ab,Ab,AJ];lia) (fun i zs σ H' p=>by obtain⟨_,_,s,_⟩:=p;exact aV (s _ _ el)) ?_ ?_
 .rintro i v zs J H1 hv ⟨o,rfl,s1,rfl⟩;have⟨d,hd,rv⟩:=rlx.at hv;have Y:=AR.mp hf d (AG hd);obtain⟨hwd,hl5,_⟩:=lT Y;have⟨f',g,a',i',ed,h1,h2,h3,h4,h5,h6⟩:=jN Y;rw[ed]at rv;obtain⟨q,ys,rfl,eq,rq⟩:=rdT rv;have f4:FmL ys ([Bj f',.str g,.int a',.int i'].map tS):=FmL.flat rq fun e he=>by
   simp only[Ao,AB,or_false]at he;rcases he with rfl|rfl|rfl|rfl
   .exact .inl ⟨_,rfl,h1⟩
   .exact .inl ⟨_,rfl,h2⟩
   .exact .inr ⟨_,rfl,by lia,by lia⟩
   .exact .inr ⟨_,rfl,by lia,by lia⟩
  have Z:=f4.len;obtain⟨O,hws⟩:∃ O:List Str,O=[Bj f',.str g,.int a',.int i'].map tS:=⟨_,rfl⟩
  rw[<- hws]at f4 Z;have aA:O.length=4:=by rw[hws];rfl
  have eW:mX d=("field":Str)::O:=by rw[ed,hws];rfl
  dsimp only[bT];refine bF ?_;refine⟨rfl,zZ1,fun A hA=>?_⟩;have U:=aM (o:=.lst [V.str "field"]) hA;have W:upd H1 A (.lst [V.str "field"]) A=some (.lst [V.str "field"]):=aH;generalize upd H1 A _=H2 at U W ⊢;have aa:=(s1.trans U) _ _ eq;refine⟨_,rfl,q,rfl,⟨_,aV aa⟩,?_⟩;refine jJ (K:=K) (xs:=ys) (fun j zs J H'=>∃(o:Option V),J=[o]/\H'=H2/\zs=(O.take j).map V.str) ⟨none,rfl,rfl,rfl⟩ (aJ (by lia)) (fun j zs σ H' p=>by obtain⟨_,_,_,rfl⟩:=p;rw[Ab,AJ];lia) (fun j zs σ H' p=>by obtain⟨_,_,rfl,_⟩:=p;exact aV aa) ?_ ?_
  .rintro j y zs J H' hy ⟨o,rfl,rfl,rfl⟩;have⟨z,hz,fz⟩:=f4.at hy;dsimp only[bT];refine bF ?_;refine⟨_,rfl,⟨_,_,rfl,fz,_,rfl,rfl,?_⟩⟩;rw[A0,hz,Al];rfl
  rintro zs J H' ⟨o,rfl,rfl,rfl⟩ N hN;rw[Z,Bh];have sN:=aM (o:=.lst (O.map V.str)) hN;have eN:upd H' N (.lst (O.map V.str)) N=some (.lst (O.map V.str)):=aH;generalize upd H' N _=H3 at sN eN ⊢;refine⟨A,N,_,_,rfl,rfl,sN _ _ W,eN,aJ (by rw[Ab];show 1+_<=_;lia),fun C hC=>?_⟩;have sC:=aM (o:=.lst ([V.str "field"]++O.map V.str)) hC;have an:=oX fun z hz=>(hwd z hz).len;have e1:(" ":Str).length=1:=by decide
  refine⟨" ",C,mX d,rfl,rfl,aP (by rw[aH,eW];rfl),by rw[e1];lia,_,rfl,s1.trans (U.trans (sN.trans sC)),?_⟩;rw[A0,hd,Al,Al];rfl
 rintro zs J H1 ⟨o,rfl,s1,rfl⟩ A hA;rw[ag,Bh];have U:=aM (o:=.lst ((lds.map fE).map V.str)) hA;have W:upd H1 A (.lst ((lds.map fE).map V.str)) A=some (.lst ((lds.map fE).map V.str)):=aH;generalize upd H1 A _=H2 at U W ⊢;have s2:=s1.trans U;refine⟨rfl,_,rfl,_,rfl,t,_,1,_,rfl,rfl,aV (s2 _ _ et),rfl,b,rfl,⟨_,aV (s2 _ _ eb)⟩,?_⟩;refine jJ (K:=K) (xs:=xs) (fun i zs J H'=>∃(o:Option V),J=[o]/\aU H2 H'/\zs=((us.take i).map jA).map V.str) ⟨none,rfl,aU.refl _,rfl⟩ (aJ (by lia)) (fun i zs σ H' p=>by obtain⟨_,_,_,rfl⟩:=p;rw[Ab,Ab,AJ];lia) (fun i zs σ H' p=>by obtain⟨_,_,s,_⟩:=p;exact aV (s _ _ (s2 _ _ eb))) ?_ ?_
 .rintro i v zs J H3 hv ⟨o,rfl,s3,rfl⟩;have⟨u,hu,rv,oku⟩:=hR.at' i v hv;dsimp only[bT];refine bF ?_;refine⟨_,rfl,v,u,fs,rfl,rv.same (s2.trans s3),oku,fun H4 s4=>⟨_,rfl,s3.trans s4,?_⟩⟩;rw[A0,hu,Al,Al];rfl
 rintro zs J H3 ⟨o,rfl,s3,rfl⟩ B hB;rw[aj,Bh];have sB:=aM (o:=.lst ((us.map jA).map V.str)) hB;have eB:upd H3 B (.lst ((us.map jA).map V.str)) B=some (.lst ((us.map jA).map V.str)):=aH;generalize upd H3 B _=H4 at sB eB ⊢;refine⟨A,B,_,_,rfl,rfl,(s3.trans sB) _ _ W,eB,aJ (by rw[Ab,Ab,Ab,Ab];lia),fun C hC=>?_⟩;have sC:=aM (o:=.lst ((lds.map fE).map V.str++(us.map jA).map V.str)) hC;have hs:=oX (aH6 hf hR);have aC:(lds.map fE++us.map jA).length<=48:=by rw[Am,Ab,Ab];lia
 have e1:("\n":Str).length=1:=by decide
 exact⟨"\n",C,lds.map fE++us.map jA,rfl,rfl,aP (by rw[aH,Al]),by rw[e1];lia,k _ (s2.trans ((s3.trans sB).trans sC))⟩
def iG(c:Nat):Bool:=decide (48<=c)&&decide (c<=57)
def val(cs:List Nat):Nat:=cs.foldl (fun a c=>10*a+(c-48)) 0
def xR(J:List Nat)(d:Nat):val (J++[d])=10*val J+(d-48):=by
 unfold val;rw[List.foldl_append];rfl
theorem aEI:∀(r:List Nat) (a:Nat),0<a->0<r.foldl (fun a c=>10*a+(c-48)) a
 | [],a,h=>h
 | c::r,a,h=>aEI r (10*a+(c-48)) (by lia)
def aEJ{α:Type}{p:List α->Prop}(O:p [])(h1:∀ l x,p l->p (l++[x]))(l:List α):p l:=by
 have key:∀ r:List α,p r.reverse:=fun r=>by
  induction r with
  | nil=>exact O
  | cons x r J=>rw[FV];exact h1 _ _ J
 have:=key l.reverse
 rwa [Fh]at this
def aLr(J:List Nat)(h:∀ c∈J,iG c=true):val J<10^J.length:=by
 revert h;refine aEJ (p:=fun J=>(∀ c∈J,iG c=true)->val J<10^J.length) (fun _=>by decide) (fun J d O h=>?_) J
 .have hd:=h d (by simp);unfold iG at hd;simp only[Aw,decide_eq_true_eq]at hd;have:=O fun c hc=>h c (by simp[hc]);rw[xR,Am,D3,Hj];lia
def pJ:∀ d:Nat,d<10->(BW 10 d).map C1=[d+48]:=by decide
def aDC(J:List Nat)(h:∀ c∈J,iG c=true)(hn:J≠[])(O:J.head?≠some 48\/J=[48]):(BW 10 (val J)).map C1=J:=by
 revert h hn O;refine aEJ (p:=fun J=>(∀ c∈J,iG c=true)->J≠[]->(J.head?≠some 48\/J=[48])->(BW 10 (val J)).map C1=J) (fun _ hn _=>absurd rfl hn) (fun J d Y h hn O=>?_) J
 .have hd:=h d (by simp);unfold iG at hd;simp only[Aw,decide_eq_true_eq]at hd;rw[xR];cases J with
  | nil=>
   show(BW 10 (10*0+(d-48))).map C1=[d]
   rw[Nat.mul_zero,Nat.zero_add,pJ _ (by lia)];congr 1;lia
  | cons c r=>
   have hc:=h c (by simp);unfold iG at hc;simp only[Aw,decide_eq_true_eq]at hc;have U:c≠48:=by
    rcases O with O|O
    .exact fun e=>O (by rw[e];rfl)
    .exact absurd (congrArg EJ O) (by simp)
   have Z:0<val (c::r):=aEI r _ (by show 0<10*0+(c-48);lia);have t:=En (b:=10) (n:=val (c::r)) (d:=d-48) (by decide) Z (by lia);rw[<- t,Al,Y (fun x W=>h x (Cs _ W)) (by simp) (.inl (by show some c≠_;exact fun e=>U (BS.inj e))),pJ _ (by lia)];congr 2;lia
def lU(z:Str):Bool:=(decide (1<=z.length)&&decide (z.length<=60))&&(z.cps.toList.all iG&&!(decide (z.cps.toList.head?=some 48)&&decide (z≠"0")))
def aBa(z:Str):Nat:=val z.cps.toList
def lV:("0":Str).cps.toList=[48]:=by trivial
def aEK{z:Str}(h:lU z=true):cY ((aBa z:Nat):Int)=z/\aBa z<10^60:=by
 unfold lU at h;simp only[Aw,decide_eq_true_eq,FX,Bool.and_eq_false_iff,decide_eq_false_iff_not]at h;obtain⟨⟨h1,h2⟩,h3,J⟩:=h;have O:z.cps.toList.length=z.length:=AL;have hd:∀ c∈z.cps.toList,iG c=true:=AR.mp h3;refine⟨iC ?_,?_⟩
 .show(Be (toString ((aBa z:Nat):Int))).cps.toList=_;rw[Cz];refine aDC _ hd (fun e=>by rw[e]at O;simp at O;lia) ?_;rcases J with J|J
  .exact .inl J
  .refine .inr ?_;rw[Classical.not_not.mp J,lV]
 .have:=aLr _ hd;rw[O]at this;exact AZ this (Nat.pow_le_pow_right (by decide) h2)
def kQ(z:Str):V:=if lU z=true then .int (aBa z:Nat) else .non
inductive aBb(vs:List V)(H:Hp)(Q:VK)(E:XK):Prop
 | mk (z:Str) (h0:vs=[.str z]) (hz:z.length<=100000) (q:∀ H',aU H H'->Q (kQ z) H'):aBb vs H Q E
def aCA:Sp:=fun vs H Q E=>aBb vs H Q E
def aBc:Sp:=fun vs H Q E=>aBb vs H Q E
def aJO(c:Nat):decide (c∈(Be "0123456789").cps.toList)=iG c:=by
 have e:(Be "0123456789").cps.toList=EI 48 10:=by trivial
 unfold iG;rw[e,<- Bool.decide_and,decide_eq_decide,List.mem_range'_1];lia
def aH8{p:Nat->Bool}(J:List Nat):((J.filter fun c=>!p c).map fun c=>V.str ⟨#[c]⟩)=[]↔J.all p=true:=by
 rw[FC,List.filter_eq_nil_iff,AR];exact⟨fun h c hc=>by simpa using h c hc,fun h c hc=>by simpa using h c hc⟩
def aH9{K:Ae}{H H':Hp}{a:Ag}{xs:List V}(h:SqT K H a xs)(s:aU H H'):SqT K H' a xs:=by
 rcases h with(h|⟨o,h⟩)|h
 .exact .inl (.inl (s _ _ h))
 .exact .inl (.inr ⟨o,s _ _ h⟩)
 .exact .inr h
def aCB(i:Int):∀ ns:List Int,inV (.int i) (ns.map V.int)=decide (i∈ns):=by
 intro ns;unfold inV;rw[List.any_map];rw[BR,D8,decide_eq_true_iff];constructor
 .rintro⟨y,hy,e⟩;have:y=i:=by simpa[eqV]using e
  exact this▸hy
 .intro h;exact⟨i,h,by simp[eqV]⟩
def lF(ns:List Int):(ns.map V.int).all iH=true:=by
 rw[AR];intro v J;obtain⟨n,_,rfl⟩:=Bn.mp J;rfl
def dS(z:Str):Aj:=if lU z=true then .int (aBa z:Nat) else .none
def dV:Aj->V|.str z=>.str z|.int i=>.int i|_=>.non
def mY(z:Str):dV (dS z)=kQ z:=by
 unfold dS kQ;split<;>rfl
def wd(ps:List Int)(ws:List Str):List Aj:=ws.mapIdx fun i z=>if (i:Int)∈ps then dS z else .str z
def jO(ps:List Int)(ws:List Str):(wd ps ws).length=ws.length:=by unfold wd;rw[List.length_mapIdx]
def aIa{ps:List Int}{ws:List Str}{i:Nat}{z:Str}(h:ws[i]?=some z):(wd ps ws)[i]?=some (if (i:Int)∈ps then dS z else .str z):=by
 unfold wd;rw[List.getElem?_mapIdx,h];rfl
def tV{H:Hp}(z:Str):RdV false H (dV (dS z)) (dS z):=by
 unfold dS;split
 .exact .int _
 .exact .non
theorem aIb{H:Hp}:∀{ds:List Aj},(∀ d∈ds,RdV false H (dV d) d)->dB false H (ds.map dV) ds
 | [],_=>.nil
 | d::ds,h=>.cons (h d AQ) (aIb fun e J=>h e (AN _ J))
def aAh{H:Hp}{ps:List Int}{ws:List Str}(h:∀ z∈ws,z.length<=1000):dB false H ((wd ps ws).map dV) (wd ps ws):=aIb fun d hd=>by
 obtain⟨i,hi⟩:=Eg hd;have J:i<ws.length:=by rw[<- jO ps];exact(AO.mp hi).1
 have hw:ws[i]?=some ws[i]:=Ai J;rw[aIa hw]at hi;rw[<- BS.inj hi];split
 .exact tV _
 .exact .str _ (h _ (B8 J))
inductive aIc(K:Ae)(vs:List V)(H:Hp)(Q:VK)(E:XK):Prop
 | mk (L p:Ag) (ws:List Str) (ps:List Int) (h0:vs=[.ref L,.ref p]) (eL:H L=some (.lst (ws.map V.str))) (eP:SqT K H p (ps.map V.int)) (hl:ws.length<=400) (hz:∀ z∈ws,z.length<=1000) (q:∀(t:Ag) (H':Hp),aU H H'->H' t=some (.tup ((wd ps ws).map dV))->Q (.ref t) H'):aIc K vs H Q E
def pK(K:Ae):Sp:=fun vs H Q E=>aIc K vs H Q E
def aFZ{f:Ag}{fd:Ay}(F:Fn K "number_of" tO f fd)(T:Txt K mg)(U:∃ t,mg "MOST_FIGURES"=some (.int 60 t)):cC P w K mg base CX0 1 f fd ["word"] aCA:=by
 refine okA F ["word"] fun ap A outer s H vs Q E hr nd h=>?_;obtain⟨z,rfl,hz,k⟩:=h;obtain⟨tl,hfig⟩:=U;refine⟨_,aK (bX (PW.pt (dL (cO (qN jR jR aD (aQ eQ (by rfl) T.len Av (gN (pv 0) dP)) (cG (v:=.int 60) (by rfl) hfig ⟨_,rfl⟩)))
   (dW (cO (cJ (aQ (qZ rfl) (by rfl) T.al (by kernel_rfl) (gN (eU (N:=["sign"]) (src:=[none]) (osc:=bC tO) (oN:=["word"]) bkA (aAG (pv 0))
    fun cl s H fp dl C=>⟨bW (i:=0) (show(["sign"]:List Str).Nodup by trivial) rfl (Bp rfl),dJ,oA pA pA aO (pv 0) aO⟩) dP))))))) (aN (aT gG)) bA)
  (aK (bX (PW.pt (kH (cT cP (aX mH (pv 0) aD Ih) aO) (jQ (cT nF (pv 0) aO)))) (aN (aT gG)) bA)
  (aN (aT (cA zG (by rfl) T.int (by kernel_rfl) (pa1 (pv 0)))))),?_⟩
 have W:z.cps.toList.length=z.length:=AL;have J:lU z=false->∀ H',aU H H'->Q .non H':=fun e H' s=>by
  have:=k H' s;unfold kQ at this;rw[e]at this;exact this
 refine⟨_,rfl,_,rfl,aJ (by lia),_,_,rfl,rfl,_,rfl,?_⟩;by_cases l1:1<=z.length
 case neg=>
  rw[Ie (show¬ ((1:Int)<=(z.length:Int)) by lia)];refine bQ ?_;refine⟨_,rfl,bF (bF ?_)⟩;exact J (by unfold lU;rw[Ie l1];rfl) H (aU.refl H)
 rw[Ic (show(1:Int)<=(z.length:Int) by lia)];refine bF ?_;refine⟨_,_,rfl,rfl,_,rfl,?_⟩;by_cases l2:z.length<=60
 case neg=>
  rw[Ie (show¬ ((z.length:Int)<=60) by lia)];refine bF (bF ?_);exact J (by unfold lU;rw[Ie l2,A1];rfl) H (aU.refl H)
 rw[Ic (show(z.length:Int)<=60 by lia)];refine bQ ?_;refine⟨_,rfl,z,rfl,?_⟩;refine rB (fun i ys σ H'=>H'=H/\ys=((z.cps.toList.take i).map iG).map V.bl/\σ.length=1) ⟨rfl,rfl,rfl⟩ (aJ (show z.length<=1000000 by lia)) (fun i ys σ H' p=>by rw[p.2.1,Ab,Ab,AJ];lia) ?_ ?_
 .rintro i c ys σ H' hc ⟨rfl,rfl,hσ⟩;obtain⟨o,rfl⟩:∃ o,σ=[o]:=by
   match σ,hσ with
   | [o],_=>exact⟨o,rfl⟩
  dsimp only[bT];refine bF ?_;have Y:z.cps.toList[i]?=some c:=by simpa using hc
  refine⟨_,rfl,_,_,rfl,rfl,_,rfl,?_⟩;have e1:(!decide ((⟨#[c]⟩:Str).cps.toList<("0":Str).cps.toList))=decide (48<=c):=aAZ 48 c;have e2:(!decide (("9":Str).cps.toList<(⟨#[c]⟩:Str).cps.toList))=decide (c<=57):=aAZ c 57;rw[e1];by_cases g1:48<=c
  .rw[Ic g1];refine bF ?_;refine⟨_,_,rfl,rfl,?_⟩;rw[e2];refine⟨rfl,?_,rfl⟩;rw[A0,Y,Al,Al];show _=_++[V.bl (decide (48<=c)&&decide (c<=57))]
   rw[Ic g1,Ax]
  .rw[Ie g1];refine bQ ?_;refine⟨rfl,?_,rfl⟩;rw[A0,Y,Al,Al];show _=_++[V.bl (decide (48<=c)&&decide (c<=57))]
   rw[Ie g1,Bq]
 rintro ys σ H' ⟨rfl,rfl,hσ⟩ D hD;have ad:D6 z.cps.size z.cps.toList=z.cps.toList:=by rw[<- AL];exact Bh
 rw[ad];have sD:=aM (o:=.lst ((z.cps.toList.map iG).map V.bl)) hD;refine⟨D,z.cps.toList.map iG,rfl,aP aH,_,rfl,?_⟩;rw[show(z.cps.toList.map iG).all id=z.cps.toList.all iG by rw[DU];rfl];cases ed:z.cps.toList.all iG with
 | false=>
  refine bF ?_;exact J (by unfold lU;rw[ed,Bq,A1]) _ sD
 | true=>
 refine bQ ?_;obtain⟨c0,r0,ec⟩:∃ c0 r0,z.cps.toList=c0::r0:=by
  cases h:z.cps.toList with
  | nil=>rw[h]at W;simp at W;lia
  | cons a b=>exact⟨a,b,rfl⟩
 have eh:atI z.cps.toList 0=some c0:=bG (j:=0) (by rw[ec];rfl);refine⟨_,rfl,z,0,c0,rfl,rfl,aJ (by lia),eh,rfl,_,rfl,?_⟩;have ef:lU z=!(decide (c0=48)&&decide (z≠"0")):=by
  unfold lU;rw[Ic l1,Ic l2,ed,ec,Ax,Ax,Ax];congr 2;rw[decide_eq_decide];exact⟨fun h=>by injection h,fun h=>by rw[h];rfl⟩
 have ag:decide (V.str ⟨#[c0]⟩=V.str "0")=decide (c0=48):=by
  rw[decide_eq_decide];constructor
  .intro h;injection h with h;have:(⟨#[c0]⟩:Str).cps.toList=("0":Str).cps.toList:=by rw[h]
   rw[lV]at this;injection this
  .intro h;rw[h];congr 1
 rw[ag];have O:lU z=true->aIW (tCB aK4 (nG (xY 0) aAw)) { nx:=fun _ H'=>Q V.non H',rt:=Q } (L2.start ["word"] [V.str z]) (upd H' D (.lst ((z.cps.toList.map iG).map V.bl))):=fun e=>by
  obtain⟨en,e6⟩:=aEK e;have kk:=k _ sD;unfold kQ at kk;rw[Ib e]at kk;exact⟨_,rfl,cY ((aBa z:Nat):Int),aBa z,by rw[en],wY e6 (by decide) (by decide),by rw[en];lia,kk⟩
 by_cases g0:c0=48
 .rw[Ic g0];refine bF ?_;refine⟨_,rfl,rfl,_,rfl,?_⟩;by_cases Z:z="0"
  .rw[Ic (show V.str z=V.str "0" by rw[Z])];refine bQ ?_;exact O (by rw[ef,Ie (show¬ z≠"0" from fun h=>h Z),A1];rfl)
  .rw[Ie (show¬ V.str z=V.str "0" from fun h=>by injection h with h;exact Z h)];refine bF ?_;exact J (by rw[ef,Ic g0,Ic Z];rfl) _ sD
 .rw[Ie g0]
  iterate 2 refine bQ ?_
  exact O (by rw[ef,Ie g0];rfl)
def aCC{f:Ag}{fd:Ay}(F:Fn K "_law_number_in" aDr f fd)(U:mg "len"=none)(Y:mg "int"=none)
  :cC P w K mg base CX0 1 f fd ["_law_word"] aBc:=by
 refine okA F ["_law_word"] fun ay A outer s H vs Q E hr nd h=>?_;obtain⟨z,rfl,hz,k⟩:=h;have hu:_<_:=hr.units0;refine⟨_,(aK (bX (PW.pt (dL (cT cP (pv 0) aO) (dL (cT nY (aQ eQ (by rfl) U Av (pa1 (pv 0))) aD) (dW (PW.pt (kH (cT nY (aQ eQ (by rfl) U Av (pa1 (pv 0))) aD) (jQ (cT cP (aX mH (pv 0) aD Ih) aO)))))))) (aN (aT gG)) bA)
  (aK (bX (cT (aB3 hu) (eU (N:=["_law_sign"]) (src:=[none]) (osc:=bC aDr) (oN:=["_law_word"]) bkA (aAG (pv 0)) (fun cl s H fp dl C=>⟨bW (i:=0) (show(["_law_sign"]:List Str).Nodup by trivial) rfl (Bp rfl),aDY (eJ aAv (pv 0) aO (by with_unfolding_all rfl)),pv 0⟩)) (dC dP)) (aN (aT gG)) bA)
  (aN (aT (cA zG (by rfl) Y (by kernel_rfl) (pa1 (pv 0))))))),?_⟩
 have zz:z.length<=sizeLine:=aJ (by lia);have J:z.cps.toList.length=z.length:=AL;have O:lU z=false->∀ H',aU H H'->Q .non H':=fun e H' s=>by
  have:=k H' s;unfold kQ at this;rw[e]at this;exact this
 refine⟨_,rfl,rfl,_,rfl,?_⟩;by_cases Z:z=""
 .rw[Ic (show V.str z=V.str "" by rw[Z])];refine bF ?_;exact O (by rw[Z];trivial) H (aU.refl H)
 have l1:1<=z.length:=by
  rcases Hk 0 z.length with h|h
  .exact h
  .refine absurd (iC ?_) Z;show z.cps.toList=("":Str).cps.toList;rw[A8 (by lia:z.cps.toList.length=0)];trivial
 obtain⟨c0,r0,ec⟩:∃ c0 r0,z.cps.toList=c0::r0:=by
  cases h:z.cps.toList with
  | nil=>rw[h]at J;simp at J;lia
  | cons a b=>exact⟨a,b,rfl⟩
 have eh:atI z.cps.toList 0=some c0:=bG (j:=0) (by rw[ec];rfl);have aj:(1<z.length)↔(c0=48->z≠"0")/\¬ (c0≠48/\r0=[])/\(c0≠48->1<z.length):=by
  rw[ec]at J;simp only[An]at J;constructor
  .intro h;refine⟨fun _ e=>?_,fun⟨_,e⟩=>?_,fun _=>h⟩
   .rw[e]at h;revert h;trivial
   .rw[e]at J;simp at J;lia
  .rintro⟨h1,_,h3⟩;by_cases g:c0=48
   .refine Nat.lt_of_not_le fun ax=>h1 g (iC ?_);rw[ec,lV,g,A8 (by lia:r0.length=0)]
   .exact h3 g
 rw[Ie (show¬ V.str z=V.str "" from fun h=>by injection h with h;exact Z h)];refine bQ ?_;refine⟨_,rfl,z,rfl,zz,_,_,rfl,rfl,_,rfl,?_⟩;by_cases l2:z.length<=60
 case neg=>
  rw[Ic (show(60:Int)<(z.length:Int) by lia)];refine bF ?_;exact O (by unfold lU;rw[Ie l2,A1];rfl) H (aU.refl H)
 rw[Ie (show¬ ((60:Int)<(z.length:Int)) by lia)];refine bQ ?_;have ef:lU z=(z.cps.toList.all iG&&!(decide (c0=48)&&decide (z≠"0"))):=by
  unfold lU;rw[Ic l1,Ic l2,ec,Ax,Ax];congr 3;rw[decide_eq_decide];exact⟨fun h=>by injection h,fun h=>by rw[h];rfl⟩
 have ae:decide (V.str ⟨#[c0]⟩=V.str "0")=decide (c0=48):=by
  rw[decide_eq_decide];constructor
  .intro h;injection h with h;have:(⟨#[c0]⟩:Str).cps.toList=("0":Str).cps.toList:=by rw[h]
   rw[lV]at this;injection this
  .intro h;rw[h];congr 1
 have aY:(c0=48->z="0")->aLJ (aLL (aBs (tOp (w5 K) (aGD [none] (aL5 (xY 0)) (bT 0) (aBs (tOp nZ (xY 0) (tC (V.str "0123456789")))) (xY 0)) (aLV aAw))) (aIW (tC V.non)) aJ2) (aIW (tCB aK4 (nG (xY 0) aAw))) { nx:=fun _ H'=>Q V.non H',rt:=Q } (L2.start ["_law_word"] [V.str z]) H:=fun ai=>by
  have af:lU z=z.cps.toList.all iG:=by
   rw[ef];by_cases g:c0=48
   .rw[Ie (show¬ z≠"0" from fun h=>h (ai g)),A1];exact FO _
   .rw[Ie g,Bq];exact FO _
  refine⟨_,rfl,z,rfl,?_⟩;refine rB (fun i ys σ H'=>H'=H/\ys=(((z.cps.toList.take i).filter fun c=>!iG c).map fun c=>V.str ⟨#[c]⟩)/\∃ o,σ=[o]) ⟨rfl,rfl,none,rfl⟩ zz (fun i ys σ H' p=>by rw[p.2.1,Ab];exact AH (List.length_filter_le _ _) (by rw[AJ];lia)) ?_ ?_
  .rintro i c ys σ H' hc ⟨rfl,rfl,o,rfl⟩;have W:z.cps.toList[i]?=some c:=by simpa using hc
   dsimp only[bT];refine⟨_,rfl,_,_,rfl,rfl,_,rfl,?_⟩;rw[PySem.StrLaws.found_one,aJO];refine dH (fun h2=>?_) (fun h2=>?_)
   .refine⟨_,rfl,rfl,?_,_,rfl⟩;rw[A0,W,Ey,Al];have:(!iG c)=true:=h2;simp[this]
   .refine⟨rfl,?_,_,rfl⟩;rw[A0,W,Ey,Al];have:(!iG c)=false:=by simpa using h2
    simp[this]
  .rintro ys σ H' ⟨rfl,rfl,o,rfl⟩ D hD;have ac:D6 z.cps.size z.cps.toList=z.cps.toList:=by rw[<- AL];exact Bh
   rw[ac];refine⟨A3 _,fun D2 ad=>?_⟩;have S1:=aM (o:=.lst ((z.cps.toList.filter fun c=>!iG c).map fun c=>V.str ⟨#[c]⟩)) hD;have S2:=aM (o:=.lst []) ad;refine⟨D,D2,_,rfl,rfl,aP (S2 _ _ aH),aP aH,_,rfl,?_⟩;have e:decide (0<((z.cps.toList.filter fun c=>!iG c).map fun c=>V.str ⟨#[c]⟩).length)=!lU z:=by
    rw[af,BR,decide_eq_true_iff,FE,FX,<- Ga,<- aH8]
   rw[e];cases eg:lU z with
   | false=>
    refine bF ?_;exact O eg _ (S1.trans S2)
   | true=>
    refine bQ ?_;obtain⟨en,e6⟩:=aEK eg;have kk:=k _ (S1.trans S2);unfold kQ at kk;rw[Ib eg]at kk;exact⟨_,rfl,cY ((aBa z:Nat):Int),aBa z,by rw[en],wY e6 (by decide) (by decide),by rw[en];lia,kk⟩
 refine⟨_,rfl,z,rfl,zz,_,_,rfl,rfl,_,rfl,?_⟩;by_cases l3:1<z.length
 .rw[Ic (show(1:Int)<(z.length:Int) by lia)];refine bF ?_;refine⟨_,rfl,z,0,c0,rfl,rfl,zz,eh,rfl,_,rfl,?_⟩;rw[ae];by_cases g:c0=48
  .rw[Ic g];refine bF ?_;exact O (by rw[ef,Ic g,Ic ((aj.mp l3).1 g)];exact A1 _) H (aU.refl H)
  .rw[Ie g];refine bQ ?_;exact aY fun h=>absurd h g
 .rw[Ie (show¬ ((1:Int)<(z.length:Int)) by lia)]
  iterate 2 refine bQ ?_
  refine aY fun h=>iC ?_;rw[ec]at J;simp only[An]at J;rw[ec,lV,h,A8 (by lia:r0.length=0)]
def aId{f:Ag}{fd:Ay}(F:Fn K "with_numbers" aDo f fd)(U:mg "tuple"=none)(O:mg "enumerate"=none)
  (GN:Cal P w K mg base 1 "number_of" ["word"] aCA)
  :cC P w K mg base CX0 2 f fd ["words","places"] (pK K):=by
 refine okA F ["words","places"] fun aj A outer s H vs Q E hr nd h=>?_;obtain⟨L,p,ws,ps,rfl,eL,eP,h60,hz,k⟩:=h;refine⟨_,(aN (aT (cA cK (by rfl) U (by kernel_rfl) (pa1 (eU (N:=["at","word","places"]) (src:=[none,none,some 1]) (osc:=bC aDo) (oN:=["words","places"]) (g:=aIY K 2 (vM (bT 0) (vM (bT 1) aIX))) bkA (aAO rfl O (pa1 (pv 0))) (fun cl s H fp dl C=>⟨pZ rfl (dN (bW (i:=0) (show(["at","word","places"]:List Str).Nodup by trivial) rfl (Bp rfl)) (dN (bW (i:=1) (show(["at","word","places"]:List Str).Nodup by trivial) rfl (Bp rfl)) lZ)),dJ,qM (eJ (r:=rIn K false) gB (pv 0) (pv 2) (by with_unfolding_all rfl)) (bO GN hr (pa1 (pv 1))) (pv 1)⟩)))))),?_⟩;have W:=jO ps ws;refine⟨_,rfl,L,_,rfl,eL,?_⟩;refine aFH (xs:=ws.map V.str) (fun i ys Y H'=>∃(Z o2:Option V),Y=[Z,o2,some (.ref p)]/\aU H H'/\ys=((wd ps ws).take i).map dV) ⟨none,none,rfl,aU.refl _,rfl⟩ (aJ (by rw[Ab];lia)) (fun i ys σ H' q=>by obtain⟨_,_,_,_,rfl⟩:=q;rw[Ab,AJ];lia) (fun i ys σ H' q=>by obtain⟨_,_,_,s,_⟩:=q;exact s _ _ eL) ?_ ?_
 .rintro i v t ys Y H1 hv ht ⟨Z,o2,rfl,s1,rfl⟩;rw[AF]at hv;obtain⟨z,hz1,rfl⟩:=BD.mp hv;have sT:=aM (o:=.tup [.int i,.str z]) ht;have eT:upd H1 t (.tup [.int i,.str z]) t=some (.tup [.int i,.str z]):=aH;generalize upd H1 t _=H2 at sT eT ⊢;have s2:=s1.trans sT;have tk:((wd ps ws).take (i+1)).map dV=((wd ps ws).take i).map dV++[dV (if (i:Int)∈ps then dS z else .str z)]:=by
   rw[A0,aIa hz1,Al];rfl
  refine⟨t,_,rfl,aV eT,rfl,_,_,rfl,_,_,rfl,rfl,bF ?_⟩;refine⟨_,rfl,_,rfl,p,_,rfl,.inr (aH9 eP s2),rfl,lF _,_,rfl,?_⟩;show if (if false=true then !inV (V.int i) (ps.map V.int) else inV (V.int i) (ps.map V.int))=true then _ else _
  rw[Ia Aq,aCB];by_cases J:(i:Int)∈ps
  .rw[Ic J];refine bF ⟨_,rfl,.mk z rfl (by have:=hz z (AG hz1);lia) fun H3 s3=>⟨_,_,rfl,s2.trans s3,?_⟩⟩;rw[tk,Ib J,mY]
  .rw[Ie J];refine bQ ⟨_,rfl,_,_,rfl,s2,?_⟩;rw[tk,Ia J];rfl
 rintro ys Y H1 ⟨Z,o2,rfl,s1,rfl⟩ D hD;rw[Ab,<- W,Bh];have sD:=aM (o:=.lst ((wd ps ws).map dV)) hD;refine⟨D,_,rfl,.inl ⟨aP aH,fun t ht=>?_⟩⟩;have st:=aM (o:=.tup ((wd ps ws).map dV)) ht;exact k t _ (s1.trans (sD.trans st)) aH
def vF{xs:List V}{v w:V}:atI (xs++[v,w]) (-2)=some v/\atI (xs++[v,w]) (-1)=some w:=by
 constructor
 .unfold atI ixN;rw[Ia (by lia),Ib (by simp;lia)];simp;rw[show(-2+((xs.length:Int)+2)).toNat=xs.length by lia];simp
 .unfold atI ixN;rw[Ia (by lia),Ib (by simp;lia)];simp;rw[show(-1+((xs.length:Int)+2)).toNat=xs.length+1 by lia];simp
def aEL(a b c:V)(ys:List V)(v w:V):gU ([a,b,c]++ys++[v,w]) (some 3) (some (-2))=ys:=by
 unfold gU HT.sIx;simp;rw[show(-2+((ys.length:Int)+2+1+1+1)).toNat-3=ys.length by lia];simp
def bV(w:Str):List Int:=if w="measure"\/w="view" then[4] else if w="breach" then[4,5,6] else[]
def bks(z:Str):Nat:=z.cps.toList.count 32
def aEM(x y:Str):bks (x++y)=bks x+bks y:=by
 unfold bks;show(x.cps++y.cps).toList.count 32=_;rw[Array.toList_append,List.count_append]
def pL(s:Str)(ys:List Str):Dy s ys=By s ys:=PySem.StrLaws.glued_eq_join s ys
theorem aCD(s:Str):∀ ys:List Str,bks (Dy s ys)<=(ys.map bks).sum+ys.length*bks s
 | []=>A3 _
 | [x]=>by
  show bks x<=bks x+0+1*bks s;lia
 | x::y::r=>by
  have J:=aCD s (y::r);rw[show Dy s (x::y::r)=x++s++Dy s (y::r) from by
   rw[pL,pL];rfl,aEM,aEM]
  rw[A6,Co,An,Nat.succ_mul];lia
def aBd{f:Str->Nat}{ys ws:List Str}(h:ys.Sublist ws):(ys.map f).sum<=(ws.map f).sum:=by
 induction h with
 | slnil=>exact Ap _
 | cons a _ J=>rw[A6,Co];lia
 | cons_cons a _ J=>rw[A6,A6,Co,Co];lia
structure Wg(n b:Nat)(ys:List Str):Prop where
 len:(ys.map (·.length)).sum+ys.length<=n
 bk:(ys.map bks).sum+ys.length<=b
def Wg.sub{n b:Nat}{ys ws:List Str}(h:Wg n b ws)(s:ys.Sublist ws):Wg n b ys:=by
 have h1:=aBd (f:=(·.length)) s
 have h2:=aBd (f:=bks) s;have J:=s.length_le;have:=h.len;have:=h.bk;exact⟨by lia,by lia⟩
def Wg.app{n b O J:Nat}{ys zs:List Str}(h:Wg n b ys)(h':Wg O J zs):Wg (n+O) (b+J) (ys++zs):=by
 have:=h.len;have:=h.bk;have:=h'.len;have:=h'.bk;constructor<;>rw[Al,List.sum_append,Am]<;>lia
def Wg.le{n b O J:Nat}{ys:List Str}(h:Wg n b ys)(h1:n<=O)(h2:b<=J):Wg O J ys:=⟨AH h.len h1,AH h.bk h2⟩
def Wg.one{z:Str}{n b:Nat}(h1:z.length<=n)(h2:bks z<=b):Wg (n+1) (b+1) [z]:=by
 exact⟨by show z.length+0+1<=_;lia,by show bks z+0+1<=_;lia⟩
def Wg.join{n b:Nat}{ys:List Str}(h:Wg n b ys):(Dy " " ys).length<=n/\bks (Dy " " ys)<=b:=by
 have h1:=Cy " " ys;rw[<- pL]at h1;have h2:=aCD " " ys;have e1:(" ":Str).length=1:=by trivial
 have e2:bks " "=1:=by trivial
 rw[e1,Hs]at h1;rw[e2,Hs]at h2;exact⟨AH h1 h.len,AH h2 h.bk⟩
def xT{z:Str}(h:32∉z.cps.toList):bks z=0:=List.count_eq_zero.mpr h
def qK:(" ":Str)=⟨#[32]⟩:=by trivial
theorem aAi(c:Nat):∀ l:List Nat,PyProof.Rows.cnt c l=((l.count c:Nat):Int)
 | []=>rfl
 | n::r=>by
  rw[PyProof.Rows.cnt_cons,aAi c r,List.count_cons];by_cases h:n=c
  .rw[Ib h,h,Ib (by simp)];lia
  .rw[Ia h,Ia (by simpa using h)];lia
def gQ(z:Str):(AA z " ").length=bks z+1:=by
 have h:=PyProof.Rows.split_len z 32;rw[<- qK,aAi]at h;unfold bks;lia
def aIe(z:Str):Wg (z.length+1) (bks z+1) (AA z " "):=by
 refine⟨Ef z " " (by trivial),?_⟩;rw[gQ];have:((AA z " ").map bks).sum=0:=by
  have key:∀ l:List Str,(∀ y∈l,bks y=0)->(l.map bks).sum=0:=fun l=>by
   induction l with
   | nil=>exact fun _=>rfl
   | cons a l O=>exact fun h=>by rw[A6,Co,h a (by simp),O fun y J=>h y (by simp[J])]
  refine key _ fun y J=>xT ?_;rw[qK]at J;exact C8 z 32 y J
 lia
def aBe(xs:List V)(a b:Nat):gU xs (some (a:Int)) (some (b:Int))=(xs.drop a).take (b-a):=by
 unfold gU;rw[HT.sIx_nat,HT.sIx_nat];by_cases h:a<=xs.length
 .rw[Fc h];by_cases h2:b<=xs.length
  .rw[Fc h2]
  .rw[Ge (by lia),Bi (by rw[B7];lia),Bi (by rw[B7];lia)]
 .rw[show min a xs.length=xs.length by lia,List.drop_of_length_le (Ap _),List.drop_of_length_le (by lia),GZ,GZ]
def nP(ws:List Str):Nat:=(ws.length-4+2)/3
def chk(ws:List Str)(i:Nat):Aj:=.tuple (wd [2] ((ws.drop (4+3*i)).take 3))
def tW(ws:List Str):Aj:=.tuple (wd [2] (ws.take 4)++[.tuple ((AY (nP ws)).map (chk ws))])
def aEN(a b c:Str)(R:List Str)(w:Str):Aj:=.tuple (wd [2] [a,b,c]++[.tuple (R.map Bj),.str w])
def mZ:List Str->Aj
 | a::b::c::r=>match r.reverse with
  | w::v::R=>if v="as" then aEN a b c R.reverse w else .none
  | _=>.none
 | _=>.none
def lW(a b c:Str)(R:List Str)(v w:Str):mZ ([a,b,c]++R++[v,w])=if v="as" then aEN a b c R w else .none:=by
 show(match (R++[v,w]).reverse with|w::v::R=>_|_=>_)=_;rw[List.reverse_append];show(if v="as" then aEN a b c R.reverse.reverse w else .none)=_;rw[Fh]
def xU{ws:List Str}(h:ws.length<5):mZ ws=.none:=by
 match ws,h with
 | [],_=>rfl
 | [_],_=>rfl
 | [_,_],_=>rfl
 | [_,_,_],_=>rfl
 | [_,_,_,_],_=>rfl
 | _::_::_::_::_::_,h=>simp at h;lia
def aLs{ws:List Str}(h:5<=ws.length):∃ a b c R v w,ws=[a,b,c]++R++[v,w]:=by
 match ws,h with
 | a::b::c::r,h=>
  have J:2<=r.length:=by simp at h;lia
  obtain⟨w,v,R,e⟩:∃ w v R,r.reverse=w::v::R:=by
   match hq:r.reverse with
   | []=>have:=congrArg EJ hq;rw[DC]at this;exact absurd this (by show r.length≠0;lia)
   | [_]=>have:=congrArg EJ hq;rw[DC]at this;exact absurd this (by show r.length≠1;lia)
   | w::v::R=>exact⟨w,v,R,rfl⟩
  refine⟨a,b,c,R.reverse,v,w,?_⟩;have:=congrArg List.reverse e;rw[Fh]at this;rw[this];simp
def eG(ws:List Str):Aj:=if ws.headD ""="part" then tW ws else if ws.headD ""="join" then mZ ws else if ws.headD ""∈cB then .tuple (wd (2::bV (ws.headD "")) ws) else .none
inductive aIf(D:List Str->Aj)(vs:List V)(H:Hp)(Q:VK)(E:XK):Prop
 | mk (L:Ag) (ws:List Str) (h0:vs=[.ref L]) (eL:H L=some (.lst (ws.map V.str))) (hl:ws.length<=400) (hz:∀ z∈ws,z.length<=1000) (q:∀(v:V) (H':Hp),aU H H'->RdV false H' v (D ws)->Q v H'):aIf D vs H Q E
def vG(D:List Str->Aj):Sp:=fun vs H Q E=>aIf D vs H Q E
inductive aKs(vs:List V)(H:Hp)(Q:VK)(E:XK):Prop
 | mk (z:Str) (h0:vs=[.str z]) (hz:z.length<=1000) (hl:(AA z " ").length<=400) (qy:fJ (eG (AA z " "))=true->∀(t:Ag) (H':Hp),aU H H'->RdV false H' (.ref t) (eG (AA z " "))->Q (.ref t) H') (qn:fJ (eG (AA z " "))=false->∀ H',aU H H'->Q .non H'):aKs vs H Q E
def aBf:Sp:=fun vs H Q E=>aKs vs H Q E
def aIg{d:Aj}(h:fJ d=true):∃ ds,d=.tuple ds:=by
 cases d with
 | tuple ds=>exact⟨ds,rfl⟩
 | _=>exact absurd h (by simp[fJ])
def aBg{H:Hp}{R:List Str}(h:∀ z∈R,z.length<=1000):dB false H (R.map V.str) (R.map Bj):=by
 induction R with
 | nil=>exact .nil
 | cons z R J=>exact .cons (.str z (h z AQ)) (J fun y O=>h y (AN _ O))
def nA(z:Str):∀ w∈AA z " ",w.length<=z.length:=fun w hw=>by
 have:=Ef z " " (by trivial);have h2:∀(l:List Str),w∈l->w.length<=(l.map (·.length)).sum:=fun l=>by
  induction l with
  | nil=>exact fun h=>by cases h
  | cons a l J=>
   intro h;rw[A6,Co];rcases Ao.mp h with rfl|h
   .omega
   .have:=J h;lia
 have U:=h2 _ hw;have O:1<=(AA z " ").length:=List.length_pos_of_mem hw;lia
def nmV(n0 n1 n2 n3 n4 n5:Ag):List (Key×V):=[(Ak "forfeit",.ref n0),(Ak "measure",.ref n1),(Ak "mend",.ref n2),(Ak "alone",.ref n3),(Ak "breach",.ref n4),(Ak "view",.ref n5)]
def nmR(n0 n1 n2 n3 n4 n5:Ag):List (Key×Ac):=[(Ak "forfeit",.ref n0),(Ak "measure",.ref n1),(Ak "mend",.ref n2),(Ak "alone",.ref n3),(Ak "breach",.ref n4),(Ak "view",.ref n5)]
def aLt(Z W Y U J O:Ag):KV (nmV Z W Y U J O) (nmR Z W Y U J O):=.cons ⟨rfl,rfl⟩ (.cons ⟨rfl,rfl⟩ (.cons ⟨rfl,rfl⟩ (.cons ⟨rfl,rfl⟩ (.cons ⟨rfl,rfl⟩ (.cons ⟨rfl,rfl⟩ (.nil))))))
def aJP{P:Ar}{w:AW}{K:Ae}{a:Ag}{e:Nat}{x0 x1 x2 x3 x4 x5:Tok}{U O Z J n4 Y:Ag}(l:K.lookup a=some { cls:=.type "dict",data:=.dict #[⟨AD w.params "forfeit",.str "forfeit" x0,.ref U⟩,⟨AD w.params "measure",.str "measure" x1,.ref O⟩,⟨AD w.params "mend",.str "mend" x2,.ref Z⟩,⟨AD w.params "alone",.str "alone" x3,.ref J⟩,⟨AD w.params "breach",.str "breach" x4,.ref n4⟩,⟨AD w.params "view",.str "view" x5,.ref Y⟩] e }):∀ h:Bb,K.In h->h.DictOf (cV P w) a (nmR U O Z J n4 Y):=by
 intro h hK;refine⟨_,_,_,hK _ _ l,⟨rfl,rfl,rfl⟩,rfl,?_,?_,?_⟩
 .intro en W;simp only[F4,Ao,AB,or_false]at W;rcases W with rfl|rfl|rfl|rfl|rfl|rfl
  .exact⟨Ak "forfeit",isS "forfeit" x0,dE w "forfeit"⟩
  .exact⟨Ak "measure",isS "measure" x1,dE w "measure"⟩
  .exact⟨Ak "mend",isS "mend" x2,dE w "mend"⟩
  .exact⟨Ak "alone",isS "alone" x3,dE w "alone"⟩
  .exact⟨Ak "breach",isS "breach" x4,dE w "breach"⟩
  .exact⟨Ak "view",isS "view" x5,dE w "view"⟩
 .exact .cons (isS "forfeit" x0) rfl (.cons (isS "measure" x1) rfl (.cons (isS "mend" x2) rfl (.cons (isS "alone" x3) rfl (.cons (isS "breach" x4) rfl (.cons (isS "view" x5) rfl (.nil))))))
 .show([Ak "forfeit",Ak "measure",Ak "mend",Ak "alone",Ak "breach",Ak "view"]:List Key).Nodup;trivial
def jE{K:Ae}{a:Ag}{its:Array Ac}{n:Nat}{xs:List V}(l:K.lookup a=some { cls:=.type "tuple",data:=.seq its n })(hz:its.size<=3)(r:cE xs its.toList):∀ H:Hp,SqT K H a xs:=fun _=>.inr ⟨_,its,n,l,rfl,rfl,aJ (by lia),r⟩
def aMB{K:Ae}{U O n2 J n4 W:Ag}{e0:Nat}{e1:Nat}{e2:Nat}{e3:Nat}{e4:Nat}{e5:Nat}{ad af aa ag Y:Tok}(l0:K.lookup U=some { cls:=.type "tuple",data:=.seq #[] e0 })(l1:K.lookup O=some { cls:=.type "tuple",data:=.seq #[.int 4 ad] e1 })(l2:K.lookup n2=some { cls:=.type "tuple",data:=.seq #[] e2 })(l3:K.lookup J=some { cls:=.type "tuple",data:=.seq #[] e3 })(l4:K.lookup n4=some { cls:=.type "tuple",data:=.seq #[.int 4 af,.int 5 aa,.int 6 ag] e4 })(l5:K.lookup W=some { cls:=.type "tuple",data:=.seq #[.int 4 Y] e5 }):∀ kind∈cB,kind≠"part"->kind≠"join"->∃ a:Ag,gY (nmV U O n2 J n4 W) (Ak kind)=some (.ref a)/\∀ H:Hp,SqT K H a ((bV kind).map V.int):=by
 intro kind Z h1 h2;unfold cB at Z;simp only[Ao,AB,or_false]at Z;rcases Z with rfl|rfl|rfl|rfl|rfl|rfl|rfl|rfl
 .exact absurd rfl h1
 .exact absurd rfl h2
 .exact⟨U,by rfl,by rw[show bV "forfeit"=[] by trivial];exact jE l0 (by simp) (.nil)⟩
 .exact⟨O,by rfl,by rw[show bV "measure"=[4] by trivial];exact jE l1 (by simp) (.cons ⟨_,rfl⟩ (.nil))⟩
 .exact⟨n2,by rfl,by rw[show bV "mend"=[] by trivial];exact jE l2 (by simp) (.nil)⟩
 .exact⟨J,by rfl,by rw[show bV "alone"=[] by trivial];exact jE l3 (by simp) (.nil)⟩
 .exact⟨n4,by rfl,by rw[show bV "breach"=[4,5,6] by trivial];exact jE l4 (by simp) (.cons ⟨_,rfl⟩ (.cons ⟨_,rfl⟩ (.cons ⟨_,rfl⟩ (.nil))))⟩
 .exact⟨W,by rfl,by rw[show bV "view"=[4] by trivial];exact jE l5 (by simp) (.cons ⟨_,rfl⟩ (.nil))⟩
def aMC{n0 Y Z W J O:Ag}{kind:Str}(h:kind∉cB):gY (nmV n0 Y Z W J O) (Ak kind)=none:=by
 unfold nmV;have ne:∀{x:Str},x∈cB->¬ (Ak x:Key)=Ak kind:=fun U e=>h (by injection e with e;rw[<- e];exact U);rw[cR (ne (by decide)),cR (ne (by decide)),cR (ne (by decide)),cR (ne (by decide)),cR (ne (by decide)),cR (ne (by decide))];rfl
def aIh{f:Ag}{fd:Ay}(F:Fn K "part_of" aAU f fd)(ae:mg "tuple"=none)(aa:mg "len"=none)(ad:mg "range"=none)
  (GW:Cal P w K mg base 2 "with_numbers" ["words","places"] (pK K))
  :cC P w K mg base CX0 3 f fd ["words"] (vG tW):=by
 refine okA F ["words","parts"] fun aB A outer s H vs Q E hr nd h=>?_;obtain⟨L,ws,rfl,eL,h60,hz,k⟩:=h;have hm:∀ n:Nat,n<=400->EV 4 (n:Int) 3=true/\(((n-4+2)/3:Nat):Int)=CM 4 (n:Int) 3/\Ed ((n:Int)-4) 3=false:=by trivial
 have⟨hsm,hsz,hpl⟩:=hm ws.length h60;refine⟨_,(aK (gL (i:=1) (N:=["at","words"]) (src:=[none,some 0]) (osc:=bC aAU) (oN:=["words","parts"]) bkA nd rfl (zI (lo:=4) (hi:=(ws.length:Int)) (st:=3) (n:=nP ws) (by decide) hsm hsz hpl rfl ad (pa3 aD (aQ aS (by rfl) aa Av (pa1 (pv 0))) aD)) (fun cl s H fp dl C=>⟨bW (i:=0) (show(["at","words"]:List Str).Nodup by trivial) rfl (Bp rfl),dJ,bO GW hr (pa2 (cN (r:=aL0 K) fV (pv 1) (cM (pv 0)) (cM (aW dF (pv 0) aD))) (cH (pa1 aD)))⟩))
  (aN (aT (aW rG (bO GW hr (pa2 (cN fV (pv 0) dU (cM aD)) (cH (pa1 aD)))) (cH (pa1 (cA cK (by rfl) ae (by kernel_rfl) (pa1 (pv 1))))))))),?_⟩
 have hP:nP ws<=400:=by unfold nP;lia
 refine⟨_,rfl,L,_,rfl,.inl (aP eL),by rw[Ab],?_⟩;refine aB1 (n:=nP ws) (fun i ys σ' H'=>∃(o:Option V),Aw3 (σ'=[o,some (.ref L)]) (aU H H') (ys.length=i/\dB false H' ys ((AY i).map (chk ws)))) ⟨none,rfl,aU.refl _,rfl,.nil⟩ (aJ (by lia)) (fun i ys σ H' q=>by obtain⟨_,_,_,e,_⟩:=q;lia) ?_ ?_
 .rintro i ys σ' H1 hi ⟨o,rfl,s1,ah,ry⟩;dsimp only[bT];refine bF ?_;refine⟨_,rfl,_,rfl,_,rfl,_,rfl,_,_,rfl,rfl,_,rfl,L,_,rfl,aP (s1 _ _ eL),fun C hC=>?_⟩;have ec:gU (ws.map V.str) (some (4+(i:Int)*3)) (some (4+(i:Int)*3+3))=((ws.drop (4+3*i)).take 3).map V.str:=by
   rw[show(4+(i:Int)*3)=((4+3*i:Nat):Int) by lia,show(((4+3*i:Nat):Int)+3)=((4+3*i+3:Nat):Int) by lia,aBe,<- DG,<- CZ,show 4+3*i+3-(4+3*i)=3 by lia]
  rw[ec]at *;have sC:=aM (o:=.lst (((ws.drop (4+3*i)).take 3).map V.str)) hC;have eC:upd H1 C (.lst (((ws.drop (4+3*i)).take 3).map V.str)) C=some (.lst (((ws.drop (4+3*i)).take 3).map V.str)):=aH;generalize upd H1 C _=H2 at sC eC ⊢;refine⟨zZ1,fun q hq=>?_⟩;have W:=aM (o:=.tup [V.int 2]) hq;have hc:∀ z∈(ws.drop (4+3*i)).take 3,z.length<=1000:=fun z h=>hz z (List.mem_of_mem_drop (Dv h));refine .mk C q ((ws.drop (4+3*i)).take 3) [2] rfl (W _ _ eC) (aV aH) (by rw[AJ];lia) hc fun t H3 s3 e3=>?_;have Y:=sC.trans (W.trans s3);refine⟨_,rfl,s1.trans Y,by rw[Am,ah];rfl,?_⟩;rw[Ek,Al];exact(ry.same Y).app (.cons (.tup e3 (by rw[Ab,jO,AJ];lia) (aAh hc)) .nil)
 rintro ys σ' H1 ⟨o,rfl,s1,ah,ry⟩ D hD;have sD:=aM (o:=.lst ys) hD;have eD:upd H1 D (.lst ys) D=some (.lst ys):=aH;generalize upd H1 D _=H2 at sD eD ⊢;have s2:=s1.trans sD;dsimp only[bT];refine⟨_,rfl,4,rfl,L,_,rfl,aP (s2 _ _ eL),fun C hC=>?_⟩;have ec:gU (ws.map V.str) none (some 4)=(ws.take 4).map V.str:=by rw[<- CZ.symm];exact oK (α:=Nat) (ws.map V.str) 4
 rw[ec];have sC:=aM (o:=.lst ((ws.take 4).map V.str)) hC;have eC:upd H2 C (.lst ((ws.take 4).map V.str)) C=some (.lst ((ws.take 4).map V.str)):=aH;generalize upd H2 C _=H3 at sC eC ⊢;refine⟨zZ1,fun q hq=>?_⟩;have W:=aM (o:=.tup [V.int 2]) hq;have hc:∀ z∈ws.take 4,z.length<=1000:=fun z h=>hz z (Dv h);refine .mk C q (ws.take 4) [2] rfl (W _ _ eC) (aV aH) (by rw[AJ];lia) hc fun t1 H4 s4 e4=>?_;generalize upd H3 q _=aC at W s4;have U:=sC.trans (W.trans s4);refine⟨_,rfl,D,ys,rfl,.inl ⟨aP (U _ _ eD),fun tp au=>⟨zZ1,fun t2 ag=>?_⟩⟩⟩;have O:=aM (o:=.tup ys) au;have aj:upd H4 tp (.tup ys) tp=some (.tup ys):=aH;generalize upd H4 tp _=H5 at O aj ag ⊢;have J:=aM (o:=.tup [V.ref tp]) ag;have l4:((wd [2] (ws.take 4)).map dV).length<=4:=by rw[Ab,jO,AJ];lia
 refine⟨t1,t2,_,_,rfl,rfl,(O.trans J) _ _ e4,aH,by show _+1<=1000000;lia,fun t H6 s6 e6=>?_⟩;generalize upd H5 t2 _=aE at J s6;have Z:=J.trans s6;have af:=O.trans Z;refine k (.ref t) _ (s2.trans (U.trans af)) ?_;exact .tup e6 (by rw[Am];show _+1<=1000;lia) ((aAh hc).app (.cons (.tup (Z _ _ aj) (by lia) (ry.same ((sD.trans U).trans af))) .nil))
def aIi{f:Ag}{fd:Ay}(F:Fn K "join_of" aEm f fd)(U:mg "tuple"=none)(Z:mg "len"=none)
  (GW:Cal P w K mg base 2 "with_numbers" ["words","places"] (pK K))
  :cC P w K mg base CX0 3 f fd ["words"] (vG mZ):=by
 refine okA F ["words"] fun aB A outer s H vs Q E hr nd h=>?_;obtain⟨L,ws,rfl,eL,h60,hz,k⟩:=h;refine⟨_,(aK (bX (PW.pt (dL (cT yJ (aQ aS (by rfl) Z Av (pa1 (pv 0))) aD) (dW (cT nF (aX bJ (pv 0) (pR kM aD) Ih) aO)))) (aN (aT gG)) bA)
  (aN (aT (aW rG (bO GW hr (pa2 (cN fV (pv 0) dU (cM aD)) (cH (pa1 aD)))) (cH (pa2 (cA cK (by rfl) U (by kernel_rfl) (pa1 (cN fV (pv 0) (cM aD) (cM (pR kM aD))))) (aX bJ (pv 0) (pR kM aD) Ih))))))),?_⟩
 refine⟨_,rfl,L,_,rfl,.inl (aP eL),_,_,rfl,rfl,_,rfl,?_⟩;by_cases h5:ws.length<5
 .rw[Ic (show(((ws.map V.str).length:Nat):Int)<5 by rw[Ab];lia)]
  iterate 2 refine bF ?_
  refine k .non H (aU.refl _) ?_;rw[xU h5];exact .non
 rw[Ie (show¬ (((ws.map V.str).length:Nat):Int)<5 by rw[Ab];lia)];refine bQ ?_;obtain⟨a,b,c,R,v,w',rfl⟩:=aLs (ws:=ws) (by lia);rw[lW]at k;have eW:([a,b,c]++R++[v,w']).map V.str=[V.str a,.str b,.str c]++R.map V.str++[.str v,.str w']:=by rw[Al,Al];rfl
 rw[eW]at eL;refine⟨_,rfl,2,rfl,L,_,-2,_,rfl,rfl,aP eL,vF.1,rfl,_,rfl,?_⟩;by_cases hv:v="as"
 case neg=>
  rw[Ie (show¬ V.str v=V.str "as" from fun e=>by injection e with e;exact hv e)];refine bF ?_;refine k .non H (aU.refl _) ?_;rw[Ia hv];exact .non
 rw[Ic (show V.str v=V.str "as" by rw[hv])];rw[Ib hv]at k;refine bQ ?_;have hR:∀ z∈R,z.length<=1000:=fun z h=>hz z (by simp[h]);have ak:R.length<=400:=by simp at h60;lia
 refine⟨_,rfl,3,rfl,L,_,rfl,aP eL,fun C hC=>?_⟩;have ec:gU ([V.str a,.str b,.str c]++R.map V.str++[.str v,.str w']) none (some 3)=([a,b,c]:List Str).map V.str:=oK (α:=Nat) ([V.str a,.str b,.str c]++R.map V.str++[.str v,.str w']) 3;rw[ec];have sC:=aM (o:=.lst (([a,b,c]:List Str).map V.str)) hC;have eC:upd H C (.lst (([a,b,c]:List Str).map V.str)) C=some (.lst (([a,b,c]:List Str).map V.str)):=aH;generalize upd H C _=H3 at sC eC ⊢;refine⟨zZ1,fun q hq=>?_⟩;have sq:=aM (o:=.tup [V.int 2]) hq;have hc:∀ z∈[a,b,c],z.length<=1000:=fun z h=>hz z (Cs _ (Cs _ h));refine .mk C q [a,b,c] [2] rfl (sq _ _ eC) (aV aH) (by show 3<=400;decide) hc fun t1 H4 s4 e4=>?_;generalize upd H3 q _=az at sq s4;have O:=sC.trans (sq.trans s4);refine⟨_,rfl,3,rfl,2,rfl,-2,rfl,L,_,rfl,aP (O _ _ eL),fun M hM=>?_⟩;rw[aEL];have sM:=aM (o:=.lst (R.map V.str)) hM;refine⟨M,_,rfl,.inl ⟨aP aH,fun tp ag=>?_⟩⟩;have af:=aM (o:=.tup (R.map V.str)) ag;have s5:=sM.trans af;have Y:upd (upd H4 M (.lst (R.map V.str))) tp (.tup (R.map V.str)) tp=some (.tup (R.map V.str)):=aH;generalize upd (upd H4 M (.lst (R.map V.str))) tp _=H5 at s5 Y ⊢;refine⟨_,rfl,1,rfl,L,_,-1,_,rfl,rfl,aP ((O.trans s5) _ _ eL),vF.2,zZ2,fun t2 ae=>?_⟩;have J:=aM (o:=.tup [V.ref tp,.str w']) ae;refine⟨t1,t2,_,_,rfl,rfl,(s5.trans J) _ _ e4,aH,by show 3+2<=1000000;decide,fun t H6 s6 e6=>?_⟩;generalize upd H5 t2 _=am at J s6;have W:=J.trans s6;refine k (.ref t) _ (O.trans (s5.trans W)) ?_;exact .tup e6 (by show 5<=1000;decide) ((aAh hc).app (.cons (.tup (W _ _ Y) (by rw[Ab];lia) (aBg hR)) (.cons (.str _ (hz w' (by simp))) .nil)))
def aJQ{f:Ag}{fd:Ay}(F:Fn K "row_in" aHo f fd){na:Ag}{ah:List (Key×Ac)}{U:List (Key×V)}(an:∀ h:Bb,K.In h->h.DictOf (cV P w) na ah)(Y:KV U ah)(au:(na==sysModules)=false)(ak:mg "NUMBERS"=some (.ref na))(aw:∀ kind∈cB,kind≠"part"->kind≠"join"->∃ a:Ag,gY U (Ak kind)=some (.ref a)/\∀ H:Hp,SqT K H a ((bV kind).map V.int))(ar:∀ kind,kind∉cB->gY U (Ak kind)=none)
  (ax:Cal P w K mg base 3 "part_of" ["words"] (vG tW))
  (GI:Cal P w K mg base 7 "is_row" ["thing"] vB)
  (av:Cal P w K mg base 3 "join_of" ["words"] (vG mZ))
  (GW:Cal P w K mg base 2 "with_numbers" ["words","places"] (pK K))
  :cC P w K mg base CX0 8 f fd ["line"] aBf:=by
 refine okA F ["line","words","row"] fun aI A outer s H vs Q E hr nd h=>?_;obtain⟨z,rfl,hz,h60,ky,kn⟩:=h;refine⟨_,(aK (cF 1 nd (eV A9 BM BL iD (pv 0) (pa1 aO)))
  (aK (cF 2 nd gG)
  (aK (gW (bX (cT cP (aX bJ (pv 1) aD Ih) aO) (aN (cF 2 nd (bO ax hr (pa1 (pv 1))))) (aN (gW (bX (cT cP (aX bJ (pv 1) aD Ih) aO) (aN (cF 2 nd (bO av hr (pa1 (pv 1))))) (aN (gW (bX (eJ (aK6 an Y au) (aX bJ (pv 1) aD Ih) (cG (v:=.ref na) (by rfl) ak rfl) (by with_unfolding_all rfl)) (aN (cF 2 nd (bO GW hr (pa2 (pv 1) (aW aDU (cH (pa1 aD)) (aAJ an Y (by rfl) ak (aX bJ (pv 1) aD Ih) Ih)))))) bA))))))))
  (aN (aT (qM (cJ (bO GI hr (pa1 (pv 2)))) (pv 2) gG)))))),?_⟩
 refine⟨_,rfl,rfl,⟨_,_,rfl,rfl,by decide,aJ (n:=z.length+2) (by lia),fun L hL=>?_⟩⟩;have O:∀ w∈AA z " ",w.length<=1000:=fun w hw=>AH (nA z w hw) hz;have aa:(AA z " ")≠[]:=fun e=>by have:=gQ z;rw[e]at this;cases this
 generalize AA z " "=ws at O aa h60 ky kn hL ⊢;obtain⟨J,aY,rfl⟩:∃ J aY,ws=J::aY:=by
  cases ws with
  | nil=>exact absurd rfl aa
  | cons a b=>exact⟨a,b,rfl⟩
 have eD:eG (J::aY)=if J="part" then tW (J::aY) else if J="join" then mZ (J::aY) else if J∈cB then .tuple (wd (2::bV J) (J::aY)) else .none:=rfl
 have sL:=aM (o:=.lst ((J::aY).map V.str)) hL;have Z:upd H L (.lst ((J::aY).map V.str)) L=some (.lst ((J::aY).map V.str)):=aH;generalize upd H L _=H1 at sL Z ⊢;have e0:atI ((J::aY).map V.str) 0=some (.str J):=bG (j:=0) rfl;dsimp only[bT];refine⟨fun σ' H'=>∃(v:V),σ'=[some (.str z),some (.ref L),some v]/\aU H H'/\RdV false H' v (eG (J::aY)),?_,?_⟩
 .refine⟨_,rfl,L,_,0,_,rfl,rfl,aP Z,e0,rfl,_,rfl,dH (fun g=>?_) fun g=>?_⟩
  .have hp:J="part":=V.str.inj (Ig g);exact⟨_,rfl,.mk L _ rfl Z h60 O fun v H2 s2 rd=>⟨v,rfl,sL.trans s2,by rw[eD,Ib hp];exact rd⟩⟩
  have W:J≠"part":=fun e=>g (by rw[e];rfl);refine⟨_,?_,fun _ _ h=>h⟩;refine⟨_,rfl,L,_,0,_,rfl,rfl,aP Z,e0,rfl,_,rfl,dH (fun g=>?_) fun g=>?_⟩
  .have hp:J="join":=V.str.inj (Ig g);exact⟨_,rfl,.mk L _ rfl Z h60 O fun v H2 s2 rd=>⟨v,rfl,sL.trans s2,by rw[eD,Ia W,Ib hp];exact rd⟩⟩
  have af:J≠"join":=fun e=>g (by rw[e];rfl);refine⟨_,?_,fun _ _ h=>h⟩;refine⟨_,rfl,L,_,0,_,rfl,rfl,aP Z,e0,Ak J,rfl,rfl,_,rfl,?_⟩;by_cases h8:J∈cB
  case neg=>
   rw[ar J h8];refine bQ ?_;exact⟨.non,rfl,sL,by rw[eD,Ia W,Ia af,Ia h8];exact .non⟩
  have⟨a,hva,hsq⟩:=aw J h8 W af;rw[hva];refine bF ?_;refine⟨_,rfl,zZ1,fun q hq=>?_⟩;have sq:=aM (o:=.tup [V.int 2]) hq;have ad:upd H1 q (.tup [V.int 2]) q=some (.tup [V.int 2]):=aH;generalize upd H1 q _=H2 at sq ad ⊢;have am:∀(p:Ag) (H3:Hp),aU H2 H3->SqT K H3 p ((2::bV J).map V.int)->(pK K) [.ref L,.ref p] H3 (fun v H'=>∃(v':V),[some (V.str z),some (.ref L),some v]=[some (.str z),some (.ref L),some v']/\aU H H'/\RdV false H' v' (eG (J::aY))) E0:=fun p H3 s3 hp=>by
   refine .mk L p _ _ rfl ((sq.trans s3) _ _ Z) hp h60 O fun t H4 s4 e4=>⟨.ref t,rfl,sL.trans ((sq.trans s3).trans s4),?_⟩
   rw[eD,Ia W,Ia af,Ib h8];exact .tup e4 (by rw[Ab,jO];lia) (aAh O)
  refine⟨_,rfl,L,_,0,_,rfl,rfl,aP (sq _ _ Z),e0,Ak J,.ref a,rfl,hva,q,a,_,_,rfl,rfl,aV ad,hsq _,by simp,aJ (by rw[Ab];unfold bV;split;decide;split<;>decide),fun e=>?_,fun _ p hp=>?_⟩
  .refine am q H2 (aU.refl _) ?_;have:(2::bV J).map V.int=[V.int 2]:=by rw[A6,e]
   rw[this];exact aV ad
  .exact am p _ (aM hp) (aV aH)
 rintro σ' H2 ⟨v,rfl,s2,rd⟩;refine⟨_,rfl,false,v,_,rfl,rd,fun H3 s3=>⟨_,rfl,?_⟩⟩;cases hd:fJ (eG (J::aY))with
 | true=>
  refine bF ⟨_,rfl,?_⟩;obtain⟨ds,e⟩:=aIg hd;have ky:=ky hd;have aj:=rd.same s3;rw[e]at aj ky;cases aj with
  | tup ea hl r=>exact ky _ H3 (s2.trans s3) (.tup ea hl r)
 | false=>exact bQ (kn hd H3 (s2.trans s3))
def aJR(c:Nat):decide (c∈(Be "abcdefghijklmnopqrstuvwxyz").cps.toList)=isL c:=by
 have e:(Be "abcdefghijklmnopqrstuvwxyz").cps.toList=EI 97 26:=by trivial
 unfold isL;rw[e,decide_eq_decide,List.mem_range'_1];lia
def aIj(l:List V):wD l []=decide (l=[]):=by
 cases l with
 | nil=>rfl
 | cons x r=>rw[rA (by simp)];rfl
def vH{ds:List Aj}(h:ds.length<4):fJ (.tuple ds)=false:=by
 match ds,h with
 | [],_=>rfl
 | [d],_=>cases d<;>rfl
 | [d,_],_=>cases d<;>rfl
 | [d,a,b],_=>
  cases d with
  | str kind=>
   show(decide (kind∈cB)&&(bD a&&(bZ 0 9999 b&&dX kind [])))=false;have:dX kind []=false:=by
    unfold dX
    repeat' split
    all_goals rfl
   rw[this,A1,A1,A1]
  | _=>rfl
def aJS{kind:Str}{ds:List Aj}(h:ds.length≠2)(h1:kind≠"alone")(h2:kind≠"breach")(J:kind≠"view")(hw:kind∈cB):dX kind ds=false:=by
 unfold dX;split
 .exact aCu h
 split
 .exact aCv h
 split
 .unfold gM;rw[Ie h];rfl
 split
 .exact uF h
 split
 .exact rY fun z=>h z.1
 rename_i a b c d e;simp[cB,a,b,c,d,e,h1,h2,J]at hw
def xV(at':Bool)(d:Aj):Bool:=if at'=true then uG d else oV d
inductive aCE(fN fP:Ag)(vs:List V)(H:Hp)(Q:VK)(u3_:XK):Prop
 | mk (m:Bool) (x:V) (d:Aj) (at':Bool) (q0:vs=[x,.ref (if at'=true then fP else fN),.bl at']) (q1:RdV m H x d) (q2:∀ H',aU H H'->Q (.bl (xV at' d)) H'):aCE fN fP vs H Q u3_
def aIk(fN fP:Ag):Sp:=fun vs H Q u3_=>aCE fN fP vs H Q u3_
inductive aEO(vs:List V)(H:Hp)(Q:VK):Prop
 | mk (m:Bool) (x:V) (kind:Str) (d2 d3 d4 d5 d6:Aj) (r:List Aj) (h0:vs=[x]) (rd:RdV m H x (.tuple (.str kind::d2::d3::d4::d5::d6::r))) (q:∀ H',aU H H'->Q (.bl (if kind="view" then lP (d4::d5::d6::r) else gP (d4::d5::d6::r))) H'):aEO vs H Q
def aCF:Sp:=fun vs H Q _=>aEO vs H Q
def aEP{at':Bool}{ds:List Aj}(h:¬ (2<=ds.length/\ds.length<=6)):xV at' (.tuple ds)=false:=by
 unfold xV;split
 .show(ds.all eY&&decide (2<=ds.length/\ds.length<=6)&&_)=false;rw[Ie h,A1,Bq]
 .show(ds.all bD&&decide (2<=ds.length/\ds.length<=6)&&_)=false;rw[Ie h,A1,Bq]
def aIl(at':Bool)(d:Aj):Bool:=if at'=true then eY d else bD d
def yG(at':Bool)(d:Aj):Str:=if at'=true then dM d else aA3 d
def aBh{at':Bool}{ds:List Aj}:xV at' (.tuple ds)=(ds.all (aIl at')&&decide (2<=ds.length/\ds.length<=6)&&fG (ds.map (yG at'))):=by
 cases at'<;>rfl
def pM{x:V}{lo j n:Int}(h:(10:Int)^j.toNat=n):[x,V.int lo,(fun i j=>V.int (i^j.toNat)) 10 j]++[]=[x,V.int lo,V.int n]:=by
 show[x,V.int lo,V.int ((10:Int)^j.toNat)]=_;rw[h]
def aIm{x:V}{lo j n:Int}(h:(10:Int)^j.toNat-1=n):[x,V.int lo,V.int ((10:Int)^j.toNat-1)]++[]=[x,V.int lo,V.int n]:=by
 rw[h];rfl
def aIn{p:Aj->Bool}{ds:List Aj}{i:Nat}{d:Aj}(h:ds[i]?=some d)(J:p d=false):ds.all p=false:=by
 cases e:ds.all p with
 | false=>rfl
 | true=>rw[AR.mp e d (AG h)]at J;cases J
def aIo{f:Ag}{fd:Ay}(F:Fn K "_law_is_name" rX f fd)(T:Txt K mg):cC P w K mg base CX0 1 f fd ["_law_thing"] mU:=by
 refine okA F ["_law_thing"] fun af A outer s H vs Q E hr nd h=>?_;obtain⟨m,x,d,rfl,hx,k⟩:=h;have hu:=qV hr;have ae:(A.deeper (Dl "_law_is_name" (bC rX) s.heap.objs.size f af)).units<cLine:=by lia
 refine⟨_,aK (bX (PW.pt (dL (cO (cJ (aQ cS (by rfl) T.isi (by kernel_rfl) (pa2 (pv 0) (fF (v:=.ty "str") (by rfl) T.str (by kernel_rfl) rfl)))))
   (dL (cT cP (aQ eQ (by rfl) T.len Av (pa1 (pv 0))) aD) (dW (cT nY (aQ eQ (by rfl) T.len Av (pa1 (pv 0))) aD))))) (aN (aT eZ)) bA)
  (aN (aT (dO (aAH ae) (eU (N:=["_law_sign"]) (src:=[none]) (osc:=bC rX) (oN:=["_law_thing"]) bkA (aAG (pv 0))
   fun cl s H fp dl C=>⟨bW (i:=0) (show(["_law_sign"]:List Str).Nodup by trivial) rfl (Bp rfl),aDY (eJ aAA (pv 0) aO (by with_unfolding_all rfl)),pv 0⟩) (dC dP) (fA _)))),?_⟩
 refine⟨_,rfl,_,"str",_,_,rfl,iT hx,hU d,_,rfl,?_⟩;cases hd:oR d with
 | false=>
  have e:bD d=false:=by
   cases d with
   | str z=>simp[oR]at hd
   | _=>rfl
  rw[e]at k;exact k H (aU.refl H)
 | true=>
  obtain⟨z,rfl⟩:∃ z,d=.str z:=by
   cases d with
   | str z=>exact⟨z,rfl⟩
   | _=>simp[oR]at hd
  cases hx with
  | str z hz=>
   have k':∀ H',aU H H'->Q (.bl (bH z)) H':=k;have U:bH z=false->Q (.bl false) H:=fun h=>by
    have:=k' H (aU.refl H);rw[h]at this;exact this
   have zz:z.length<=sizeLine:=aJ (by lia);refine bQ ?_;refine⟨_,rfl,z,rfl,zz,rfl,_,rfl,dH (fun h0=>?_) (fun h0=>?_)⟩
   .have Z:(V.int (z.length:Int))=V.int 0:=Ig h0;have O:(z.length:Int)=0:=by injection Z
    refine U ?_;unfold bH;rw[Ie (by lia)];rfl
   .have O:¬ (z.length:Int)=0:=fun e=>h0 (Ic (by rw[e]));refine⟨_,rfl,z,rfl,zz,_,_,rfl,rfl,_,rfl,dH (fun h1=>?_) (fun h1=>?_)⟩
    .have W:(8:Int)<z.length:=Ig h1;refine U ?_;unfold bH;rw[Ie (by lia)];rfl
    .have W:¬ (8:Int)<z.length:=fun e=>h1 (Ic e);refine⟨_,rfl,z,rfl,?_⟩;refine rB (fun i ys σ H'=>H'=H/\ys=(((z.cps.toList.take i).filter fun c=>!isL c).map fun c=>V.str ⟨#[c]⟩)/\∃ o,σ=[o]) ⟨rfl,rfl,none,rfl⟩ zz (fun i ys σ H' p=>by rw[p.2.1,Ab];exact AH (List.length_filter_le _ _) (by rw[AJ];lia)) ?_ ?_
     .rintro i c ys σ H' hc ⟨rfl,rfl,o,rfl⟩;have J:z.cps.toList[i]?=some c:=by simpa using hc
      dsimp only[bT];refine⟨_,rfl,_,_,rfl,rfl,_,rfl,?_⟩;rw[PySem.StrLaws.found_one,aJR];refine dH (fun h2=>?_) (fun h2=>?_)
      .refine⟨_,rfl,rfl,?_,_,rfl⟩;rw[A0,J,Ey,Al];have:(!isL c)=true:=h2;simp[this]
      .refine⟨rfl,?_,_,rfl⟩;rw[A0,J,Ey,Al];have:(!isL c)=false:=by simpa using h2
       simp[this]
     .rintro ys σ H' ⟨rfl,rfl,o,rfl⟩ D hD;have Y:D6 z.cps.size z.cps.toList=z.cps.toList:=by rw[<- AL];exact Bh
      rw[Y];refine⟨A3 _,fun D2 aa=>?_⟩;have S1:=aM (o:=.lst ((z.cps.toList.filter fun c=>!isL c).map fun c=>V.str ⟨#[c]⟩)) hD;have S2:=aM (o:=.lst []) aa;refine⟨D,D2,_,_,rfl,rfl,aP (S2 _ _ aH),aP aH,?_,rfl,?_⟩
      .rw[DU,AR];intro c hc;rfl
      .rw[aIj];have e:decide (((z.cps.toList.filter fun c=>!isL c).map fun c=>V.str ⟨#[c]⟩)=[])=bH z:=by
        unfold bH;rw[Ic (show 1<=z.length/\z.length<=8 by lia),Ax,BR,decide_eq_true_iff,FC,List.filter_eq_nil_iff,AR];constructor
        .intro h c hc;have:=h c hc;simpa[isL]using this
        .intro h c hc;have:=h c hc;simpa[isL]using this
       rw[e];exact k' _ (S1.trans S2)
def aF0{f:Ag}{fd:Ay}(F:Fn K "_law_whole" aEo f fd)(T:Txt K mg):cC P w K mg base CX0 1 f fd ["_law_thing","_law_bottom","_law_most"] vA:=by
 refine okA F ["_law_thing","_law_bottom","_law_most"] fun Z A outer s H vs Q E hr nd h=>?_;obtain⟨m,x,d,lo,hi,rfl,hx,k⟩:=h;refine⟨_,aN (aT (dA (aQ cS (by rfl) T.isi (by kernel_rfl) (pa2 (pv 0) (fF (v:=.ty "int") (by rfl) T.int (by kernel_rfl) rfl)))
  (dA (aGf (aQ cS (by rfl) T.isi (by kernel_rfl) (pa2 (pv 0) (fF (v:=.ty "bool") (by rfl) T.bool (by kernel_rfl) rfl)))) (dR (oA jR jR (pv 1) (pv 0) (pv 2)))))),?_⟩
 refine⟨_,rfl,_,"int",_,_,rfl,iT hx,aEv d,_,rfl,dH (fun g=>?_) (fun g=>?_)⟩
 .refine⟨_,rfl,_,"bool",_,_,rfl,iT hx,aHJ d,_,rfl,_,rfl,dH (fun U=>?_) (fun U=>?_)⟩
  .obtain⟨i,rfl⟩:∃ i,d=.int i:=by
    cases d with
    | int i=>exact⟨i,rfl⟩
    | bool b=>simp[aAY]at U
    | _=>simp[isInt]at g
   cases hx;refine⟨_,rfl,_,rfl,_,_,rfl,rfl,?_⟩;have Y:Q (.bl (decide (lo<=i/\i<=hi))) H:=k;refine⟨_,rfl,dH (fun W=>?_) (fun W=>?_)⟩
   .have J:lo<=i:=Ig W;refine⟨_,rfl,_,_,rfl,rfl,?_⟩;show Q (.bl (decide (i<=hi))) H;rw[decide_eq_decide.mpr (show i<=hi↔lo<=i/\i<=hi from⟨fun z=>⟨J,z⟩,fun z=>z.2⟩)];exact Y
   .have J:¬ lo<=i:=fun z=>W (Ic z);rw[Ie (fun z=>J z.1)]at Y;exact Y
  .have O:aAY d=true:=by simpa using U
   have e:bZ lo hi d=false:=by
    cases d with
    | bool b=>rfl
    | _=>simp[aAY]at O
   rw[e]at k;exact k
 .have O:isInt d=false:=by simpa using g
  have e:bZ lo hi d=false:=by
   cases d with
   | int i=>simp[isInt]at O
   | _=>rfl
  rw[e]at k;exact k
abbrev nB(P:Ar)(w:AW)(K:Ae)(mg:Str->Option Ac)(base:Bb):Prop:=Cal P w K mg base 1 "_law_whole" ["_law_thing","_law_bottom","_law_most"] vA
def aDD{f:Ag}{fd:Ay}(F:Fn K "_law_is_part" aB9 f fd)(T:Txt K mg)
  (W:Cal P w K mg base 1 "_law_is_name" ["_law_thing"] mU)
  (GW:nB P w K mg base)
  :cC P w K mg base CX0 2 f fd ["_law_thing"] xG:=by
 refine okA F ["_law_thing"] fun ad A outer s H vs Q E O nd h=>?_;obtain⟨m,x,d,rfl,hx,k⟩:=h;refine⟨_,(aK (bX (PW.pt (dL (cO (cJ (aQ cS (by rfl) T.isi (by kernel_rfl) (pa2 (pv 0) (fF (v:=.ty "tuple") (by rfl) T.tuple (by kernel_rfl) rfl))))) (dL (cT nF (aQ aS (by rfl) T.len Av (pa1 (pv 0))) aD) (dW (cO (cJ (bO W O (pa1 (aX bS (pv 0) aD Ih))))))))) (aN (aT eZ)) bA)
  (aN (aT (dA (bO W O (pa1 (aX bS (pv 0) aD Ih))) (dR (bO GW O (pa3 (aX bS (pv 0) aD Ih) aD (aW gH aD aD)))))))),?_⟩
 refine⟨_,rfl,_,"tuple",_,_,rfl,iT hx,jX d,_,rfl,?_⟩;cases hd:fY d with
 | false=>
  have e:eY d=false:=by
   cases d with
   | tuple ds=>simp[fY]at hd
   | _=>rfl
  rw[e]at k;exact k H (aU.refl H)
 | true=>
  obtain⟨ds,rfl⟩:∃ ds,d=.tuple ds:=by
   cases d with
   | tuple z=>exact⟨z,rfl⟩
   | _=>simp[fY]at hd
  cases hx with
  | @tup a xs _ e hl r=>
   have Y:=r.len;refine bQ ?_;refine⟨_,rfl,a,xs,rfl,.inr (aV e),rfl,_,rfl,?_⟩;by_cases U:xs.length=3
   .rw[Ic (show V.int (xs.length:Int)=V.int 3 by rw[U];rfl)];refine bQ ?_;obtain⟨x1,x2,x3,rfl⟩:=aIT U;obtain⟨d1,d2,d3,rfl,r1,r2,r3⟩:=aLk r;have k':∀ H',aU H H'->Q (.bl (bD d1&&bD d2&&bZ 1 10000000 d3)) H':=k;refine⟨_,rfl,a,_,0,_,rfl,rfl,aV e,rfl,m,x1,d1,rfl,r1,fun H1 s1=>⟨_,rfl,?_⟩⟩;cases g:bD d1 with
    | false=>
     have q:=k' H1 s1;rw[g]at q;exact bF q
    | true=>
     refine bQ ?_;refine⟨_,rfl,a,_,1,_,rfl,rfl,aV (s1 _ _ e),rfl,m,x2,d2,rfl,r2.same s1,fun H2 s2=>⟨_,rfl,?_⟩⟩;have J:=s1.trans s2;have q:=k' H2 J;rw[g,Ax]at q;cases Z:bD d2 with
     | false=>
      rw[Z]at q;exact bQ q
     | true=>
      rw[Z,Ax]at q;refine bF ?_;exact⟨_,rfl,a,_,2,_,rfl,rfl,aV (J _ _ e),rfl,_,_,rfl,rfl,⟨by decide,by decide,by decide⟩,m,x3,d3,1,10000000,pM (by trivial),r3.same J,q⟩
   .rw[Ie (show¬ V.int (xs.length:Int)=V.int 3 from fun z=>U (by injection z with z;lia))];refine bF ?_;have e2:eY (.tuple ds)=false:=by
     match ds,(show ds.length≠3 by lia)with
     | [],_=>rfl
     | [_],_=>rfl
     | [_,_],_=>rfl
     | [_,_,_],z=>exact absurd rfl z
     | _::_::_::_::_,_=>rfl
    rw[e2]at k;exact k H (aU.refl H)
def aIp{f Y O:Ag}{fd U W:Ay}(F:Fn K "_law_rise" aAV f fd)(T:Txt K mg)(ac:mg "sorted"=none)
  (GN:cC P w K mg base CX0 1 Y U ["_law_thing"] mU) (mN:mg "_law_is_name"=some (.ref Y)) (kN:AS K (.ref Y)=true) (bN:dY K U ["_law_thing"] [])
  (GP:cC P w K mg base CX0 2 O W ["_law_thing"] xG) (mP:mg "_law_is_part"=some (.ref O)) (kP:AS K (.ref O)=true) (bP:dY K W ["_law_thing"] [])
  :cC P w K mg base CX0 3 f fd ["_law_things","_law_judge","_law_at"] (aIk Y O):=by
 refine okA F ["_law_things","_law_judge","_law_at","_law_thing","_law_names_here"] fun aj A outer s H vs Q E hr nd h=>?_;obtain⟨m,x,d,at',rfl,hx,k⟩:=h;have hu:=qV hr;have ap:(A.deeper (Dl "_law_rise" (bC aAV) s.heap.objs.size f aj)).units<cLine:=by lia
 have aq:eO 2 _:=hr;refine⟨_,(aK (bX (PW.pt (dL (cO (cJ (aQ cS (by rfl) T.isi (by kernel_rfl) (pa2 (pv 0) (fF (v:=.ty "tuple") (by rfl) T.tuple (by kernel_rfl) rfl))))) (dW (cO (qN jR jR aD (aQ aS (by rfl) T.len Av (pa1 (pv 0))) aD))))) (aN (aT eZ)) bA)
  (aK (jG B1 rfl (kJ (pv 0)) (g:=bT 3) (bW (i:=3) nd rfl (Bp rfl))
  (aN (bX (cO (cJ (aBO (k:=2) (ps:=["_law_thing"]) (pv 1) aq (pa1 (pv 3))))) (aN (aT eZ)) bA)))
  (aK (gL (i:=4) (N:=["_law_thing","_law_at"]) (src:=[none,some 2]) (osc:=bC aAV) (oN:=["_law_things","_law_judge","_law_at","_law_thing","_law_names_here"]) bkA nd rfl (kJ (pv 0)) (fun cl s H fp dl C=>⟨bW (i:=0) (show(["_law_thing","_law_at"]:List Str).Nodup by trivial) rfl (Bp rfl),dJ,qM (cJ (pv 1)) (aX (r:=vQ K) bS (pv 0) aD Ih) (pv 0)⟩))
  (aN (aT (dO (aAH ap) (pv 4) (aQ (rL rfl) (by rfl) ac (by kernel_rfl) (pa1 (cA (zC rfl) (by rfl) T.set (by kernel_rfl) (pa1 (pv 4))))) (fA _))))))),?_⟩
 refine⟨_,rfl,_,"tuple",_,_,rfl,iT hx,jX d,_,rfl,?_⟩;cases hd:fY d with
 | false=>
  have e:xV at' d=false:=by
   cases d with
   | tuple ds=>simp[fY]at hd
   | _=>cases at'<;>rfl
  rw[e]at k;exact bF (k H (aU.refl H))
 | true=>
  obtain⟨ds,rfl⟩:∃ ds,d=.tuple ds:=by
   cases d with
   | tuple z=>exact⟨z,rfl⟩
   | _=>simp[fY]at hd
  cases hx with
  | @tup a xs _ e hl r=>
   have ad:=r.len;refine bQ ?_;have af:¬ (2<=ds.length/\ds.length<=6)->Q (.bl false) H:=fun h=>by
    have q:=k H (aU.refl H);rw[aEP h]at q;exact q
   refine⟨_,rfl,a,xs,rfl,.inr (aV e),_,_,rfl,rfl,_,rfl,?_⟩;by_cases g1:(2:Int)<=xs.length
   case neg=>
    rw[Ie g1];refine bQ ⟨_,rfl,?_⟩;refine bF ?_;exact af (by lia)
   rw[Ic g1];refine bF ?_;refine⟨_,_,rfl,rfl,_,rfl,?_⟩;by_cases g2:(xs.length:Int)<=6
   case neg=>
    rw[Ie g2];refine bF ?_;exact af (by lia)
   rw[Ic g2];refine bQ ?_;obtain⟨sp,J,FG,fk,fb,go⟩:∃(sp:Sp) (J:Ay),cC P w K mg base CX0 2 (if at'=true then O else Y) J ["_law_thing"] sp/\AS K (.ref (if at'=true then O else Y))=true/\dY K J ["_law_thing"] []/\∀(m:Bool) (x:V) (d:Aj) (H:Hp) (Q:VK) (E:XK),RdV m H x d->(∀ H',aU H H'->Q (.bl (aIl at' d)) H')->sp [x] H Q E:=by
    cases at' with
    | true=>exact⟨xG,W,GP,kP,bP,fun m x d H Q E r q=>⟨m,x,d,rfl,r,q⟩⟩
    | false=>exact⟨mU,U,GN.mono (by decide),kN,bN,fun m x d H Q E r q=>⟨m,x,d,rfl,r,q⟩⟩
   refine⟨_,rfl,a,rfl,⟨xs,aV e⟩,aAt (K:=K) (xs:=xs) (fun i σ H'=>∃(o:Option V),σ=[some (.ref a),some (.ref (if at'=true then O else Y)),some (.bl at'),o,none]/\aU H H'/\(ds.take i).all (aIl at')=true) ⟨none,rfl,aU.refl _,rfl⟩ (fun i σ H' _ h=>?_) ?_ ?_⟩
   .obtain⟨_,_,s1,_⟩:=h;exact aV (s1 _ _ e)
   .rintro i y σ H1 hy ⟨o,rfl,s1,h1⟩;dsimp only[bT];have⟨d',hd',r'⟩:=r.at hy;refine⟨_,rfl,_,sp,rfl,⟨J,FG,fk,fb⟩,⟨_,rfl,go m y d' H1 _ _ (r'.same s1) fun H2 s2=>⟨_,rfl,?_⟩⟩⟩;have ae:=s1.trans s2;cases g:aIl at' d' with
    | false=>
     refine bF ?_;have q:=k H2 ae;rw[aBh,aIn hd' g]at q;exact q
    | true=>
     refine bQ ⟨_,rfl,ae,?_⟩;rw[A0,hd',DJ,h1];show(true&&(aIl at' d'&&true))=true;rw[g];rfl
   rintro σ H1 ⟨o,rfl,s1,h1⟩;rw[ad,Bh]at h1;refine⟨_,rfl,a,rfl,⟨xs,aV (s1 _ _ e)⟩,?_⟩;refine jJ (xs:=xs) (fun i ys σ H'=>aU H H'/\ys=((ds.take i).map fun d=>V.str (yG at' d))/\∃ o,σ=[o,some (.bl at')]) ⟨s1,rfl,none,rfl⟩ (aJ (by lia)) (fun i ys σ H' p=>by rw[p.2.1,Ab,AJ];lia) (fun i ys σ H' p=>aV (p.1 _ _ e)) ?_ ?_
   .rintro i y ys σ H' hy ⟨S,rfl,o,rfl⟩;dsimp only[bT];have⟨d',hd',r'⟩:=r.at hy;have hj:=AR.mp h1 d' (AG hd');refine bF ⟨_,rfl,_,rfl,?_⟩;have aa:∀ v:V,v=V.str (yG at' d')->(aU H H'/\((ds.take i).map fun d=>V.str (yG at' d))++[v]=((ds.take (i+1)).map fun d=>V.str (yG at' d))/\∃ o,([some y,some (.bl at')]:L2.St)=[o,some (.bl at')]):=fun v hv=>⟨S,by rw[A0,hd',Al,hv];rfl,_,rfl⟩
    cases at' with
    | true=>
     obtain⟨b,zs,rfl,hb,hat⟩:=zV (r'.same S) hj;exact bF ⟨_,rfl,b,zs,0,_,rfl,rfl,aV hb,hat,aa _ rfl⟩
    | false=>
     refine bQ ⟨_,rfl,aa _ ?_⟩;have hj:bD d'=true:=hj;cases d' with
     | str z=>cases r';rfl
     | _=>simp[bD]at hj
   rintro ys σ H2 ⟨S,rfl,o,rfl⟩ D hD;have am:D6 xs.length ds=ds:=Bi (by lia);rw[am];have em:(ds.map fun d=>V.str (yG at' d))=(ds.map (yG at')).map V.str:=by rw[Cp];rfl
   rw[em];have ai:(ds.map (yG at')).length<=6:=by rw[Ab];lia
   have kk:∀ H',aU H H'->Q (.bl (fG (ds.map (yG at')))) H':=fun H' s'=>by
    have q:=k H' s';rw[aBh,h1,Ic (by lia),Ax,Ax]at q;exact q
   generalize ds.map (yG at')=Z at ai kk ⊢;have sD:=aM (o:=.lst (Z.map V.str)) hD;have eD:upd H2 D (.lst (Z.map V.str)) D=some (.lst (Z.map V.str)):=aH;generalize upd H2 D _=H3 at sD eD ⊢;refine⟨_,rfl,_,rfl,D,Z,rfl,.inl eD,by lia,fun S2 ah=>?_⟩;have sS:=aM (o:=aFx P w S2 Z) ah;refine⟨S2,Z,rfl,aH,by lia,fun l ms ao hp hs=>?_⟩;have sl:=aM (o:=.lst (ms.map V.str)) ao;refine⟨D,l,_,_,rfl,rfl,aP (sl _ _ (sS _ _ eD)),aP aH,fO Z,fO ms,?_⟩;rw[tR,xN hp hs];exact kk _ ((S.trans sD).trans (sS.trans sl))
def aDE{f:Ag}{fd:Ay}(F:Fn K "_law_is_placed" aCa f fd)(T:Txt K mg)
  (GN:Cal P w K mg base 1 "_law_is_name" ["_law_thing"] mU)
  (Y:nB P w K mg base)
  :cC P w K mg base CX0 2 f fd ["_law_thing"] aCF:=by
 refine okA F ["_law_thing"] fun af A outer s H vs Q E J nd h=>?_;obtain⟨m,x,kind,d2,d3,d4,d5,d6,r,rfl,rd,k⟩:=h;refine⟨_,(aK (bX (PW.pt (dL (cO (cJ (bO GN J (pa1 (aX bS (pv 0) aD Ih))))) (dW (cO (cJ (bO Y J (pa3 (aX bS (pv 0) aD Ih) aD (aW qB (aW gH aD aD) aD))))))))  (aN (aT eZ)) bA)
  (aK (bX (cT cP (aX bS (pv 0) aD Ih) aO) (aN (aT (dA (dO cP (aQ aS (by rfl) T.len Av (pa1 (pv 0))) aD (fA _)) (dR (bO GN J (pa1 (aX bS (pv 0) aD Ih))))))) bA)
  (aN (aT (dA (dO cP (aQ aS (by rfl) T.len Av (pa1 (pv 0))) aD (fA _)) (dA (bO Y J (pa3 (aX bS (pv 0) aD Ih) aD (aW gH aD aD))) (dR (bO Y J (pa3 (aX bS (pv 0) aD Ih) aD (aW gH aD aD)))))))))),?_⟩
 have cp:∀ j:Int,0<=j->j<=1000000->aFg 10 j:=fun j h1 h2=>⟨h1,h2,by decide⟩
 have p6:((10:Int)^CI 6)=1000000:=by trivial
 have p7:((10:Int)^CI 7)=10000000:=by trivial
 have p9:((10:Int)^CI 9)=1000000000:=by trivial
 have ev:∀(l:List Aj),(bD d4&&bZ 0 9999999 d5)=false->lP (d4::d5::l)=false/\gP (d4::d5::l)=false:=fun l h=>by
  constructor
  .match l with
   | []=>rfl
   | [_]=>show(bD d4&&bZ 0 9999999 d5&&_)=false;rw[h];rfl
   | _::_::_=>rfl
  .match l with
   | []=>rfl
   | [_]=>rfl
   | [_,_]=>show(bD d4&&bZ 0 9999999 d5&&_&&_)=false;rw[h];rfl
   | _::_::_::_=>rfl
 have U:(bD d4&&bZ 0 9999999 d5)=false->∀ H',aU H H'->Q (.bl false) H':=fun h H' s'=>by
  have q:=k H' s';rw[(ev _ h).1,(ev _ h).2,ite_self]at q;exact q
 cases rd with
 | @tup a xs _ e hl r0=>
 cases r0 with
 | @cons x1 _ _ _ r1 r0=>
 cases r0 with
 | @cons x2 _ _ _ r2 r0=>
 cases r0 with
 | @cons x3 _ _ _ r3 r0=>
 cases r0 with
 | @cons x4 _ _ _ r4 r0=>
 cases r0 with
 | @cons x5 _ _ _ r5 r0=>
 cases r0 with
 | @cons x6 _ xr _ r6 r0=>
 have O:=r0.len;cases r1;refine⟨_,rfl,a,_,3,_,rfl,rfl,aV e,bG (j:=3) rfl,m,x4,d4,rfl,r4,fun H1 s1=>⟨_,rfl,?_⟩⟩;cases g:bD d4 with
 | false=>exact bF (U (by rw[g];rfl) H1 s1)
 | true=>
 refine bQ ?_;refine⟨_,rfl,a,_,4,_,rfl,rfl,aV (s1 _ _ e),bG (j:=4) rfl,_,_,rfl,rfl,cp _ (by decide) (by decide),_,_,rfl,rfl,m,x5,d5,0,9999999,aIm (by trivial),r5.same s1,_,rfl,?_⟩;cases Z:bZ 0 9999999 d5 with
 | false=>exact bF (U (by rw[g,Z];rfl) H1 s1)
 | true=>
 refine bQ ?_;refine⟨_,rfl,a,_,0,_,rfl,rfl,aV (s1 _ _ e),bG (j:=0) rfl,rfl,_,rfl,?_⟩;by_cases W:kind="view"
 .rw[Ic (show V.str kind=V.str "view" by rw[W])];rw[Ib W]at k;refine bF ?_;refine⟨_,rfl,a,_,rfl,.inr (aV (s1 _ _ e)),rfl,_,rfl,?_⟩
  match xr,r,O with
  | [],[],_=>
   refine bF ?_;refine⟨_,rfl,a,_,5,_,rfl,rfl,aV (s1 _ _ e),bG (j:=5) rfl,m,x6,d6,rfl,r6.same s1,fun H2 s2=>?_⟩;have q:=k H2 (s1.trans s2);rw[show lP [d4,d5,d6]=(bD d4&&bZ 0 9999999 d5&&bD d6) from rfl,g,Z]at q;exact q
  | y::ys,d::ds,_=>
   rw[Ie (show¬ V.int (((V.str kind::x2::x3::x4::x5::x6::y::ys).length:Nat):Int)=V.int 6 from fun z=>by injection z with z;simp only[An]at z;lia)];refine bQ ?_;exact k H1 s1
 .rw[Ie (show¬ V.str kind=V.str "view" from fun h=>by injection h with h;exact W h)];rw[Ia W]at k;refine bQ ?_;refine⟨_,rfl,a,_,rfl,.inr (aV (s1 _ _ e)),rfl,_,rfl,?_⟩
  match xr,r,O,r0 with
  | [y],[d],_,.cons r7 .nil=>
   refine bF ?_;refine⟨_,rfl,a,_,5,_,rfl,rfl,aV (s1 _ _ e),bG (j:=5) rfl,_,_,rfl,rfl,cp _ (by decide) (by decide),m,x6,d6,0,1000000000,pM (by trivial),r6.same s1,_,rfl,?_⟩;have q:=k H1 s1;rw[show gP [d4,d5,d6,d]=(bD d4&&bZ 0 9999999 d5&&bZ 0 1000000000 d6&&bZ 0 1000000 d) from rfl,g,Z,Ax,Ax]at q;cases g3:bZ 0 1000000000 d6 with
   | false=>
    rw[g3]at q;exact bQ q
   | true=>
    rw[g3]at q;refine bF ?_;exact⟨_,rfl,a,_,6,_,rfl,rfl,aV (s1 _ _ e),bG (j:=6) rfl,_,_,rfl,rfl,cp _ (by decide) (by decide),m,y,d,0,1000000,pM (by trivial),r7.same s1,q⟩
  | [],[],_,_=>
   refine bQ ?_;exact k H1 s1
  | y::y2::ys,d::d'::ds,_,_=>
   rw[Ie (show¬ V.int (((V.str kind::x2::x3::x4::x5::x6::y::y2::ys).length:Nat):Int)=V.int 7 from fun z=>by injection z with z;simp only[An]at z;lia)];refine bQ ?_;exact k H1 s1
def aF1{f fN fP:Ag}{fd ar:Ay}(F:Fn K "_law_is_row" aEp f fd)(T:Txt K mg)(mP:mg "_law_is_part"=some (.ref fP))
  (GN:cC P w K mg base CX0 1 fN ar ["_law_thing"] mU) (mN:mg "_law_is_name"=some (.ref fN)) (kN:AS K (.ref fN)=true) (bN:dY K ar ["_law_thing"] [])
  (GW:nB P w K mg base)
  (GL:Cal P w K mg base 2 "_law_is_placed" ["_law_thing"] aCF)
  (GR:Cal P w K mg base 3 "_law_rise" ["_law_things","_law_judge","_law_at"] (aIk fN fP))
  :cC P w K mg base CX0 4 f fd ["_law_thing"] vB:=by
 refine okA F ["_law_thing","_law_word"] fun bo A outer s H vs Q E hr nd h=>?_;obtain⟨m,x,d,rfl,hx,k⟩:=h;have O:eO 1 _:=hr.mono (by decide);refine⟨_,(aK (bX (PW.pt (dL (cO (cJ (aQ cS (by rfl) T.isi (by kernel_rfl) (pa2 (pv 0) (fF (v:=.ty "tuple") (by rfl) T.tuple (by kernel_rfl) rfl))))) (dL (cT yJ (aQ aS (by rfl) T.len Av (pa1 (pv 0))) aD) (dW (cO (cJ (aQ cS (by rfl) T.isi (by kernel_rfl) (pa2 (aX bS (pv 0) aD Ih) (fF (v:=.ty "str") (by rfl) T.str (by kernel_rfl) rfl))))))))) (aN (aT eZ)) bA)
  (aK (bX (PW.pt (dL (cO (cJ (iA GN O rfl mN kN bN .nil oG (pa1 (aX bS (pv 0) aD Ih))))) (dW (cO (cJ (bO GW O (pa3 (aX bS (pv 0) aD Ih) aD aD))))))) (aN (aT eZ)) bA)
  (aK (cF 1 nd (aX bS (pv 0) aD Ih))
  (aK (bX (cT cP (pv 1) aO) (aN (aT (dA (dO cP (aQ aS (by rfl) T.len Av (pa1 (pv 0))) aD (fA _)) (dR (iA GN O rfl mN kN bN .nil oG (pa1 (aX bS (pv 0) aD Ih))))))) bA)
  (aK (bX (eJ gB (pv 1) (cH (pa2 aO aO)) (by with_unfolding_all rfl)) (aN (aT (dA (dO nY (aQ aS (by rfl) T.len Av (pa1 (pv 0))) aD (fA _)) (dR (bO GL hr (pa1 (pv 0))))))) bA)
  (aK (bX (cT nF (aQ aS (by rfl) T.len Av (pa1 (pv 0))) aD) (aN (aT eZ)) bA)
  (aK (bX (cT cP (pv 1) aO) (aN (aT (dA (iA GN O rfl mN kN bN .nil oG (pa1 (aX bS (pv 0) aD Ih))) (dR (bO GR hr (pa3 (aX bS (pv 0) aD Ih) (cG (v:=.ref fP) (by rfl) mP rfl) eZ)))))) bA)
  (aK (bX (cT cP (pv 1) aO) (aN (aT (dA (bO GR hr (pa3 (aX bS (pv 0) aD Ih) (cG (v:=.ref fN) (by rfl) mN rfl) eZ)) (dR (iA GN O rfl mN kN bN .nil oG (pa1 (aX bS (pv 0) aD Ih))))))) bA)
  (aK (bX (cT cP (pv 1) aO) (aN (aT (dA (iA GN O rfl mN kN bN .nil oG (pa1 (aX bS (pv 0) aD Ih))) (dR (bO GW O (pa3 (aX bS (pv 0) aD Ih) aD (aW gH aD aD))))))) bA)
  (aK (bX (PW.pt (dL (eJ iB (pv 1) (cH (pa2 aO aO)) (by with_unfolding_all rfl)) (dL (cO (cJ (iA GN O rfl mN kN bN .nil oG (pa1 (aX bS (pv 0) aD Ih))))) (dW (cO (cJ (iA GN O rfl mN kN bN .nil oG (pa1 (aX bS (pv 0) aD Ih))))))))) (aN (aT eZ)) bA)
  (aN (aT (aGe (dO cP (pv 1) aO (fA _)) (dR (dO nF (aX bS (pv 0) aD Ih) (aX bS (pv 0) aD Ih) (fA _)))))))))))))))),?_⟩
 have cp:∀ j:Int,0<=j->j<=1000000->aFg 10 j:=fun j h1 h2=>⟨h1,h2,by decide⟩
 refine⟨_,rfl,_,"tuple",_,_,rfl,iT hx,jX d,_,rfl,?_⟩;cases hd:fY d with
 | false=>
  have e:fJ d=false:=by
   cases d with
   | tuple ds=>simp[fY]at hd
   | _=>rfl
  rw[e]at k;exact k H (aU.refl H)
 | true=>
 obtain⟨ds,rfl⟩:∃ ds,d=.tuple ds:=by
  cases d with
  | tuple z=>exact⟨z,rfl⟩
  | _=>simp[fY]at hd
 cases hx with
 | @tup a xs _ e hl r=>
 have ae:=r.len;refine bQ ?_;refine⟨_,rfl,a,xs,rfl,.inr (aV e),_,_,rfl,rfl,_,rfl,?_⟩;by_cases hn:(xs.length:Int)<4
 .rw[Ic hn];refine bF ?_;rw[vH (by lia)]at k;exact k H (aU.refl H)
 rw[Ie hn];refine bQ ?_
 match xs,ds,r,ae,hn with
 | [],_,_,_,z=>exact absurd (by decide) z
 | [_],_,_,_,z=>exact absurd (show(1:Int)<4 by decide) z
 | [_,_],_,_,_,z=>exact absurd (show(2:Int)<4 by decide) z
 | [_,_,_],_,_,_,z=>exact absurd (show(3:Int)<4 by decide) z
 | x1::x2::x3::x4::xs,d1::d2::d3::J::ds,.cons r1 (.cons r2 (.cons r3 (.cons r4 Y))),ae,hn=>
 have ax:=Y.len;refine⟨_,rfl,a,_,0,_,rfl,rfl,aV e,bG (j:=0) rfl,_,"str",_,_,rfl,iT r1,hU d1,_,rfl,?_⟩;cases hk:oR d1 with
 | false=>
  rw[zX hk]at k;exact k H (aU.refl H)
 | true=>
 obtain⟨kind,rfl⟩:∃ z,d1=.str z:=by
  cases d1 with
  | str z=>exact⟨z,rfl⟩
  | _=>simp[oR]at hk
 have r0:=r1;cases r1;refine bQ ?_;have k':∀ H',aU H H'->Q (.bl (decide (kind∈cB)&&(bD d2&&(bZ 0 9999 d3&&dX kind (J::ds))))) H':=k;refine⟨_,rfl,a,_,1,_,rfl,rfl,aV e,bG (j:=1) rfl,m,x2,d2,rfl,r2,fun H1 s1=>⟨_,rfl,?_⟩⟩;cases g:bD d2 with
 | false=>
  have q:=k' H1 s1;rw[g,Bq,A1]at q;exact bF q
 | true=>
 refine bQ ?_;refine⟨_,rfl,a,_,2,_,rfl,rfl,aV (s1 _ _ e),bG (j:=2) rfl,m,x3,d3,0,9999,rfl,r3.same s1,_,rfl,?_⟩;cases g2:bZ 0 9999 d3 with
 | false=>
  have q:=k' H1 s1;rw[g2,Bq,A1,A1]at q;exact bF q
 | true=>
 refine bQ ?_;rw[g,g2,Ax,Ax]at k';have k1:∀ H',aU H1 H'->Q (.bl (decide (kind∈cB)&&dX kind (J::ds))) H':=fun H' s'=>k' H' (s1.trans s');have e1:=s1 _ _ e;have rf:RdV m H1 (.ref a) (.tuple (.str kind::d2::d3::J::ds)):=(RdV.tup e hl (.cons r0 (.cons r2 (.cons r3 (.cons r4 Y))))).same s1;have r4:=r4.same s1;have Y:=Y.same s1;clear k k' r r0 r2 r3;generalize H1=H0 at k1 e1 r4 Y rf ⊢;refine⟨_,rfl,a,_,0,_,rfl,rfl,aV e1,bG (j:=0) rfl,?_⟩;have ne:∀{u:Str},kind≠u->¬ V.str kind=V.str u:=fun h e=>by injection e with e;exact h e
 refine⟨_,rfl,rfl,_,rfl,?_⟩;by_cases ha:kind="alone"
 .subst ha;rw[Ic (show V.str "alone"=V.str "alone" from rfl)];refine bF ?_;have U:∀ H',aU H0 H'->Q (.bl (oS (J::ds))) H':=k1;refine⟨_,rfl,a,_,rfl,.inr (aV e1),rfl,_,rfl,?_⟩
  match xs,ds,ax with
  | [],[],_=>
   refine bF ?_;exact⟨_,rfl,a,_,3,_,rfl,rfl,aV e1,bG (j:=3) rfl,m,x4,J,rfl,r4,U⟩
  | y::ys,d::ds,_=>
   rw[Ie (show¬ V.int (((V.str "alone"::x2::x3::x4::y::ys).length:Nat):Int)=V.int 4 from fun z=>by injection z with z;simp only[An]at z;lia)];exact bQ (U H0 (aU.refl _))
 rw[Ie (ne ha)];refine bQ ?_;refine⟨_,rfl,zZ2,fun q hq=>?_⟩;have sq:=aM (o:=.tup [V.str "breach",.str "view"]) hq;refine⟨q,_,rfl,.inr (aV aH),rfl,rfl,_,rfl,?_⟩
 replace e1:=sq _ _ e1
 replace k1:∀ H',aU (upd H0 q (.tup [V.str "breach",.str "view"])) H'->Q (.bl (decide (kind∈cB)&&dX kind (J::ds))) H':=fun H' s'=>k1 H' (sq.trans s')
 replace r4:=r4.same sq
 replace Y:=Y.same sq
 replace rf:=rf.same sq
 generalize upd H0 q _=H2 at e1 k1 r4 Y rf ⊢;refine dH (fun gb=>?_) (fun gb=>?_)
 .have hb:kind="breach"\/kind="view":=by
   have h0:("breach":Str)=kind\/("view":Str)=kind:=by simpa[inV,eqV]using gb
   exact h0.imp GE GE
  have U:∀ H',aU H2 H'->Q (.bl (if kind="view" then lP (J::ds) else gP (J::ds))) H':=fun H' s'=>by
   have q:=k1 H' s';rcases hb with rfl|rfl
   .exact q
   .exact q
  refine⟨_,rfl,a,_,rfl,.inr (aV e1),_,_,rfl,rfl,_,rfl,?_⟩;by_cases h5:2<=ds.length
  .rw[Ic (show(5:Int)<(((V.str kind::x2::x3::x4::xs).length:Nat):Int) by simp only[An];lia)];refine bF ?_
   match ds,h5,rf,U with
   | d5::d6::dr,_,rf,U=>exact⟨_,rfl,.mk m _ kind d2 d3 J d5 d6 dr rfl rf U⟩
  .rw[Ie (show¬ (5:Int)<(((V.str kind::x2::x3::x4::xs).length:Nat):Int) by simp only[An];lia)];refine bQ ?_;have q:=U H2 (aU.refl _);rw[aCp (by simp only[An];lia),xH (by simp only[An];lia),ite_self]at q;exact q
 have ac:kind≠"breach"/\kind≠"view":=by
  have h0:¬ (("breach":Str)=kind\/("view":Str)=kind):=by simpa[inV,eqV]using gb
  exact⟨fun h=>h0 (.inl h.symm),fun h=>h0 (.inr h.symm)⟩
 refine⟨_,rfl,a,_,rfl,.inr (aV e1),rfl,_,rfl,?_⟩;by_cases h5:ds.length=1
 case neg=>
  rw[Ie (show¬ V.int (((V.str kind::x2::x3::x4::xs).length:Nat):Int)=V.int 5 from fun z=>by injection z with z;simp only[An]at z;lia)];refine bF ?_;have q:=k1 H2 (aU.refl _);by_cases hw:kind∈cB
  .rw[aJS (by simp only[An];lia) ha ac.1 ac.2 hw,A1]at q;exact q
  .rw[Ie hw]at q;exact q
 obtain⟨d5,rfl⟩:=List.length_eq_one_iff.mp h5;obtain⟨x5,rfl⟩:∃ x5,xs=[x5]:=List.length_eq_one_iff.mp (by rw[ax];rfl);cases Y with
 | cons r5 _=>
 rw[Ic (show V.int ((([V.str kind,x2,x3,x4,x5]:List V).length:Nat):Int)=V.int 5 from rfl)];refine bQ ?_;refine⟨_,rfl,rfl,_,rfl,?_⟩;by_cases hp:kind="part"
 .subst hp;rw[Ic (show V.str "part"=V.str "part" from rfl)];refine bF ?_;have U:∀ H',aU H2 H'->Q (.bl (bD J&&uG d5)) H':=k1;refine⟨_,rfl,a,_,3,_,rfl,rfl,aV e1,bG (j:=3) rfl,m,x4,J,rfl,r4,fun H3 s3=>⟨_,rfl,?_⟩⟩;cases W:bD J with
  | false=>
   have q:=U H3 s3;rw[W]at q;exact bQ q
  | true=>
   refine bF ?_;refine⟨_,rfl,a,_,4,_,rfl,rfl,aV (s3 _ _ e1),bG (j:=4) rfl,m,x5,d5,true,rfl,r5.same s3,fun H4 s4=>?_⟩;have q:=U H4 (s3.trans s4);rw[W]at q;exact q
 rw[Ie (ne hp)];refine bQ ?_;refine⟨_,rfl,rfl,_,rfl,?_⟩;by_cases hj:kind="join"
 .subst hj;rw[Ic (show V.str "join"=V.str "join" from rfl)];refine bF ?_;have U:∀ H',aU H2 H'->Q (.bl (oV J&&bD d5)) H':=k1;refine⟨_,rfl,a,_,3,_,rfl,rfl,aV e1,bG (j:=3) rfl,m,x4,J,false,rfl,r4,fun H3 s3=>⟨_,rfl,?_⟩⟩;cases W:xV false J with
  | false=>
   have q:=U H3 s3;rw[show oV J=false from W]at q;exact bQ q
  | true=>
   refine bF ?_;refine⟨_,rfl,a,_,4,_,rfl,rfl,aV (s3 _ _ e1),bG (j:=4) rfl,m,x5,d5,rfl,r5.same s3,fun H4 s4=>?_⟩;have q:=U H4 (s3.trans s4);rw[show oV J=true from W]at q;exact q
 rw[Ie (ne hj)];refine bQ ?_;refine⟨_,rfl,rfl,_,rfl,?_⟩;by_cases hm:kind="measure"
 .subst hm;rw[Ic (show V.str "measure"=V.str "measure" from rfl)];refine bF ?_;have U:∀ H',aU H2 H'->Q (.bl (bD J&&bZ 0 10000000 d5)) H':=k1;refine⟨_,rfl,a,_,3,_,rfl,rfl,aV e1,bG (j:=3) rfl,m,x4,J,rfl,r4,fun H3 s3=>⟨_,rfl,?_⟩⟩;have q:=U H3 s3;cases W:bD J with
  | false=>
   rw[W]at q;exact bQ q
  | true=>
   rw[W]at q;refine bF ?_;exact⟨_,rfl,a,_,4,_,rfl,rfl,aV (s3 _ _ e1),bG (j:=4) rfl,_,_,rfl,rfl,cp _ (by decide) (by decide),m,x5,d5,0,10000000,pM (by trivial),r5.same s3,q⟩
 rw[Ie (ne hm)];refine bQ ?_;refine⟨_,rfl,zZ2,fun q2 bb=>?_⟩;have Z:=aM (o:=.tup [V.str "forfeit",.str "mend"]) bb;refine⟨q2,_,rfl,.inr (aV aH),rfl,rfl,_,rfl,?_⟩
 replace e1:=Z _ _ e1
 replace k1:∀ H',aU (upd H2 q2 (.tup [V.str "forfeit",.str "mend"])) H'->Q (.bl (decide (kind∈cB)&&dX kind [J,d5])) H':=fun H' s'=>k1 H' (Z.trans s')
 replace r4:=r4.same Z
 replace r5:=r5.same Z
 generalize upd H2 q2 _=H3 at e1 k1 r4 r5 ⊢;by_cases hf:kind="forfeit"\/kind="mend"
 case neg=>
  have gf:(if true=true then !inV (V.str kind) [V.str "forfeit",V.str "mend"] else inV (V.str kind) [V.str "forfeit",V.str "mend"])=true:=by
   have h0:¬ (("forfeit":Str)=kind\/("mend":Str)=kind):=fun h=>hf (h.imp GE GE);simpa[inV,eqV]using h0
  rw[gf];refine bF ?_;have q:=k1 H3 (aU.refl _);have hw:kind∉cB:=fun h=>by
   unfold cB at h;simp only[Ao,AB,or_false]at h;rcases h with h|h|h|h|h|h|h|h
   .exact hp h
   .exact hj h
   .exact hf (.inl h)
   .exact hm h
   .exact hf (.inr h)
   .exact ha h
   .exact ac.1 h
   .exact ac.2 h
  rw[Ie hw]at q;exact q
 have gf:(if true=true then !inV (V.str kind) [V.str "forfeit",V.str "mend"] else inV (V.str kind) [V.str "forfeit",V.str "mend"])=false:=by
  rcases hf with rfl|rfl<;>trivial
 rw[gf];refine bQ ?_;have U:∀ H',aU H3 H'->Q (.bl (if kind="forfeit" then gM [J,d5] else oU [J,d5])) H':=fun H' s'=>by
  have q:=k1 H' s';rcases hf with rfl|rfl
  .exact q
  .exact q
 have af:¬ (bD J=true/\bD d5=true)->∀ H',aU H3 H'->Q (.bl false) H':=fun h H' s'=>by
  have q:=U H' s';have hb:¬ ([J,d5]:List Aj).all bD=true:=fun z=>by
   simp only[Di,List.all_nil,FO,Aw]at z;exact h z
  rw[show gM [J,d5]=([J,d5]:List Aj).all bD from rfl,Ga _ |>.mp hb,rY fun z=>hb z.2,ite_self]at q;exact q
 refine⟨_,rfl,a,_,3,_,rfl,rfl,aV e1,bG (j:=3) rfl,m,x4,J,rfl,r4,fun H4 s4=>⟨_,rfl,?_⟩⟩;cases W:bD J with
 | false=>exact bF (af (by rw[W];exact fun z=>nomatch z.1) H4 s4)
 | true=>
 refine bQ ?_;refine⟨_,rfl,a,_,4,_,rfl,rfl,aV (s4 _ _ e1),bG (j:=4) rfl,m,x5,d5,rfl,r5.same s4,fun H5 s5=>⟨_,rfl,?_⟩⟩;have ad:=s4.trans s5;cases g5:bD d5 with
 | false=>exact bF (af (by rw[g5];exact fun z=>nomatch z.2) H5 ad)
 | true=>
 refine bQ ?_;have q:=U H5 ad;refine⟨_,rfl,rfl,_,rfl,?_⟩;by_cases h7:kind="forfeit"
 .rw[Ic (show V.str kind=V.str "forfeit" by rw[h7])];refine bF ?_;rw[Ib h7,show gM [J,d5]=([J,d5]:List Aj).all bD from rfl,Di,Di,W,g5]at q;exact q
 .rw[Ie (ne h7)];refine bQ ?_;rw[Ia h7]at q;cases J with
  | str z4=>
   cases d5 with
   | str z5=>
    cases r4;cases r5;refine⟨_,rfl,a,_,3,_,rfl,rfl,aV (ad _ _ e1),bG (j:=3) rfl,_,rfl,a,_,4,_,rfl,rfl,aV (ad _ _ e1),bG (j:=4) rfl,rfl,?_⟩;have ef:oU [.str z4,.str z5]=!decide (V.str z4=V.str z5):=by
     show(bH z4&&bH z5&&!decide (z4=z5))=_;rw[show bH z4=true from W,show bH z5=true from g5];by_cases hz:z4=z5
     .subst hz;simp
     .rw[Ie hz,Ie (fun e=>hz (by injection e))];rfl
    rw[ef]at q;exact q
   | _=>simp[bD]at g5
  | _=>simp[bD]at W
def aDF{lo st:Int}{n:Nat}{g:TG}{tb:TS}{D:lY}{σ:L2.St}{H:Hp}(O:Nat->L2.St->Hp->Prop)(h0:O 0 σ H)
  (hs:∀ i σ H,i<n->O i σ H->g (.int (lo+i*st)) σ H fun Y H2=>tb { D with nx:=O (i+1),ct:=O (i+1),bk:=D.nx } Y H2) (hd:∀ σ H,O n σ H->D.nx σ H):
  ∃ W:Nat->Nat->L2.St->Hp->Prop,(∃ m,W 0 m σ H)/\∀ i m σ H,W i m σ H->
   ((aFD lo st n).stop i H/\D.nx σ H)\/((aFD lo st n).go i H/\∃ N:L2.St->Hp->Prop,(∀ U H',N U H'->∃ Z,Z<m/\W (i+1) Z U H')/\∀ x H',(aFD lo st n).yld i H x H'->g x σ H' fun Y H2=>tb { D with nx:=N,ct:=N,bk:=D.nx } Y H2):=by
 refine⟨fun i m σ H=>m=n-i/\i<=n/\O i σ H,⟨n,by simp,A3 _,h0⟩,?_⟩;rintro i m σ H ⟨rfl,hi,p⟩;by_cases J:i<n
 .refine .inr ⟨J,O (i+1),fun U H' p'=>⟨n-(i+1),by lia,rfl,J,p'⟩,fun x H' y=>?_⟩;obtain⟨e,y⟩:=y;subst e y;exact hs i σ _ J p
 .have e:i=n:=by lia
  subst e;exact .inl ⟨Ap _,hd σ H p⟩
def Fit(ws:List Str)(d:Aj):Prop:=fJ d=fJ (eG ws)/\(fJ d=true->d=eG ws)
def Fit.no{ws:List Str}{d:Aj}(h1:fJ d=false)(h2:fJ (eG ws)=false):Fit ws d:=⟨by rw[h1,h2],fun h=>by rw[h1]at h;cases h⟩
def Fit.eq{ws:List Str}{d:Aj}(h:d=eG ws):Fit ws d:=⟨by rw[h],fun _=>h⟩
def aIq{ds:List Aj}(h:ds.length≠3):eY (.tuple ds)=false:=by
 match ds,h with
 | [],_=>rfl
 | [_],_=>rfl
 | [_,_],_=>rfl
 | [_,_,_],z=>exact absurd rfl z
 | _::_::_::_::_,_=>rfl
def aNg(a b c e:Str):wd [2] [a,b,c,e]=[.str a,.str b,dS c,.str e]:=rfl
def aIr{r:List Str}(h:¬ ((("part":Str)::r).length%3=1/\9<(("part":Str)::r).length)):fJ (tW ("part"::r))=false:=by
 match r,h with
 | [],_=>rfl
 | [b],_=>exact vH (show 3<4 by decide)
 | [b,c],_=>
  have U:∀ X:Aj,uH [X]=false:=fun X=>rfl;show(decide (("part":Str)∈cB)&&(bD (.str b)&&(bZ 0 9999 (dS c)&&uH [.tuple ((AY (nP [("part":Str),b,c])).map (chk [("part":Str),b,c]))])))=false;rw[U,A1,A1,A1]
 | b::c::e::r,h=>
  generalize hw:(("part":Str)::b::c::e::r)=J at h;have O:J.length=r.length+4:=by rw[<- hw];rfl
  have e4:J.take 4=[("part":Str),b,c,e]:=by rw[<- hw];rfl
  show fJ (.tuple (wd [2] (J.take 4)++[.tuple ((AY (nP J)).map (chk J))]))=false;rw[e4,aNg];show(decide (("part":Str)∈cB)&&(bD (.str b)&&(bZ 0 9999 (dS c)&&(bD (.str e)&&uG (.tuple ((AY (nP J)).map (chk J)))))))=false;have key:uG (.tuple ((AY (nP J)).map (chk J)))=false:=by
   show(((AY (nP J)).map (chk J)).all eY&&decide (2<=((AY (nP J)).map (chk J)).length/\((AY (nP J)).map (chk J)).length<=6)&&_)=false;have hn:nP J=(r.length+2)/3:=by unfold nP;rw[O];congr 1
   by_cases W:r.length%3=0
   .rw[Ie (by rw[Ab,CQ,hn];lia),A1,Bq]
   .have ha:((AY (nP J)).map (chk J)).all eY=false:=by
     refine aIn (i:=r.length/3) (d:=chk J (r.length/3)) ?_ ?_
     .rw[AF,C4 (by rw[hn];lia)];rfl
     .refine aIq ?_;rw[jO,AJ,B7,O];lia
    rw[ha,Bq,Bq]
  rw[key,A1,A1,A1,A1]
def aIs{ws:List Str}{i:Nat}{x y z:Str}(h1:ws[4+3*i]?=some x)(h2:ws[4+3*i+1]?=some y)(J:ws[4+3*i+2]?=some z):chk ws i=.tuple [.str x,.str y,dS z]:=by
 have l:4+3*i+2<ws.length:=(AO.mp J).1;have e:(ws.drop (4+3*i)).take 3=[x,y,z]:=by
  rw[Ci (by lia),Ci (by lia),Ci (by lia)];rw[Ai (by lia)]at h1 h2 J;injection h1 with h1;injection h2 with h2;injection J with J;show[ws[4+3*i],ws[4+3*i+1],ws[4+3*i+1+1]]=_;rw[h1,h2];congr 3
 unfold chk;rw[e];rfl
def aIt{ws:List Str}(h:¬ (6<ws.length/\∃ a b c R w,ws=[a,b,c]++R++[("as":Str),w])):fJ (mZ ws)=false:=by
 by_cases h5:ws.length<5
 .rw[xU h5];rfl
 obtain⟨a,b,c,R,v,w,rfl⟩:=aLs (ws:=ws) (by lia);rw[lW];split
 .rename_i J;subst J;have U:R.length<2:=by
   refine Nat.lt_of_not_le fun h2=>h ⟨?_,a,b,c,R,w,rfl⟩;simp only[Am,An,El];lia
  show(match (Ca [.str a,.str b,dS c,.tuple (R.map Bj),.str w])with|.tuple (.str kind::name::day::aY)=>decide (kind∈cB)&&(bD name&&(bZ 0 9999 day&&dX kind aY))|_=>false)=false;show(decide (a∈cB)&&(bH b&&(bZ 0 9999 (dS c)&&dX a [.tuple (R.map Bj),.str w])))=false;have key:dX a [.tuple (R.map Bj),.str w]=false:=by
   have O:oV (.tuple (R.map Bj))=false:=aEP (at':=false) (by rw[Ab];lia);unfold dX
   repeat' split
   .rfl
   .show(oV (.tuple (R.map Bj))&&_)=false;rw[O];rfl
   all_goals rfl
  rw[key,A1,A1,A1]
 .rfl
def tX(w0:Str)(r:List Str):List Aj:=if 2<=r.length then wd (2::bV w0) (w0::r) else(w0::r).map Bj++[.str ""]
def aJT{w0:Str}{r:List Str}(h1:w0≠"part")(h2:w0≠"join"):Fit (w0::r) (.tuple (tX w0 r)):=by
 have ep:eG (w0::r)=if w0∈cB then .tuple (wd (2::bV w0) (w0::r)) else .none:=by
  show(if w0="part" then _ else if w0="join" then _ else _)=_;rw[Ia h1,Ia h2];rfl
 unfold tX;split
 .rename_i O;by_cases h8:w0∈cB
  .exact Fit.eq (by rw[ep,Ib h8])
  .refine Fit.no ?_ (by rw[ep,Ia h8];rfl)
   match r,O with
   | b::c::r,_=>
    have e0:wd (2::bV w0) (w0::b::c::r)=(if ((0:Nat):Int)∈2::bV w0 then dS w0 else .str w0)::(wd (2::bV w0) (w0::b::c::r)).tail:=by
     unfold wd;rw[D7];rfl
    have e1:¬ ((0:Nat):Int)∈2::bV w0:=by
     unfold bV
     repeat' split
     all_goals decide
    rw[Ia e1]at e0;have J:(wd (2::bV w0) (w0::b::c::r)).length=r.length+3:=by rw[jO];rfl
    rw[e0]at J ⊢
    match (wd (2::bV w0) (w0::b::c::r)).tail,J with
    | [],z=>simp at z
    | [_],z=>simp at z
    | x::y::q,_=>
     show(decide (w0∈cB)&&_)=false;rw[Ie h8];rfl
 .rename_i O;refine Fit.no (vH (by rw[Am,Ab,An];show r.length+1+1<4;lia)) ?_;rw[ep];split
  .exact vH (by rw[jO,An];lia)
  .rfl
def aJU{w0:Str}{r:List Str}:(tX w0 r).length<=max (r.length+1) 3:=by
 unfold tX;split
 .rw[jO,An];lia
 .simp;lia
def aLu{H:Hp}{w0:Str}{r:List Str}(h:∀ z∈w0::r,z.length<=1000):dB false H ((tX w0 r).map dV) (tX w0 r):=by
 unfold tX;split
 .exact aAh h
 .rw[Al,Cp];refine dB.app ?_ (.cons (.str _ (by trivial)) .nil);exact aBg h
def aLv{w0:Str}{r:List Str}{i:Nat}{z:Str}(h:(w0::r)[i]?=some z)(hi:4<=i):(tX w0 r)[i]?=some (if (i:Int)∈bV w0 then dS z else .str z):=by
 have J:=(AO.mp h).1;unfold tX;rw[Ib (by rw[An]at J;lia),aIa h];have:((i:Int)∈2::bV w0)↔((i:Int)∈bV w0):=by
  rw[Ao];exact⟨fun h=>h.resolve_left (by lia),.inr⟩
 simp only[this]
def aCG:List Str->V
 | _::c::_=>kQ c
 | _=>.str ""
def aIu{w0:Str}{r:List Str}:((tX w0 r).take 4).map dV=((w0::r).take 2).map V.str++[aCG r]++(((w0::r).drop 3).take 1).map V.str:=by
 have e0:¬ ((0:Nat):Int)∈2::bV w0:=by
  unfold bV
  repeat' split
  all_goals decide
 have e1:¬ ((1:Nat):Int)∈2::bV w0:=by
  unfold bV
  repeat' split
  all_goals decide
 have e3:¬ ((3:Nat):Int)∈2::bV w0:=by
  unfold bV
  repeat' split
  all_goals decide
 match r with
 | []=>rfl
 | [b]=>rfl
 | [b,c]=>
  show([if ((0:Nat):Int)∈2::bV w0 then dS w0 else .str w0,if ((1:Nat):Int)∈2::bV w0 then dS b else .str b,if ((2:Nat):Int)∈2::bV w0 then dS c else .str c]:List Aj).map dV=_;rw[Ia e0,Ia e1,Ib (by simp)];show[V.str w0,V.str b,dV (dS c)]=_;rw[mY];rfl
 | b::c::e::r=>
  have hw:(wd (2::bV w0) (w0::b::c::e::r)).take 4=[if ((0:Nat):Int)∈2::bV w0 then dS w0 else .str w0,if ((1:Nat):Int)∈2::bV w0 then dS b else .str b,if ((2:Nat):Int)∈2::bV w0 then dS c else .str c,if ((3:Nat):Int)∈2::bV w0 then dS e else .str e]:=by
   unfold wd;rw[D7,D7,D7,D7];rfl
  show((wd (2::bV w0) (w0::b::c::e::r)).take 4).map dV=_;rw[hw,Ia e0,Ia e1,Ib (by simp),Ia e3];show[V.str w0,V.str b,dV (dS c),V.str e]=_;rw[mY];rfl
def aF2{f:Ag}{fd:Ay}(F:Fn K "_law_row_in" aEq f fd)(Z:mg "len"=none)(ag:mg "tuple"=none)(bw:mg "int"=none)(aA:mg "range"=none)
  (GI:Cal P w K mg base 4 "_law_is_row" ["_law_thing"] vB)
  (GU:Cal P w K mg base 1 "_law_number_in" ["_law_word"] aBc)
  :cC P w K mg base CX0 5 f fd ["_law_line"] aBf:=by
 refine okA F ["_law_line","_law_terms","_law_word","_law_day","_law_thing","_law_parts","_law_at","_law_numbers"] fun c8 A outer s H vs Q E hr nd h=>?_;obtain⟨z,rfl,hz,h60,ky,kn⟩:=h;have hu:=qV hr;have hm:∀ n:Nat,n<=400->EV 4 (n:Int) 3=true/\(((n-4+2)/3:Nat):Int)=CM 4 (n:Int) 3/\Ed ((n:Int)-4) 3=false:=by trivial
 have⟨hsm,hsz,hpl⟩:=hm (AA z " ").length h60;refine⟨_,(aK (cF 1 nd (eV A9 BM BL iD (pv 0) (pa1 aO)))
  (aK (cF 2 nd (aX bJ (pv 1) aD Ih))
  (aK (cF 3 nd aO)
  (aK (gW (bX (cT nY (aQ aS (by rfl) Z Av (pa1 (pv 1))) aD) (aN (cF 3 nd (bO GU hr (pa1 (aX bJ (pv 1) aD Ih))))) bA))
  (aK (cF 4 nd (cH dP))
  (aK (gW (bX (PW.pt (kH (cT cP (pv 2) aO) (kH (cT cP (aW gT (aQ aS (by rfl) Z Av (pa1 (pv 1))) aD) aD) (jQ (cT nY (aQ aS (by rfl) Z Av (pa1 (pv 1))) aD))))) (aK (cF 5 nd (dC dP))
   (aK (jG B1 rfl (zI (lo:=4) (hi:=((AA z " ").length:Int)) (st:=3) (n:=nP (AA z " ")) (by decide) hsm hsz hpl rfl aA (pa3 aD (aQ aS (by rfl) Z Av (pa1 (pv 1))) aD)) (g:=bT 6) (bW (i:=6) nd rfl (Bp rfl))
   (aN (fZ (eV A7 Bv Bu gC (pv 5) (pa1 (cH (pa3 (aX bJ (pv 1) (pv 6) Ih) (aX bJ (pv 1) (aW dF (pv 6) aD) Ih) (bO GU hr (pa1 (aX bJ (pv 1) (aW dF (pv 6) aD) Ih))))))))))
   (aN (cF 4 nd (cH (cU aO (cU (aX bJ (pv 1) aD Ih) (pa3 (pv 3) (aX bJ (pv 1) aD Ih) (cA cK (by rfl) ag (by kernel_rfl) (pa1 (pv 5))))))))))) (aN (bX (PW.pt (kH (cT cP (pv 2) aO) (kH (cT nY (aQ aS (by rfl) Z Av (pa1 (pv 1))) aD) (jQ (cT cP (aX bJ (pv 1) (pR kM aD) Ih) aO))))) (aN (cF 4 nd (cH (cU aO (cU (aX bJ (pv 1) aD Ih) (pa3 (pv 3) (cA cK (by rfl) ag (by kernel_rfl) (pa1 (cN fV (pv 1) (cM aD) (cM (pR kM aD))))) (aX bJ (pv 1) (pR kM aD) Ih))))))) (aN (bX (eJ iB (pv 2) (cH (pa2 aO aO)) (by with_unfolding_all rfl)) (aK (cF 4 nd (aW rG (aW rG (cA cK (by rfl) ag (by kernel_rfl) (pa1 (cN fV (pv 1) dU (cM aD)))) (cH (pa1 (pv 3)))) (cA cK (by rfl) ag (by kernel_rfl) (pa1 (cN fV (pv 1) (cM aD) (cM aD))))))
     (aK (cF 7 nd (aBF hu (aAF (gJ aO (cH (pa1 aD)) (gJ aO (cH (pa3 aD aD aD)) (gJ aO (cH (pa1 aD)) aAE))) rfl rfl (by simp) (by decide)) (pv 2) (cH dP) ⟨rfl,rfl,rfl,rfl⟩))
     (aN (jG B1 rfl (aFf rfl aA (pa2 aD (aQ aS (by rfl) Z Av (pa1 (pv 1))))) (g:=bT 6) (bW (i:=6) nd rfl (Bp rfl))
     (aN (cF 4 nd (aW rG (pv 4) (cH (pa1 (aX bJ (dC (pa2 (aX bJ (pv 1) (pv 6) Ih) (bO GU hr (pa1 (aX bJ (pv 1) (pv 6) Ih))))) (cA aFh (by rfl) bw (by kernel_rfl) (pa1 (dO gB (pv 6) (pv 7) (by with_unfolding_all rfl)))) Ih)))))))))) bA))))))
  (aK (bX (cJ (bO GI hr (pa1 (pv 4)))) (aN (aT (pv 4))) bA)
  (aN (aT gG))))))))),?_⟩
 refine⟨_,rfl,rfl,⟨_,_,rfl,rfl,by decide,aJ (n:=z.length+2) (by lia),fun L hL=>?_⟩⟩;have O:∀ w∈AA z " ",w.length<=1000:=fun w hw=>AH (nA z w hw) hz;have aB:(AA z " ")≠[]:=fun e=>by have:=gQ z;rw[e]at this;cases this
 generalize AA z " "=ws at O aB h60 ky kn hL ⊢;obtain⟨w0,aY,rfl⟩:∃ w0 aY,ws=w0::aY:=by
  cases ws with
  | nil=>exact absurd rfl aB
  | cons a b=>exact⟨a,b,rfl⟩
 have af:aY.length+1<=400:=h60;have sL:=aM (o:=.lst ((w0::aY).map V.str)) hL;have Y:upd H L (.lst ((w0::aY).map V.str)) L=some (.lst ((w0::aY).map V.str)):=aH;generalize upd H L _=H1 at sL Y ⊢;have J:(((w0::aY).map V.str).length:Int)=aY.length+1:=by rw[Ab];rfl
 have W:∀(i:Nat) (z:Str),(w0::aY)[i]?=some z->atI ((w0::aY).map V.str) (i:Int)=some (.str z):=fun i z h=>bG (by rw[AF,h];rfl);have e0:atI ((w0::aY).map V.str) 0=some (.str w0):=W 0 _ rfl;refine⟨_,rfl,L,_,0,_,rfl,rfl,aP Y,e0,?_⟩;dsimp only[bT];refine⟨fun σ' H'=>σ'=[some (.str z),some (.ref L),some (.str w0),some (aCG aY),none,none,none,none]/\aU H1 H',?_,?_⟩
 .refine⟨_,rfl,L,_,rfl,.inl (aP Y),_,_,rfl,rfl,_,rfl,?_⟩
  match aY,O,W,J with
  | b::c::r,O,W,J=>
   rw[Ic (show(2:Int)<(((w0::b::c::r).map V.str).length:Int) by rw[J];simp only[An];lia)];refine bF ?_;exact⟨_,rfl,L,_,2,_,rfl,rfl,aP Y,W 2 _ rfl,.mk c rfl (by have:=O c (by simp);lia) fun H2 s2=>⟨rfl,s2⟩⟩
  | [b],_,_,_=>exact bQ ⟨rfl,aU.refl _⟩
  | [],_,_,_=>exact bQ ⟨rfl,aU.refl _⟩
 rintro σ' H2 ⟨rfl,s2⟩
 replace Y:=s2 _ _ Y
 replace sL:=sL.trans s2
 clear s2;refine⟨zZ0,fun t0 cf=>?_⟩;have aw:=aM (o:=.tup []) cf;have bc:upd H2 t0 (.tup []) t0=some (.tup []):=aH;generalize upd H2 t0 _=H3 at aw bc ⊢
 replace Y:=aw _ _ Y
 replace sL:=sL.trans aw
 clear aw;dsimp only[bT];refine⟨fun σ' H'=>∃(t:Ag) (d:Aj) (o5 o6 o7:Option V),σ'=[some (.str z),some (.ref L),some (.str w0),some (aCG aY),some (.ref t),o5,o6,o7]/\aU H H'/\RdV false H' (.ref t) d/\Fit (w0::aY) d,?_,?_⟩
 .have ne:∀{u:Str},w0≠u->¬ V.str w0=V.str u:=fun h e=>by injection e with e;exact h e
  refine⟨_,rfl,rfl,_,rfl,?_⟩;have U:fJ (eG (w0::aY))=false->∀ H4,aU H3 H4->∃(t:Ag) (d:Aj) (o5 o6 o7:Option V),([some (.str z),some (.ref L),some (.str w0),some (aCG aY),some (.ref t0),none,none,none]:L2.St)=[some (.str z),some (.ref L),some (.str w0),some (aCG aY),some (.ref t),o5,o6,o7]/\aU H H4/\RdV false H4 (.ref t) d/\Fit (w0::aY) d:=fun h H4 s4=>⟨t0,.tuple [],none,none,none,rfl,sL.trans s4,.tup (s4 _ _ bc) (by show 0<=1000;decide) .nil,Fit.no rfl h⟩
  have av:2<=sizeLine:=aJ (by decide);by_cases hp:w0="part"
  .subst hp;rw[Ic (show V.str "part"=V.str "part" from rfl)];refine bF ?_;refine⟨_,rfl,L,_,rfl,.inl (aP Y),_,_,rfl,rfl,(show(0:Int)<3 by decide),rfl,_,rfl,dH (fun g3=>⟨_,rfl,L,_,rfl,.inl (aP Y),_,_,rfl,rfl,_,rfl,dH (fun g9=>?main) (fun g9=>?_)⟩) (fun g3=>bQ ?_)⟩
   case main=>
    have h3:(aY.length+1)%3=1:=by
     have:=V.int.inj (Ig g3);rw[J]at this;lia
    have h9:9<aY.length+1:=by
     have:=Ig g9;rw[J]at this;lia
    have hn:nP (("part":Str)::aY)=(aY.length-3)/3:=by
     unfold nP;rw[An];lia
    refine⟨A3 _,fun Lp br=>?_⟩;have sP:=aM (o:=.lst []) br;refine⟨_,rfl,L,_,rfl,.inl (aP (sP _ _ Y)),by rw[Ab],aDF (n:=nP (("part":Str)::aY)) (fun i σ H'=>∃(o6:Option V) (ys:List V),Aw3 (σ=[some (.str z),some (.ref L),some (.str "part"),some (aCG aY),some (.ref t0),some (.ref Lp),o6,none]) (aU H3 H') (Aw3 (H' Lp=some (.lst ys)) (ys.length=i) (dB false H' ys ((AY i).map (chk (("part":Str)::aY)))))) ⟨none,[],rfl,sP,aH,rfl,.nil⟩ ?_ ?_⟩
    .rintro i σ H4 hi ⟨o6,ys,rfl,s4,eP,ap,ry⟩;rw[hn]at hi;obtain⟨x,hx⟩:∃ x,(("part":Str)::aY)[4+3*i]?=some x:=⟨_,Ai (by rw[An];lia)⟩
     obtain⟨y,hy⟩:∃ x,(("part":Str)::aY)[4+3*i+1]?=some x:=⟨_,Ai (by rw[An];lia)⟩
     obtain⟨v,hv⟩:∃ x,(("part":Str)::aY)[4+3*i+2]?=some x:=⟨_,Ai (by rw[An];lia)⟩
     have ec:=aIs hx hy hv;have lx:=O _ (AG hx);have ly:=O _ (AG hy);have lv:=O _ (AG hv);have aa:=s4 _ _ Y;dsimp only[bT];refine⟨_,rfl,.inl ⟨rfl,_,aP eP⟩,_,rfl,_,rfl,L,_,_,_,rfl,rfl,aP aa,(by rw[show(4+(i:Int)*3)=((4+3*i:Nat):Int) by lia];exact W _ _ hx),_,rfl,_,rfl,_,_,rfl,rfl,L,_,_,_,rfl,rfl,aP aa,(by rw[show(4+(i:Int)*3+1)=((4+3*i+1:Nat):Int) by lia];exact W _ _ hy),_,rfl,_,rfl,_,_,rfl,rfl,L,_,_,_,rfl,rfl,aP aa,(by rw[show(4+(i:Int)*3+2)=((4+3*i+2:Nat):Int) by lia];exact W _ _ hv),.mk v rfl (by lia) fun H5 s5=>?_⟩;refine⟨zZ3,fun q hq=>?_⟩;have sq:=aM (o:=.tup [V.str x,.str y,kQ v]) hq;have aC:=s5 _ _ eP;have nq:q≠Lp:=(aZ aC hq).symm;refine⟨Lp,ys,_,rfl,rfl,sq _ _ aC,fM (by lia),_,ys++[V.ref q],rfl,xP (s4.trans (s5.trans sq)) br,aH,by rw[Am,ap];rfl,?_⟩;rw[Ek,Al];refine dB.app (((ry.same s5).same sq).keepF fun b o e _ cb=>?_) (.cons ?_ .nil)
     .rw[bE fun e2=>?_]
      .exact e
      .rw[e2,sq _ _ aC]at e;exact cb _ (BS.inj e).symm
     .rw[ec];refine .tup (by rw[bE nq];exact aH) (by show 3<=1000;decide) (.cons (.str _ lx) (.cons (.str _ ly) (.cons ?_ .nil)));rw[<- mY];exact tV v
    .rintro σ H4 ⟨o6,ys,rfl,s4,eP,ap,ry⟩;have aa:=s4 _ _ Y
     match aY,h9,O,W,aa,ap,ry,hn,af with
     | b::c::e::r,_,O,W,aa,ap,ry,hn,af=>
     refine⟨_,rfl,L,_,1,_,rfl,rfl,aP aa,W 1 b rfl,_,rfl,_,rfl,L,_,3,_,rfl,rfl,aP aa,W 3 e rfl,_,rfl,Lp,ys,rfl,.inl ⟨aP eP,fun tp ba=>⟨zZ5,fun t ht=>?_⟩⟩⟩;have au:=aM (o:=.tup ys) ba;have st:=aM (o:=.tup [V.str "part",.str b,kQ c,.str e,.ref tp]) ht;refine⟨t,tW (("part":Str)::b::c::e::r),_,_,_,rfl,sL.trans (s4.trans (au.trans st)),?_,Fit.eq rfl⟩;refine .tup (xs:=[V.str "part",.str b,kQ c,.str e,.ref tp]) aH (by show 5<=1000;decide) ?_;show dB false _ _ [.str "part",.str b,dS c,.str e,.tuple ((AY (nP (("part":Str)::b::c::e::r))).map (chk (("part":Str)::b::c::e::r)))];refine .cons (.str _ (O _ (by simp))) (.cons (.str _ (O _ (by simp))) (.cons ?_ (.cons (.str _ (O _ (by simp))) (.cons (.tup (st _ _ aH) (by rw[ap,hn];simp only[An]at af ⊢;lia) (ry.same (au.trans st))) .nil))));rw[<- mY];exact tV c
   all_goals
    have hb:fJ (eG (("part":Str)::aY))=false:=aIr fun⟨u,v⟩=>by
     rw[An]at u v
     first
      | exact g9 (Ic (by rw[J];lia))
      | exact g3 (Ic (congrArg V.int (by rw[J];lia)))
    refine⟨_,rfl,rfl,_,rfl,?_⟩;rw[Ie (show¬ V.str "part"=V.str "join" by trivial)];refine bQ (bQ ?_);refine⟨_,rfl,av,fun q hq=>⟨q,_,rfl,.inr (aV aH),rfl,rfl,_,rfl,?_⟩⟩;rw[show(if true=true then !inV (V.str "part") [V.str "part",V.str "join"] else inV (V.str "part") [V.str "part",V.str "join"])=false by trivial];exact bQ (U hb _ (aM hq))
  rw[Ie (ne hp)];refine bQ (bQ ?_);refine⟨_,rfl,rfl,_,rfl,?_⟩;by_cases hj:w0="join"
  .subst hj;rw[Ic (show V.str "join"=V.str "join" from rfl)];refine bF ?_;refine⟨_,rfl,L,_,rfl,.inl (aP Y),_,_,rfl,rfl,_,rfl,?_⟩;by_cases h6:6<aY.length+1
   case neg=>
    rw[Ie (show¬ (6:Int)<_ by rw[J];lia)];refine bQ (bQ ?_);have hb:fJ (eG (("join":Str)::aY))=false:=aIt fun⟨u,_⟩=>h6 u;refine⟨_,rfl,av,fun q hq=>⟨q,_,rfl,.inr (aV aH),rfl,rfl,_,rfl,?_⟩⟩;rw[show(if true=true then !inV (V.str "join") [V.str "part",V.str "join"] else inV (V.str "join") [V.str "part",V.str "join"])=false by trivial];exact bQ (U hb _ (aM hq))
   rw[Ic (show(6:Int)<_ by rw[J];lia)];refine bF ?_;have⟨a,b,c,R,v,w',e⟩:=aLs (ws:=("join":Str)::aY) (by rw[An];lia);have e2:("join":Str)=a/\aY=b::c::(R++[v,w']):=by simpa using e
   obtain⟨rfl,rfl⟩:=e2;have eW:(("join":Str)::b::c::(R++[v,w'])).map V.str=[V.str "join",.str b,.str c]++R.map V.str++[.str v,.str w']:=by simp
   have ao:=Y;rw[eW]at ao;refine⟨_,rfl,2,rfl,L,_,-2,_,rfl,rfl,aP ao,vF.1,rfl,_,rfl,?_⟩;by_cases hv:v="as"
   case neg=>
    rw[Ie (show¬ V.str v=V.str "as" from fun e=>by injection e with e;exact hv e)];refine bQ ?_;have hb:fJ (eG (("join":Str)::b::c::(R++[v,w'])))=false:=by
     have:=lW "join" b c R v w';rw[Ia hv]at this;show fJ (mZ (("join":Str)::b::c::(R++[v,w'])))=false;rw[show("join":Str)::b::c::(R++[v,w'])=[("join":Str),b,c]++R++[v,w'] by simp,this];rfl
    refine⟨_,rfl,av,fun q hq=>⟨q,_,rfl,.inr (aV aH),rfl,rfl,_,rfl,?_⟩⟩;rw[show(if true=true then !inV (V.str "join") [V.str "part",V.str "join"] else inV (V.str "join") [V.str "part",V.str "join"])=false by trivial];exact bQ (U hb _ (aM hq))
   rw[Ic (show V.str v=V.str "as" by rw[hv])];refine bF ?_
   .subst hv;have hR:∀ z∈R,z.length<=1000:=fun z h=>O z (by simp[h]);have dc:R.length<=400:=by simp at af;lia
    refine⟨_,rfl,L,_,1,_,rfl,rfl,aP ao,bG (j:=1) rfl,_,rfl,_,rfl,3,rfl,2,rfl,-2,rfl,L,_,rfl,aP ao,fun M hM=>?_⟩;rw[aEL];have sM:=aM (o:=.lst (R.map V.str)) hM;refine⟨M,_,rfl,.inl ⟨aP aH,fun tp ba=>?_⟩⟩;have au:=aM (o:=.tup (R.map V.str)) ba;have s5:=sM.trans au;have bN:upd (upd H3 M (.lst (R.map V.str))) tp (.tup (R.map V.str)) tp=some (.tup (R.map V.str)):=aH;generalize upd (upd H3 M (.lst (R.map V.str))) tp _=H5 at s5 bN ⊢;refine⟨_,rfl,1,rfl,L,_,-1,_,rfl,rfl,aP (s5 _ _ ao),vF.2,zZ5,fun t ht=>?_⟩;have st:=aM (o:=.tup [V.str "join",.str b,kQ c,.ref tp,.str w']) ht;refine⟨t,aEN "join" b c R w',none,none,none,rfl,sL.trans (s5.trans st),?_,Fit.eq ?_⟩
    .refine .tup (xs:=[V.str "join",.str b,kQ c,.ref tp,.str w']) aH (by show 5<=1000;decide) ?_;show dB false _ _ [.str "join",.str b,dS c,.tuple (R.map Bj),.str w'];refine .cons (.str _ (O _ (by simp))) (.cons (.str _ (O _ (by simp))) (.cons ?_ (.cons (.tup (st _ _ bN) (by rw[Ab];lia) (aBg hR)) (.cons (.str _ (O _ (by simp))) .nil))));rw[<- mY];exact tV c
    .have:=lW "join" b c R "as" w';rw[Ib rfl]at this;exact this.symm
  rw[Ie (ne hj)];refine bQ (bQ ?_);refine⟨_,rfl,av,fun q hq=>⟨q,_,rfl,.inr (aV aH),rfl,rfl,_,rfl,?_⟩⟩;have gf:(if true=true then !inV (V.str w0) [V.str "part",V.str "join"] else inV (V.str w0) [V.str "part",V.str "join"])=true:=by
   have h0:¬ (("part":Str)=w0\/("join":Str)=w0):=fun h=>h.elim (fun e=>hp e.symm) (fun e=>hj e.symm);simpa[inV,eqV]using h0
  rw[gf];refine bF ?_
  replace sL:=sL.trans (aM (o:=.tup [V.str "part",V.str "join"]) hq)
  replace Y:=aM (o:=.tup [V.str "part",V.str "join"]) hq _ _ Y
  clear U bc gf;generalize upd H3 q _=H4 at sL Y ⊢;refine⟨_,rfl,2,rfl,L,_,rfl,aP Y,fun M hM=>?_⟩;have ec:gU ((w0::aY).map V.str) none (some 2)=((w0::aY).take 2).map V.str:=by rw[<- CZ.symm];exact oK (α:=Nat) ((w0::aY).map V.str) 2
  rw[ec];have sM:=aM (o:=.lst (((w0::aY).take 2).map V.str)) hM;refine⟨M,_,rfl,.inl ⟨aP aH,fun t1 cy=>?_⟩⟩;have s1:=sM.trans (aM (o:=.tup (((w0::aY).take 2).map V.str)) cy);have e1:upd (upd H4 M (.lst (((w0::aY).take 2).map V.str))) t1 (.tup (((w0::aY).take 2).map V.str)) t1=some (.tup (((w0::aY).take 2).map V.str)):=aH;generalize upd (upd H4 M _) t1 _=H5 at s1 e1 ⊢;refine⟨_,rfl,zZ1,fun t2 aG=>?_⟩;have s2:=aM (o:=.tup [aCG aY]) aG;have l2:(((w0::aY).take 2).map V.str).length<=2:=by rw[Ab,AJ];lia
  refine⟨t1,t2,_,_,rfl,rfl,s2 _ _ e1,aH,by show _+1<=1000000;lia,fun t3 H6 s3 e3=>?_⟩;have s6:=s1.trans (s2.trans s3);clear e1 s1 sM;refine⟨_,rfl,3,rfl,4,rfl,L,_,rfl,aP (s6 _ _ Y),fun M2 ck=>?_⟩;have bB:gU ((w0::aY).map V.str) (some 3) (some 4)=(((w0::aY).drop 3).take 1).map V.str:=by
   rw[show(3:Int)=((3:Nat):Int) from rfl,show(4:Int)=((4:Nat):Int) from rfl,aBe,<- DG,<- CZ]
  rw[bB];have bi:=aM (o:=.lst ((((w0::aY).drop 3).take 1).map V.str)) ck;refine⟨M2,_,rfl,.inl ⟨aP aH,fun t4 cx=>?_⟩⟩;have s7:=bi.trans (aM (o:=.tup ((((w0::aY).drop 3).take 1).map V.str)) cx);have l4:((((w0::aY).drop 3).take 1).map V.str).length<=1:=by rw[Ab,AJ];lia
  refine⟨t3,t4,_,_,rfl,rfl,s7 _ _ e3,aH,by rw[Am];show _+1+_<=1000000;lia,fun t5 H8 s8 e5=>?_⟩;rw[<- aIu]at e5;have aF:=s6.trans (s7.trans s8);clear e3 s6 s7 bi ec bB;clear s8;refine fun dd bt=>⟨zZ1,fun q1 cD=>⟨zZ3,fun q2 cw=>⟨zZ1,fun q3 cz=>?_⟩⟩⟩
  have a0:aU H8 (upd H8 dd (.dK [])):=aM bt;have a1:=aM (o:=.tup [V.int 4]) cD;have a2:=aM (o:=.tup [V.int 4,.int 5,.int 6]) cw;have a3:=aM (o:=.tup [V.int 4]) cz;refine⟨(a1.trans (a2.trans a3)) _ _ aH,[(Ak "measure",.ref q1),(Ak "breach",.ref q2),(Ak "view",.ref q3)],rfl,(by show 3<=15;decide),?_⟩;rw[show oF [] [((Ak "measure":Key),V.ref q1),(Ak "breach",.ref q2),(Ak "view",.ref q3)]=[((Ak "measure":Key),V.ref q1),(Ak "breach",.ref q2),(Ak "view",.ref q3)] from rfl];have b1:upd (upd (upd (upd H8 dd (.dK [])) q1 (.tup [V.int 4])) q2 (.tup [V.int 4,.int 5,.int 6])) q3 (.tup [V.int 4]) q1=some (.tup [V.int 4]):=(a2.trans a3) _ _ aH;have b2:upd (upd (upd (upd H8 dd (.dK [])) q1 (.tup [V.int 4])) q2 (.tup [V.int 4,.int 5,.int 6])) q3 (.tup [V.int 4]) q2=some (.tup [V.int 4,.int 5,.int 6]):=a3 _ _ aH;have b3:upd (upd (upd (upd H8 dd (.dK [])) q1 (.tup [V.int 4])) q2 (.tup [V.int 4,.int 5,.int 6])) q3 (.tup [V.int 4]) q3=some (.tup [V.int 4]):=aH;have bd:=(a1.trans (a2.trans a3)) dd (.dK []) aH;have s9:=a0.trans (a1.trans (a2.trans a3));generalize upd (upd (upd (upd H8 dd (.dK [])) q1 (.tup [V.int 4])) q2 (.tup [V.int 4,.int 5,.int 6])) q3 (.tup [V.int 4])=H9 at b1 b2 b3 bd s9 ⊢;have nk:∀{x:Ag} {xs:List V},H9 x=some (.tup xs)->x≠dd:=fun h e=>by rw[e,bd]at h;cases h
  have c1:=nk b1;have c2:=nk b2;have c3:=nk b3;have aR:aU H8 (upd H9 dd (.dK [((Ak "measure":Key),V.ref q1),(Ak "breach",.ref q2),(Ak "view",.ref q3)])):=xP s9 bt;have ed:upd H9 dd (.dK [((Ak "measure":Key),V.ref q1),(Ak "breach",.ref q2),(Ak "view",.ref q3)]) dd=some (.dK [((Ak "measure":Key),V.ref q1),(Ak "breach",.ref q2),(Ak "view",.ref q3)]):=aH
  replace b1:upd H9 dd (.dK [((Ak "measure":Key),V.ref q1),(Ak "breach",.ref q2),(Ak "view",.ref q3)]) q1=some (.tup [V.int 4]):=by rw[bE c1];exact b1
  replace b2:upd H9 dd (.dK [((Ak "measure":Key),V.ref q1),(Ak "breach",.ref q2),(Ak "view",.ref q3)]) q2=some (.tup [V.int 4,.int 5,.int 6]):=by rw[bE c2];exact b2
  replace b3:upd H9 dd (.dK [((Ak "measure":Key),V.ref q1),(Ak "breach",.ref q2),(Ak "view",.ref q3)]) q3=some (.tup [V.int 4]):=by rw[bE c3];exact b3
  generalize upd H9 dd _=bx at aR ed b1 b2 b3 ⊢;refine⟨dd,rfl,.inl ⟨_,.inl ed⟩,_,rfl,zZ0,fun q4 bz=>⟨_,.inl ⟨_,Ak w0,.inl (aM bz _ _ ed),rfl,rfl⟩,?_⟩⟩;have aj:=aM (o:=.tup []) bz;obtain⟨nb,hnb,enb⟩:∃ nb,(gY [((Ak "measure":Key),V.ref q1),(Ak "breach",.ref q2),(Ak "view",.ref q3)] (Ak w0)).getD (.ref q4)=.ref nb/\upd bx q4 (.tup []) nb=some (.tup ((bV w0).map V.int)):=by
   by_cases h1:w0="measure"
   .subst h1;exact⟨q1,rfl,aj _ _ b1⟩
   by_cases h2:w0="breach"
   .subst h2;exact⟨q2,rfl,aj _ _ b2⟩
   by_cases h3:w0="view"
   .subst h3;exact⟨q3,rfl,aj _ _ b3⟩
   have bb:∀{x:Str},w0≠x->¬ (Ak x:Key)=Ak w0:=fun h e=>h (Ak.inj e).symm;refine⟨q4,?_,?_⟩
   .rw[cR (bb h1),cR (bb h2),cR (bb h3)];rfl
   .rw[show bV w0=[] from by unfold bV;exact(Ia (not_or.mpr ⟨h1,h3⟩)).trans (Ia h2)];exact aH
  rw[hnb];generalize upd bx q4 (.tup [])=cg at aj enb ⊢;have ah:=aR.trans aj;have sA:=sL.trans (aF.trans ah)
  replace Y:=(aF.trans ah) _ _ Y
  replace e5:=ah _ _ e5
  clear b1 b2 b3 bd s9 aR aj ed ah aF;have dk:=aJU (w0:=w0) (r:=aY);refine⟨_,rfl,L,_,rfl,.inl (aP Y),_,_,rfl,⟨by decide,by decide,by rw[J];lia,by rw[J];lia⟩,oZ (lo:=4) (fun i σ H'=>∃(t:Ag) (o6:Option V),σ=[some (.str z),some (.ref L),some (.str w0),some (aCG aY),some (.ref t),none,o6,some (.ref nb)]/\aU cg H'/\H' t=some (.tup (((tX w0 aY).take (4+i)).map dV))) ⟨t5,none,rfl,aU.refl _,e5⟩ ?_ ?_⟩
  .rintro i σ cq hi ⟨t,o6,rfl,an,et⟩;rw[J]at hi;obtain⟨x,hx⟩:∃ x,(w0::aY)[4+i]?=some x:=⟨_,Ai (by rw[An];lia)⟩
   have lx:=O _ (AG hx);have ax:=an _ _ Y;have bu:atI ((w0::aY).map V.str) (4+(i:Int))=some (.str x):=by
    rw[show(4+(i:Int))=((4+i:Nat):Int) by lia];exact W _ _ hx
   dsimp only[bT];refine⟨_,rfl,_,rfl,_,rfl,L,_,_,_,rfl,rfl,aP ax,bu,_,rfl,_,rfl,L,_,_,_,rfl,rfl,aP ax,bu,.mk x rfl (by lia) fun de cc=>?_⟩;refine⟨zZ2,fun M hM=>?_⟩;have sM:=aM (o:=.lst [V.str x,kQ x]) hM;have sB:=cc.trans sM;refine⟨_,rfl,_,rfl,nb,_,rfl,.inr (aV (sB _ _ (an _ _ enb))),rfl,lF _,.inr ⟨_,rfl,?_⟩⟩;have ei:(if false=true then !inV (V.int (4+(i:Int))) ((bV w0).map V.int) else inV (V.int (4+(i:Int))) ((bV w0).map V.int))=decide ((4+(i:Int))∈bV w0):=aCB _ _;rw[ei];have bK:atI [V.str x,kQ x] (if decide ((4+(i:Int))∈bV w0)=true then 1 else 0)=some (dV (if (((4+i:Nat)):Int)∈bV w0 then dS x else .str x)):=by
    rw[show(((4+i:Nat)):Int)=4+(i:Int) by lia];by_cases ar:(4+(i:Int))∈bV w0
    .rw[Ic ar,Ib ar,mY];rfl
    .rw[Ie ar,Ia ar];rfl
   refine⟨M,_,_,_,rfl,rfl,aP aH,bK,zZ1,fun t2 aG=>?_⟩;have bg:=aM (o:=.tup [dV (if (((4+i:Nat)):Int)∈bV w0 then dS x else .str x)]) aG;have lt:(((tX w0 aY).take (4+i)).map dV).length<=500:=by rw[Ab,AJ];lia
   refine⟨t,t2,_,_,rfl,rfl,(sB.trans bg) _ _ et,aH,by show _+1<=1000000;lia,fun t3 dm cs cr=>?_⟩;refine⟨t3,_,rfl,an.trans (sB.trans (bg.trans cs)),?_⟩;rw[cr,<- Hb,A0,aLv hx (by lia),Al];rfl
  .rintro σ cq ⟨t,o6,rfl,an,et⟩;rw[J,Bi (by lia)]at et;exact⟨t,.tuple (tX w0 aY),none,o6,_,rfl,sA.trans an,.tup et (by rw[Ab];lia) (aLu O),aJT hp hj⟩
 rintro σ' H4 ⟨t,d,o5,o6,o7,rfl,s4,rd,bP⟩;refine⟨_,rfl,false,_,_,rfl,rd,fun H5 s5=>⟨_,rfl,?_⟩⟩;have bL:=s4.trans s5;cases hd:fJ d with
 | true=>
  refine bF ⟨_,rfl,?_⟩;have ed:=bP.2 hd;exact ky (by rw[<- ed];exact hd) t H5 bL (by rw[<- ed];exact rd.same s5)
 | false=>exact bQ (kn (by rw[<- bP.1];exact hd) H5 bL)
def aIv(a b:Int)(c:Str)(J O:Int)(U:Str):ltK a b c J O U=jL (a,b,c) (J,O,U):=by
 unfold ltK jL;simp only[beq_iff_eq]
abbrev fW3:List V:=[V.str "measure",.str "breach",.str "view"]
def nmD:Aj->Str|.tuple (_::.str n::_)=>n|_=>""
def kyD:Aj->L2.K3|.tuple (.str w::.str n::.int dy::_)=>(dy,rk w,n)|_=>(0,0,"")
def fdD:Aj->Option Str|.tuple (.str w::_::_::.str f::_)=>if inV (.str w) fW3=true then some f else none|_=>none
def aIw{d:Aj}(h:fJ d=true):∃(w n:Str) (J:Int) (x:Aj) (ds:List Aj),d=.tuple (.str w::.str n::.int J::x::ds)/\w∈cB/\n.length<=8/\(inV (.str w) fW3=true->∃ f,x=.str f):=by
 unfold fJ at h;split at h
 .rename_i w name day aY;simp only[Aw]at h;obtain⟨h1,h2,h3,h4⟩:=h;have hw:=Ig h1;cases name with
  | str n=>
   cases day with
   | int J=>
    cases aY with
    | nil=>
     have:dX w []=false:=by
      unfold dX
      repeat' split
      all_goals rfl
     rw[this]at h4;cases h4
    | cons x ds=>
     refine⟨w,n,J,x,ds,rfl,hw,(gE h2).2,fun O=>?_⟩;have U:("measure":Str)=w\/("breach":Str)=w\/("view":Str)=w:=by simpa[inV,eqV]using O
     have hn:bD x=true:=by
      rcases U with rfl|rfl|rfl
      .have h5:iF (x::ds)=true:=h4;unfold iF at h5;split at h5
       .rename_i e;cases e;rw[Aw]at h5;exact h5.1
       .cases h5
      .have h5:gP (x::ds)=true:=h4;unfold gP at h5;split at h5
       .rename_i e;cases e;simp only[Aw]at h5;exact h5.1.1.1
       .cases h5
      .have h5:lP (x::ds)=true:=h4;unfold lP at h5;split at h5
       .rename_i e;cases e;simp only[Aw]at h5;exact h5.1.1
       .cases h5
     cases x with
     | str f=>exact⟨f,rfl⟩
     | _=>simp[bD]at hn
   | _=>simp[bZ]at h3
  | _=>simp[bD]at h2
 .cases h
def jP{H:Hp}{x:V}{d:Aj}(r:RdV false H x d)(h:fJ d=true):∃(t:Ag) (w n:Str) (O:Int) (x4:V) (J:Aj) (aY:List V) (ds:List Aj),x=.ref t/\H t=some (.tup (.str w::.str n::.int O::x4::aY))/\d=.tuple (.str w::.str n::.int O::J::ds)/\RdV false H x4 J/\w∈cB/\(inV (.str w) fW3=true->∃ f,J=.str f):=by
 obtain⟨w,n,O,J,ds,rfl,hw,_,hf⟩:=aIw h;obtain⟨t,ys,rfl,e,rs⟩:=rdT r;cases rs with
 | cons a rs=>
 cases rs with
 | cons b rs=>
 cases rs with
 | cons c rs=>
 cases rs with
 | cons q rs=>
 cases a;cases b;cases c;exact⟨t,w,n,O,_,J,_,ds,rfl,e,rfl,q,hw,hf⟩
inductive aAj(vs:List V)(H:Hp)(Q:VK)(u3_:XK):Prop
 | mk (x y:V) (d e:Aj) (q0:vs=[x,y]) (q1:RdV false H x d) (q2:fJ d=true) (q3:RdV false H y e) (q4:fJ e=true) (q5:∀ H',aU H H'->Q (.bl (jL (kyD d) (kyD e))) H'):aAj vs H Q u3_
def aEQ:Sp:=fun vs H Q u3_=>aAj vs H Q u3_
structure nC(H:Hp)(la:Ag)(lys:List V)(lds:List Aj):Prop where
 e:H la=some (.lst lys)
 rd:dB false H lys lds
 ok:lds.all cX=true
 few:lds.length<=8
def nC.same{H H':Hp}{la:Ag}{O:List V}{J:List Aj}(h:nC H la O J)(s:aU H H'):nC H' la O J:=⟨s _ _ h.e,h.rd.same s,h.ok,h.few⟩
def nC.head{H:Hp}{la:Ag}{J:List V}{O:List Aj}(h:nC H la J O){i:Nat}{v:V}(W:J[i]?=some v):∃ q aY z,v=.ref q/\H q=some (.tup (.str z::aY))/\(O.map dM)[i]?=some z:=by
 obtain⟨d,hd,rv⟩:=h.rd.at W;have U:=AR.mp h.ok d (AG hd);obtain⟨f,g,a,j,rfl,_⟩:=qH U;obtain⟨b,zs,rfl,eb,rz⟩:=rdT rv;cases rz with
 | cons a r=>
  cases a;exact⟨b,_,f,rfl,eb,by rw[AF,hd];rfl⟩
structure lX(H:Hp)(lr:Ag)(xs:List V)(us:List Aj):Prop where
 e:H lr=some (.lst xs)
 rd:dB false H xs us
 ok:us.all fJ=true
 few:us.length<=40
def lX.same{H H':Hp}{la:Ag}{O:List V}{J:List Aj}(h:lX H la O J)(s:aU H H'):lX H' la O J:=⟨s _ _ h.e,h.rd.same s,h.ok,h.few⟩
def lX.at{H:Hp}{la:Ag}{O:List V}{J:List Aj}(h:lX H la O J){i:Nat}{v:V}(U:O[i]?=some v):∃ d,J[i]?=some d/\RdV false H v d/\fJ d=true:=by
 obtain⟨d,hd,rv⟩:=h.rd.at U;exact⟨d,hd,rv,AR.mp h.ok d (AG hd)⟩
def fB(d:Aj)(lds:List Aj):Bool:=match fdD d with|some f=>decide (f∈lds.map dM)|none=>true
def lB(d:Aj)(us:List Aj):Bool:=match us.getLast? with|none=>true|some u=>jL (kyD u) (kyD d)
def sF(d:Aj)(lds us:List Aj):Bool:=fB d lds&&(decide (us.length<40)&&(!decide (nmD d∈us.map nmD)&&lB d us))
inductive aER(vs:List V)(H:Hp)(Q:VK):Prop
 | mk (x:V) (la lr:Ag) (d:Aj) (lys:List V) (lds:List Aj) (xs:List V) (us:List Aj) (h0:vs=[x,.ref la,.ref lr]) (rx:RdV false H x d) (ok:fJ d=true) (hL:nC H la lys lds) (hR:lX H lr xs us) (q:∀ H',aU H H'->Q (.bl (sF d lds us)) H'):aER vs H Q
def aCH:Sp:=fun vs H Q _=>aER vs H Q
inductive aKt(vs:List V)(H:Hp)(Q:VK):Prop
 | mk (x:V) (la lr:Ag) (lys:List V) (lds:List Aj) (xs:List V) (us:List Aj) (h0:vs=[.ref la,.ref lr,x]) (hL:nC H la lys lds) (hR:lX H lr xs us) (q:(x=.non/\∀ H',aU H H'->Q (.bl false) H')\/∃ d,RdV false H x d/\fJ d=true/\∀ H',aU H H'->Q (.bl (!lds.isEmpty&&sF d lds us)) H'):aKt vs H Q
def aES:Sp:=fun vs H Q _=>aKt vs H Q
def pQ(z:Str):Aj:=.tuple (wd [2,3] (AA z " ").tail)
inductive aET(vs:List V)(H:Hp)(Q:VK)(E:XK):Prop
 | mk (z:Str) (h0:vs=[.str z]) (hz:z.length<=1000) (hl:(AA z " ").length<=400) (qy:cX (pQ z)=true->∀(t:Ag) (H':Hp),aU H H'->RdV false H' (.ref t) (pQ z)->Q (.ref t) H') (qn:cX (pQ z)=false->∀ H',aU H H'->Q .non H'):aET vs H Q E
def sG:Sp:=fun vs H Q E=>aET vs H Q E
def neS{a b:Str}(h:a≠b):¬ V.str a=V.str b:=fun e=>h (V.str.inj e)
def aDG{ds:List Aj}(h:ds.length≠4):cX (.tuple ds)=false:=by
 match ds,h with
 | [],_=>rfl
 | [_],_=>rfl
 | [_,_],_=>rfl
 | [_,_,_],_=>rfl
 | [_,_,_,_],z=>exact absurd rfl z
 | _::_::_::_::_::_,_=>rfl
def aIx{f:Ag}{fd:Ay}(F:Fn K "goes_ahead" aHw f fd)
  (O:Cal P w K mg base 1 "order" ["row"] pI)
  :cC P w K mg base CX0 2 f fd ["row","other"] aEQ:=by
 refine okA F ["row","other"] fun Y A outer s H vs Q E J nd h=>?_;obtain⟨x,y,d,e,rfl,rx,okx,ry,oky,k⟩:=h;have U:=F0 (qV J);refine⟨_,(aN (aT (dO (aGR U) (bO O J (pa1 (pv 0))) (bO O J (pa1 (pv 1))) (fA _)))),?_⟩;obtain⟨t,w1,n1,y1,_,_,_,_,rfl,et,rfl,_,hw1,_⟩:=jP rx okx;obtain⟨t2,w2,n2,y2,_,_,_,_,rfl,et2,rfl,_,hw2,_⟩:=jP ry oky;refine⟨_,rfl,_,w1,n1,y1,rfl,⟨t,_,rfl,et,hw1⟩,fun W H1 s1 e1=>?_⟩;refine⟨_,rfl,_,w2,n2,y2,rfl,⟨t2,_,rfl,s1 _ _ et2,hw2⟩,fun Z H2 s2 e2=>?_⟩;refine⟨W,Z,_,_,_,_,_,_,rfl,rfl,s2 _ _ e1,e2,?_⟩;rw[aIv];exact k H2 (s1.trans s2)
def aF3{f:Ag}{fd:Ay}(F:Fn K "goes_behind" uZ f fd)(ad:mg "len"=none)(ac:∃ t,mg "MOST_ROWS"=some (.int 40 t))
  (GF:Cal P w K mg base 1 "field_of" ["row"] zY)
  (GA:Cal P w K mg base 2 "goes_ahead" ["row","other"] aEQ)
  :cC P w K mg base CX0 3 f fd ["row","laying","rows"] aCH:=by
 refine okA F ["row","laying","rows","field"] fun aA A outer s H vs Q E hr nd h=>?_;obtain⟨x,la,lr,d,lys,lds,xs,us,rfl,rx,ok,hL,hR,k⟩:=h;obtain⟨tm,hmr⟩:=ac;refine⟨_,(aK (cF 3 nd (bO GF hr (pa1 (pv 0))))
  (aK (gW (bX (PW.pt (kH (cT aI1 (pv 3) gG) (jQ (eJ iB (pv 3) (eU (N:=["place"]) (src:=[none]) (osc:=bC uZ) (oN:=["row","laying","rows","field"]) bkA (hZ (pv 1)) (fun cl s H fp dl C=>⟨bW (i:=0) (show(["place"]:List Str).Nodup by trivial) rfl (Bp rfl),dJ,aX (r:=vQ K) bS (pv 0) aD Ih⟩)) (by with_unfolding_all rfl))))) (aN (aT eZ)) bA))
  (aK (bX (PW.pt (dL (cT aGk (aQ aS (by rfl) ad Av (pa1 (pv 2))) (cG (v:=.int 40) (by rfl) hmr ⟨_,rfl⟩)) (dW (eJ gB (aX bS (pv 0) aD Ih) (eU (N:=["known"]) (src:=[none]) (osc:=bC uZ) (oN:=["row","laying","rows","field"]) bkA (hZ (pv 2)) (fun cl s H fp dl C=>⟨bW (i:=0) (show(["known"]:List Str).Nodup by trivial) rfl (Bp rfl),dJ,aX (r:=vQ K) bS (pv 0) aD Ih⟩)) (by with_unfolding_all rfl))))) (aN (aT eZ)) bA)
  (aN (aT (aGe (aJe (pv 2)) (dR (bO GA hr (pa2 (aX bJ (pv 2) (pR kM aD) Ih) (pv 0)))))))))),?_⟩
 obtain⟨tr,w1,n1,dy,x4,d4,rest',ds,rfl,etr,rfl,r4,hw1,hf4⟩:=jP rx ok;have W:=hR.rd.len;have am:=hR.few;have av:=hL.rd.len;have h8:=hL.few;refine⟨_,rfl,tr,w1,_,_,x4,rest',rfl,etr,fun H1 s1=>?_⟩;obtain⟨fv,hfv⟩:∃ fv:V,fv=if inV (.str w1) fW3=true then x4 else .non:=⟨_,rfl⟩
 rw[<- hfv];refine⟨fun σ' H'=>σ'=[some (.ref tr),some (.ref la),some (.ref lr),some fv]/\aU H H'/\fB (.tuple (.str w1::.str n1::.int dy::d4::ds)) lds=true,?_,?_⟩
 .by_cases g:inV (.str w1) fW3=true
  .obtain⟨z,rfl⟩:=hf4 g;have Z:fB (.tuple (.str w1::.str n1::.int dy::.str z::ds)) lds=decide (z∈lds.map dM):=by
    unfold fB;show(match (if inV (.str w1) fW3=true then some z else none)with|some f=>decide (f∈lds.map dM)|none=>true)=_;rw[Ib g]
   have e4:=rdS r4;subst e4;rw[Ib g]at hfv;subst hfv;refine⟨_,rfl,rfl,_,rfl,?_⟩;rw[Ie (show¬ V.str z=V.non from fun y=>nomatch y)];refine bF ?_;have Y:=hL.same s1;refine⟨_,rfl,_,rfl,la,rfl,⟨_,aP Y.e⟩,?_⟩;refine iM (K:=K) (xs:=lys) (fun i zs σ H'=>aU H1 H'/\zs=((lds.map dM).take i).map V.str/\∃ o,σ=[o]) ⟨aU.refl H1,rfl,none,rfl⟩ (aJ (by lia)) (fun i zs σ H' p=>by rw[p.2.1,Ab,AJ];lia) (fun i zs σ H' p=>aP (p.1 _ _ Y.e)) ?_ ?_
   .rintro i px zs σ H' aj ⟨S,rfl,o,rfl⟩;dsimp only[bT];obtain⟨b,rr,zz,rfl,eb,hw⟩:=Y.head aj;refine bF ?_;refine⟨_,rfl,b,_,0,_,rfl,rfl,aV (S _ _ eb),bG (j:=0) rfl,S,?_,_,rfl⟩;rw[A0,hw,Al];rfl
   .rintro zs σ H' ⟨S,rfl,o,rfl⟩ D hD;rw[Bi (by rw[Ab];lia)];have sD:=aM (o:=.lst ((lds.map dM).map V.str)) hD;refine⟨D,_,rfl,.inl (aP aH),rfl,fO _,_,rfl,?_⟩;rw[Ib rfl,mT];have s2:=s1.trans (S.trans sD);by_cases hz:z∈lds.map dM
    .rw[Ic hz];exact bQ ⟨rfl,s2,by rw[Z,Ic hz]⟩
    .rw[Ie hz];refine bF ?_;have q:=k _ s2;unfold sF at q;rw[Z,Ie hz]at q;exact q
  .have Z:fB (.tuple (.str w1::.str n1::.int dy::d4::ds)) lds=true:=by
    unfold fB fdD;split
    .rename_i e;split at e
     .rename_i e2;cases e2;rw[Ia g]at e;cases e
     .cases e
    .rfl
   rw[Ia g]at hfv;subst hfv;refine⟨_,rfl,rfl,_,rfl,?_⟩;rw[Ic rfl];exact bQ ⟨rfl,s1,Z⟩
 rintro σ' H2 ⟨rfl,s2,Z⟩;have k2:∀ H',aU H H'->Q (.bl (decide (us.length<40)&&(!decide (n1∈us.map nmD)&&lB (.tuple (.str w1::.str n1::.int dy::d4::ds)) us))) H':=fun H' s'=>by
  have q:=k H' s';unfold sF at q;rw[Z,Ax]at q;exact q
 have O:=hR.same s2;refine⟨_,rfl,lr,_,rfl,.inl (aP O.e),_,_,rfl,rfl,_,rfl,?_⟩;by_cases U:us.length<40
 case neg=>
  rw[Ic (show(40:Int)<=((xs.length:Nat):Int) by lia)];refine bF (bF ?_);have q:=k2 H2 s2;rw[Ie U]at q;exact q
 rw[Ie (show¬ ((40:Int)<=((xs.length:Nat):Int)) by lia)];refine bQ ?_;refine⟨_,rfl,tr,_,1,_,rfl,rfl,aV (s2 _ _ etr),bG (j:=1) rfl,_,rfl,lr,rfl,⟨_,aP O.e⟩,?_⟩;refine iM (K:=K) (xs:=xs) (fun i zs σ H'=>H'=H2/\zs=((us.take i).map nmD).map V.str/\∃ o,σ=[o]) ⟨rfl,rfl,none,rfl⟩ (aJ (by lia)) (fun i zs σ H' p=>by rw[p.2.1,Ab,Ab,AJ];lia) (fun i zs σ H' p=>by rw[p.1];exact aP O.e) ?_ ?_
 .rintro i v zs σ H' hv ⟨rfl,rfl,o,rfl⟩;have⟨u,hu,rv,oku⟩:=O.at hv;obtain⟨q,_,_,_,_,_,_,_,rfl,eq,rfl,_⟩:=jP rv oku;dsimp only[bT];refine bF ?_;refine⟨_,rfl,q,_,1,_,rfl,rfl,aV eq,bG (j:=1) rfl,rfl,?_,_,rfl⟩;rw[A0,hu,Al,Al];rfl
 rintro zs σ H' ⟨rfl,rfl,o,rfl⟩ D hD;rw[W,Bh];have sD:=aM (o:=.lst ((us.map nmD).map V.str)) hD;refine⟨D,_,rfl,.inl (aP aH),rfl,fO _,_,rfl,?_⟩;rw[Ia Aq,mT];generalize upd H' D _=H3 at sD;have s3:=s2.trans sD;have q3:=k2 H3 s3;rw[Ic U,Ax]at q3;by_cases J:n1∈us.map nmD
 .rw[Ic J]at q3 ⊢;exact bF q3
 rw[Ie J];refine bQ ?_;have k3:∀ H',aU H H'->Q (.bl (lB (.tuple (.str w1::.str n1::.int dy::d4::ds)) us)) H':=fun H' s'=>by
  have q:=k2 H' s';rw[Ic U,Ie J]at q;exact q
 refine⟨_,rfl,_,.inl ⟨xs,aP (s3 _ _ hR.e),rfl⟩,_,rfl,?_⟩;cases hx:xs with
 | nil=>
  have ah:us=[]:=A8 (by rw[<- W,hx];rfl);have q:=k3 H3 s3;rw[ah]at q;exact bF q
 | cons x0 xr=>
  refine bQ ?_;obtain⟨xl,hxl'⟩:∃ xl,xs[xs.length-1]?=some xl:=⟨_,Ai (by rw[hx];simp)⟩
  have⟨u2,hu2,ru,oku⟩:=(hR.same s3).at hxl';rw[W,<- CN]at hu2;have ak:atI xs (-1)=some xl:=by
   rw[<- CN]at hxl';obtain⟨ys,rfl⟩:=List.getLast?_eq_some_iff.mp hxl';exact aBy ys xl
  refine⟨_,rfl,1,rfl,lr,_,-1,_,rfl,rfl,aP (s3 _ _ hR.e),ak,_,rfl,xl,.ref tr,u2,_,rfl,ru,oku,rx.same s3,ok,fun H4 s4=>?_⟩;have q:=k3 H4 (s3.trans s4);unfold lB at q;rw[hu2]at q;exact q
def aEU{x y:Str}{r:List Nat}(h:x.cps.toList=y.cps.toList++r):Bl x y=true:=by
 have O:x.length=y.length+r.length:=by
  show x.cps.size=y.cps.size+_;rw[<- AL,h,Am,AL]
 have J:y.length=y.cps.toList.length:=by rw[AL];rfl
 show(decide (0+y.length<=x.length)&&Ff x y 0)=true;rw[Ic (by lia),FT,C6,h,J,List.take_left];simp
def aCI{x y:Str}{i a b:Nat}(U:x.cps.toList[i]?=some a)(O:y.cps.toList[i]?=some b)(J:a≠b):Bl x y=false:=by
 have W:y.length=y.cps.toList.length:=by rw[AL];rfl
 have hi:=(AO.mp O).1;show(decide (0+y.length<=x.length)&&Ff x y 0)=false;rw[FT,C6,Bool.and_eq_false_iff];refine .inr ?_;rw[beq_eq_false_iff_ne];intro e;have:((x.cps.toList.take y.length)[i]?)=some b:=by rw[e];exact O
 rw[EM (by lia),U]at this;exact J (BS.inj this)
def aIy{H:Hp}{l:Ag}{xs ys:List V}{x:V}{d:Aj}(r:RdV false H x d)(e:H l=some (.lst xs)):RdV false (upd H l (.lst ys)) x d:=
 r.keepF fun a o J _ h=>by rw[bE (rZ J e h)];exact J
def qL{K:Ae}{H1:Hp}{la:Ag}{O:List V}{J:List Aj}{Q:VK}(U:nC H1 la O J)(k:∀(D:Ag) (H':Hp),aU H1 H'->H' D=some (.lst ((J.map dM).map V.str))->Q (.ref D) H'):nH (Itl K la) (bT 0) (fun _ H Q=>Q true H) (tOp (vQ K) (xY 0) (tC (.int 0))) [none] H1 Q:=by
 have Z:=U.rd.len;have h8:=U.few;refine iM (K:=K) (xs:=O) (fun i zs σ H'=>aU H1 H'/\zs=((J.map dM).take i).map V.str/\∃ o,σ=[o]) ⟨aU.refl H1,rfl,none,rfl⟩ (aJ (by lia)) (fun i zs σ H' p=>by rw[p.2.1,Ab,AJ];lia) (fun i zs σ H' p=>aP (p.1 _ _ U.e)) ?_ ?_
 .rintro i px zs σ H' W ⟨S,rfl,o,rfl⟩;dsimp only[bT];obtain⟨b,rr,zz,rfl,eb,hw⟩:=U.head W;refine bF ⟨_,rfl,b,_,0,_,rfl,rfl,aV (S _ _ eb),bG (j:=0) rfl,S,?_,_,rfl⟩;rw[A0,hw,Al];rfl
 .rintro zs σ H' ⟨S,rfl,o,rfl⟩ D Y;rw[Bi (by rw[Ab];lia)];exact k D _ (S.trans (aM Y)) aH
def aDH{K:Ae}{H1:Hp}{la:Ag}{xs:List V}{O:List Aj}{Q:VK}(J:lX H1 la xs O)(k:∀(D:Ag) (H':Hp),aU H1 H'->H' D=some (.lst ((O.map nmD).map V.str))->Q (.ref D) H'):nH (Itl K la) (bT 0) (fun _ H Q=>Q true H) (tOp (vQ K) (xY 0) (tC (.int 1))) [none] H1 Q:=by
 have Y:=J.rd.len;have h8:=J.few;refine iM (K:=K) (xs:=xs) (fun i zs σ H'=>aU H1 H'/\zs=((O.map nmD).take i).map V.str/\∃ o,σ=[o]) ⟨aU.refl H1,rfl,none,rfl⟩ (aJ (by lia)) (fun i zs σ H' p=>by rw[p.2.1,Ab,AJ];lia) (fun i zs σ H' p=>aP (p.1 _ _ J.e)) ?_ ?_
 .rintro i Z zs σ H' U ⟨S,rfl,o,rfl⟩;dsimp only[bT];obtain⟨u,hu,rv,oku⟩:=J.at U;obtain⟨q,_,_,_,_,_,_,_,rfl,eq,rfl,_⟩:=jP rv oku;refine bF ⟨_,rfl,q,_,1,_,rfl,rfl,aV (S _ _ eq),bG (j:=1) rfl,S,?_,_,rfl⟩;rw[A0,AF,hu,Al];rfl
 .rintro zs σ H' ⟨S,rfl,o,rfl⟩ D W;rw[Bi (by rw[Ab];lia)];exact k D _ (S.trans (aM W)) aH
def aJV{H:Hp}{lr:Ag}{xs:List V}{W:List Aj}(Y:lX H lr xs W)(O:xs≠[]):∃ J u,atI xs (-1)=some J/\W.getLast?=some u/\RdV false H J u/\fJ u=true:=by
 have U:=Y.rd.len;obtain⟨J,hxl'⟩:∃ J,xs[xs.length-1]?=some J:=⟨_,Ai (by have:=FE.mpr O;lia)⟩
 obtain⟨u2,hu2,ru,oku⟩:=Y.at hxl';rw[U,<- CN]at hu2;refine⟨J,u2,?_,hu2,ru,oku⟩;rw[<- CN]at hxl';obtain⟨ys,rfl⟩:=List.getLast?_eq_some_iff.mp hxl';exact aBy ys J
def hJ(z:Str)(lds us:List Aj):Option (List Aj×List Aj):=
 if Bl z "field "=true then(if (cX (pQ z)&&(us.isEmpty&&(decide (lds.length<8)&&!decide (dM (pQ z)∈lds.map dM))))=true then some (lds++[pQ z],us) else none)
 else(if (fJ (eG (AA z " "))&&(!lds.isEmpty&&sF (eG (AA z " ")) lds us))=true then some (lds,us++[eG (AA z " ")]) else none)
def aKu(la lr:Ag)(H H':Hp):Prop:=∀ b o,H b=some o->b≠la->b≠lr->H' b=some o
inductive aKv(vs:List V)(H:Hp)(Q:VK):Prop
 | mk (z:Str) (la lr:Ag) (lys:List V) (lds:List Aj) (xs:List V) (us:List Aj) (h0:vs=[.str z,.ref la,.ref lr]) (hz:z.length<=1000) (hl:(AA z " ").length<=400) (nar:la≠lr) (hL:nC H la lys lds) (hR:lX H lr xs us)
   (qn:hJ z lds us=none->∀ H',aU H H'->Q (.bl false) H') (qy:∀ lds' us',hJ z lds us=some (lds',us')->∀(lys' xs':List V) (H':Hp),aKu la lr H H'->nC H' la lys' lds'->lX H' lr xs' us'->Q (.bl true) H'):aKv vs H Q
def aEV:Sp:=fun vs H Q _=>aKv vs H Q
def nC.butL{H:Hp}{la l:Ag}{J ys zs:List V}{O:List Aj}(h:nC H la J O)(n:la≠l)(e:H l=some (.lst ys)):nC (upd H l (.lst zs)) la J O:=⟨by rw[bE n];exact h.e,h.rd.keepF fun a o U _ W=>by rw[bE (rZ U e W)];exact U,h.ok,h.few⟩
def lX.butL{H:Hp}{la l:Ag}{J ys zs:List V}{O:List Aj}(h:lX H la J O)(n:la≠l)(e:H l=some (.lst ys)):lX (upd H l (.lst zs)) la J O:=⟨by rw[bE n];exact h.e,h.rd.keepF fun a o U _ W=>by rw[bE (rZ U e W)];exact U,h.ok,h.few⟩
def nC.snoc{H:Hp}{la:Ag}{J:List V}{O:List Aj}{v:V}{d:Aj}(h:nC H la J O)(rd:RdV false H v d)(ok:cX d=true)(h8:O.length<8):nC (upd H la (.lst (J++[v]))) la (J++[v]) (O++[d]):=
 ⟨aH,(h.rd.keepF fun a o U _ W=>by rw[bE (rZ U h.e W)];exact U).app (.cons (aIy rd h.e) .nil),by rw[DJ,h.ok];simp[ok],by rw[Am];show _+1<=8;lia⟩
def lX.snoc{H:Hp}{la:Ag}{J:List V}{O:List Aj}{v:V}{d:Aj}(h:lX H la J O)(rd:RdV false H v d)(ok:fJ d=true)(h8:O.length<40):lX (upd H la (.lst (J++[v]))) la (J++[v]) (O++[d]):=
 ⟨aH,(h.rd.keepF fun a o U _ W=>by rw[bE (rZ U h.e W)];exact U).app (.cons (aIy rd h.e) .nil),by rw[DJ,h.ok];simp[ok],by rw[Am];show _+1<=40;lia⟩
def sK{la lr l:Ag}{H X:Hp}{o:HO}(s:aU H X)(h:l=la\/l=lr):aKu la lr H (upd X l o):=fun b u e O U=>by
 rw[bE fun J=>h.elim (fun h=>O (J.trans h)) fun h=>U (J.trans h)];exact s b u e
def aBi{d:Aj}{J O:List Aj}(h:sF d J O=true):O.length<40:=by
 unfold sF at h;rw[Aw,Aw]at h;exact Ig h.2.1
def aDI{f:Ag}{fd:Ay}(F:Fn K "field_in" aCd f fd)
  (GW:Cal P w K mg base 2 "with_numbers" ["words","places"] (pK K))
  (GF:Cal P w K mg base 3 "is_field" ["thing"] aEA)
  :cC P w K mg base CX0 4 f fd ["line"] sG:=by
 refine okA F ["line","field"] fun ap A outer s H vs Q E Y nd h=>?_;obtain⟨z,rfl,hz,hl,ky,kn⟩:=h;refine⟨_,(aK (cF 1 nd (bO GW Y (pa2 (cN fV (eV A9 BM BL iD (pv 0) (pa1 aO)) (cM aD) dU) (cH (pa2 aD aD)))))
  (aN (aT (qM (cJ (bO GF Y (pa1 (pv 1)))) (pv 1) gG)))),?_⟩
 refine⟨_,rfl,rfl,⟨_,_,rfl,rfl,by decide,aJ (n:=z.length+2) (by lia),fun L hL=>?_⟩⟩;have O:∀ w∈(AA z " ").tail,w.length<=1000:=fun w hw=>AH (nA z w (List.mem_of_mem_tail hw)) hz;have sL:=aM (o:=.lst ((AA z " ").map V.str)) hL;have eL:=aH (H:=H) (a:=L) (o:=.lst ((AA z " ").map V.str));generalize upd H L _=H1 at sL eL ⊢;refine⟨1,rfl,L,_,rfl,aP eL,fun C hC=>?_⟩;have ec:gU ((AA z " ").map V.str) (some 1) none=((AA z " ").tail).map V.str:=by
  rw[<- List.drop_one,DG];exact wI (α:=Nat) ((AA z " ").map V.str) 1
 rw[ec];have W:(AA z " ").tail.length<=400:=by rw[List.length_tail];lia
 have sC:=aM (o:=.lst (((AA z " ").tail).map V.str)) hC;have Z:=aH (H:=H1) (a:=C) (o:=.lst (((AA z " ").tail).map V.str));generalize upd H1 C _=H2 at sC Z ⊢;refine⟨zZ2,fun q hq=>?_⟩;have U:=aM (o:=.tup [V.int 2,.int 3]) hq;refine .mk C q _ [2,3] rfl (U _ _ Z) (aV aH) W O fun t H3 s3 e3=>?_;generalize upd H2 q _=aj at U s3;have J:=sL.trans (sC.trans (U.trans s3));have rd:RdV false H3 (.ref t) (pQ z):=.tup e3 (by rw[Ab,jO];lia) (aAh O);dsimp only[bT];refine⟨_,rfl,false,.ref t,_,rfl,rd,fun H4 s4=>⟨_,rfl,?_⟩⟩;cases hf:cX (pQ z)with
 | true=>exact bF ⟨_,rfl,ky hf t H4 (J.trans s4) (rd.same s4)⟩
 | false=>exact bQ (kn hf H4 (J.trans s4))
def aCJ{f:Ag}{fd:Ay}(F:Fn K "_law_field_in" zQ f fd)(ac:mg "len"=none)
  (GU:Cal P w K mg base 1 "_law_number_in" ["_law_word"] aBc)
  (GN:Cal P w K mg base 1 "_law_is_name" ["_law_thing"] mU)
  (GW:nB P w K mg base)
  :cC P w K mg base CX0 2 f fd ["_law_line"] sG:=by
 refine okA F ["_law_line","_law_terms","_law_acres","_law_inches"] fun ar A outer s H vs Q E U nd h=>?_;obtain⟨z,rfl,hz,hl,ky,kn⟩:=h;refine⟨_,(aK (cF 1 nd (eV A9 BM BL iD (pv 0) (pa1 aO)))
  (aK (bX (PW.pt (dL (cT nF (aQ aS (by rfl) ac Av (pa1 (pv 1))) aD) (dL (cO (cJ (bO GN U (pa1 (aX bJ (pv 1) aD Ih))))) (dW (cO (cJ (bO GN U (pa1 (aX bJ (pv 1) aD Ih))))))))) (aN (aT gG)) bA)
  (aK (cF 2 nd (bO GU U (pa1 (aX bJ (pv 1) aD Ih))))
  (aK (cF 3 nd (bO GU U (pa1 (aX bJ (pv 1) aD Ih))))
  (aK (bX (PW.pt (dL (cO (cJ (bO GW U (pa3 (pv 2) aD (aW gH aD aD))))) (dW (cO (cJ (bO GW U (pa3 (pv 3) aD (aW gH aD aD)))))))) (aN (aT gG)) bA)
  (aN (aT (cH (cU (aX bJ (pv 1) aD Ih) (pa3 (aX bJ (pv 1) aD Ih) (pv 2) (pv 3))))))))))),?_⟩
 have cp:∀ j:Int,0<=j->j<=1000000->aFg 10 j:=fun j h1 h2=>⟨h1,h2,by decide⟩
 refine⟨_,rfl,rfl,⟨_,_,rfl,rfl,by decide,aJ (n:=z.length+2) (by lia),fun L hL=>?_⟩⟩;have J:∀ w∈AA z " ",w.length<=1000:=fun w hw=>AH (nA z w hw) hz;have ev:pQ z=.tuple (wd [2,3] (AA z " ").tail):=rfl;generalize AA z " "=Y at J hl hL ev ⊢;have sL:=aM (o:=.lst (Y.map V.str)) hL;have eL:=aH (H:=H) (a:=L) (o:=.lst (Y.map V.str));generalize upd H L _=H1 at sL eL ⊢;refine⟨_,rfl,L,_,rfl,.inl (aP eL),rfl,_,rfl,?_⟩;by_cases h5:Y.length=5
 case neg=>
  rw[Ie (show¬ V.int (((Y.map V.str).length:Nat):Int)=V.int 5 from fun y=>h5 (by injection y with y;rw[Ab]at y;lia))];refine bF (bF ?_);exact kn (by rw[ev];exact aDG (by rw[jO,List.length_tail];lia)) H1 sL
 match Y,h5 with
 | [w0,a,b,c,e],_=>
 refine bQ ?_;have Z:cX (pQ z)=(bH a&&bH b&&bZ 1 1000000 (dS c)&&bZ 0 10000000 (dS e)):=by rw[ev];rfl
 refine⟨_,rfl,L,_,1,_,rfl,rfl,aP eL,bG (j:=1) rfl,false,.str a,.str a,rfl,.str _ (J a (by simp)),fun H2 s2=>⟨_,rfl,?_⟩⟩;have ad:=sL.trans s2;show if (!bH a)=true then _ else _
 cases ga:bH a with
 | false=>exact bF (bF (kn (by rw[Z,ga];rfl) H2 ad))
 | true=>
 refine bQ ?_;refine⟨_,rfl,L,_,2,_,rfl,rfl,aP (s2 _ _ eL),bG (j:=2) rfl,false,.str b,.str b,rfl,.str _ (J b (by simp)),fun H3 s3=>⟨_,rfl,?_⟩⟩;have W:=ad.trans s3;have e3:=s3 _ _ (s2 _ _ eL);show if (!bH b)=true then _ else _
 cases gb:bH b with
 | false=>exact bF (kn (by rw[Z,ga,gb];rfl) H3 W)
 | true=>
 refine bQ ?_;refine⟨_,rfl,L,_,3,_,rfl,rfl,aP e3,bG (j:=3) rfl,.mk c rfl (by have:=J c (by simp);lia) fun H4 s4=>?_⟩;dsimp only[bT];refine⟨_,rfl,L,_,4,_,rfl,rfl,aP (s4 _ _ e3),bG (j:=4) rfl,.mk e rfl (by have:=J e (by simp);lia) fun H5 s5=>?_⟩;have O:=W.trans (s4.trans s5);have e5:=s5 _ _ (s4 _ _ e3);dsimp only[bT];have rc:RdV false H5 (kQ c) (dS c):=by rw[<- mY];exact tV c
 have re:RdV false H5 (kQ e) (dS e):=by rw[<- mY];exact tV e
 refine⟨_,rfl,_,_,rfl,rfl,cp _ (by decide) (by decide),false,kQ c,dS c,1,1000000,pM (by trivial),rc,_,rfl,?_⟩;cases gc:bZ 1 1000000 (dS c)with
 | false=>exact bF (bF (kn (by rw[Z,ga,gb,gc];rfl) H5 O))
 | true=>
 refine bQ ?_;refine⟨_,rfl,_,_,rfl,rfl,cp _ (by decide) (by decide),false,kQ e,dS e,0,10000000,pM (by trivial),re,_,rfl,?_⟩;cases ge:bZ 0 10000000 (dS e)with
 | false=>exact bF (kn (by rw[Z,ga,gb,gc,ge];rfl) H5 O)
 | true=>
 refine bQ ?_;refine⟨_,rfl,L,_,1,_,rfl,rfl,aP e5,bG (j:=1) rfl,_,rfl,L,_,2,_,rfl,rfl,aP e5,bG (j:=2) rfl,_,rfl,_,rfl,zZ4,fun t ht=>?_⟩;have st:=aM (o:=.tup [V.str a,.str b,kQ c,kQ e]) ht;refine ky (by rw[Z,ga,gb,gc,ge];rfl) t _ (O.trans st) ?_;rw[ev];show RdV false _ _ (.tuple [.str a,.str b,dS c,dS e]);exact .tup aH (by show 4<=1000;decide) (.cons (.str _ (J a (by simp))) (.cons (.str _ (J b (by simp))) (.cons (rc.same st) (.cons (re.same st) .nil))))
def aJW{f:Ag}{fd:Ay}(F:Fn K "_law_row_fits" aEr f fd)(ag:mg "len"=none)
  (GK:Cal P w K mg base 1 "_law_place" ["_law_row_here"] pI)
  :cC P w K mg base CX0 2 f fd ["_law_laying_here","_law_rows","_law_row_here"] aES:=by
 refine okA F ["_law_laying_here","_law_rows","_law_row_here"] fun ba A outer s H vs Q E hr nd h=>?_;obtain⟨x,la,lr,lys,lds,xs,us,rfl,hL,hR,k⟩:=h;have hu:=F0 (qV hr);refine⟨_,(aK (bX (PW.pt (dL (aCR (aCQ (pv 2))) (dL (cT (aB5 hu) (pv 0) (dC dP)) (dL (cT nY (aQ aS (by rfl) ag Av (pa1 (pv 1))) aD) (dW (eJ gB (aX bS (pv 2) aD Ih) (eU (N:=["_law_other"]) (src:=[none]) (osc:=bC aEr) (oN:=["_law_laying_here","_law_rows","_law_row_here"]) bkA (hZ (pv 1)) (fun cl s H fp dl C=>⟨bW (i:=0) (show(["_law_other"]:List Str).Nodup by trivial) rfl (Bp rfl),dJ,aX (r:=vQ K) bS (pv 0) aD Ih⟩)) (by with_unfolding_all rfl))))))) (aN (aT eZ)) bA)
  (aK (gW (bX (PW.pt (kH (eJ gB (aX bS (pv 2) aD Ih) (cH (pa3 aO aO aO)) (by with_unfolding_all rfl)) (jQ (eJ iB (aX bS (pv 2) aD Ih) (eU (N:=["_law_part"]) (src:=[none]) (osc:=bC aEr) (oN:=["_law_laying_here","_law_rows","_law_row_here"]) bkA (hZ (pv 0)) (fun cl s H fp dl C=>⟨bW (i:=0) (show(["_law_part"]:List Str).Nodup by trivial) rfl (Bp rfl),dJ,aX (r:=vQ K) bS (pv 0) aD Ih⟩)) (by with_unfolding_all rfl))))) (aN (aT eZ)) bA))
  (aN (aT (aGe (dO (aB5 hu) (pv 1) (dC dP) (fA _)) (dR (dO (aGR hu) (bO GK hr (pa1 (aX bJ (pv 1) (pR kM aD) Ih))) (bO GK hr (pa1 (pv 2))) (fA _)))))))),?_⟩
 rcases k with⟨rfl,k⟩|⟨d,rx,ok,k⟩
 .exact⟨_,rfl,_,rfl,bF (bF (k H (aU.refl H)))⟩
 obtain⟨tr,w1,n1,dy,x4,d4,rest',ds,rfl,etr,rfl,r4,hw1,hf4⟩:=jP rx ok;have ap:=hR.rd.len;have ad:=hL.rd.len;refine⟨_,rfl,_,rfl,bQ ?_⟩;refine⟨_,rfl,A3 _,fun M hM=>?_⟩;have U:=aM (o:=.lst []) hM;refine⟨la,M,_,rfl,rfl,aP (U _ _ hL.e),aP aH,_,rfl,?_⟩;generalize upd H M _=H1 at U ⊢;have kk:∀{b:Bool},(!lds.isEmpty&&sF (.tuple (.str w1::.str n1::.int dy::d4::ds)) lds us)=b->∀ H',aU H H'->Q (.bl b) H':=fun{b} e H' s'=>e▸k H' s';by_cases h0:lys=[]
 .rw[Ic h0];refine bF (bF ?_);have:lds=[]:=A8 (by rw[<- ad,h0];rfl);exact kk (by rw[this];rfl) H1 U
 rw[Ie h0];refine bQ ?_;have ao:(!lds.isEmpty)=true:=by
  cases lds with
  | nil=>exact absurd (A8 ad) h0
  | cons _ _=>rfl
 rw[ao]at kk;have Y:=hR.same U;refine⟨_,rfl,lr,_,rfl,.inl (aP Y.e),_,_,rfl,rfl,_,rfl,?_⟩;have kb:∀{b:Bool},sF (.tuple (.str w1::.str n1::.int dy::d4::ds)) lds us=b->∀ H',aU H H'->Q (.bl b) H':=fun{b} e=>kk (by rw[e];rfl);have W:sF (.tuple (.str w1::.str n1::.int dy::d4::ds)) lds us=(fB (.tuple (.str w1::.str n1::.int dy::d4::ds)) lds&&(decide (us.length<40)&&(!decide (n1∈us.map nmD)&&lB (.tuple (.str w1::.str n1::.int dy::d4::ds)) us))):=rfl;by_cases ae:us.length<40
 case neg=>
  rw[Ic (show(39:Int)<((xs.length:Nat):Int) by lia)];refine bF (bF ?_);exact kb (by rw[W,Ie ae,Bq,A1]) H1 U
 rw[Ie (show¬ (39:Int)<((xs.length:Nat):Int) by lia)];refine bQ ?_;refine⟨_,rfl,tr,_,1,_,rfl,rfl,aV (U _ _ etr),bG (j:=1) rfl,_,rfl,lr,rfl,⟨_,aP Y.e⟩,aDH Y fun D H2 s2 e2=>?_⟩;have Z:=U.trans s2;refine⟨D,_,rfl,.inl (aP e2),rfl,fO _,_,rfl,?_⟩;rw[Ia Aq,mT];by_cases J:n1∈us.map nmD
 .rw[Ic J];exact bF (kb (by rw[W,Ic J,Bool.not_true,Bq,A1,A1]) H2 Z)
 rw[Ie J];refine bQ ?_;rw[Ic ae,Ie J,Ax,Bool.not_false,Ax]at W;refine⟨fun σ' H'=>σ'=[some (.ref la),some (.ref lr),some (.ref tr)]/\aU H H'/\fB (.tuple (.str w1::.str n1::.int dy::d4::ds)) lds=true,?_,?_⟩
 .refine⟨_,rfl,tr,_,0,_,rfl,rfl,aV (Z _ _ etr),bG (j:=0) rfl,zZ3,fun q hq=>?_⟩;have sq:=aM (o:=.tup fW3) hq;refine⟨q,_,rfl,.inr (aV aH),rfl,rfl,_,rfl,?_⟩;rw[Ia Aq];generalize upd H2 q _=H3 at sq ⊢;have s3:=Z.trans sq;by_cases g:inV (.str w1) fW3=true
  .obtain⟨f',rfl⟩:=hf4 g;have e4:=rdS r4;subst e4;have ef:fB (.tuple (.str w1::.str n1::.int dy::.str f'::ds)) lds=decide (f'∈lds.map dM):=by
    unfold fB;show(match (if inV (.str w1) fW3=true then some f' else none)with|some f=>decide (f∈lds.map dM)|none=>true)=_;rw[Ib g]
   rw[show inV (V.str w1) [V.str "measure",V.str "breach",V.str "view"]=true from g];refine bF ?_;have af:=hL.same s3;refine⟨_,rfl,tr,_,3,_,rfl,rfl,aV (s3 _ _ etr),bG (j:=3) rfl,_,rfl,la,rfl,⟨_,aP af.e⟩,qL af fun D4 H4 s4 e4=>?_⟩;have aa:=s3.trans s4;refine⟨D4,_,rfl,.inl (aP e4),rfl,fO _,_,rfl,?_⟩;rw[Ib rfl,mT];by_cases hz:f'∈lds.map dM
   .rw[Ic hz];exact bQ ⟨rfl,aa,by rw[ef,Ic hz]⟩
   .rw[Ie hz];exact bF (kb (by rw[W,ef,Ie hz];rfl) H4 aa)
  .rw[show inV (V.str w1) [V.str "measure",V.str "breach",V.str "view"]=false from Ga _ |>.mp g];refine bQ (bQ ⟨rfl,s3,?_⟩);unfold fB fdD;split
   .rename_i e;split at e
    .rename_i e2;cases e2;rw[Ia g]at e;cases e
    .cases e
   .rfl
 rintro σ' H5 ⟨rfl,s5,ef⟩;rw[ef,Ax]at W;refine⟨_,rfl,A3 _,fun M2 am=>?_⟩;have s6:=s5.trans (aM (o:=.lst []) am);have O:=hR.same s6;refine⟨lr,M2,_,rfl,rfl,aP O.e,aP aH,_,rfl,?_⟩;generalize upd H5 M2 _=H6 at s6 O ⊢;by_cases hx:xs=[]
 .rw[Ic hx];have:us=[]:=A8 (by rw[<- ap,hx];rfl);exact bF (kb (by rw[W,this];rfl) H6 s6)
 rw[Ie hx];refine bQ ?_;have⟨xl,u,hat,hlu,ru,oku⟩:=aJV O hx;obtain⟨t2,w2,n2,y2,_,_,_,_,rfl,et2,rfl,_,hw2,_⟩:=jP ru oku;refine⟨_,rfl,1,rfl,lr,_,-1,_,rfl,rfl,aP O.e,hat,_,w2,n2,y2,rfl,⟨t2,_,rfl,et2,hw2⟩,fun q1 H7 s7 e7=>?_⟩;refine⟨_,rfl,_,w1,n1,dy,rfl,⟨tr,_,rfl,(s6.trans s7) _ _ etr,hw1⟩,fun q2 H8 s8 e8=>?_⟩;refine⟨q1,q2,_,_,_,_,_,_,rfl,rfl,s8 _ _ e7,e8,?_⟩;rw[aIv];refine kb ?_ H8 (s6.trans (s7.trans s8));rw[W];unfold lB;rw[hlu];rfl
def aCK{f:Ag}{fd:Ay}(F:Fn K "take_line" tQ f fd)(ag:mg "len"=none)(af:∃ t,mg "MOST_FIELDS"=some (.int 8 t))
  (au:Cal P w K mg base 8 "row_in" ["line"] aBf)
  (aj:Cal P w K mg base 4 "field_in" ["line"] sG)
  (GB:Cal P w K mg base 3 "goes_behind" ["row","laying","rows"] aCH)
  :cC P w K mg base CX0 9 f fd ["line","laying","rows"] aEV:=by
 refine okA F ["line","laying","rows","field","row"] fun aA A outer s H vs Q E hr nd h=>?_;obtain⟨z,la,lr,lys,lds,xs,us,rfl,hz,hl,nar,hL,hR,kn,ky⟩:=h;obtain⟨tm,hmf⟩:=af;refine⟨_,(aK (bX (cJ (eV A9 PySem.F.slot_str_startswith PySem.F.type_str_startswith yE (pv 0) (pa1 aO))) (aK (cF 3 nd (bO aj hr (pa1 (pv 0))))
   (aK (bX (PW.pt (dL (cT aGl (pv 3) gG) (dL (aBt (pv 2) (fun _=>rfl)) (dL (cT aGk (aQ aS (by rfl) ag Av (pa1 (pv 1))) (cG (v:=.int 8) (by rfl) hmf ⟨_,rfl⟩)) (dW (eJ gB (aX bS (pv 3) aD Ih) (eU (N:=["place"]) (src:=[none]) (osc:=bC tQ) (oN:=["line","laying","rows","field","row"]) bkA (hZ (pv 1)) (fun cl s H fp dl C=>⟨bW (i:=0) (show(["place"]:List Str).Nodup by trivial) rfl (Bp rfl),dJ,aX (r:=vQ K) bS (pv 0) aD Ih⟩)) (by with_unfolding_all rfl))))))) (aN (aT eZ)) bA)
   (aK (fZ (eV A7 Bv Bu gC (pv 1) (pa1 (pv 3))))
   (aN (aT eZ))))) bA)
  (aK (cF 4 nd (bO au hr (pa1 (pv 0))))
  (aK (bX (PW.pt (dL (cT aGl (pv 4) gG) (dL (cO (aBt (pv 1) (fun _=>rfl))) (dW (cO (cJ (bO GB hr (pa3 (pv 4) (pv 1) (pv 2))))))))) (aN (aT eZ)) bA)
  (aK (fZ (eV A7 Bv Bu gC (pv 2) (pa1 (pv 4))))
  (aN (aT eZ)))))),?_⟩
 have aa:=hL.rd.len;have ac:=hR.rd.len;refine⟨_,rfl,rfl,_,_,rfl,rfl,_,rfl,?_⟩;unfold hJ at kn ky;cases ah:Bl z "field " with
 | true=>
  rw[ah,Ib rfl]at kn ky;refine bF ?_;refine⟨_,rfl,.mk z rfl hz hl (fun W t H1 s1 rd=>?_) fun W H1 s1=>?_⟩
  .have J:=hL.same s1;have U:=hR.same s1;have ra:=U.e;dsimp only[bT];refine⟨_,rfl,rfl,_,rfl,?_⟩;rw[Ie (show¬ V.ref t=V.non from fun y=>nomatch y)];refine bQ ?_;rw[W,Ax]at kn ky;refine⟨_,rfl,_,.inl ⟨xs,aP ra,rfl⟩,?_⟩;cases hx:xs with
   | cons x0 xr=>
    refine bF (bF ?_);have:us.isEmpty=false:=by
     cases us with
     | nil=>rw[hx]at ac;simp at ac
     | cons _ _=>rfl
    exact kn (by rw[this];rfl) H1 s1
   | nil=>
   have ao:us=[]:=A8 (by rw[<- ac,hx];rfl);subst ao;refine bQ ?_;rw[show([]:List Aj).isEmpty=true from rfl,Ax]at kn ky;refine⟨_,rfl,la,_,rfl,.inl (aP J.e),_,_,rfl,rfl,_,rfl,?_⟩;by_cases h8:lds.length<8
   case neg=>
    rw[Ic (show(8:Int)<=((lys.length:Nat):Int) by lia)];refine bF (bF ?_);exact kn (by rw[Ie h8];rfl) H1 s1
   rw[Ie (show¬ ((8:Int)<=((lys.length:Nat):Int)) by lia)];refine bQ ?_;rw[Ic h8,Ax]at kn ky;have⟨tq,zs,et,eq,hat0⟩:=aEB rd W;refine⟨_,rfl,tq,_,0,_,et,rfl,aV eq,hat0,_,rfl,la,rfl,⟨_,aP J.e⟩,qL J fun D H2 s2 e2=>?_⟩;refine⟨D,_,rfl,.inl (aP e2),rfl,fO _,_,rfl,?_⟩;rw[Ia Aq,mT];have ai:=s1.trans s2;by_cases O:dM (pQ z)∈lds.map dM
   .rw[Ic O];exact bF (kn (by rw[Ic O];rfl) H2 ai)
   rw[Ie O];refine bQ ?_;rw[Ie O]at ky;have Y:=J.same s2;have ap:=U.same s2;exact⟨_,rfl,.inl ⟨rfl,_,aP Y.e⟩,_,rfl,la,lys,.ref t,rfl,rfl,Y.e,fM (by lia),ky _ _ (Ib rfl) _ _ _ (sK ai (.inl rfl)) (Y.snoc (rd.same s2) W h8) (ap.butL nar.symm Y.e)⟩
  .dsimp only[bT];refine⟨_,rfl,rfl,_,rfl,bF (bF ?_)⟩;exact kn (by rw[W];rfl) H1 s1
 | false=>
  rw[ah,Ia Aq]at kn ky;refine bQ ?_;refine⟨_,rfl,.mk z rfl hz hl (fun W t H1 s1 rd=>?_) fun W H1 s1=>?_⟩
  .have J:=hL.same s1;have U:=hR.same s1;dsimp only[bT];refine⟨_,rfl,rfl,_,rfl,?_⟩;rw[Ie (show¬ V.ref t=V.non from fun y=>nomatch y)];refine bQ ?_;rw[W,Ax]at kn ky;refine⟨_,rfl,_,.inl ⟨lys,aP J.e,rfl⟩,?_⟩;cases hx:lys with
   | nil=>
    have an:lds=[]:=A8 (by rw[<- aa,hx];rfl);refine bF (bF ?_);exact kn (by rw[an];rfl) H1 s1
   | cons x0 xr=>
   refine bQ ?_;have av:(!lds.isEmpty)=true:=by
    cases lds with
    | nil=>rw[hx]at aa;simp at aa
    | cons _ _=>rfl
   rw[av,Ax]at kn ky;rw[hx]at J;refine⟨_,rfl,_,rfl,_,rfl,.mk (.ref t) la lr _ _ lds xs us rfl rd W J U fun H3 s3=>⟨_,rfl,?_⟩⟩;have ae:=s1.trans s3;cases hb:sF (eG (AA z " ")) lds us with
   | false=>
    refine bF ?_;exact kn (by rw[hb];rfl) H3 ae
   | true=>
   refine bQ ?_;rw[hb]at ky;have Z:=U.same s3;have ar:=J.same s3;have aq:=aBi hb;exact⟨_,rfl,.inl ⟨rfl,_,aP Z.e⟩,_,rfl,lr,xs,.ref t,rfl,rfl,Z.e,fM (by lia),ky _ _ (Ib rfl) _ _ _ (sK ae (.inr rfl)) (ar.butL nar Z.e) (Z.snoc (rd.same s3) W aq)⟩
  .dsimp only[bT];refine⟨_,rfl,rfl,_,rfl,bF (bF ?_)⟩;exact kn (by rw[W];rfl) H1 s1
def aDJ(w r:Str):(w++(" ":Str)++r).cps.toList=w.cps.toList++32::r.cps.toList:=by
 rw[gO,gO,qK];simp
def aDK{w r:Str}(h:32∉w.cps.toList):AA (w++(" ":Str)++r) " "=w::AA r " ":=by
 have J:=C9 r " ";have hn:AA r " "≠[]:=fun e=>by have:=gQ r;rw[e]at this;cases this
 obtain⟨x,xs,e⟩:∃ x xs,AA r " "=x::xs:=by
  cases O:AA r " " with
  | nil=>exact absurd O hn
  | cons a b=>exact⟨a,b,rfl⟩
 have e2:w++(" ":Str)++r=By " " (w::AA r " "):=by
  rw[e]at J ⊢;show _=w++(" ":Str)++By " " (x::xs);rw[J]
 rw[e2,qK];refine mO (by simp) fun z hz=>?_;rcases Ao.mp hz with rfl|hz
 .exact h
 .exact C8 r 32 z hz
def aAk:("field ":Str).cps.toList=("field":Str).cps.toList++[32]:=by trivial
def aIz{z:Str}(h:Bl z "field "=true):∃ r,AA z " "=("field":Str)::r/\r≠[]:=by
 have h1:(decide (0+("field ":Str).length<=z.length)&&Ff z "field " 0)=true:=h;rw[Aw,FT,C6,beq_iff_eq]at h1;have e6:("field ":Str).length=6:=by trivial
 rw[e6,aAk]at h1;have e:z=("field":Str)++(" ":Str)++⟨(z.cps.toList.drop 6).toArray⟩:=iC (by
  rw[aDJ];have:=Dm 6 z.cps.toList;rw[h1.2]at this;refine this.symm.trans ?_;rw[B2];rfl)
 rw[e,aDK (by trivial)];exact⟨_,rfl,fun hn=>by have:=gQ ⟨(z.cps.toList.drop 6).toArray⟩;rw[hn]at this;cases this⟩
def aLw{z:Str}{r:List Str}(h:Bl z "field "=false)(e:AA z " "=("field":Str)::r):r=[]:=by
 cases r with
 | nil=>rfl
 | cons x xs=>
  have J:=C9 z " ";rw[e]at J;have:z.cps.toList=("field ":Str).cps.toList++(By " " (x::xs)).cps.toList:=by
   rw[<- J];show(("field":Str)++(" ":Str)++By " " (x::xs)).cps.toList=_;rw[aDJ,aAk,B2];rfl
  rw[aEU this]at h;cases h
def iU:List Str->Nat->List Aj->List Aj->Aj
 | [],_,lds,us=>.tuple [.tuple lds,.tuple us]
 | z::r,i,lds,us=>match hJ z lds us with|none=>.int i|some (l,u)=>iU r (i+1) l u
def hX(z:Str):Aj:=iU (AA z "\n") 0 [] []
def pN{z:Str}{r:List Str}{i:Nat}{J O:List Aj}(h:hJ z J O=none):iU (z::r) i J O=.int i:=by
 show(match hJ z J O with|none=>Gh i|some (l,u)=>iU r (i+1) l u)=_;rw[h]
def jF{z:Str}{r:List Str}{i:Nat}{J O l u:List Aj}(h:hJ z J O=some (l,u)):iU (z::r) i J O=iU r (i+1) l u:=by
 show(match hJ z J O with|none=>Gh i|some (l,u)=>iU r (i+1) l u)=_;rw[h]
structure xW(z:Str):Prop where
 len:z.length+2<=PySem.sizeLine
 n:(AA z "\n").length<=1000000
 ok:∀ y∈AA z "\n",y.length<=1000/\(AA y " ").length<=400
def aIA(C:Ag)(H:Hp)(n:Nat)(E:XK):Prop:=∀ D H',aU H H'->H' D=some (.xd [("line",V.int n)])->E (.ref C) (some D) H'
def aIA.at{C:Ag}{H H':Hp}{n:Nat}{E:XK}(h:aIA C H n E)(s:aU H H'):∀ D,H' D=none->E (.ref C) (some D) (upd H' D (.xd [("line",V.int n)])):=fun D m=>h D _ (s.trans (aM m)) aH
structure XNo(P:Ar)(w:AW)(K:Ae)(mg:Str->Option Ac)(base:Bb)(C fI:Ag)(fdI:Ay):Prop where
 m:mg "NoText"=some (.ref C)
 q:tI K C fI [.type "ValueError",.type "Exception",.type "BaseException",.type "object"] "ValueError.__new__"=true
 F:cC P w K mg base CX0 1 fI fdI ["self","line"] (aJj C "line")
 b:dY K fdI ["self","line"] []
 f:FJ K (.ref fI)=true
inductive aDL(K:Ae)(C:Ag)(vs:List V)(H:Hp)(Q:VK)(E:XK):Prop
 | str (z:Str) (h0:vs=[.str z]) (tk:xW z) (qy:∀ ds,hX z=.tuple ds->∀(t:Ag) (H':Hp),aU H H'->RdV false H' (.ref t) (hX z)->Q (.ref t) H') (ke:∀ n:Nat,hX z=.int n->aIA C H n E):aDL K C vs H Q E
 | odd (x:V) (t:Ac) (h0:vs=[x]) (ht:kX K H x t) (hk:Bm K t (.type "str")=some false) (ke:aIA C H 0 E):aDL K C vs H Q E
def vI(K:Ae)(C:Ag):Sp:=fun vs H Q E=>aDL K C vs H Q E
inductive aIB(vs:List V)(H:Hp)(Q:VK):Prop
 | mk (z:Str) (h0:vs=[.str z]) (tk:xW z) (q:∀(v:V) (H':Hp),aU H H'->RdV false H' v (hX z)->Q v H'):aIB vs H Q
def aEW:Sp:=fun vs H Q _=>aIB vs H Q
def Hrd(K:Ae)(C:Ag)(H:Hp)(x:V)(R:Aj):Prop:=∀(Q:VK) (E:XK),(∀ v H1,aU H H1->RdV false H1 v R->Q v H1)->(∀ n:Nat,R=.int n->aIA C H n E)->vI K C [x] H Q E
inductive aAl(K:Ae)(C:Ag)(vs:List V)(H:Hp)(Q:VK)(u3_:XK):Prop
 | mk (x:V) (R:Aj) (q0:vs=[x]) (q1:Hrd K C H x R) (q2:∀ v H',aU H H'->RdV false H' v R->Q v H'):aAl K C vs H Q u3_
def aEX(K:Ae)(C:Ag):Sp:=fun vs H Q u3_=>aAl K C vs H Q u3_
def aF4(K:Ae)(D:Ag)(cs:List Ag)(bs:List Bool)(ts:List Ag):Bool:=
 ((cs.zip bs).all fun p=>Bm K (.ref D) (.ref p.1)==some p.2)&&(PySem.W.kitAny K (.ref D) (ts.map AV)==some false)&&(Bm K (.ref D) (.type "ValueError")==some true) &&
 (B0 K (.ref D) "__getattribute__"==some (some (.builtin "BaseException.__getattribute__")))&&(B0 K (.ref D) "__getattr__"==some none)&&(Gq K D (.type "BaseException")==some true)&&FM K D&&(B0 K (.ref D) "__class__"==some (some (.builtin "object.__class__")))&&(Gq K D (.type "object")==some true) &&
 (FF K (.builtin "object.__class__") "__get__"==some (some (.builtin "getset_descriptor.__get__")))&&(PySem.W.takesIn K (.builtin "object.__class__")==some true)
def aEY{K:Ae}{D:Ag}{J:List Ag}{bs:List Bool}{ts:List Ag}(h:aF4 K D J bs ts=true):wZ K D/\(∀(i:Nat) c b,J[i]?=some c->bs[i]?=some b->Bm K (.ref D) (.ref c)=some b)/\PySem.W.kitAny K (.ref D) (ts.map AV)=some false/\Bm K (.ref D) (.type "ValueError")=some true:=by
 unfold aF4 at h;simp only[Aw,beq_iff_eq,AR]at h;obtain⟨⟨⟨⟨⟨⟨⟨⟨⟨⟨h1,h2⟩,h3⟩,h4⟩,h5⟩,h5'⟩,h6⟩,h7⟩,h8⟩,h9⟩,h10⟩:=h;refine⟨⟨h4,h5,h5',h6,h7,h8,h9,h10⟩,fun i c b e1 e2=>h1 (c,b) ?_,h2,h3⟩;exact AG (i:=i) (List.getElem?_zip_eq_some.mpr ⟨e1,e2⟩)
def aIC{H:Hp}{la:Ag}(e:H la=some (.lst [])):nC H la [] []:=⟨e,.nil,rfl,A3 _⟩
def aID{H:Hp}{la:Ag}(e:H la=some (.lst [])):lX H la [] []:=⟨e,.nil,rfl,A3 _⟩
def aEZ{H:Hp}{t a b:Ag}{O xs:List V}{J U:List Aj}(e:H t=some (.tup [.ref a,.ref b]))(ea:H a=some (.tup O))(Z:H b=some (.tup xs))(W:dB false H O J)(Y:dB false H xs U)(h8:J.length<=8)(aa:U.length<=40):RdV false H (.ref t) (.tuple [.tuple J,.tuple U]):=
 .tup e (by show 2<=1000;decide) (.cons (.tup ea (by rw[W.len];lia) W) (.cons (.tup Z (by rw[Y.len];lia) Y) .nil))
abbrev aCL:BA:=aI8 aJp 0
def aJX{f C:Ag}{fd:Ay}(F:Fun K "__init__" "NoText.__init__" aCL f fd)(hc:aK8 K C "line"):cC P w K mg base CX0 1 f fd ["self","line"] (aJj C "line"):=by
 refine okA F ["self","line"] fun J A outer s H vs Q E O nd h=>?_;obtain⟨x,v,rfl,hx,k⟩:=h;exact⟨_,aN (aJi (pv 0) (pv 1) rfl),_,rfl,_,rfl,x,C,rfl,hx,hc,k⟩
def aIE:mG ["text","laying","rows","at","line"] ["text"] (bC aHx):=scA
def aJY{f C fX:Ag}{fd aR:Ay}(F:Fn K "read_roll" aHx f fd)(T:Txt K mg)(af:mg "enumerate"=none)(X:XNo P w K mg base C fX aR)
  (GT:Cal P w K mg base 9 "take_line" ["line","laying","rows"] aEV)
  :cC P w K mg base (CXd P w) 10 f fd ["text"] (vI K C):=by
 refine F.okRd aIE (fun vs H Q E h=>?_) (fun bw A outer s H vs Q E hr h=>?_)
 .cases h with
  | str z h0=>subst h0;rfl
  | odd x t h0=>subst h0;rfl
 .have nd:=aIE.nd;have aw:eO 2 _:=hr.mono (by decide);refine⟨_,(aK (bX (cO (cJ (aQ cS (by rfl) T.isi (by kernel_rfl) (pa2 (pv 0) (fF (v:=.ty "str") (by rfl) T.str (by kernel_rfl) rfl))))) (aN (zL PySem.F.excBase_ValueError rfl X.m X.q X.F aw X.b X.f (pa1 aD))) bA)
   (aK (aKF (i:=1) (j:=2) rfl nd rfl rfl (by decide) rfl rfl (pa2 (dC dP) (dC dP)) rfl)
   (aK (jG PassesOwn.leaving rfl (aAO rfl af (pa1 (eV A9 BM BL iD (pv 0) (pa1 aO)))) (g:=aIY K 2 (vM (bT 3) (vM (bT 4) aIX))) (pZ rfl (dN (bW (i:=3) nd rfl (Bp rfl)) (dN (bW (i:=4) nd rfl (Bp rfl)) lZ)))
   (aN (bX (cO (cJ (bO GT hr (pa3 (pv 4) (pv 1) (pv 2))))) (aN (zL PySem.F.excBase_ValueError rfl X.m X.q X.F aw X.b X.f (pa1 (pv 3)))) bA)))
   (aN (aT (cH (pa2 (cA cK (by rfl) T.tuple (by kernel_rfl) (pa1 (pv 1))) (cA cK (by rfl) T.tuple (by kernel_rfl) (pa1 (pv 2)))))))))),?_⟩
  cases h with
  | odd x t h0 ht hk ke=>
   subst h0;refine⟨_,rfl,_,"str",_,false,rfl,ht,hk,false,rfl,bF ?_⟩;exact⟨_,rfl,ke.at (aU.refl _)⟩
  | str z h0 tk k ke=>
  subst h0;refine⟨_,rfl,_,"str",_,true,rfl,kX.str _,aHL K,true,rfl,bQ ?_⟩;refine⟨A3 _,fun la ak=>⟨A3 _,fun W Z=>⟨_,_,rfl,?_⟩⟩⟩;have sa:=aM (o:=.lst []) ak;have ea:upd H la (.lst []) la=some (.lst []):=aH;generalize upd H la _=H1 at sa ea Z ⊢;have sr:=aM (o:=.lst []) Z;have er:upd H1 W (.lst []) W=some (.lst []):=aH;have bh:la≠W:=aZ ea Z;have an:H W=none:=aAe sa Z;have ad:=sr _ _ ea;generalize upd H1 W _=H2 at sr er ad ⊢;dsimp only[bT];refine⟨_,rfl,rfl,⟨_,_,rfl,rfl,by decide,tk.len,fun LL Y=>?_⟩⟩;have tn:=tk.n;have tok:=tk.ok;have eR:iU (AA z "\n") 0 [] []=hX z:=rfl;generalize AA z "\n"=O at tn tok eR Y ⊢;have sL:=aM (o:=.lst (O.map V.str)) Y;have eL:upd H2 LL (.lst (O.map V.str)) LL=some (.lst (O.map V.str)):=aH;have bj:LL≠la:=(aZ ad Y).symm;have aB:LL≠W:=(aZ er Y).symm;generalize upd H2 LL _=H3 at sL eL ⊢;have s3:aU H H3:=sa.trans (sr.trans sL);refine⟨LL,_,rfl,eL,aB4 (xs:=O.map V.str) (fun i σ H'=>Ex3 fun(o3 o4:Option V) (U:List V)=>Ex3 fun(xs:List V) (J us:List Aj)=>Aw6 (σ=[some (.str z),some (.ref la),some (.ref W),o3,o4]) (aU H H') (H' LL=some (.lst (O.map V.str))) (nC H' la U J) (lX H' W xs us) (iU (O.drop i) i J us=hX z)) ⟨none,none,[],[],[],[],rfl,s3,eL,aIC (sL _ _ ad),aID (sL _ _ er),eR⟩ (fun i σ H' z=>by obtain⟨_,_,_,_,_,_,_,_,z,_⟩:=z;exact z) ?_ ?_⟩
  .rintro i v t σ HI hv ht ⟨o3,o4,U,xs,J,us,rfl,sI,eI,hL,hR,eD⟩;rw[AF]at hv;obtain⟨y,hy,rfl⟩:=BD.mp hv;have sT:=aM (o:=.tup [.int i,.str y]) ht;have eT:upd HI t (.tup [.int i,.str y]) t=some (.tup [.int i,.str y]):=aH;generalize upd HI t _=HT at sT eT ⊢;have ar:=sI.trans sT;have ao:=AO.mp hy;rw[Ci ao.1,ao.2]at eD;obtain⟨b1,b2⟩:=tok y (AG hy);refine⟨t,_,rfl,aV eT,rfl,_,_,rfl,_,_,rfl,rfl,⟨_,rfl,_,rfl,_,rfl,.mk y la W U J xs us rfl b1 b2 bh (hL.same sT) (hR.same sT) (fun hn H4 s4=>⟨_,rfl,bF ?_⟩) fun au aG hs aj aL H4 k4 ba be=>⟨_,rfl,bQ ?_⟩⟩⟩
   .rw[pN hn]at eD;exact⟨_,rfl,_,rfl,(ke i eD.symm).at (ar.trans s4)⟩
   .rw[jF hs]at eD;exact⟨_,_,aj,aL,au,aG,rfl,fun b o e=>k4 b o (ar b o e) (aZ e ak) (aZ e an),k4 _ _ (sT _ _ eI) bj aB,ba,be,eD⟩
  rintro σ HI ⟨o3,o4,U,xs,J,us,rfl,sI,eI,hL,hR,eD⟩;rw[Ab,List.drop_length]at eD;have ai:Ca [.tuple J,.tuple us]=hX z:=eD;refine⟨_,rfl,la,U,rfl,.inl ⟨aP hL.e,fun t1 bi=>?_⟩⟩;have ap:=aM (o:=.tup U) bi;refine⟨_,rfl,W,xs,rfl,.inl ⟨aP (ap _ _ hR.e),fun t2 bb=>?_⟩⟩;have ah:=aM (o:=.tup xs) bb;refine⟨zZ2,fun t ht=>?_⟩;have st:=aM (o:=.tup [V.ref t1,.ref t2]) ht;have sA:=ap.trans (ah.trans st);refine k _ ai.symm t _ (sI.trans sA) ?_;rw[<- ai];exact aEZ aH ((ah.trans st) _ _ aH) (st _ _ aH) (hL.rd.same sA) (hR.rd.same sA) hL.few hR.few
def aIF{f:Ag}{fd:Ay}(F:Fn K "_law_read" aDs f fd)(aR:mg "len"=none)(ao:mg "tuple"=none)(aC:mg "enumerate"=none)
  (GF:Cal P w K mg base 2 "_law_field_in" ["_law_line"] sG)
  (GI:Cal P w K mg base 5 "_law_row_in" ["_law_line"] aBf)
  (GG:Cal P w K mg base 2 "_law_row_fits" ["_law_laying_here","_law_rows","_law_row_here"] aES)
  :cC P w K mg base CX0 6 f fd ["_law_text"] aEW:=by
 refine okA F ["_law_text","_law_laying_here","_law_rows","_law_at","_law_line","_law_part","_law_row_here"] fun cu A outer s H vs Q E hr nd h=>?_;obtain⟨z,rfl,tk,k⟩:=h;have hu:=F0 (qV hr);refine⟨_,(aK (cF 1 nd (dC dP))
  (aK (cF 2 nd (dC dP))
  (aK (jG B1 rfl (aAO rfl aC (pa1 (eV A9 BM BL iD (pv 0) (pa1 aO)))) (g:=aIY K 2 (vM (bT 3) (vM (bT 4) aIX))) (pZ rfl (dN (bW (i:=3) nd rfl (Bp rfl)) (dN (bW (i:=4) nd rfl (Bp rfl)) lZ)))
  (aN (bX (cT cP (aX bJ (eV A9 BM BL iD (pv 4) (pa1 aO)) aD Ih) aO) (aK (cF 5 nd (bO GF hr (pa1 (pv 4))))
    (aK (bX (PW.pt (dL (aCR (aCQ (pv 5))) (dL (cT (aB3 hu) (pv 2) (dC dP)) (dL (cT nY (aQ aS (by rfl) aR Av (pa1 (pv 1))) aD) (dW (eJ gB (aX bS (pv 5) aD Ih) (eU (N:=["_law_other"]) (src:=[none]) (osc:=bC aDs) (oN:=["_law_text","_law_laying_here","_law_rows","_law_at","_law_line","_law_part","_law_row_here"]) bkA (hZ (pv 1)) (fun cl s H fp dl C=>⟨bW (i:=0) (show(["_law_other"]:List Str).Nodup by trivial) rfl (Bp rfl),dJ,aX (r:=vQ K) bS (pv 0) aD Ih⟩)) (by with_unfolding_all rfl))))))) (aN (aT (pv 3))) bA)
    (aN (fZ (eV A7 Bv Bu gC (pv 1) (pa1 (pv 5))))))) (aK (cF 6 nd (bO GI hr (pa1 (pv 4))))
    (aK (bX (cO (cJ (bO GG hr (pa3 (pv 1) (pv 2) (pv 6))))) (aN (aT (pv 3))) bA)
    (aN (fZ (eV A7 Bv Bu gC (pv 2) (pa1 (pv 6))))))))))
  (aN (aT (cH (pa2 (cA cK (by rfl) ao (by kernel_rfl) (pa1 (pv 1))) (cA cK (by rfl) ao (by kernel_rfl) (pa1 (pv 2)))))))))),?_⟩
 refine⟨A3 _,fun la aw=>?_⟩;have sa:=aM (o:=.lst []) aw;have ea:upd H la (.lst []) la=some (.lst []):=aH;generalize upd H la _=H1 at sa ea ⊢;dsimp only[bT];refine⟨A3 _,fun lr az=>?_⟩;have sr:=aM (o:=.lst []) az;have er:upd H1 lr (.lst []) lr=some (.lst []):=aH;have bc:la≠lr:=aZ ea az;have an:H lr=none:=aAe sa az;have ar:=sr _ _ ea;generalize upd H1 lr _=H2 at sr er ar ⊢;dsimp only[bT];refine⟨_,rfl,rfl,⟨_,_,rfl,rfl,by decide,tk.len,fun LL am=>?_⟩⟩;have tn:=tk.n;have tok:=tk.ok;have eR:iU (AA z "\n") 0 [] []=hX z:=rfl;generalize AA z "\n"=ae at tn tok eR am ⊢;have sL:=aM (o:=.lst (ae.map V.str)) am;have eL:upd H2 LL (.lst (ae.map V.str)) LL=some (.lst (ae.map V.str)):=aH;have b9:LL≠la:=(aZ ar am).symm;have bw:LL≠lr:=(aZ er am).symm;generalize upd H2 LL _=H3 at sL eL ⊢;have s3:aU H H3:=sa.trans (sr.trans sL);refine⟨LL,_,rfl,eL,aB4 (xs:=ae.map V.str) (fun i σ H'=>Ex3 fun(o3 o4 o5:Option V)=>Ex3 fun(o6:Option V) (O xs:List V)=>∃(J Y:List Aj),Aw6 (σ=[some (.str z),some (.ref la),some (.ref lr),o3,o4,o5,o6]) (aU H H') (H' LL=some (.lst (ae.map V.str))) (nC H' la O J) (lX H' lr xs Y) (iU (ae.drop i) i J Y=hX z)) ⟨none,none,none,none,[],[],[],[],rfl,s3,eL,aIC (sL _ _ ar),aID (sL _ _ er),eR⟩ (fun i σ H' z=>by obtain⟨_,_,_,_,_,_,_,_,_,_,z,_⟩:=z;exact z) ?_ ?_⟩
 .rintro i v t σ HI hv ht ⟨o3,o4,o5,o6,O,xs,J,Y,rfl,sI,eI,hL,hR,eD⟩;rw[AF]at hv;obtain⟨y,hy,rfl⟩:=BD.mp hv;have sT:=aM (o:=.tup [.int i,.str y]) ht;have eT:upd HI t (.tup [.int i,.str y]) t=some (.tup [.int i,.str y]):=aH;generalize upd HI t _=HT at sT eT ⊢;have cx:=sI.trans sT;have aL:=AO.mp hy;rw[Ci aL.1,aL.2]at eD;obtain⟨b1,b2⟩:=tok y (AG hy);have cD:=hL.rd.len;have b3:=hR.rd.len;have h8:=hL.few;have ck:=hR.few;have no:hJ y J Y=none->∀ H',aU H H'->Q (.int i) H':=fun hn H' s'=>k (.int i) H' s' (by rw[<- eD,pN hn];exact .int _);refine⟨t,_,rfl,aV eT,rfl,_,_,rfl,_,_,rfl,rfl,?_⟩;have es:=gQ y;have bB:=@aIz y;have be:=@aLw y;refine⟨_,rfl,rfl,⟨_,_,rfl,rfl,by decide,aJ (n:=y.length+2) (by lia),fun LW ca=>?_⟩⟩;unfold hJ at no;obtain⟨w0,ws,ew⟩:∃ w0 ws,AA y " "=w0::ws:=by
   cases hq:AA y " " with
   | nil=>rw[hq]at es;cases es
   | cons a b=>exact⟨a,b,rfl⟩
  rw[ew];have sW:=aM (o:=.lst ((w0::ws).map V.str)) ca;refine⟨LW,_,0,_,rfl,rfl,aP aH,bG (j:=0) rfl,rfl,_,rfl,?_⟩;generalize upd HT LW _=HW at sW ⊢;have sB:=sT.trans sW;have aj:=sI.trans sB;have ag:=hL.same sB;have au:=hR.same sB;have aG:=sB _ _ eI;by_cases aA:w0="field"
  .subst aA;rw[Ic (show V.str "field"=V.str "field" from rfl)];refine bF ?_;refine⟨_,rfl,.mk y rfl b1 b2 (fun U tf H4 s4 rd=>?_) fun U H4 s4=>?_⟩
   .have ah:Bl y "field "=true:=by
     cases hq:Bl y "field " with
     | true=>rfl
     | false=>
      have:=be hq ew;subst this;unfold pQ at U;rw[ew]at U;cases U
    rw[ah,Ib rfl,U,Ax]at no;have ad:=ag.same s4;have W:=au.same s4;have ax:=aj.trans s4;dsimp only[bT];refine⟨_,rfl,_,rfl,bQ ?_⟩;refine⟨_,rfl,A3 _,fun M hM=>?_⟩;have sM:=aM (o:=.lst []) hM;refine⟨lr,M,_,rfl,rfl,aP (sM _ _ W.e),aP aH,_,rfl,?_⟩;generalize upd H4 M _=H5 at sM ⊢;have af:=ax.trans sM;by_cases hx:0<xs.length
    .rw[Ic hx];refine bF (bF ?_);refine⟨_,rfl,no ?_ H5 af⟩;have:Y.isEmpty=false:=by
      cases Y with
      | nil=>rw[b3]at hx;simp at hx
      | cons _ _=>rfl
     rw[this];rfl
    rw[Ie hx];refine bQ ?_;have b8:Y=[]:=A8 (by lia);subst b8;have aa:=ad.same sM;have ac:=W.same sM;refine⟨_,rfl,la,_,rfl,.inl (aP aa.e),_,_,rfl,rfl,_,rfl,?_⟩;by_cases h7:J.length<8
    case neg=>
     rw[Ic (show(7:Int)<((O.length:Nat):Int) by lia)];refine bF (bF ?_);exact⟨_,rfl,no (by rw[Ie h7];rfl) H5 af⟩
    rw[Ie (show¬ ((7:Int)<((O.length:Nat):Int)) by lia)];refine bQ ?_;have aI:=rd.same sM;have⟨tq,zs,et,eq,hat0⟩:=aEB aI U;refine⟨_,rfl,tq,_,0,_,et,rfl,aV eq,hat0,_,rfl,la,rfl,⟨_,aP aa.e⟩,qL aa fun D H6 s6 e6=>?_⟩;refine⟨D,_,rfl,.inl (aP e6),rfl,fO _,_,rfl,?_⟩;rw[Ia Aq,mT];have bd:=af.trans s6;by_cases Z:dM (pQ y)∈J.map dM
    .rw[Ic Z];exact bF ⟨_,rfl,no (by rw[Ic Z,Ic h7];rfl) H6 bd⟩
    rw[Ie Z];refine bQ ?_;have ak:=aa.same s6;have bI:=ac.same s6;have hs:hJ y J []=some (J++[pQ y],[]):=by
     unfold hJ;rw[ah,Ib rfl,U,Ic h7,Ie Z];rfl
    rw[jF hs]at eD;exact⟨_,rfl,.inl ⟨rfl,_,aP ak.e⟩,_,rfl,la,O,.ref tf,rfl,rfl,ak.e,fM (by lia),_,_,_,_,_,_,_,_,rfl,fun b o e=>(sK (la:=la) (lr:=lr) bd (.inl rfl)) b o e (aZ e aw) (aZ e an),by rw[bE b9];exact(s4.trans (sM.trans s6)) _ _ aG,ak.snoc (aI.same s6) U h7,bI.butL bc.symm ak.e,eD⟩
   .dsimp only[bT];refine⟨_,rfl,_,rfl,bF (bF ⟨_,rfl,no ?_ H4 (aj.trans s4)⟩)⟩;rw[U];cases hq:Bl y "field " with
    | true=>rfl
    | false=>
     have:=be hq ew;subst this;rw[ew];rfl
  .rw[Ie (neS aA)];refine bQ ?_;have ah:Bl y "field "=false:=by
    cases hq:Bl y "field " with
    | false=>rfl
    | true=>
     obtain⟨r,e,_⟩:=bB hq;rw[ew]at e;exact absurd (List.cons.inj e).1 aA
   rw[ah,Ia Aq]at no;refine⟨_,rfl,.mk y rfl b1 b2 (fun U t6 H4 s4 rd=>?_) fun U H4 s4=>?_⟩
   .rw[U,Ax]at no;have ad:=ag.same s4;have W:=au.same s4;have ax:=aj.trans s4;dsimp only[bT];refine⟨_,rfl,_,rfl,_,rfl,.mk (.ref t6) la lr _ J _ Y rfl ad W (.inr ⟨_,rd,U,fun H5 s5=>⟨_,rfl,?_⟩⟩)⟩;have af:=ax.trans s5;cases hb:(!J.isEmpty&&sF (eG (AA y " ")) J Y)with
    | false=>
     refine bF ⟨_,rfl,no (by rw[hb];rfl) H5 af⟩
    | true=>
    refine bQ ?_;have hs:hJ y J Y=some (J,Y++[eG (AA y " ")]):=by
     unfold hJ;rw[ah,Ia Aq,U,hb];rfl
    rw[jF hs]at eD;have b4:=aBi (Aw _ _ |>.mp hb).2;have aa:=ad.same s5;have ac:=W.same s5;exact⟨_,rfl,.inl ⟨rfl,_,aP ac.e⟩,_,rfl,lr,xs,.ref t6,rfl,rfl,ac.e,fM (by lia),_,_,_,_,_,_,_,_,rfl,fun b o e=>(sK (la:=la) (lr:=lr) af (.inr rfl)) b o e (aZ e aw) (aZ e an),by rw[bE bw];exact(s4.trans s5) _ _ aG,aa.butL bc ac.e,ac.snoc (rd.same s5) U b4,eD⟩
   .have ad:=ag.same s4;have W:=au.same s4;dsimp only[bT];refine⟨_,rfl,_,rfl,_,rfl,.mk .non la lr _ J _ Y rfl ad W (.inl ⟨rfl,fun H5 s5=>⟨_,rfl,bF ⟨_,rfl,no (by rw[U];rfl) H5 ((aj.trans s4).trans s5)⟩⟩⟩)⟩
 rintro σ HI ⟨o3,o4,o5,o6,O,xs,J,Y,rfl,sI,eI,hL,hR,eD⟩;rw[Ab,List.drop_length]at eD;have bv:Ca [.tuple J,.tuple Y]=hX z:=eD;refine⟨_,rfl,la,O,rfl,.inl ⟨aP hL.e,fun t1 b6=>?_⟩⟩;have bb:=aM (o:=.tup O) b6;refine⟨_,rfl,lr,xs,rfl,.inl ⟨aP (bb _ _ hR.e),fun t2 bL=>?_⟩⟩;have aF:=aM (o:=.tup xs) bL;refine⟨zZ2,fun t ht=>?_⟩;have st:=aM (o:=.tup [V.ref t1,.ref t2]) ht;have sA:=bb.trans (aF.trans st);refine k _ _ (sI.trans sA) ?_;rw[<- bv];exact aEZ aH ((aF.trans st) _ _ aH) (st _ _ aH) (hL.rd.same sA) (hR.rd.same sA) hL.few hR.few
def aIG{f cD ai O Y ad ae aa U af ag ac Z ah J:Ag}{fd:Ay}(F:Fn K "_law_heard" aHu f fd)(ak:mg "isinstance"=none)(aL:mg "ValueError"=none)(mD:mg "DykeError"=some (.ref cD))(aA:mg "Clash"=some (.ref ai))(aj:mg "NoBreach"=some (.ref O))(am:mg "NoField"=some (.ref Y))(aw:mg "NoInch"=some (.ref ad))(au:mg "NoMend"=some (.ref ae))(ar:mg "NoName"=some (.ref aa))(ao:mg "NoOrder"=some (.ref U))(aq:mg "NoRoll"=some (.ref af))(ay:mg "NoRow"=some (.ref ag))(ap:mg "NoThen"=some (.ref ac))(an:mg "TooMany"=some (.ref Z))(ax:mg "Twice"=some (.ref ah))(av:mg "NoText"=some (.ref J))
  (eR:PySem.W.exmOne K (.ref J) (.ref cD)=some true) (kf:aF4 K J [J] [true] [ai,O,Y,ad,ae,aa,U,af,ag,ac]=true) (kg:aF4 K J [J] [true] [Z,ah]=true) (kl:B0 K (.ref J) "line"=some none)
  {fR:Ag} {aF:Ay} (GR:cC P w K mg base (CXd P w) 10 fR aF ["text"] (vI K J)) (mR:mg "read_roll"=some (.ref fR)) (kR:AS K (.ref fR)=true) (bR:dY K aF ["text"] []):
  cC P w K mg base CX0 11 f fd ["_law_text"] (aEX K J):=by
 refine okA F ["_law_text","_law_caught","_law_found","e"] fun bj A outer s H vs Q E hr nd h=>?_;obtain⟨x,R,rfl,hR,kq⟩:=h;refine⟨_,aK (cF 1 nd gG) (aK (cF 2 nd gG)
  (aK (aFN (ie:=3) rfl rfl rfl (aHm (i:=2) nd rfl (Bp rfl) (aHl GR hr rfl mR kR bR (pa1 (pv 0)))) rfl mD nd rfl rfl (fun v=>aN (cF 1 nd (pv 3))))
  (aK (bX (aCR (aCQ (pv 1))) (aN (aT (pv 2))) bA)
  (aK (bX (cJ (aQ pX (by rfl) ak (by kernel_rfl) (pa2 (pv 1) (cH (cU (cG (v:=.ref ai) rfl aA rfl) (cU (cG (v:=.ref O) rfl aj rfl) (cU (cG (v:=.ref Y) rfl am rfl) (cU (cG (v:=.ref ad) rfl aw rfl) (cU (cG (v:=.ref ae) rfl au rfl) (cU (cG (v:=.ref aa) rfl ar rfl) (cU (cG (v:=.ref U) rfl ao rfl) (pa3 (cG (v:=.ref af) rfl aq rfl) (cG (v:=.ref ag) rfl ay rfl) (cG (v:=.ref ac) rfl ap rfl))))))))))))) (aN (aT aO)) bA)
  (aK (bX (PW.pt (dL (cJ (aQ pX (by rfl) ak (by kernel_rfl) (pa2 (pv 1) (cH (pa2 (cG (v:=.ref Z) rfl an rfl) (cG (v:=.ref ah) rfl ax rfl))))))
   (dL (cO (cJ (aQ rT (by rfl) ak (by kernel_rfl) (pa2 (pv 1) (cG (v:=.ref J) rfl av rfl))))) (dW (cO (cJ (aQ rT (by rfl) ak (by kernel_rfl) (pa2 (pv 1) (fF (v:=.ty "ValueError") (by rfl) aL (by kernel_rfl) rfl))))))))) (aN (aT aO)) bA)
  (aN (aT (aJl (pv 1) rfl)))))))),?_⟩
 refine⟨_,rfl,hR _ _ (fun v H1 s1 r=>?_) (fun n en D H1 s1 eD=>⟨eR,fun y d ed hy=>?_⟩)⟩
 .refine⟨_,rfl,_,rfl,bF ?_⟩;exact⟨_,rfl,kq v H1 s1 r⟩
 .cases ed;have sy:=aM (o:=nO y (.ref J) D) hy;have ey:upd H1 y (nO y (.ref J) D) y=some (nO y (.ref J) D):=aH;have aG:=sy _ _ eD;have S:=s1.trans sy;generalize upd H1 y (nO y (.ref J) D)=H2 at sy ey S aG ⊢;have⟨ek,h1,h2,h3⟩:=aEY kf;obtain⟨_,_,h4,_⟩:=aEY kg;refine⟨_,rfl,_,rfl,_,rfl,bQ ?_⟩;refine⟨_,rfl,aJo,fun q hq=>?_⟩;have sq:=aM (o:=.tup ([ai,O,Y,ad,ae,aa,U,af,ag,ac].map V.ref)) hq;refine⟨y,J,D,q,[ai,O,Y,ad,ae,aa,U,af,ag,ac],_,rfl,aH,sq _ _ ey,ek,h2,_,rfl,bQ ?_⟩;have aE:=sq _ _ ey;have aC:=sq _ _ aG;have S3:=S.trans sq;simp only[A6,DS]at aE aC S3;generalize upd H2 q _=H3 at aE aC S3 ⊢;refine⟨_,rfl,zZ2,fun q2 bc=>?_⟩;have aB:=aM (o:=.tup ([Z,ah].map V.ref)) bc;have az:=aB _ _ aE;have bd:=aB _ _ aC;refine⟨y,J,D,q2,[Z,ah],_,rfl,aH,az,ek,h4,_,rfl,bQ ?_⟩;refine⟨_,rfl,y,J,D,_,_,_,rfl,(fun u r=>r),az,ek,h1 0 _ _ rfl rfl,_,rfl,bQ ?_⟩;refine⟨_,rfl,y,J,D,_,_,_,rfl,(fun u r=>r),az,ek,h3,_,rfl,bQ ?_⟩;refine⟨_,rfl,y,J,D,_,_,rfl,az,bd,ek,kl,rfl,kq _ _ (S3.trans aB) ?_⟩;rw[en];exact .int n
def aDM(z:Str):bks z<=z.length:=by
 unfold bks;exact AH List.count_le_length (DA AL)
theorem aE0{c:Nat}{b:List Nat}:∀{a l:List Nat},l <+:a++c::b->c∉l->l <+:a
 | [],l,h,hc=>by
  cases l with
  | nil=>exact List.nil_prefix
  | cons x r=>
   have:x=c:=(D5.mp h).1;exact absurd (by rw[this];simp) hc
 | y::a,l,h,hc=>by
  cases l with
  | nil=>exact List.nil_prefix
  | cons x r=>
   have h2:=D5.mp h;rw[h2.1];exact D5.mpr ⟨rfl,aE0 h2.2 fun hm=>hc (AN _ hm)⟩
theorem aE1{c:Nat}{b l:List Nat}(hc:c∉l):∀{a:List Nat},l <:+:a++c::b->l <:+:a\/l <:+:b
 | [],h=>by
  rcases List.infix_cons_iff.mp h with h|h
  .cases l with
   | nil=>exact .inl List.nil_infix
   | cons x r=>exact absurd (by rw[(D5.mp h).1];simp) hc
  .exact .inr h
 | y::a,h=>by
  rcases List.infix_cons_iff.mp h with h|h
  .exact .inl (aE0 (a:=y::a) h hc).isInfix
  .exact(aE1 hc h).imp List.infix_cons id
def Inf(a b:Str):Prop:=a.cps.toList <:+:b.cps.toList
def Inf.len{a b:Str}(h:Inf a b):a.length<=b.length:=by
 have:=List.IsInfix.length_le h;rw[AL,AL]at this;exact this
def BF(m:Nat)(z:Str):Prop:=∀ l:List Nat,l <:+:z.cps.toList->32∉l->l.length<=m
structure Ln(n b m:Nat)(z:Str):Prop where
 len:z.length<=n
 bk:bks z+1<=b
 bf:BF m z
def BF.of{m:Nat}{z:Str}(h:z.length<=m):BF m z:=fun l J _=>AH J.length_le (by rw[AL];exact h)
def Ln.inf{n b m:Nat}{y z:Str}(h:Ln n b m z)(i:Inf y z):Ln n b m y:=⟨AH i.len h.len,AH (Nat.succ_le_succ (i.sublist.count_le 32)) h.bk,fun l J hc=>h.bf l (J.trans i) hc⟩
def Ln.le{n b m O J U:Nat}{z:Str}(h:Ln n b m z)(h1:n<=O)(h2:b<=J)(Y:m<=U):Ln O J U z:=⟨AH h.len h1,AH h.bk h2,fun l W hc=>AH (h.bf l W hc) Y⟩
def Ln.short{n b m:Nat}{z:Str}(h:z.length<=60)(h1:60<=n)(h2:61<=b)(J:60<=m):Ln n b m z:=⟨by lia,by have:=aDM z;lia,BF.of (by lia)⟩
theorem sQ(s:Str):∀{ys:List Str}{y:Str},y∈ys->Inf y (By s ys)
 | [x],y,h=>by rw[Bd.mp h];exact List.infix_refl _
 | x::J::r,y,h=>by
  show y.cps.toList <:+:(x++s++By s (J::r)).cps.toList;rw[gO,gO];rcases Ao.mp h with rfl|h
  .exact(List.prefix_append _ _).isInfix.trans (List.prefix_append _ _).isInfix
  .exact List.IsInfix.trans (sQ s h) (List.suffix_append _ _).isInfix
def aAm{z s y:Str}(h:y∈AA z s):Inf y z:=by
 have:=sQ s h;rw[C9]at this;exact this
def Ln.words{n b m:Nat}{y z:Str}(h:Ln n b m z)(J:y∈AA z " "):y.length<=m:=by
 have h1:=h.bf _ (aAm J) (by rw[qK]at J;exact C8 z 32 y J);rw[AL]at h1;exact h1
theorem aE2{m:Nat}:∀{ys:List Str},(∀ y∈ys,y.length<=m)->BF m (By " " ys)
 | [],_=>fun l J _=>AH J.length_le (by rw[AL];exact A3 _)
 | [x],h=>BF.of (h x (by simp))
 | x::U::r,h=>fun l J hc=>by
  have J:l <:+:(x++(" ":Str)++By " " (U::r)).cps.toList:=J;rw[aDJ]at J;rcases aE1 hc J with J|J
  .exact BF.of (h x (by simp)) l J hc
  .exact aE2 (fun y O=>h y (by simp at O ⊢;exact .inr O)) l J hc
def Ln.join{n b m:Nat}{ys:List Str}(w:Wg n b ys)(h:∀ y∈ys,y.length<=m):Ln (n+1) (b+1) m (Dy " " ys):=by
 have j:=w.join;refine⟨by lia,by lia,?_⟩;rw[pL];exact aE2 h
theorem aCM(s:Str):∀{xs ys:List Str},xs≠[]->ys≠[]->By s (xs++ys)=By s xs++s++By s ys
 | [x],y::ys,_,_=>rfl
 | x::J::r,ys,_,O=>by
  show x++s++By s (J::r++ys)=x++s++By s (J::r)++s++By s ys;rw[aCM s (by simp) O];refine iC ?_;simp only[gO,B2]
theorem aAn(s:Str):∀{ys:List Str},By s (ys.flatMap fun y=>AA y s)=By s ys
 | []=>rfl
 | [x]=>by
  rw[CS,List.flatMap_nil,B5];exact C9 x s
 | x::J::r=>by
  have O:AA x s≠[]:=fun e=>by have:=CW x s;rw[e]at this;cases this
  have U:((J::r).flatMap fun y=>AA y s)≠[]:=fun e=>by
   rw[CS]at e;have:=CW J s;rw[(List.append_eq_nil_iff.mp e).1]at this;cases this
  rw[CS,aCM s O U,C9,aAn s];rfl
def aLx:("\n":Str)=⟨#[10]⟩:=by trivial
def aMD{ys:List Str}{p:Str}(hn:ys≠[])(h:p∈AA (Dy "\n" ys) "\n"):∃ y∈ys,Inf p y:=by
 rw[pL,<- aAn,aLx]at h;rw[mO ?_ ?_]at h
 .obtain⟨y,J,hp⟩:=F7.mp h;exact⟨y,J,aAm hp⟩
 .intro e;cases ys with
  | nil=>exact hn rfl
  | cons x r=>
   rw[CS]at e;have:=CW x ⟨#[10]⟩;rw[(List.append_eq_nil_iff.mp e).1]at this;cases this
 .intro y J;obtain⟨x,_,hx⟩:=F7.mp J;exact C8 x 10 y hx
def Wg.perm{n b:Nat}{ys ws:List Str}(h:Wg n b ws)(p:ys.Perm ws):Wg n b ys:=by
 have p1:=(p.map (·.length)).sum_nat
 have p2:=(p.map bks).sum_nat;have p3:=p.length_eq;have:=h.len;have:=h.bk;exact⟨by lia,by lia⟩
def aCN(ws:List Str)(m:Nat):∃ y1 y2 y3:List Str,gU (ws.map V.str) none (some (m:Int))=y1.map V.str/\gU (ws.map V.str) (some (m:Int)) (some ((m:Int)+2))=y2.map V.str/\gU (ws.map V.str) (some ((m:Int)+2)) none=y3.map V.str/\(y1++y2.reverse++y3).Perm ws:=by
 refine⟨ws.take m,(ws.drop m).take 2,ws.drop (m+2),?_,?_,?_,?_⟩
 .rw[CZ];exact oK (α:=Nat) (ws.map V.str) m
 .have:=aBe (ws.map V.str) m (m+2);rw[show(((m+2:Nat)):Int)=(m:Int)+2 by lia,show m+2-m=2 by lia]at this;rw[this,CZ,DG]
 .have:=wI (α:=Nat) (ws.map V.str) (m+2);rw[show(((m+2:Nat)):Int)=(m:Int)+2 by lia]at this;rw[this,DG]
 .have e:ws=ws.take m++((ws.drop m).take 2++ws.drop (m+2)):=by
   rw[<- List.drop_drop,Dm,Dm]
  rw[B2];exact(((List.reverse_perm _).append_right _).append_left _).trans (by rw[<- e])
def xX:Str:=" !\"#$&'()*+,-./0123456789:;<=>?@ABCDEFGHIJKLMNOPQRSTUVWXYZ[\\]^_`abcdefghijklmnopqrstuvwxyz{|}~\n"
def pO:xX.length=95:=by trivial
def aIH(c n:Nat):(rV c n).length=n:=by
 unfold rV;show(C5 n c).toArray.size=n;rw[Au,Fd]
theorem vJ{f:Str->Nat}{y:Str}:∀{ps:List Str}{j:Nat},((ps.set j y).map f).sum<=(ps.map f).sum+f y
 | [],j=>A3 _
 | x::r,0=>by show f y+(r.map f).sum<=f x+(r.map f).sum+f y;lia
 | x::r,j+1=>by
  show f x+((r.set j y).map f).sum<=f x+(r.map f).sum+f y;have:=vJ (f:=f) (y:=y) (ps:=r) (j:=j);lia
theorem aCO{f:Str->Nat}:∀{l:List Str},(∀ y∈l,f y=0)->(l.map f).sum=0
 | [],_=>rfl
 | a::l,h=>by rw[A6,Co,h a (by simp),aCO fun y J=>h y (by simp[J])]
inductive aII(vs:List V)(H:Hp)(Q:VK)(E:XK):Prop
 | mk (m:Nat) (p c:Ag) (ns:List Int) (a:Int) (z:Str) (h0:vs=[.ref p,.str z]) (hp:cW H p c ns a) (ha:a<=900000) (hm:m<=94) (hz:z.length<=m)
   (q:∀(z':Str) (a':Int) (H':Hp),z'.length<=3*m+61->bks z'<=3*m+1->a<=a'->a'<=a+5->cW H' p c ns a'->bM p H H'->Q (.str z') H'):aII vs H Q E
def aE3:Sp:=fun vs H Q E=>aII vs H Q E
inductive aIJ(vs:List V)(H:Hp)(Q:VK)(E:XK):Prop
 | mk (n b m:Nat) (p c:Ag) (ns:List Int) (a:Int) (z:Str) (h0:vs=[.ref p,.str z]) (hp:cW H p c ns a) (ha:a<=800000) (hm:m<=94) (hn:n<=402) (hb:b<=61) (ln:Ln n b m z)
   (q:∀(z':Str) (a':Int) (H':Hp),Ln (n+3*m+63) (b+3*m+3) (3*m+61) z'->a<=a'->a'<=a+12->cW H' p c ns a'->bM p H H'->Q (.str z') H'):aIJ vs H Q E
def aE4:Sp:=fun vs H Q E=>aIJ vs H Q E
def cW.upd{H:Hp}{p c L:Ag}{ns:List Int}{a:Int}{o:HO}(h:cW H p c ns a)(h1:L≠p)(h2:L≠c):cW (upd H L o) p c ns a:=by
 obtain⟨⟨z,hz,e⟩,ce,ge,sm⟩:=h;exact⟨⟨z,hz,by rw[bE (CY h1)];exact e⟩,by rw[bE (CY h2)];exact ce,ge,sm⟩
def aLy:("9":Str)=⟨#[57]⟩:=by trivial
def aLz:("0":Str)=⟨#[48]⟩:=by trivial
def aIK{f:Ag}{fd:Ay}(F:Fn K "_law_bent_word" aHs f fd)(U:mg "len"=none)
  (GT:gF P w K mg base)
  :cC P w K mg base CX0 2 f fd ["_law_pen_here","_law_word"] aE3:=by
 refine okA F ["_law_pen_here","_law_word","_law_way","_law_signs","_law_sign","_law_at","_law_some_here"] fun aL A outer s H vs Q E hr nd h=>?_;obtain⟨m,p,c,ns,a,z,rfl,hp,ha,hm,hz,k⟩:=h;refine⟨_,(aK (cF 2 nd (bO GT hr (pa2 (pv 0) aD)))
  (aK (cF 3 nd aO)
  (aK (cF 4 nd (aX mH (pv 3) (bO GT hr (pa2 (pv 0) (aQ eQ (by rfl) U Av (pa1 (pv 3))))) Ih))
  (aK (cF 5 nd (bO GT hr (pa2 (pv 0) (aW dF (aQ eQ (by rfl) U Av (pa1 (pv 1))) aD))))
  (aK (bX (cT cP (pv 2) aD) (aN (aT (aW bY (aW bY (cN oH (pv 1) dU (cM (pv 5))) (pv 4)) (cN oH (pv 1) (cM (pv 5)) dU)))) bA)
  (aK (bX (cT cP (pv 2) aD) (aN (aT (aW bY (aW bY (cN oH (pv 1) dU (cM (pv 5))) (pv 4)) (cN oH (pv 1) (cM (aW dF (pv 5) aD)) dU)))) bA)
  (aK (bX (cT cP (pv 2) aD) (aN (aT (aW bY (cN oH (pv 1) dU (cM (pv 5))) (cN oH (pv 1) (cM (aW dF (pv 5) aD)) dU)))) bA)
  (aK (bX (cT cP (pv 2) aD) (aN (aT (aX bJ (dC (cU (aW bY aO (pv 1)) (cU (aW bY aO (pv 1)) (cU (aW bY aO (pv 1)) (pa3 (aW bY (pv 1) aO) (aKP A9 PySem.F.slot_str_upper PySem.F.type_str_upper aGJ (pv 1)) (aW bY (aW aEj aO aD) aO)))))) (bO GT hr (pa2 (pv 0) aD)) Ih))) bA)
  (aK (cF 6 nd (dC (cU aO (cU aO (cU aO (cU aO (cU aO (cU aO (cU aO (pa3 aO aO aO))))))))))
  (aK (cF 6 nd (aW hV (pv 6) (dC (cU aO (cU (aW aEj aO aD) (cU aO (cU aO (cU aO (cU aO (cU aO (pa3 aO aO aO)))))))))))
  (aN (aT (aX bJ (pv 6) (bO GT hr (pa2 (pv 0) aD)) Ih))))))))))))),?_⟩
 have Z:z.length<=sizeLine:=aJ (by lia);refine⟨_,rfl,p,c,ns,a,_,rfl,hp,by lia,by decide,by trivial,fun r1 a1 H1 bi aE be bc ar k1=>?_⟩;dsimp only[bT];refine⟨_,rfl,_,rfl,_,rfl,xX,rfl,aJ (by rw[pO];decide),p,c,ns,a1,_,rfl,ar,by lia,by rw[pO];decide,by rw[pO];trivial,fun r2 a2 H2 bo bb aR ba an k2=>?_⟩;obtain⟨c0,hat⟩:∃ c0,atI xX.cps.toList r2=some c0:=by
  obtain⟨j,rfl⟩:∃ j:Nat,r2=j:=⟨r2.toNat,by lia⟩
  have hj:j<xX.cps.toList.length:=by
   rw[show xX.cps.toList.length=xX.length from AL];lia
  exact⟨_,bG (Ai hj)⟩
 refine⟨xX,r2,c0,rfl,rfl,aJ (by rw[pO];decide),hat,_,rfl,_,rfl,z,rfl,Z,_,_,rfl,rfl,p,c,ns,a2,_,rfl,an,by lia,by lia,by have:=hz;lia,fun r3 a3 H3 bd bn bj aI ad k3=>?_⟩;have ac:=(k1.trans k2).trans k3;have l0:(⟨#[c0]⟩:Str).length=1:=rfl;have sl:=fun lo hi=>PySem.Txt.slice_le z lo hi;have u1:=sl none (some r3);have u2:=sl (some r3) none;have u3:=sl (some (r3+1)) none;have W:∀(J:Str),J.length<=3*m+1->Q (.str J) H3:=fun J h=>k J a3 H3 (by lia) (AH (aDM J) h) (by lia) (by lia) ad ac;refine⟨_,rfl,rfl,_,rfl,dH (fun g=>?_) fun g=>?_⟩
 .refine⟨_,rfl,_,rfl,_,rfl,z,rfl,Z,_,rfl,_,_,rfl,rfl,aJ (by lia),_,rfl,_,rfl,_,rfl,z,rfl,Z,_,_,rfl,rfl,aJ (by rw[AI];lia),W _ (by rw[AI,AI];lia)⟩
 refine⟨_,rfl,rfl,_,rfl,dH (fun g=>?_) fun g=>?_⟩
 .refine⟨_,rfl,_,rfl,_,rfl,z,rfl,Z,_,rfl,_,_,rfl,rfl,aJ (by lia),_,rfl,_,rfl,_,_,rfl,rfl,_,rfl,z,rfl,Z,_,_,rfl,rfl,aJ (by rw[AI];lia),W _ (by rw[AI,AI];lia)⟩
 refine⟨_,rfl,rfl,_,rfl,dH (fun g=>?_) fun g=>?_⟩
 .refine⟨_,rfl,_,rfl,_,rfl,z,rfl,Z,_,rfl,_,rfl,_,_,rfl,rfl,_,rfl,z,rfl,Z,_,_,rfl,rfl,aJ (by lia),W _ (by rw[AI];lia)⟩
 have q1:("0":Str).length=1:=by trivial
 have q2:("+":Str).length=1:=by trivial
 have q3:("-":Str).length=1:=by trivial
 have q4:("1":Str).length=1:=by trivial
 refine⟨_,rfl,rfl,_,rfl,dH (fun g=>?_) fun g=>?_⟩
 .refine⟨_,rfl,_,_,rfl,rfl,aJ (by rw[q1];lia),_,rfl,_,_,rfl,rfl,aJ (by rw[q2];lia),_,rfl,_,_,rfl,rfl,aJ (by rw[q3];lia),_,rfl,_,_,rfl,rfl,aJ (by rw[q1];lia),_,rfl,rfl,z,rfl,rfl,by lia,48,59,by rw[<- aLz],rfl,by decide,by decide,_,_,rfl,rfl,aJ (by rw[aIH,q4];decide),zZ6,fun L nL=>?_⟩;have sL:=aM (o:=.lst [V.str (("0":Str)++z),.str (("+":Str)++z),.str (("-":Str)++z),.str (z++("0":Str)),.str (Hc z),.str (rV 48 (59:Int).toNat++("1":Str))]) nL;have eL:=aH (H:=H3) (a:=L) (o:=.lst [V.str (("0":Str)++z),.str (("+":Str)++z),.str (("-":Str)++z),.str (z++("0":Str)),.str (Hc z),.str (rV 48 (59:Int).toNat++("1":Str))]);generalize upd H3 L _=H4 at sL eL ⊢;have aj:=ad.same sL;refine⟨_,rfl,p,c,ns,a3,_,rfl,aj,by lia,by decide,by trivial,fun r4 a4 H5 aa am aw av O k5=>?_⟩;have⟨v,hv,hat5⟩:=gX (xs:=[V.str (("0":Str)++z),.str (("+":Str)++z),.str (("-":Str)++z),.str (z++("0":Str)),.str (Hc z),.str (rV 48 (59:Int).toNat++("1":Str))]) (i:=r4) aa (by show r4<6;lia);obtain⟨J,rfl,h1,h2⟩:∃ J,v=.str J/\J.length<=3*m+61/\bks J<=3*m+1:=by
   have up:=PyProof.Rows.len_upper z;have go:∀ J:Str,J.length<=3*m+1->∃ Y,V.str J=.str Y/\Y.length<=3*m+61/\bks Y<=3*m+1:=fun J h=>⟨J,rfl,by lia,AH (aDM J) h⟩
   simp only[Ao,AB,or_false]at hv;rcases hv with rfl|rfl|rfl|rfl|rfl|rfl
   .exact go _ (by rw[AI,q1];lia)
   .exact go _ (by rw[AI,q2];lia)
   .exact go _ (by rw[AI,q3];lia)
   .exact go _ (by rw[AI,q1];lia)
   .exact go _ (by lia)
   .exact⟨_,rfl,AH (by trivial) (Nat.le_add_left 61 (3*m)),AH (by trivial) (A3 _)⟩
  exact⟨L,_,r4,_,rfl,rfl,aP (bU eL aj k5),hat5,k J a4 _ h1 h2 (by lia) (by lia) O ((ac.same sL).trans k5)⟩
 refine⟨aJo,fun L nL=>?_⟩;have sL:=aM (o:=.lst [V.str "0",.str "1",.str "9999",.str "10000",.str "1000000",.str "1000001",.str "10000000",.str "10000001",.str "999999999",.str "1000000000"]) nL;have eL:=aH (H:=H3) (a:=L) (o:=.lst [V.str "0",.str "1",.str "9999",.str "10000",.str "1000000",.str "1000001",.str "10000000",.str "10000001",.str "999999999",.str "1000000000"]);generalize upd H3 L _=H4 at sL eL ⊢;dsimp only[bT];refine⟨_,rfl,57,61,by rw[<- aLy],rfl,by decide,by decide,aJo,fun M nM=>?_⟩;have sM:=aM (o:=.lst [V.str "1000000001",.str (rV 57 (61:Int).toNat),.str "a",.str "abcdefgh",.str "abcdefghi",.str "as",.str "field",.str "",.str "-",.str "none"]) nM;refine⟨L,M,_,_,rfl,rfl,sM _ _ eL,aH,(show 10+10<=PySem.sizeLine from aJ (by decide)),fun N nN=>?_⟩;have sN:=sL.trans (sM.trans (aM (o:=.lst ([V.str "0",.str "1",.str "9999",.str "10000",.str "1000000",.str "1000001",.str "10000000",.str "10000001",.str "999999999",.str "1000000000"]++[V.str "1000000001",.str (rV 57 (61:Int).toNat),.str "a",.str "abcdefgh",.str "abcdefghi",.str "as",.str "field",.str "",.str "-",.str "none"])) nN));have eN:=aH (H:=upd H4 M (.lst [V.str "1000000001",.str (rV 57 (61:Int).toNat),.str "a",.str "abcdefgh",.str "abcdefghi",.str "as",.str "field",.str "",.str "-",.str "none"])) (a:=N) (o:=.lst ([V.str "0",.str "1",.str "9999",.str "10000",.str "1000000",.str "1000001",.str "10000000",.str "10000001",.str "999999999",.str "1000000000"]++[V.str "1000000001",.str (rV 57 (61:Int).toNat),.str "a",.str "abcdefgh",.str "abcdefghi",.str "as",.str "field",.str "",.str "-",.str "none"]))
 generalize upd (upd H4 M _) N _=H5 at sN eN ⊢;dsimp only[bT];have O:=ad.same sN;refine⟨_,rfl,_,rfl,p,c,ns,a3,_,rfl,O,by lia,by decide,by trivial,fun r4 a4 H6 aa am aw av au k6=>?_⟩;have⟨v,hv,hat5⟩:=gX (xs:=[V.str "0",.str "1",.str "9999",.str "10000",.str "1000000",.str "1000001",.str "10000000",.str "10000001",.str "999999999",.str "1000000000"]++[V.str "1000000001",.str (rV 57 (61:Int).toNat),.str "a",.str "abcdefgh",.str "abcdefghi",.str "as",.str "field",.str "",.str "-",.str "none"]) (i:=r4) aa (by show r4<20;lia);obtain⟨J,rfl,h1,h2⟩:∃ J,v=.str J/\J.length<=3*m+61/\bks J<=3*m+1:=by
  simp only[A4,Ao,AB,or_false]at hv;rcases hv with(rfl|rfl|rfl|rfl|rfl|rfl|rfl|rfl|rfl|rfl)|(rfl|rfl|rfl|rfl|rfl|rfl|rfl|rfl|rfl|rfl)<;>exact⟨_,rfl,AH (by trivial) (Nat.le_add_left 61 (3*m)),AH (by trivial) (A3 _)⟩
 exact⟨N,_,r4,_,rfl,rfl,aP (bU eN O k6),hat5,k J a4 _ h1 h2 (by lia) (by lia) au ((ac.same sN).trans k6)⟩
def aIL{f:Ag}{fd:Ay}(F:Fn K "_law_bent_line" aHt f fd)(ag:mg "len"=none)
  (GT:gF P w K mg base)
  (GW:Cal P w K mg base 2 "_law_bent_word" ["_law_pen_here","_law_word"] aE3)
  :cC P w K mg base CX0 3 f fd ["_law_pen_here","_law_line"] aE4:=by
 refine okA F ["_law_pen_here","_law_line","_law_terms","_law_way","_law_at","_law_other"] fun bK A outer s H vs Q E hr nd h=>?_;obtain⟨n,b,m0,p,c,ns,a,z,rfl,hp,ha,hm0,hn0,hb0,ln,k⟩:=h;refine⟨_,(aK (cF 2 nd (eV A9 BM BL iD (pv 1) (pa1 aO)))
  (aK (cF 3 nd (bO GT hr (pa2 (pv 0) aD)))
  (aK (cF 4 nd (bO GT hr (pa2 (pv 0) (aQ aS (by rfl) ag Av (pa1 (pv 2))))))
  (aK (gW (bX (cT yJ (pv 3) aD) (aN (nX (bO GW hr (pa2 (pv 0) (aX bJ (pv 2) (pv 4) Ih))) (aAs (pv 2) (pv 4) qR))) (aN (bX (cT cP (pv 3) aD) (aN (fZ (eV A7 DR DQ qT (pv 2) (pa1 (pv 4))))) (aN (bX (cT cP (pv 3) aD) (aN (fZ (eV A7 EB EA tJ (pv 2) (pa2 (pv 4) (aX bJ (pv 2) (pv 4) Ih))))) (aN (bX (cT cP (pv 3) aD) (aN (cF 2 nd (aW hV (aW hV (cN fV (pv 2) dU (cM (pv 4))) (aEe (cN fV (pv 2) (cM (pv 4)) (cM (aW dF (pv 4) aD))) (pR kM aD))) (cN fV (pv 2) (cM (aW dF (pv 4) aD)) dU)))) (aN (bX (cT cP (pv 3) aD) (aN (cF 2 nd (aW hV (pv 2) (dC (pa1 (aX bJ (dC (pa3 aO aO aO)) (bO GT hr (pa2 (pv 0) aD)) Ih)))))) (aK (cF 5 nd (bO GT hr (pa2 (pv 0) (aQ aS (by rfl) ag Av (pa1 (pv 2))))))
       (aN (nX (aX bJ (pv 2) (pv 5) Ih) (aAs (pv 2) (pv 4) qR))))))))))))))
  (aN (aT (eV A9 CH CG pB aO (pa1 (pv 2))))))))),?_⟩
 have hz:=ln.len;have af:=fun y=>ln.words (y:=y);have wl:(AA z " ").length<=b:=by rw[gQ];exact ln.bk
 refine⟨_,rfl,rfl,z," ",rfl,rfl,by decide,aJ (n:=z.length+2) (by lia),fun L hL=>?_⟩;have W:=aIe z;have eb:=gQ z;have ax:=CW z " ";have aj:∀ y∈AA z " ",bks y=0:=fun y Z=>xT (by rw[qK]at Z;exact C8 z 32 y Z);generalize AA z " "=J at W ax af aj wl eb ⊢;have s1:=aM (o:=.lst (J.map V.str)) hL;have e1:=aH (H:=H) (a:=L) (o:=.lst (J.map V.str));have ak:=hp.same s1;have k1:bM p H (upd H L (.lst (J.map V.str))):=aU.but s1;generalize upd H L _=H1 at s1 e1 ak k1 ⊢;have ad:L≠p:=fun h=>by
  have⟨l',_,e'⟩:=hp.ob;rw[<- h,hL]at e';cases e'
 have ae:L≠c:=fun h=>by
  have e':=hp.ce;rw[<- h,hL]at e';cases e'
 have kU:∀{X:Hp} {o:HO},bM p H X->bM p H (upd X L o):=fun{X o} kk b u e hb=>by
  rw[bE (aZ e hL)];exact kk b u e hb
 have W':Wg (n+1) b J:=⟨by have:=W.len;lia,by have:=W.bk;lia⟩
 dsimp only[bT];refine⟨_,rfl,p,c,ns,a,_,rfl,ak,by lia,by decide,by trivial,fun r1 a1 H2 b7 bx b4 b3 ap k2=>?_⟩;have e2:=bU e1 ak k2;dsimp only[bT];refine⟨_,rfl,_,rfl,L,_,rfl,.inl (aP e2),p,c,ns,a1,_,rfl,ap,by lia,by rw[Ab];lia,by rw[Ab];lia,fun r2 a2 H3 b9 bn bL bP U k3=>?_⟩;have e3:=bU e2 ap k3;have kA:=(k1.trans k2).trans k3;rw[Ab]at bn;obtain⟨m,rfl⟩:∃ m:Nat,r2=m:=⟨r2.toNat,by lia⟩
 have hm:m<J.length:=by lia
 obtain⟨y,Z⟩:∃ y,J[m]?=some y:=⟨_,Ai hm⟩
 have ym:=AG Z;have az:atI (J.map V.str) (m:Int)=some (.str y):=bG (by rw[AF,Z];rfl);have ej:ixN (J.map V.str).length (m:Int)=some m:=by
  unfold ixN;rw[Ab,Ib (by lia),Ib (by lia)];simp
 have Y:∀ y∈J,y.length<=3*m0+61:=fun y Z=>by have:=af y Z;lia
 have aB:∀(j:Nat) (x:Str),x.length<=3*m0+61->∀ y∈J.set j x,y.length<=3*m0+61:=fun j x hx y Z=>(DB Z).elim (Y y) fun e=>by rw[e];exact hx
 have aa:∀(j:Nat) (y:Str),y.length<=3*m0+61->bks y<=3*m0+1->Wg (n+3*m0+62) (b+3*m0+2) (J.set j y):=fun j y h1 h2=>by
  have t1:=vJ (f:=(·.length)) (y:=y) (ps:=J) (j:=j)
  have t2:=vJ (f:=bks) (y:=y) (ps:=J) (j:=j);have t3:(J.set j y).length=J.length:=E9;have:=W'.len;have:=W'.bk;exact⟨by lia,by lia⟩
 dsimp only[bT];refine⟨fun σ' H'=>∃(M:Ag) (ys:List Str) (a':Int) (o5:Option V),σ'=[some (.ref p),some (.str z),some (.ref M),some (.int r1),some (.int m),o5]/\H' M=some (.lst (ys.map V.str))/\Wg (n+3*m0+62) (b+3*m0+2) ys/\(∀ y∈ys,y.length<=3*m0+61)/\cW H' p c ns a'/\bM p H H'/\a<=a'/\a'<=a+12,?_,?_⟩
 .refine⟨_,rfl,_,_,rfl,rfl,_,rfl,dH (fun g=>?_) fun g=>?_⟩
  .refine⟨_,rfl,_,rfl,_,rfl,L,_,_,_,rfl,rfl,aP e3,az,.mk m0 p c ns a2 y rfl U (by lia) hm0 (af y ym) fun z' a3 H4 h1 h2 aE au O k4=>?_⟩;have e4:=bU e3 U k4;refine⟨_,rfl,_,rfl,L,_,m,m,rfl,rfl,e4,ej,?_⟩;rw[show(J.map V.str).set m (V.str z')=(J.set m z').map V.str by rw[FW]];exact⟨L,_,a3,none,rfl,aH,aa m z' h1 h2,aB m z' h1,O.upd ad ae,kU (kA.trans k4),by lia,by lia⟩
  refine⟨_,rfl,rfl,_,rfl,dH (fun g=>?_) fun g=>?_⟩
  .have hs:seqIndex? (m:Int) (J.map V.str).length=some m:=(qQ ej).1;refine⟨_,rfl,.inl ⟨rfl,_,aP e3⟩,_,rfl,L,_,m,m,.str y,rfl,rfl,e3,by lia,by lia,hs,by rw[AF,Z];rfl,?_⟩;rw[show(J.map V.str).eraseIdx m=(J.eraseIdx m).map V.str from lQ V.str J m];exact⟨L,_,a2,none,rfl,aH,(W'.sub (Cj J m)).le (by lia) (by lia),(fun y Z=>Y y ((Cj J m).subset Z)),U.upd ad ae,kU kA,by lia,by lia⟩
  refine⟨_,rfl,rfl,_,rfl,dH (fun g=>?_) fun g=>?_⟩
  .refine⟨_,rfl,.inl ⟨rfl,_,aP e3⟩,_,rfl,_,rfl,_,rfl,L,_,_,_,rfl,rfl,aP e3,az,.mk L _ m (.str y) rfl rfl e3 (by rw[Ab];lia) (fM (by rw[Ab];lia)) ?_⟩;have em:(J.map V.str).take m++V.str y::(J.map V.str).drop m=(J.take m++y::J.drop m).map V.str:=by
    rw[Al,A6,CZ,DG]
   rw[em];have pm:(J.take m++y::J.drop m).Perm ([y]++J):=List.perm_middle.trans (by rw[Dm];exact DK _);exact⟨L,_,a2,none,rfl,aH,(((Wg.one (z:=y) (n:=m0) (b:=0) (af y ym) (DA (aj y ym))).app W').perm pm).le (by lia) (by lia),(fun x hx=>Y x ((A4.mp (pm.subset hx)).elim (fun h=>by rw[Bd.mp h];exact ym) id)),U.upd ad ae,kU kA,by lia,by lia⟩
  refine⟨_,rfl,rfl,_,rfl,dH (fun g=>?_) fun g=>?_⟩
  .obtain⟨y1,y2,y3,c1,c2,c3,pm⟩:=aCN J m;have pl:=pm.length_eq;rw[Am,Am]at pl;refine⟨_,rfl,_,rfl,_,rfl,L,_,rfl,aP e3,fun S1 m1=>?_⟩;rw[c1];have t1:=aM (o:=.lst (y1.map V.str)) m1;refine⟨_,rfl,_,rfl,_,rfl,_,rfl,_,_,rfl,rfl,_,rfl,L,_,rfl,aP (t1 _ _ e3),fun S2 m2=>?_⟩;rw[c2];have aw:=aM (o:=.lst (y2.map V.str)) m2;have t2:=t1.trans aw;refine⟨1,rfl,S2,y2.map V.str,rfl,rfl,aP aH,fun S3 m3=>?_⟩;rw[<- List.map_reverse];have aC:=aM (o:=.lst (y2.reverse.map V.str)) m3;have t3:=t2.trans aC;have z4:y2.reverse.length=y2.length:=DC;refine⟨S1,S3,_,_,rfl,rfl,aC _ _ (aw _ _ aH),aH,aJ (by rw[Ab,Ab];lia),fun S4 m4=>?_⟩;have t4:=t3.trans (aM (o:=.lst (y1.map V.str++y2.reverse.map V.str)) m4);have e4:upd (upd (upd (upd H3 S1 (.lst (y1.map V.str))) S2 (.lst (y2.map V.str))) S3 (.lst (y2.reverse.map V.str))) S4 (.lst (y1.map V.str++y2.reverse.map V.str)) S4=some (.lst ((y1++y2.reverse).map V.str)):=by rw[aH,Al]
   generalize upd (upd (upd (upd H3 S1 (.lst (y1.map V.str))) S2 (.lst (y2.map V.str))) S3 (.lst (y2.reverse.map V.str))) S4 (.lst (y1.map V.str++y2.reverse.map V.str))=H7 at t4 e4 ⊢;refine⟨_,rfl,_,rfl,_,_,rfl,rfl,_,rfl,L,_,rfl,aP (t4 _ _ e3),fun S5 m5=>?_⟩;rw[c3];have av:=aM (o:=.lst (y3.map V.str)) m5;refine⟨S4,S5,_,_,rfl,rfl,av _ _ e4,aH,aJ (by rw[Ab,Ab,Am];lia),fun S6 m6=>?_⟩;have t6:=(t4.trans av).trans (aM (o:=.lst ((y1++y2.reverse).map V.str++y3.map V.str)) m6);have bo:upd (upd H7 S5 (.lst (y3.map V.str))) S6 (.lst ((y1++y2.reverse).map V.str++y3.map V.str)) S6=some (.lst ((y1++y2.reverse++y3).map V.str)):=by rw[aH,<- Al]
   exact⟨S6,_,a2,none,rfl,bo,(W'.perm pm).le (by lia) (by lia),(fun x hx=>Y x (pm.subset hx)),U.same t6,kA.same t6,by lia,by lia⟩
  refine⟨_,rfl,rfl,_,rfl,dH (fun g=>?_) fun g=>?_⟩
  .refine⟨_,rfl,zZ3,fun S1 m1=>?_⟩;have t1:=aM (o:=.lst [V.str "",.str "a",.str "1"]) m1;have f1:=aH (H:=H3) (a:=S1) (o:=.lst [V.str "",.str "a",.str "1"]);generalize upd H3 S1 _=H4 at t1 f1 ⊢;have O:=U.same t1;refine⟨_,rfl,p,c,ns,a2,_,rfl,O,by lia,by decide,by trivial,fun r3 a3 H5 aA aG aE au bq k5=>?_⟩;have⟨v,hv,hat3⟩:=gX (xs:=[V.str "",.str "a",.str "1"]) (i:=r3) aA (by show r3<3;lia);obtain⟨u,rfl,hu1,hu2⟩:∃ u,v=.str u/\u.length<=1/\bks u<=0:=by
    simp only[Ao,AB,or_false]at hv;rcases hv with rfl|rfl|rfl<;>exact⟨_,rfl,by trivial,by trivial⟩
   have e5:=bU (t1 _ _ e3) O k5;refine⟨S1,_,r3,_,rfl,rfl,aP (bU f1 O k5),hat3,zZ1,fun S2 m2=>?_⟩;have t2:=aM (o:=.lst [V.str u]) m2;refine⟨L,S2,_,_,rfl,rfl,t2 _ _ e5,aH,aJ (by rw[Ab];show _+1<=_;lia),fun S3 m3=>?_⟩;have t3:=t2.trans (aM (o:=.lst (J.map V.str++[V.str u])) m3);exact⟨S3,J++[u],a3,none,rfl,by rw[aH,Al];rfl,(W'.app (Wg.one hu1 hu2)).le (by lia) (by lia),(fun x hx=>(A4.mp hx).elim (Y x) fun h=>by rw[Bd.mp h];lia),bq.same t3,((kA.same t1).trans k5).same t3,by lia,by lia⟩
  refine⟨_,rfl,_,rfl,L,_,rfl,.inl (aP e3),p,c,ns,a2,_,rfl,U,by lia,by rw[Ab];lia,by rw[Ab];lia,fun r3 a3 H4 aA aG aE au O k4=>?_⟩;have e4:=bU e3 U k4;rw[Ab]at aG;obtain⟨j,rfl⟩:∃ j:Nat,r3=j:=⟨r3.toNat,by lia⟩
  obtain⟨x,hx⟩:∃ x,J[j]?=some x:=⟨_,Ai (by lia)⟩
  have xm:=AG hx;dsimp only[bT];refine⟨_,rfl,_,rfl,L,_,_,.str x,rfl,rfl,aP e4,bG (by rw[AF,hx];rfl),_,rfl,_,rfl,L,_,m,m,rfl,rfl,e4,ej,?_⟩;rw[show(J.map V.str).set m (V.str x)=(J.set m x).map V.str by rw[FW]];exact⟨L,_,a3,_,rfl,aH,aa m x (Y x xm) (by rw[aj x xm];exact A3 _),aB m x (Y x xm),O.upd ad ae,kU (kA.trans k4),by lia,by lia⟩
 rintro σ' H4 ⟨M,ys,a',o5,rfl,eM,wg,sh,O,k4,h1,h2⟩;have q1:(" ":Str).length=1:=by trivial
 have jl:=wg.len;exact⟨rfl,_,rfl," ",M,ys,rfl,rfl,aP eM,by rw[q1];lia,k _ a' H4 (Ln.join wg sh) h1 h2 O k4⟩
def aCP{K:Ae}{H1:Hp}{l:Ag}{xs:List Str}{u v:Str}{r:R2}{Q:VK}(O:∀(i j:Str) (H:Hp) (Q:VK),i.length+j.length<=1000->Q (.str (i++j)) H->r (.str i) (.str j) H Q)(Z:u.length<=10)(hv:v.length<=10)(e:H1 l=some (.lst (xs.map V.str)))(U:∀ x∈xs,x.length<=8)(hn:xs.length<=100)
  (k:∀(D:Ag) (zs:List Str) (H':Hp),aU H1 H'->H' D=some (.lst (zs.map V.str))->zs.length=xs.length->(∀ z∈zs,z.length<=60)->Q (.ref D) H'):nH (Itl K l) (bT 0) (fun _ H Q=>Q true H) (tOp r (tOp r (tC (.str u)) (xY 0)) (tC (.str v))) [none] H1 Q:=by
 refine iM (K:=K) (xs:=xs.map V.str) (fun i ys σ H'=>H'=H1/\(∃ o,σ=[o])/\ys=((xs.take i).map fun x=>u++x++v).map V.str) ⟨rfl,⟨none,rfl⟩,rfl⟩ (aJ (by rw[Ab];lia)) (fun i ys σ H' p=>by rw[p.2.2,Ab,Ab,AJ];lia) (fun i ys σ H' p=>by rw[p.1];exact aP e) ?_ ?_
 .rintro i Y ys σ H' J ⟨rfl,⟨o,rfl⟩,rfl⟩;rw[AF]at J;obtain⟨x,hx',rfl⟩:=BD.mp J;have h8:=U x (AG hx');dsimp only[bT];refine bF ⟨_,rfl,O _ _ _ _ (by lia) (O _ _ _ _ (by rw[AI];lia) ⟨rfl,⟨_,rfl⟩,?_⟩)⟩;rw[A0,hx',Al,Al];rfl
 .rintro ys σ H' ⟨rfl,⟨o,rfl⟩,rfl⟩ D W;rw[Ab,Bh];refine k D _ _ (aM W) aH (by rw[Ab]) fun z hz=>?_;obtain⟨x,hx',rfl⟩:=Bn.mp hz;have:=U x hx';rw[AI,AI];lia
def wt(ys:List Str):Nat:=(ys.map (·.length)).sum+ys.length
def tY(xs ys:List Str):wt (xs++ys)=wt xs+wt ys:=by
 unfold wt;rw[Al,List.sum_append,Am];lia
def aIM{xs ys:List Str}(h:xs.Sublist ys):wt xs<=wt ys:=Nat.add_le_add (aBd h) h.length_le
def aE5{xs ys:List Str}(h:xs.Perm ys):wt xs=wt ys:=by
 unfold wt;rw[(h.map (·.length)).sum_nat,h.length_eq]
theorem aIN{n:Nat}:∀{ys:List Str},(∀ y∈ys,y.length<=n)->wt ys<=(n+1)*ys.length
 | [],_=>A3 _
 | y::r,h=>by
  have h1:=h y (by simp);have h2:=aIN (ys:=r) fun x J=>h x (by simp[J]);have e:wt (y::r)=y.length+1+wt r:=by unfold wt;rw[A6,Co,An];lia
  rw[e,An,Nat.mul_succ];lia
inductive aKw(vs:List V)(H:Hp)(Q:VK)(E:XK):Prop
 | mk (n b m:Nat) (p c:Ag) (ns:List Int) (a:Int) (z:Str) (ls ln:Ag) (sp nm:List Str) (h0:vs=[.ref p,.str z,.ref ls,.ref ln]) (hp:cW H p c ns a) (ha:a<=700000) (hm:m<=94) (hn:n<=402) (hb:b<=61) (hb1:58<=b+3*m)
   (els:H ls=some (.lst (sp.map V.str))) (hsl:sp.length=42) (hsp:∀ x∈sp,x.length<=8) (eln:H ln=some (.lst (nm.map V.str))) (hnl:nm.length=40) (hnm:∀ x∈nm,x.length<=8) (hz:z.length<=100000) (lok:∀ y∈AA z "\n",Ln n b m y)
   (q:∀(z':Str) (a':Int) (H':Hp),z'.length<=z.length+50000->(∀ y∈AA z' "\n",Ln (n+3*m+63) (b+3*m+3) (3*m+61) y)->a<=a'->a'<=a+20->cW H' p c ns a'->bM p H H'->Q (.str z') H'):aKw vs H Q E
def aIO:Sp:=fun vs H Q E=>aKw vs H Q E
def aJZ{f:Ag}{fd:Ay}(F:Fn K "_law_bent" aEs f fd)(aB:mg "len"=none)(b4:mg "sorted"=none)
  (GT:gF P w K mg base)
  (GL:Cal P w K mg base 3 "_law_bent_line" ["_law_pen_here","_law_line"] aE4)
  :cC P w K mg base CX0 4 f fd ["_law_pen_here","_law_text","_law_spare","_law_names_here"] aIO:=by
 refine okA F ["_law_pen_here","_law_text","_law_spare","_law_names_here","_law_lines","_law_way","_law_at","_law_line","_law_some_here","_law_more"] fun dn A outer s H vs Q E hr nd h=>?_;obtain⟨n,b,m0,p,c,ns,a,z,ls,ln,sp,nm,rfl,hp,ha,hm0,hn0,hb0,hb1,els,hsl,hsp,eln,hnl,hnm,hz,lok,k⟩:=h;refine⟨_,(aK (cF 4 nd (eV A9 BM BL iD (pv 1) (pa1 aO)))
  (aK (cF 5 nd (bO GT hr (pa2 (pv 0) aD)))
  (aK (cF 6 nd (bO GT hr (pa2 (pv 0) (aQ aS (by rfl) aB Av (pa1 (pv 4))))))
  (aK (cF 7 nd (aX bJ (pv 4) (pv 6) Ih))
  (aK (gW (bX (cT yJ (pv 5) aD) (aN (nX (bO GL hr (pa2 (pv 0) (pv 7))) (aAs (pv 4) (pv 6) qR))) (aN (bX (cT cP (pv 5) aD) (aN (fZ (eV A7 DR DQ qT (pv 4) (pa1 (pv 6))))) (aN (bX (cT cP (pv 5) aD) (aN (fZ (eV A7 EB EA tJ (pv 4) (pa2 (aW dF (pv 6) (bO GT hr (pa2 (pv 0) aD))) (pv 7))))) (aN (bX (cT cP (pv 5) aD) (aN (cF 4 nd (aW hV (aW hV (cN fV (pv 4) dU (cM (pv 6))) (aEe (cN fV (pv 4) (cM (pv 6)) (cM (aW dF (pv 6) aD))) (pR kM aD))) (cN fV (pv 4) (cM (aW dF (pv 6) aD)) dU)))) (aN (bX (cT cP (pv 5) aD) (aN (fZ (eV A7 Bv Bu gC (pv 4) (pa1 (eV A7 DR DQ qT (pv 4) (pa1 (pv 6))))))) (aN (bX (cT cP (pv 5) aD) (aK (cF 8 nd (dC (cU aO (cU aO (pa3 aO (aW bY (aW bY aO (aX bJ (pv 2) aD Ih)) aO) (aW bY (aW bY aO (aX bJ (pv 2) aD Ih)) aO)))))) (aK (fZ (eV A7 Bv Bu gC (pv 8) (pa1 (aW bY (aW bY (aW bY (aW bY aO (aX bJ (pv 2) aD Ih)) aO) (aX bJ (pv 2) aD Ih)) aO)))) (aK (fZ (eV A7 Bv Bu gC (pv 8) (pa1 (aW bY (aW bY aO (aX bJ (pv 3) (bO GT hr (pa2 (pv 0) (aQ aS (by rfl) aB Av (pa1 (pv 3))))) Ih)) aO)))) (aN (fZ (eV A7 EB EA tJ (pv 4) (pa2 (aW dF (pv 6) aD) (aX bJ (pv 8) (bO GT hr (pa2 (pv 0) aD)) Ih)))))))) (aN (bX (cT cP (pv 5) aD) (aK (gL (i:=9) (N:=["_law_name"]) (src:=[none]) (osc:=bC aEs) (oN:=["_law_pen_here","_law_text","_law_spare","_law_names_here","_law_lines","_law_way","_law_at","_law_line","_law_some_here","_law_more"]) bkA nd rfl (hZ (cN fV (pv 2) dU (cM aD))) (fun cl s H fp dl C=>⟨bW (i:=0) (show(["_law_name"]:List Str).Nodup by trivial) rfl (Bp rfl),dJ,aW bY (aW bY aO (pv 0)) aO⟩)) (aN (cF 4 nd (aX bJ (dC (pa3 (aW hV (pv 4) (dC (pa1 aO))) (aW hV (dC (pa1 aO)) (pv 4)) (aW hV (pv 9) (pv 4)))) (bO GT hr (pa2 (pv 0) aD)) Ih)))) (aN (cF 4 nd (aW hV (pv 4) (eU (N:=["_law_name"]) (src:=[none]) (osc:=bC aEs) (oN:=["_law_pen_here","_law_text","_law_spare","_law_names_here","_law_lines","_law_way","_law_at","_law_line","_law_some_here","_law_more"]) bkA (hZ (aQ rH (by rfl) b4 (by kernel_rfl) (pa1 (pv 2)))) (fun cl s H fp dl C=>⟨bW (i:=0) (show(["_law_name"]:List Str).Nodup by trivial) rfl (Bp rfl),dJ,aW bY (aW bY aO (pv 0)) aO⟩)))))))))))))))))))
  (aN (aT (eV A9 CH CG pB aO (pa1 (pv 4)))))))))),?_⟩
 refine⟨_,rfl,rfl,z,"\n",rfl,rfl,by decide,aJ (n:=z.length+2) (by lia),fun L hL=>?_⟩;have W:wt (AA z "\n")<=z.length+1:=Ef z "\n" (by trivial);have b2:=CW z "\n";generalize AA z "\n"=J at W b2 lok ⊢;have wl:J.length<=100001:=by unfold wt at W;lia
 have s1:=aM (o:=.lst (J.map V.str)) hL;have e1:=aH (H:=H) (a:=L) (o:=.lst (J.map V.str));have be:=hp.same s1;have k1:bM p H (upd H L (.lst (J.map V.str))):=aU.but s1;generalize upd H L _=H1 at s1 e1 be k1 ⊢;have ad:L≠p:=fun h=>by
  have⟨l',_,e'⟩:=hp.ob;rw[<- h,hL]at e';cases e'
 have ae:L≠c:=fun h=>by
  have e':=hp.ce;rw[<- h,hL]at e';cases e'
 have kU:∀{X:Hp} {o:HO},bM p H X->bM p H (upd X L o):=fun{X o} kk b u e hb=>by
  rw[bE (aZ e hL)];exact kk b u e hb
 dsimp only[bT];refine⟨_,rfl,p,c,ns,a,_,rfl,be,by lia,by decide,by trivial,fun r1 a1 H2 d4 di dy dw bv k2=>?_⟩;have e2:=bU e1 be k2;dsimp only[bT];refine⟨_,rfl,_,rfl,L,_,rfl,.inl (aP e2),p,c,ns,a1,_,rfl,bv,by lia,by rw[Ab];lia,by rw[Ab];lia,fun r2 a2 H3 ed cx dq dr U k3=>?_⟩;have e3:=bU e2 bv k3;have kA:=(k1.trans k2).trans k3;rw[Ab]at cx;obtain⟨m,rfl⟩:∃ m:Nat,r2=m:=⟨r2.toNat,by lia⟩
 have hm:m<J.length:=by lia
 obtain⟨y,hy⟩:∃ y,J[m]?=some y:=⟨_,Ai hm⟩
 have ym:=AG hy;have ly:=lok y ym;have cw:atI (J.map V.str) (m:Int)=some (.str y):=bG (by rw[AF,hy];rfl);have ej:ixN (J.map V.str).length (m:Int)=some m:=by
  unfold ixN;rw[Ab,Ib (by lia),Ib (by lia)];simp
 have up:∀ x∈J,Ln (n+3*m0+63) (b+3*m0+3) (3*m0+61) x:=fun x O=>(lok x O).le (by lia) (by lia) (by lia);have short:∀ x:Str,x.length<=60->Ln (n+3*m0+63) (b+3*m0+3) (3*m0+61) x:=fun x O=>Ln.short O (by lia) (by lia) (by lia);have Y:H3 ls=some (.lst (sp.map V.str)):=bU els hp kA;have b7:H3 ln=some (.lst (nm.map V.str)):=bU eln hp kA;dsimp only[bT];refine⟨_,rfl,_,rfl,L,_,_,_,rfl,rfl,aP e3,cw,?_⟩;dsimp only[bT];refine⟨fun σ' H'=>∃(M:Ag) (ys:List Str) (a':Int) (o8 o9:Option V),σ'=[some (.ref p),some (.str z),some (.ref ls),some (.ref ln),some (.ref M),some (.int r1),some (.int m),some (.str y),o8,o9]/\H' M=some (.lst (ys.map V.str))/\wt ys<=z.length+50000/\(∀ x∈ys,Ln (n+3*m0+63) (b+3*m0+3) (3*m0+61) x)/\cW H' p c ns a'/\bM p H H'/\a<=a'/\a'<=a+20,?_,?_⟩
 .refine⟨_,rfl,_,_,rfl,rfl,_,rfl,dH (fun g=>?_) fun g=>?_⟩
  .refine⟨_,rfl,_,rfl,.mk n b m0 p c ns a2 y rfl U (by lia) hm0 hn0 hb0 ly fun z' a3 H4 lz bh bc aa k4=>?_⟩;have e4:=bU e3 U k4;refine⟨_,rfl,_,rfl,L,_,m,m,rfl,rfl,e4,ej,?_⟩;rw[show(J.map V.str).set m (V.str z')=(J.set m z').map V.str by rw[FW]];have hl:=lz.len;have t1:=vJ (f:=(·.length)) (y:=z') (ps:=J) (j:=m)
   have t3:(J.set m z').length=J.length:=E9;exact⟨L,_,a3,none,none,rfl,aH,by unfold wt at W ⊢;lia,(fun x O=>(DB O).elim (up x) fun e=>by rw[e];exact lz),aa.upd ad ae,kU (kA.trans k4),by lia,by lia⟩
  refine⟨_,rfl,rfl,_,rfl,dH (fun g=>?_) fun g=>?_⟩
  .refine⟨_,rfl,.inl ⟨rfl,_,aP e3⟩,_,rfl,L,_,m,m,.str y,rfl,rfl,e3,by lia,by lia,(qQ ej).1,by rw[AF,hy];rfl,?_⟩;rw[lQ V.str J m];have t1:=aIM (Cj J m);exact⟨L,_,a2,none,none,rfl,aH,by lia,(fun x O=>up x ((Cj J m).subset O)),U.upd ad ae,kU kA,by lia,by lia⟩
  have wy:wt [y]<=403:=by show y.length+0+1<=403;have:=ly.len;lia
  have ins:∀(j:Nat) (x:Str),wt (J.take j++x::J.drop j)=wt [x]+wt J/\∀ v∈J.take j++x::J.drop j,v=x\/v∈J:=fun j x=>by
   have pm:(J.take j++x::J.drop j).Perm ([x]++J):=List.perm_middle.trans (by rw[Dm];exact DK _);refine⟨by rw[aE5 pm,tY],fun v hv=>?_⟩;rcases A4.mp (pm.subset hv)with h|h
   .exact .inl (Bd.mp h)
   .exact .inr h
  have aE:∀(j:Nat) (x:Str),(J.map V.str).take j++V.str x::(J.map V.str).drop j=(J.take j++x::J.drop j).map V.str:=fun j x=>by rw[Al,A6,CZ,DG]
  refine⟨_,rfl,rfl,_,rfl,dH (fun g=>?_) fun g=>?_⟩
  .refine⟨_,rfl,.inl ⟨rfl,_,aP e3⟩,_,rfl,_,rfl,p,c,ns,a2,_,rfl,U,by lia,by decide,by trivial,fun r3 a3 H4 aw bj bh bc aa k4=>?_⟩;obtain⟨j,rfl⟩:∃ j:Nat,r3=j:=⟨r3.toNat,by lia⟩
   have e4:=bU e3 U k4;refine⟨_,_,rfl,rfl,_,rfl,.mk L _ (m+j) (.str y) rfl (by rw[show(((m+j:Nat)):Int)=(m:Int)+j by lia]) e4 (by rw[Ab];lia) (AZ (show(J.map V.str).length<1000000 by rw[Ab];lia) (aJ (Ap _))) ?_⟩;rw[aE];obtain⟨t1,t2⟩:=ins (m+j) y;exact⟨L,_,a3,none,none,rfl,aH,by lia,(fun x O=>(t2 x O).elim (fun e=>by rw[e];exact up y ym) (up x)),aa.upd ad ae,kU (kA.trans k4),by lia,by lia⟩
  refine⟨_,rfl,rfl,_,rfl,dH (fun g=>?_) fun g=>?_⟩
  .obtain⟨y1,y2,y3,c1,c2,c3,pm⟩:=aCN J m;have pl:=pm.length_eq;rw[Am,Am]at pl;refine⟨_,rfl,_,rfl,_,rfl,L,_,rfl,aP e3,fun S1 m1=>?_⟩;rw[c1];have t1:=aM (o:=.lst (y1.map V.str)) m1;refine⟨_,rfl,_,rfl,_,rfl,_,rfl,_,_,rfl,rfl,_,rfl,L,_,rfl,aP (t1 _ _ e3),fun S2 m2=>?_⟩;rw[c2];have b1:=aM (o:=.lst (y2.map V.str)) m2;have t2:=t1.trans b1;refine⟨1,rfl,S2,y2.map V.str,rfl,rfl,aP aH,fun S3 m3=>?_⟩;rw[<- List.map_reverse];have b8:=aM (o:=.lst (y2.reverse.map V.str)) m3;have t3:=t2.trans b8;refine⟨S1,S3,_,_,rfl,rfl,b8 _ _ (b1 _ _ aH),aH,aJ (by rw[Ab,Ab];lia),fun S4 m4=>?_⟩;have t4:=t3.trans (aM (o:=.lst (y1.map V.str++y2.reverse.map V.str)) m4);have e4:upd (upd (upd (upd H3 S1 (.lst (y1.map V.str))) S2 (.lst (y2.map V.str))) S3 (.lst (y2.reverse.map V.str))) S4 (.lst (y1.map V.str++y2.reverse.map V.str)) S4=some (.lst ((y1++y2.reverse).map V.str)):=by rw[aH,Al]
   generalize upd (upd (upd (upd H3 S1 (.lst (y1.map V.str))) S2 (.lst (y2.map V.str))) S3 (.lst (y2.reverse.map V.str))) S4 (.lst (y1.map V.str++y2.reverse.map V.str))=H7 at t4 e4 ⊢;refine⟨_,rfl,_,rfl,_,_,rfl,rfl,_,rfl,L,_,rfl,aP (t4 _ _ e3),fun S5 m5=>?_⟩;rw[c3];have bL:=aM (o:=.lst (y3.map V.str)) m5;refine⟨S4,S5,_,_,rfl,rfl,bL _ _ e4,aH,aJ (by rw[Ab,Ab,Am];lia),fun S6 m6=>?_⟩;have t6:=(t4.trans bL).trans (aM (o:=.lst ((y1++y2.reverse).map V.str++y3.map V.str)) m6);have cL:upd (upd H7 S5 (.lst (y3.map V.str))) S6 (.lst ((y1++y2.reverse).map V.str++y3.map V.str)) S6=some (.lst ((y1++y2.reverse++y3).map V.str)):=by rw[aH,<- Al]
   exact⟨S6,_,a2,none,none,rfl,cL,by rw[aE5 pm];lia,(fun x O=>up x (pm.subset O)),U.same t6,kA.same t6,by lia,by lia⟩
  refine⟨_,rfl,rfl,_,rfl,dH (fun g=>?_) fun g=>?_⟩
  .refine⟨_,rfl,.inl ⟨rfl,_,aP e3⟩,_,rfl,.inl ⟨rfl,_,aP e3⟩,_,rfl,L,_,m,m,.str y,rfl,rfl,e3,by lia,by lia,(qQ ej).1,by rw[AF,hy];rfl,?_⟩;rw[lQ V.str J m];have el:(J.eraseIdx m).length<=J.length:=(Cj J m).length_le;refine⟨L,_,.str y,rfl,rfl,aH,AZ (show((J.eraseIdx m).map V.str).length<1000000 by rw[Ab];lia) (aJ (Ap _)),?_⟩;have t1:=aIM (Cj J m);exact⟨L,J.eraseIdx m++[y],a2,none,none,rfl,by rw[aH,Al];rfl,by rw[tY];lia,(fun x O=>(A4.mp O).elim (fun h=>up x ((Cj J m).subset h)) fun h=>by rw[Bd.mp h];exact up y ym),(U.upd ad ae).upd ad ae,kU (kU kA),by lia,by lia⟩
  obtain⟨x0,x1,sr,rfl⟩:∃ x0 x1 sr,sp=x0::x1::sr:=by
   match sp,hsl with
   | x0::x1::sr,_=>exact⟨x0,x1,sr,rfl⟩
  have dt:=hsp x0 (by simp);have d6:=hsp x1 (by simp);refine⟨_,rfl,rfl,_,rfl,dH (fun g=>?_) fun g=>?_⟩
  .have a0:atI ((x0::x1::sr).map V.str) 0=some (.str x0):=bG (j:=0) rfl;have cI:atI ((x0::x1::sr).map V.str) 1=some (.str x1):=bG (j:=1) rfl;have q1:("field ":Str).length=6:=by trivial
   have q2:(" a 1 1":Str).length=6:=by trivial
   have q3:("alone ":Str).length=6:=by trivial
   have q4:(" 9999 a":Str).length=7:=by trivial
   have q5:("view ":Str).length=5:=by trivial
   have q6:(" 9999 ":Str).length=6:=by trivial
   have q7:(" 5 a":Str).length=4:=by trivial
   refine⟨_,rfl,ls,_,0,_,rfl,rfl,aP Y,a0,_,_,rfl,rfl,aJ (by lia),_,_,rfl,rfl,aJ (by rw[AI];lia),_,rfl,ls,_,0,_,rfl,rfl,aP Y,a0,_,_,rfl,rfl,aJ (by lia),_,_,rfl,rfl,aJ (by rw[AI];lia),zZ5,fun M nM=>?_⟩;have sM:=aM (o:=.lst [V.str "",.str " ",.str "field",.str (("field ":Str)++x0++(" a 1 1":Str)),.str (("alone ":Str)++x0++(" 9999 a":Str))]) nM;have eM:upd H3 M (.lst [V.str "",.str " ",.str "field",.str (("field ":Str)++x0++(" a 1 1":Str)),.str (("alone ":Str)++x0++(" 9999 a":Str))]) M=some (.lst ([("":Str),(" ":Str),("field":Str),("field ":Str)++x0++(" a 1 1":Str),("alone ":Str)++x0++(" 9999 a":Str)].map V.str)):=aH;have bR:∀ x∈[("":Str),(" ":Str),("field":Str),("field ":Str)++x0++(" a 1 1":Str),("alone ":Str)++x0++(" 9999 a":Str)],x.length<=60:=fun x O=>by
    simp only[Ao,AB,or_false]at O;rcases O with rfl|rfl|rfl|rfl|rfl
    .trivial
    .trivial
    .trivial
    .rw[AI,AI];lia
    .rw[AI,AI];lia
   have b3:[("":Str),(" ":Str),("field":Str),("field ":Str)++x0++(" a 1 1":Str),("alone ":Str)++x0++(" 9999 a":Str)].length=5:=rfl;generalize [("":Str),(" ":Str),("field":Str),("field ":Str)++x0++(" a 1 1":Str),("alone ":Str)++x0++(" 9999 a":Str)]=zs at eM bR b3;generalize upd H3 M _=H4 at sM eM ⊢;have bx:M≠p:=fun h=>by
    have⟨l',_,e'⟩:=U.ob;rw[<- h,nM]at e';cases e'
   have bu:M≠c:=fun h=>by
    have e':=U.ce;rw[<- h,nM]at e';cases e'
   have du:∀{l:Ag} {xs:List V},H3 l=some (.lst xs)->l≠M:=fun h e=>by rw[e,nM]at h;cases h
   have aa:=U.same sM;have k4:=kA.same sM;have aF:=sM _ _ Y;dsimp only[bT];refine⟨_,rfl,.inl ⟨rfl,_,aP eM⟩,_,rfl,ls,_,0,_,rfl,rfl,aP aF,a0,_,_,rfl,rfl,aJ (by lia),_,_,rfl,rfl,aJ (by rw[AI];lia),_,rfl,ls,_,1,_,rfl,rfl,aP aF,cI,_,_,rfl,rfl,aJ (by rw[AI,AI];lia),_,_,rfl,rfl,aJ (by rw[AI,AI,AI];lia),M,_,_,rfl,rfl,eM,fM (by rw[Ab];lia),?_⟩;have ar:upd H4 M (.lst (zs.map V.str++[V.str (("view ":Str)++x0++(" 9999 ":Str)++x1++(" 5 a":Str))])) M=some (.lst ((zs++[("view ":Str)++x0++(" 9999 ":Str)++x1++(" 5 a":Str)]).map V.str)):=by rw[aH,Al];rfl
   have bz:∀ x∈zs++[("view ":Str)++x0++(" 9999 ":Str)++x1++(" 5 a":Str)],x.length<=60:=fun x O=>(A4.mp O).elim (bR x) fun h=>by rw[Bd.mp h];simp only[AI];lia
   have b6:(zs++[("view ":Str)++x0++(" 9999 ":Str)++x1++(" 5 a":Str)]).length=6:=by rw[Am,b3];rfl
   generalize zs++[("view ":Str)++x0++(" 9999 ":Str)++x1++(" 5 a":Str)]=Z at ar bz b6;have ax:cW (upd H4 M (.lst (zs.map V.str++[V.str (("view ":Str)++x0++(" 9999 ":Str)++x1++(" 5 a":Str))]))) p c ns a2:=aa.upd bx bu;have s5:aU H3 (upd H4 M (.lst (zs.map V.str++[V.str (("view ":Str)++x0++(" 9999 ":Str)++x1++(" 5 a":Str))]))):=xP sM nM;generalize upd H4 M _=H5 at ar ax s5 ⊢;have aG:=s5 _ _ b7;refine⟨_,rfl,.inl ⟨rfl,_,aP ar⟩,_,rfl,_,rfl,_,rfl,ln,_,rfl,.inl (aP aG),p,c,ns,a2,_,rfl,ax,by lia,by rw[Ab,hnl];decide,by rw[Ab,hnl];trivial,fun r3 a3 H6 aw bj bh bc c4 k6=>?_⟩;have⟨v,hv,hatn⟩:=gX (xs:=nm.map V.str) (i:=r3) aw bj;obtain⟨x2,b5,rfl⟩:=Bn.mp hv;have b5:=hnm x2 b5;have cn:=bU ar ax k6;refine⟨ln,_,r3,_,rfl,rfl,aP (bU aG ax k6),hatn,_,_,rfl,rfl,aJ (by lia),_,_,rfl,rfl,aJ (by rw[AI];lia),M,_,_,rfl,rfl,cn,fM (by rw[Ab];lia),?_⟩;have aL:upd H6 M (.lst (Z.map V.str++[V.str (("alone ":Str)++x2++(" 9999 a":Str))])) M=some (.lst ((Z++[("alone ":Str)++x2++(" 9999 a":Str)]).map V.str)):=by rw[aH,Al];rfl
   have ca:∀ x∈Z++[("alone ":Str)++x2++(" 9999 a":Str)],x.length<=60:=fun x O=>(A4.mp O).elim (bz x) fun h=>by rw[Bd.mp h];simp only[AI];lia
   have b9:(Z++[("alone ":Str)++x2++(" 9999 a":Str)]).length=7:=by rw[Am,b6];rfl
   generalize Z++[("alone ":Str)++x2++(" 9999 a":Str)]=cr at aL ca b9;have av:cW (upd H6 M (.lst (Z.map V.str++[V.str (("alone ":Str)++x2++(" 9999 a":Str))]))) p c ns a3:=c4.upd bx bu;have k7:bM p H3 (upd H6 M (.lst (Z.map V.str++[V.str (("alone ":Str)++x2++(" 9999 a":Str))]))):=fun bb o e hb=>by
    rw[bE (aZ e nM)];exact k6 bb o (s5 bb o e) hb
   generalize upd H6 M _=H7 at aL av k7 ⊢;have e7:=bU e3 U k7;refine⟨_,rfl,.inl ⟨rfl,_,aP e7⟩,_,rfl,_,_,rfl,rfl,_,rfl,_,rfl,p,c,ns,a3,_,rfl,av,by lia,by decide,by trivial,fun r4 a4 H8 cv dj d9 d7 ac k8=>?_⟩;have⟨v,hv,hat4⟩:=gX (xs:=cr.map V.str) (i:=r4) cv (by rw[Ab,b9];lia);obtain⟨x3,aR,rfl⟩:=Bn.mp hv;have aR:=ca x3 aR;have e8:=bU e7 av k8;refine⟨M,_,r4,_,rfl,rfl,aP (bU aL av k8),hat4,.mk L _ (m+1) (.str x3) rfl (by rw[show(((m+1:Nat)):Int)=(m:Int)+1 by lia]) e8 (by rw[Ab];lia) (AZ (show(J.map V.str).length<1000000 by rw[Ab];lia) (aJ (Ap _))) ?_⟩;rw[aE];obtain⟨t1,t2⟩:=ins (m+1) x3;have w3:wt [x3]<=61:=by show x3.length+0+1<=61;lia
   exact⟨L,_,a4,_,none,rfl,aH,by lia,(fun x O=>(t2 x O).elim (fun e=>by rw[e];exact short x3 aR) (up x)),ac.upd ad ae,kU ((kA.trans k7).trans k8),by lia,by lia⟩
  have aC:∀(i j:Str) (H:Hp) (Q:VK),i.length+j.length<=1000->Q (.str (i++j)) H->qO (.str i) (.str j) H Q:=fun i j H Q h q=>⟨i,j,rfl,rfl,aJ (by lia),q⟩
  refine⟨_,rfl,rfl,_,rfl,dH (fun g=>?_) fun g=>?_⟩
  .refine⟨_,rfl,9,rfl,ls,_,rfl,aP Y,fun C hC=>?_⟩;have ec:gU ((x0::x1::sr).map V.str) none (some 9)=((x0::x1::sr).take 9).map V.str:=by rw[CZ];exact oK (α:=Nat) ((x0::x1::sr).map V.str) 9
   rw[ec];have sC:=aM (o:=.lst (((x0::x1::sr).take 9).map V.str)) hC;refine⟨C,rfl,⟨_,aP aH⟩,aCP aC (by trivial) (by trivial) aH (fun x O=>hsp x (Dv O)) (by rw[AJ];lia) fun D zs H4 s4 e4 bK an=>?_⟩;rw[AJ]at bK;have aj:=sC.trans s4;have bd:=aj _ _ e3;dsimp only[bT];refine⟨_,rfl,zZ1,fun S1 m1=>?_⟩;have t1:=aM (o:=.lst [V.str ""]) m1;refine⟨L,S1,_,_,rfl,rfl,t1 _ _ bd,aH,aJ (by rw[Ab];show _+1<=_;lia),fun S2 m2=>?_⟩;have t2:=t1.trans (aM (o:=.lst (J.map V.str++[V.str ""])) m2);have f2:upd (upd H4 S1 (.lst [V.str ""])) S2 (.lst (J.map V.str++[V.str ""])) S2=some (.lst ((J++[("":Str)]).map V.str)):=by rw[aH,Al];rfl
   generalize upd (upd H4 S1 _) S2 _=H5 at t2 f2 ⊢;refine⟨zZ1,fun S3 m3=>?_⟩;have t3:=aM (o:=.lst [V.str ""]) m3;refine⟨_,rfl,S3,L,_,_,rfl,rfl,aH,t3 _ _ (t2 _ _ bd),aJ (by rw[Ab];show 1+_<=_;lia),fun S4 m4=>?_⟩;have t4:=t3.trans (aM (o:=.lst ([V.str ""]++J.map V.str)) m4);have f4:upd (upd H5 S3 (.lst [V.str ""])) S4 (.lst ([V.str ""]++J.map V.str)) S4=some (.lst ((("":Str)::J).map V.str)):=by rw[aH];rfl
   generalize upd (upd H5 S3 _) S4 _=H6 at t4 f4 ⊢;refine⟨_,rfl,_,rfl,D,L,_,_,rfl,rfl,(t2.trans t4) _ _ e4,(t2.trans t4) _ _ bd,aJ (by rw[Ab,Ab];lia),fun S5 m5=>?_⟩;have t5:=aM (o:=.lst (zs.map V.str++J.map V.str)) m5;have f5:upd H6 S5 (.lst (zs.map V.str++J.map V.str)) S5=some (.lst ((zs++J).map V.str)):=by rw[aH,Al]
   generalize upd H6 S5 _=H7 at t5 f5 ⊢;refine⟨zZ3,fun S6 m6=>?_⟩;have t6:=aM (o:=.lst [V.ref S2,.ref S4,.ref S5]) m6;have sA:=aj.trans (t2.trans (t4.trans (t5.trans t6)));have g2:=(t4.trans (t5.trans t6)) _ _ f2;have g4:=(t5.trans t6) _ _ f4;have g5:=t6 _ _ f5;have g6:=aH (H:=H7) (a:=S6) (o:=.lst [V.ref S2,.ref S4,.ref S5]);generalize upd H7 S6 _=H8 at sA g2 g4 g5 g6 ⊢;have ac:=U.same sA;refine⟨_,rfl,p,c,ns,a2,_,rfl,ac,by lia,by decide,by trivial,fun r3 a3 H9 aw bj bh bc bg k9=>?_⟩;have⟨v,hv,hat3⟩:=gX (xs:=[V.ref S2,.ref S4,.ref S5]) (i:=r3) aw (by show r3<3;lia);refine⟨S6,_,r3,_,rfl,rfl,aP (bU g6 ac k9),hat3,?_⟩;have k0:=(kA.same sA).trans k9;have w1:wt [("":Str)]=1:=by trivial
   have wz:=aIN an;have l0:("":Str).length<=60:=by trivial
   simp only[Ao,AB,or_false]at hv;rcases hv with rfl|rfl|rfl
   .exact⟨S2,_,a3,none,_,rfl,bU g2 ac k9,by rw[tY];lia,(fun x O=>(A4.mp O).elim (up x) fun h=>by rw[Bd.mp h];exact short _ l0),bg,k0,by lia,by lia⟩
   .exact⟨S4,_,a3,none,_,rfl,bU g4 ac k9,by rw[show(("":Str)::J)=[("":Str)]++J from rfl,tY];lia,(fun x O=>(Ao.mp O).elim (fun h=>by rw[h];exact short _ l0) (up x)),bg,k0,by lia,by lia⟩
   .exact⟨S5,_,a3,none,_,rfl,bU g5 ac k9,by rw[tY];lia,(fun x O=>(A4.mp O).elim (fun h=>short x (an x h)) (up x)),bg,k0,by lia,by lia⟩
  refine⟨_,rfl,_,rfl,ls,_,rfl,aP Y,by lia,fun l ms hl bB _=>?_⟩;have sl:=aM (o:=.lst (ms.map V.str)) hl;have df:=bB.length_eq;refine⟨l,rfl,⟨_,aP aH⟩,aCP aC (by trivial) (by trivial) aH (fun x O=>hsp x (bB.subset O)) (by lia) fun D zs H4 s4 e4 bK an=>?_⟩;have aj:=sl.trans s4;refine⟨L,D,_,_,rfl,rfl,aj _ _ e3,e4,aJ (by rw[Ab,Ab];lia),fun S1 m1=>?_⟩;have t1:=aM (o:=.lst (J.map V.str++zs.map V.str)) m1;have sA:=aj.trans t1;have wz:=aIN an;exact⟨S1,J++zs,a2,none,none,rfl,by rw[aH,Al],by rw[tY];lia,(fun x O=>(A4.mp O).elim (up x) fun h=>short x (an x h)),U.same sA,kA.same sA,by lia,by lia⟩
 rintro σ' H4 ⟨M,ys,a',o8,o9,rfl,eM,wg,ok,aa,k4,h1,h2⟩;have q1:("\n":Str).length=1:=by trivial
 unfold wt at wg;have jl:=Cy "\n" ys;rw[<- pL,q1,Hs]at jl;refine⟨rfl,_,rfl,"\n",M,ys,rfl,rfl,aP eM,by rw[q1];lia,k _ a' H4 (by lia) (fun y hy=>?_) h1 h2 aa k4⟩;by_cases hn:ys=[]
 .subst hn;have:y="":=by
   have e:AA (Dy "\n" []) "\n"=[("":Str)]:=by trivial
   rw[e]at hy;exact Bd.mp hy
  rw[this];exact Ln.short (by trivial) (by lia) (by lia) (by lia)
 .obtain⟨x,O,i⟩:=aMD hn hy;exact(ok x O).inf i
def aIP:∀ n:Nat,(∀ c∈(BW 10 n).map C1,iG c=true)/\val ((BW 10 n).map C1)=n/\((BW 10 n).map C1≠[])/\(((BW 10 n).map C1).head?=some 48->(BW 10 n).map C1=[48]):=by
 intro n
 induction n using Nat.strongRecOn with
 | _ n O=>
 by_cases h:n<10
 .rw[pJ n h];refine⟨fun c hc=>?_,?_,by simp,fun e=>?_⟩
  .rw[Bd.mp hc];unfold iG;rw[Ic (by lia),Ic (by lia)];rfl
  .show 10*0+(n+48-48)=n;lia
  .have:n+48=48:=by simpa using e
   rw[this]
 .obtain⟨h1,h2,h3,h4⟩:=O (n/10) (by lia);have t:=En (b:=10) (n:=n/10) (d:=n%10) (by decide) (by lia) (by lia);rw[show 10*(n/10)+n%10=n by lia]at t;rw[<- t,Al,pJ (n%10) (by lia)];refine⟨fun c hc=>?_,?_,by simp,fun e=>?_⟩
  .rcases A4.mp hc with hc|hc
   .exact h1 c hc
   .rw[Bd.mp hc];unfold iG;rw[Ic (by lia),Ic (by lia)];rfl
  .rw[xR,h2];lia
  .cases J:(BW 10 (n/10)).map C1 with
   | nil=>exact absurd J h3
   | cons c r=>
    rw[J]at e h4 h2;have hc:c=48:=by simpa using e
    rw[hc]at h4;have h5:=h4 rfl;rw[hc,h5]at h2;have:val [48]=0:=rfl;lia
def sU{i:Int}(Y:0<=i)(h1:i<=1000000000):dS (cY i)=.int i:=by
 obtain⟨n,rfl⟩:∃ n:Nat,i=n:=⟨i.toNat,by lia⟩
 have e:(cY (n:Int)).cps.toList=(BW 10 n).map C1:=Cz _;obtain⟨a1,a2,a3,a4⟩:=aIP n;have O:(cY (n:Int)).cps.toList.length=(cY (n:Int)).length:=AL;have U:=(aAf Y h1).len;have J:lU (cY (n:Int))=true:=by
  unfold lU;rw[Ic (show 1<=(cY (n:Int)).length by rw[<- O,e];exact FE.mpr a3),Ic (show(cY (n:Int)).length<=60 by lia),e,AR.mpr a1,Ax,Ax];by_cases hz:((BW 10 n).map C1).head?=some 48
  .have W:cY (n:Int)="0":=iC (by rw[e,a4 hz,lV]);rw[Ie (show¬ cY (n:Int)≠"0" from fun h=>h W),A1];rfl
  .rw[Ie hz];rfl
 unfold dS;rw[Ib J];show Gh ((val (cY (n:Int)).cps.toList:Nat):Int)=_;rw[e,a2]
def uL{ws:List Str}(hn:ws≠[])(hw:∀ z∈ws,32∉z.cps.toList):AA (Dy " " ws) " "=ws:=by
 rw[jB,qK];exact mO hn hw
def aF5{r:dI}{fs:List Str}(h:r.Ok fs):AA (jA r) " "=mV r:=uL (by unfold mV;simp) fun z hz=>(h.words.1 z hz).free 32 (by decide)
def aJ0{a b c e:Str}:∀(R:List P3),(∀ x∈R,0<=x.2.2/\x.2.2<=1000000000)->(AY (nP (a::b::c::e::R.flatMap jM))).map (chk (a::b::c::e::R.flatMap jM))=R.map pD:=by
 intro R Y;have hn:nP (a::b::c::e::R.flatMap jM)=R.length:=by
  unfold nP;simp only[An,oW];lia
 rw[hn];have U:∀(R:List P3) (i:Nat) (x:P3),R[i]?=some x->(R.flatMap jM)[3*i]?=some x.1/\(R.flatMap jM)[3*i+1]?=some x.2.1/\(R.flatMap jM)[3*i+2]?=some (cY x.2.2):=by
  intro R
  induction R with
  | nil=>intro i x h;cases h
  | cons y R W=>
   intro i x h;cases i with
   | zero=>cases h;exact⟨rfl,rfl,rfl⟩
   | succ i=>exact W i x h
 refine Cv fun i=>?_;rw[AF,AF];by_cases hi:i<R.length
 .have O:R[i]?=some R[i]:=Ai hi;obtain⟨h1,h2,h3⟩:=U R i _ O;have J:∀ k,(a::b::c::e::R.flatMap jM)[4+k]?=(R.flatMap jM)[k]?:=fun k=>by
   rw[Nat.add_comm];rfl
  rw[O,C4 hi];show some (chk _ i)=some (pD _);obtain⟨g0,g1⟩:=Y _ (AG O);rw[aIs (x:=R[i].1) (y:=R[i].2.1) (z:=cY R[i].2.2) (by rw[J];exact h1) (by rw[Hb,J];exact h2) (by rw[Hb,J];exact h3),sU g0 g1];rfl
 .rw[A2 (by lia:R.length<=i),A2 (by rw[CQ];lia)];rfl
def aIQ{r:dI}{fs:List Str}(h:r.Ok fs):eG (mV r)=r.d:=by
 have⟨word,name,day,ds⟩:=r;obtain⟨rs,nm,d0,d1,_⟩:=h;have d1:day<=9999:=d1;have W:dS (cY day)=.int day:=sU d0 (by lia);have Z:∀{w:Str} {ws:List Str},w∈cB->w≠"part"->w≠"join"->eG (w::ws)=.tuple (wd (2::bV w) (w::ws)):=fun{w ws} h8 h1 h2=>by
  show(if w="part" then _ else if w="join" then _ else if w∈cB then Ca (wd (2::bV w) (w::ws)) else .none)=_;rw[Ia h1,Ia h2,Ib h8]
 cases rs with
 | @part O R hl hr h2 h6 ha=>
  show eG (("part":Str)::name::cY day::nQ "part" [.str O,.tuple (R.map pD)])=_;rw[qI];show Ca ([.str "part",.str name,dS (cY day),.str O]++[.tuple ((AY (nP (("part":Str)::name::cY day::O::R.flatMap jM))).map (chk (("part":Str)::name::cY day::O::R.flatMap jM)))])=_;rw[aJ0 R fun x hx=>by have:=aA8 ha hx;lia,W];rfl
 | @join O R hl hr h2 h6 ha=>
  show eG (("join":Str)::name::cY day::nQ "join" [.tuple (R.map Bj),.str O])=_;rw[qJ];have:=lW "join" name (cY day) R "as" O;rw[Ib rfl]at this;show mZ (("join":Str)::name::cY day::(R++[("as":Str),O]))=_;rw[show("join":Str)::name::cY day::(R++[("as":Str),O])=[("join":Str),name,cY day]++R++[("as":Str),O] by simp,this];show Ca [.str "join",.str name,dS (cY day),.tuple (R.map Bj),.str O]=_;rw[W];rfl
 | @forfeit O J hl hh=>
  show eG [("forfeit":Str),name,cY day,O,J]=_;rw[Z (by trivial) (by trivial) (by trivial),show bV "forfeit"=[] by trivial];show Ca [.str "forfeit",.str name,dS (cY day),.str O,.str J]=_;rw[W];rfl
 | @measure U n hf h0 h1=>
  show eG [("measure":Str),name,cY day,U,cY n]=_;rw[Z (by trivial) (by trivial) (by trivial),show bV "measure"=[4] by trivial];show Ca [.str "measure",.str name,dS (cY day),.str U,dS (cY n)]=_;rw[W,sU h0 (by lia)];rfl
 | @mend J other hh ho ar=>
  show eG [("mend":Str),name,cY day,J,other]=_;rw[Z (by trivial) (by trivial) (by trivial),show bV "mend"=[] by trivial];show Ca [.str "mend",.str name,dS (cY day),.str J,.str other]=_;rw[W];rfl
 | @alone J hh=>
  show eG [("alone":Str),name,cY day,J]=_;rw[Z (by trivial) (by trivial) (by trivial),show bV "alone"=[] by trivial];show Ca [.str "alone",.str name,dS (cY day),.str J]=_;rw[W];rfl
 | @breach U n1 n2 n3 hf Y ae ag aq af an=>
  show eG [("breach":Str),name,cY day,U,cY n1,cY n2,cY n3]=_;rw[Z (by trivial) (by trivial) (by trivial),show bV "breach"=[4,5,6] by trivial];show Ca [.str "breach",.str name,dS (cY day),.str U,dS (cY n1),dS (cY n2),dS (cY n3)]=_;rw[W,sU Y (by lia),sU ag (by lia),sU af (by lia)];rfl
 | @view U J n1 hf Y ae hh=>
  show eG [("view":Str),name,cY day,U,cY n1,J]=_;rw[Z (by trivial) (by trivial) (by trivial),show bV "view"=[4] by trivial];show Ca [.str "view",.str name,dS (cY day),.str U,dS (cY n1),.str J]=_;rw[W,sU Y (by lia)];rfl
def okN{d:Aj}(h:bD d=true):OkD 102 0 d:=by
 cases d with
 | str z=>exact OkD.name h
 | _=>simp[bD]at h
def okW{lo hi:Int}{d:Aj}(h:bZ lo hi d=true)(J:0<=lo)(h1:hi<=1000000000):OkD 102 0 d:=by
 cases d with
 | int i=>
  have:=Ig h;exact OkD.int (by lia) (Int.lt_of_le_of_lt (show i<=1000000000 by lia) (by decide))
 | _=>simp[bZ]at h
def okP{d:Aj}(h:eY d=true):OkD 315 1 d:=by
 unfold eY at h;split at h
 .simp only[Aw]at h;refine OkD.tuple (n:=3) (b:=102) (k:=0) (fun d hd=>?_) (by show 3<=3;decide);simp only[Ao,AB,or_false]at hd;rcases hd with rfl|rfl|rfl
  .exact okN h.1.1
  .exact okN h.1.2
  .exact okW h.2 (by decide) (by decide)
 .cases h
def okR{at':Bool}{d:Aj}(h:xV at' d=true):OkD 1905 2 d:=by
 cases d with
 | tuple ds=>
  rw[aBh,Aw,Aw,AR]at h;have h6:=Ig h.1.2;refine(OkD.tuple (n:=6) (b:=315) (k:=1) (fun d hd=>?_) h6.2).mono (by decide) (by decide);have J:=h.1.1 d hd;cases at' with
  | true=>exact okP J
  | false=>exact(okN J).mono (by decide) (by decide)
 | _=>cases at'<;>cases h
def aME{kind:Str}{ds:List Aj}(h:dX kind ds=true):(∀ d∈ds,OkD 1905 2 d)/\ds.length<=4:=by
 have n:∀{d:Aj},bD d=true->OkD 1905 2 d:=fun h=>(okN h).mono (by decide) (by decide);have u:∀{lo hi:Int} {d:Aj},bZ lo hi d=true->0<=lo->hi<=1000000000->OkD 1905 2 d:=fun h O h1=>(okW h O h1).mono (by decide) (by decide);have two:∀{a b:Aj},OkD 1905 2 a->OkD 1905 2 b->(∀ d∈[a,b],OkD 1905 2 d)/\([a,b]:List Aj).length<=4:=fun ha J=>⟨fun d hd=>by
  simp only[Ao,AB,or_false]at hd;rcases hd with rfl|rfl
  .exact ha
  .exact J,by show 2<=4;decide⟩
 unfold dX at h;split at h
 .unfold uH at h;split at h
  .rw[Aw]at h;exact two (n h.1) (okR (at':=true) h.2)
  .cases h
 split at h
 .unfold xL at h;split at h
  .rw[Aw]at h;exact two (okR (at':=false) h.1) (n h.2)
  .cases h
 split at h
 .unfold gM at h;rw[Aw,AR]at h;exact⟨fun d hd=>n (h.2 d hd),by have:=Ig h.1;lia⟩
 split at h
 .unfold iF at h;split at h
  .rw[Aw]at h;exact two (n h.1) (u h.2 (by decide) (by decide))
  .cases h
 split at h
 .unfold oU at h;split at h
  .rw[Aw,Aw]at h;exact two (n h.1.1) (n h.1.2)
  .cases h
 split at h
 .unfold oS at h;split at h
  .exact⟨fun d hd=>by rw[Bd.mp hd];exact n h,by show 1<=4;decide⟩
  .cases h
 split at h
 .unfold gP at h;split at h
  .simp only[Aw]at h;refine⟨fun d hd=>?_,by show 4<=4;decide⟩;simp only[Ao,AB,or_false]at hd;rcases hd with rfl|rfl|rfl|rfl
   .exact n h.1.1.1
   .exact u h.1.1.2 (by decide) (by decide)
   .exact u h.1.2 (by decide) (by decide)
   .exact u h.2 (by decide) (by decide)
  .cases h
 .unfold lP at h;split at h
  .simp only[Aw]at h;refine⟨fun d hd=>?_,by show 3<=4;decide⟩;simp only[Ao,AB,or_false]at hd;rcases hd with rfl|rfl|rfl
   .exact n h.1.1
   .exact u h.1.2 (by decide) (by decide)
   .exact n h.2
  .cases h
def aMF{d:Aj}(h:fJ d=true):OkD 13352 3 d:=by
 unfold fJ at h;split at h
 .rename_i kind name day aY;simp only[Aw]at h;obtain⟨h1,h2,h3,h4⟩:=h;obtain⟨h5,h6⟩:=aME h4;refine OkD.tuple (n:=7) (b:=1905) (k:=2) (fun d hd=>?_) (by simp only[An];lia);have J:∀ w∈cB,bH w=true:=by trivial
  simp only[Ao]at hd;rcases hd with rfl|rfl|rfl|hd
  .exact(OkD.name (J _ (Ig h1))).mono (by decide) (by decide)
  .exact(okN h2).mono (by decide) (by decide)
  .exact(okW h3 (by decide) (by decide)).mono (by decide) (by decide)
  .exact h5 d hd
 .cases h
def aIR{d:Aj}(h:cX d=true):Bl (fE d) "field "=true:=by
 obtain⟨f,g,a,i,rfl,_⟩:=jN h;have e1:("field ":Str).cps.toList=("field":Str).cps.toList++(" ":Str).cps.toList:=by trivial
 refine aEU (r:=(By " " [f,g,cY a,cY i]).cps.toList) ?_;rw[e1];unfold fE;rw[jB];show(("field":Str)++(" ":Str)++By " " [f,g,cY a,cY i]).cps.toList=_;rw[gO,gO]
def aLA{r:dI}{fs:List Str}(h:r.Ok fs):Bl (jA r) "field "=false:=by
 have e:∃ q,(jA r).cps.toList=r.word.cps.toList++q:=by
  unfold jA mV;rw[jB];refine⟨(" ":Str).cps.toList++(By " " (r.name::cY r.day::nQ r.word r.ds)).cps.toList,?_⟩;show(r.word++(" ":Str)++By " " (r.name::cY r.day::nQ r.word r.ds)).cps.toList=_;rw[gO,gO,B2]
 obtain⟨q,eq⟩:=e;have hw:∀ w∈cB,(∃ a,w.cps.toList[0]?=some a/\a≠102)\/∃ a,w.cps.toList[1]?=some a/\a≠105:=by
  have:∀ w∈cB,(((w.cps.toList[0]?).getD 102 != 102)||((w.cps.toList[1]?).getD 105 != 105))=true:=by trivial
  intro w hw;have h1:=this w hw;rw[Gk]at h1;rcases h1 with z|z
  .cases e:w.cps.toList[0]? with
   | none=>rw[e]at z;simp at z
   | some a=>rw[e]at z;exact .inl ⟨a,rfl,by simpa using z⟩
  .cases e:w.cps.toList[1]? with
   | none=>rw[e]at z;simp at z
   | some a=>rw[e]at z;exact .inr ⟨a,rfl,by simpa using z⟩
 have J:("field ":Str).cps.toList[0]?=some 102:=by trivial
 have h1:("field ":Str).cps.toList[1]?=some 105:=by trivial
 rcases hw r.word h.rs.word with⟨a,ha,hn⟩|⟨a,ha,hn⟩
 .exact aCI (i:=0) (by rw[eq,Cg (AO.mp ha).1];exact ha) J hn
 .exact aCI (i:=1) (by rw[eq,Cg (AO.mp ha).1];exact ha) h1 hn
def aNh:("\n":Str)=⟨#[10]⟩:=by trivial
def aAo{c:Nat}{J:Str}(U:c∉J.cps.toList):∀{ws:List Str},(∀ z∈ws,c∉z.cps.toList)->c∉(By J ws).cps.toList:=by
 intro ws
 induction ws with
 | nil=>
  intro _ h;have e:(By J []).cps.toList=[]:=by rfl
  rw[e]at h;simp at h
 | cons a ws O=>
  intro hw;cases ws with
  | nil=>exact hw a AQ
  | cons b ws=>
   show c∉(a++J++By J (b::ws)).cps.toList;rw[gO,gO,A4,A4];have:=O fun z hz=>hw z (AN _ hz);have h1:=hw a AQ;rintro((z|z)|z)
   .exact h1 z
   .exact U z
   .exact this z
def aF6{J:List Aj}{O:List dI}{fs:List Str}(Y:J.all cX=true)(W:∀ u∈O,u.Ok fs):∀ z∈J.map fE++O.map jA,10∉z.cps.toList:=fun z hz=>by
 have U:10∉(" ":Str).cps.toList:=by trivial
 rcases A4.mp hz with h|h
 .obtain⟨d,hd,rfl⟩:=Bn.mp h;unfold fE;rw[jB];exact aAo U fun z hz=>((lT (AR.mp Y d hd)).1 z hz).free 10 (by decide)
 .obtain⟨u,hu',rfl⟩:=Bn.mp h;unfold jA;rw[jB];exact aAo U fun z hz=>((W u hu').words.1 z hz).free 10 (by decide)
def uM{J:List Aj}{O:List dI}{fs:List Str}(W:J.all cX=true)(U:∀ u∈O,u.Ok fs)(hn:J≠[]):PySem.Txt.split (uK J O) "\n"=J.map fE++O.map jA:=by
 unfold uK;rw[jB,aNh];refine mO (fun z=>hn ?_) (aF6 W U);cases J with
 | nil=>rfl
 | cons _ _=>simp at z
def hW.snoc{H:Hp}{xs:List V}{O:List dI}{fs:List Str}{x:V}{u:dI}(h:hW H xs O fs)(rd:RdV false H x u.d)(ok:u.Ok fs):hW H (xs++[x]) (O++[u]) fs:=by
 refine⟨by rw[Am,Am,h.len];rfl,fun i y J=>?_⟩;have U:=h.len;rcases Nat.lt_trichotomy i xs.length with z|z|z
 .rw[Cg z]at J;obtain⟨v,h1,h2⟩:=h.at' i y J;exact⟨v,by rw[Cg (by lia)];exact h1,h2⟩
 .rw[z,Dw (Ap _),Nat.sub_self]at J;cases J;exact⟨u,by rw[z,U,Dw (Ap _),Nat.sub_self];rfl,rd,ok⟩
 .rw[A2 (by rw[Am];show xs.length+1<=i;lia)]at J;cases J
structure aLB(lds:List Aj)(us:List dI):Prop where
 f:lds.all cX=true
 n:lds≠[]
 l8:lds.length<=8
 h:(lds.map dM).Nodup
 ok:∀ u∈us,u.Ok (lds.map dM)
 u40:us.length<=40
 nn:(us.map (·.name)).Nodup
 ri:aCx us
def aF7{O:List dI}(h:aCx O){i:Nat}{r u:dI}(U:O[i]?=some r)(J:(O.take i).getLast?=some u):jL u.key r.key=true:=by
 rw[CN,AJ]at J;obtain⟨hi,ei⟩:=AO.mp U;have W:=(AO.mp J).1;rw[AJ]at W;rw[EM (by lia)]at J;obtain⟨hj',ej⟩:=AO.mp J;have:=EF.mp h _ i hj' hi (by lia);rw[ei,ej]at this;exact this
def hW.but{H H':Hp}{p c:Ag}{ns:List Int}{a:Int}{xs:List V}{J:List dI}{fs:List Str}(h:hW H xs J fs)(U:cW H p c ns a)(k:bM p H H'):hW H' xs J fs:=
 ⟨h.len,fun i x O=>by obtain⟨u,a,b,c⟩:=h.at' i x O;exact⟨u,a,aLm b U k,c⟩⟩
def aF8{d:Aj}(h:cX d=true):pQ (fE d)=d:=by
 obtain⟨f,g,a,i,rfl,h1,h2,h3,h4,h5,h6⟩:=jN h;have hw:=(lT h).1;have e:AA (fE (.tuple [.str f,.str g,.int a,.int i])) " "=[("field":Str),f,g,cY a,cY i]:=uL (by simp[mX]) fun z hz=>(hw z hz).free 32 (by decide);unfold pQ;rw[e];show Ca [.str f,.str g,dS (cY a),dS (cY i)]=_;rw[sU (by lia) (by lia),sU h5 (by lia)]
theorem uN{L:List Str}:∀(aY J:List Aj) (i:Nat),(J++aY).all cX=true->(J++aY).length<=8->((J++aY).map dM).Nodup->iU (aY.map fE++L) i J []=iU L (i+aY.length) (J++aY) []
 | [],J,i,_,_,_=>by simp
 | d::aY,J,i,U,h8,hn=>by
  have hd:cX d=true:=AR.mp U d (by simp);have W:hJ (fE d) J []=some (J++[d],[]):=by
   unfold hJ;have O:dM d∉J.map dM:=fun hm=>by
    rw[Al]at hn;exact(Dp.mp hn).2.2 _ hm _ (by simp) rfl
   rw[aIR hd,Ib rfl,aF8 hd,hd,Ic (by rw[Am,An]at h8;lia),Ie O];rfl
  have e:J++d::aY=(J++[d])++aY:=by simp
  rw[A6,List.cons_append,jF W,uN aY (J++[d]) (i+1) (by rw[<- e];exact U) (by rw[<- e];exact h8) (by rw[<- e];exact hn),<- e,An];congr 1;lia
theorem aAp{J:List Aj}(hl:J≠[]):∀(aY O:List dI) (i:Nat),(∀ u∈O++aY,u.Ok (J.map dM))->(O++aY).length<=40->((O++aY).map (·.name)).Nodup->aCx (O++aY)->iU (aY.map jA) i J (O.map dI.d)=.tuple [.tuple J,.tuple ((O++aY).map dI.d)]
 | [],O,i,_,_,_,_=>by rw[B5];rfl
 | r::aY,O,i,ok,Y,hn,ri=>by
  have U:=ok r (by simp);have aa:(O.map dI.d).map nmD=O.map (·.name):=by rw[Cp];rfl
  have hb:sF r.d J (O.map dI.d)=true:=by
   have W:nmD r.d∉(O.map dI.d).map nmD:=fun hm=>by
    rw[aa]at hm;rw[Al]at hn;exact(Dp.mp hn).2.2 _ hm _ (Bn.mpr ⟨r,AQ,rfl⟩) rfl
   have h1:fB r.d J=true:=by
    obtain⟨d4,ds',e,hf⟩:=U.rs.fourth;have e3:r.d=.tuple (.str r.word::.str r.name::.int r.day::d4::ds'):=by rw[<- e];rfl
    rw[e3];unfold fB;by_cases g:inV (.str r.word) fW3=true
    .obtain⟨z,rfl⟩:=hf g;show(match (if inV (.str r.word) fW3=true then some z else none)with|some f=>decide (f∈J.map dM)|none=>true)=true;rw[Ib g];exact Ic (U.fi g z ds' e)
    .cases d4 with
     | str z=>
      show(match (if inV (.str r.word) fW3=true then some z else none)with|some f=>decide (f∈J.map dM)|none=>true)=true;rw[Ia g]
     | _=>rfl
   have h2:lB r.d (O.map dI.d)=true:=by
    unfold lB;split
    .rfl
    .rename_i u e;rw[List.getLast?_map]at e;obtain⟨v,hv,rfl⟩:=BD.mp e;exact aF7 (i:=O.length) ri (by simp) (by rw[List.take_left];exact hv)
   unfold sF;rw[h1,h2,Ic (by rw[Ab];rw[Am,An]at Y;lia),Ie W];rfl
  have hs:hJ (jA r) J (O.map dI.d)=some (J,O.map dI.d++[r.d]):=by
   unfold hJ;have Z:(!J.isEmpty)=true:=by
    cases J with
    | nil=>exact absurd rfl hl
    | cons _ _=>rfl
   rw[aLA U,Ia Aq,aF5 U,aIQ U,U.row,Z,hb];rfl
  have e:O++r::aY=(O++[r])++aY:=by simp
  rw[A6,jF hs,show O.map dI.d++[r.d]=(O++[r]).map dI.d by simp,aAp hl aY (O++[r]) (i+1) (by rw[<- e];exact ok) (by rw[<- e];exact Y) (by rw[<- e];exact hn) (by rw[<- e];exact ri),<- e]
def aF9{J:List Aj}{O:List dI}(g:aLB J O):hX (uK J O)=.tuple [.tuple J,.tuple (O.map dI.d)]:=by
 unfold hX;rw[uM g.f g.ok g.n,uN J [] 0 g.f g.l8 g.h];exact aAp g.n O [] _ g.ok g.u40 g.nn g.ri
def aE6{ws:List Str}(h:∀ z∈ws,mW z)(O:ws.length<=24):Ln 306 25 11 (Dy " " ws):=by
 have J:=oX fun z hz=>(h z hz).len;have U:(ws.map bks).sum=0:=aCO fun z hz=>xT ((h z hz).free 32 (by decide));exact(Ln.join (n:=288) (b:=24) (m:=11) ⟨by lia,by lia⟩ fun z hz=>(h z hz).len).le (by decide) (by decide) (by decide)
def aDN{J:List Aj}{O:List dI}(g:aLB J O):(uK J O).length<=20000/\∀ y∈AA (uK J O) "\n",Ln 306 25 11 y:=by
 have key:∀ y∈J.map fE++O.map jA,Ln 306 25 11 y:=fun y U=>by
  rcases A4.mp U with h|h
  .obtain⟨d,hd,rfl⟩:=Bn.mp h;have:=lT (AR.mp g.f d hd);exact aE6 this.1 (by lia)
  .obtain⟨u,hu,rfl⟩:=Bn.mp h;have:=(g.ok u hu).words;exact aE6 this.1 this.2
 refine⟨?_,fun y U=>key y (by rw[uM g.f g.ok g.n]at U;exact U)⟩;have W:=oX fun z hz=>(key z hz).len;have Z:=Cy ("\n":Str) (J.map fE++O.map jA);have e1:("\n":Str).length=1:=by decide
 have e2:(J.map fE++O.map jA).length=J.length+O.length:=by rw[Am,Ab,Ab]
 have h8:=g.l8;have Y:=g.u40;unfold uK;rw[jB];rw[e1,e2]at Z;rw[e2]at W;lia
def aBj{n b m:Nat}{z:Str}(hz:z.length<=200000)(h:∀ y∈AA z "\n",Ln n b m y)(hn:n<=1000)(O:b<=400):xW z:=⟨aJ (by lia),by have:=PyProof.Rows.split_le z "\n";lia,fun y J=>⟨AH (h y J).len hn,by rw[gQ];exact AH (h y J).bk O⟩⟩
def okF{d:Aj}(h:cX d=true):OkD 5000 1 d:=by
 obtain⟨f,g,a,i,rfl,h1,h2,h3,h4,h5,h6⟩:=jN h;exact(xO h1 h2 h3 h4 h5 h6).2.1
theorem aE7:∀(W:List Str) (i:Nat) (J U:List Aj),J.all cX=true->U.all fJ=true->J.length<=8->U.length<=40->(∃ n:Nat,iU W i J U=.int n/\n<=i+W.length)\/∃ ds,iU W i J U=.tuple ds/\OkD 2000000 20 (.tuple ds)
 | [],i,J,U,hf,Z,h8,Y=>by
  refine .inr ⟨_,rfl,?_⟩;have o1:OkD 600000 4 (.tuple J):=(OkD.tuple (fun d hd=>okF (AR.mp hf d hd)) h8).mono (by decide) (by decide);have o2:OkD 600000 4 (.tuple U):=(OkD.tuple (fun d hd=>aMF (AR.mp Z d hd)) Y).mono (by decide) (by decide);refine(OkD.tuple (n:=2) (b:=600000) (k:=4) (fun d hd=>?_) (by show 2<=2;decide)).mono (by decide) (by decide);simp only[Ao,AB,or_false]at hd;rcases hd with rfl|rfl
  .exact o1
  .exact o2
 | z::r,i,J,U,hf,Z,h8,Y=>by
  cases O:hJ z J U with
  | none=>exact .inl ⟨i,pN O,by lia⟩
  | some q=>
   obtain⟨l,u⟩:=q;rw[jF O];have key:l.all cX=true/\u.all fJ=true/\l.length<=8/\u.length<=40:=by
    unfold hJ at O;split at O
    .split at O
     .rename_i g;injection O with O;injection O with e1 e2;subst e1 e2;simp only[Aw]at g;exact⟨by rw[DJ,hf];simp[g.1],Z,by rw[Am];have:=Ig g.2.2.1;show _+1<=8;lia,Y⟩
     .cases O
    .split at O
     .rename_i g;injection O with O;injection O with e1 e2;subst e1 e2;simp only[Aw]at g;have:=aBi g.2.2;exact⟨hf,by rw[DJ,Z];simp[g.1],h8,by rw[Am];show _+1<=40;lia⟩
     .cases O
   obtain⟨k1,k2,k3,k4⟩:=key;rcases aE7 r (i+1) l u k1 k2 k3 k4 with⟨n,e,h⟩|h
   .exact .inl ⟨n,e,by rw[An];lia⟩
   .exact .inr h
def RpD(d:Aj):Prop:=(∃ n:Nat,d=.int n/\n<=1000001)\/∃ ds,d=.tuple ds/\OkD 2000000 20 (.tuple ds)
def aBk{z:Str}(tk:xW z):RpD (hX z):=by
 rcases aE7 (AA z "\n") 0 [] [] rfl rfl (A3 _) (A3 _)with⟨n,e,h⟩|h
 .exact .inl ⟨n,e,by have:=tk.n;lia⟩
 .exact .inr h
inductive oY(xs:List V)(H:Hp)(Q:VK):Prop
 | mk (x:V) (d:Aj) (q0:xs=[x]) (q1:RdV false H x d) (q2:RpD d) (q3:Q (.str d.shown) H):oY xs H Q
def aBl:List V->Hp->VK->Prop:=fun xs H Q=>oY xs H Q
def iO{X:Cx}{k:Nat}(O:eO k X.A):gR X (.builtin "repr") aBl:=by
 intro dl s σ H xs J Q I r h;obtain⟨x,d,rfl,rd,hd,q⟩:=h;rcases hd with⟨n,rfl,hn⟩|⟨ds,rfl,ok⟩
 .cases rd;exact aDi dl s σ H _ J Q I r ⟨n,rfl,(tU (i:=(n:Int)) (by lia) (by lia)),q⟩
 .obtain⟨t,_,rfl,_⟩:=rdT rd;exact aDg O dl s σ H _ J Q I r ⟨_,_,rfl,.ref rd ok.sh ok.dp (AH ok.len (by rw[PySem.sizeLine_eq];decide)),q⟩
def aLC{P:Ar}{w:AW}{X:Cx}:aAx (CXd P w) X E0:=fun _ _ _ _ _ _ _ ⟨_,⟨_,_,_,_,_,q⟩,_⟩=>q.elim
def aE8{K:Ae}{C:Ag}{H:Hp}{z:Str}(tk:xW z):Hrd K C H (.str z) (hX z):=fun Q E O J=>.str z rfl tk (fun ds e t H' s rd=>O _ _ s rd) J
def aJ1{K:Ae}{C:Ag}{H:Hp}{v:V}{t:Ac}(ty:kX K H v t)(O:Bm K t (.type "str")=some false):Hrd K C H v (.int 0):=fun Q E U J=>.odd v t rfl ty O (J 0 rfl)
inductive aE9(K:Ae)(vs:List V)(H:Hp)(Q:VK)(u3_:XK):Prop
 | mk (a:Ag) (ns:List Int) (q0:vs=[.ref a]) (q1:SqL K H a (ns.map V.int)) (q2:ns.length<=63) (q3:∀ H',Q (.bl true) H'):aE9 K vs H Q u3_
def aFa(K:Ae):Sp:=fun vs H Q u3_=>aE9 K vs H Q u3_
def aLD{f fB fR fK C:Ag}{fd cu cb cD:Ay}(F:Fn K "law" yF f fd)(ah:mg "range"=none)(cs:mg "tuple"=none)(U:mg "repr"=none)(ak:mg "sorted"=none)
  (GP:Cal P w K mg base 1 "_law_pen" ["_law_script"] (aKn K))
  (GA:Cal P w K mg base 2 "_law_names" ["_law_pen_here","_law_many"] aEu)
  (GX:Cal P w K mg base 2 "_law_roll_text" ["_law_roll"] xQ)
  (GT:gF P w K mg base)
  (GO:Cal P w K mg base 4 "_law_row" ["_law_pen_here","_law_name","_law_day","_law_sorts"] aKr)
  (GB:cC P w K mg base CX0 4 fB cu ["_law_pen_here","_law_text","_law_spare","_law_names_here"] aIO) (mB:mg "_law_bent"=some (.ref fB)) (kB:AS K (.ref fB)=true) (bB:dY K cu ["_law_pen_here","_law_text","_law_spare","_law_names_here"] [])
  (GN:Cal P w K mg base 2 "_law_number" ["_law_pen_here","_law_bottom","_law_most"] aEx)
  (GY:Cal P w K mg base 3 "_law_laying" ["_law_pen_here","_law_fields","_law_houses"] aED)
  (GK:cC P w K mg base CX0 1 fK cD ["_law_row_here"] pI) (mK:mg "_law_place"=some (.ref fK)) (kK:AS K (.ref fK)=true) (bK:dY K cD ["_law_row_here"] [])
  (GH:Cal P w K mg base 11 "_law_heard" ["_law_text"] (aEX K C))
  (GD:Cal P w K mg base 6 "_law_read" ["_law_text"] aEW)
  (GR:cC P w K mg base (CXd P w) 10 fR cb ["text"] (vI K C)) (mR:mg "read_roll"=some (.ref fR)) (kR:AS K (.ref fR)=true) (bR:dY K cb ["text"] [])
  :cC P w K mg base CX0 12 f fd ["_law_script"] (aFa K):=by
 refine okA F ["_law_script","_law_pen_here","_law_many","_law_fields","_law_names_here","_law_sorts","_law_rows","_law_text","_law_spare","_law_turn","_law_other","_law_thing"] fun f8 A outer s H vs Q E hr nd h=>?_;obtain⟨sc,ns,rfl,hS,hln,k⟩:=h;have cz:eO 10 _:=hr.mono (by decide);have bN:eO 4 _:=hr.mono (by decide);have de:eO 3 _:=hr.mono (by decide);have J:eO 1 _:=hr.mono (by decide);refine⟨_,(aK (sV (i:=1) nd rfl (FU rfl) (bO GP J (pa1 (pv 0))))
  (aK (cF 2 nd (aX bJ (dC (pa3 aD (bO GT J (pa2 (pv 1) aD)) (bO GT J (pa2 (pv 1) aD)))) (bO GT J (pa2 (pv 1) aD)) Ih))
  (aK (cF 3 nd (bO GA hr (pa2 (pv 1) (aX bJ (dC (pa2 aD (aW dF aD (bO GT J (pa2 (pv 1) aD))))) (bO GT J (pa2 (pv 1) aD)) Ih))))
  (aK (sV (i:=4) nd rfl (FU rfl) (bO GA hr (pa2 (pv 1) aD)))
  (aK (sV (i:=5) nd rfl (FU rfl) (cH (pa3 (pv 3) (bO GA hr (pa2 (pv 1) aD)) (bO GA hr (pa2 (pv 1) aD)))))
  (aK (gL (i:=6) (N:=["_law_k","_law_pen_here","_law_names_here","_law_sorts"]) (src:=[none,some 1,some 4,some 5]) (osc:=bC yF) (oN:=["_law_script","_law_pen_here","_law_many","_law_fields","_law_names_here","_law_sorts","_law_rows","_law_text","_law_spare","_law_turn","_law_other","_law_thing"]) bkA nd rfl (iK rfl ah (pa1 (pv 2))) (fun cl s H fp dl C=>⟨bW (i:=0) (show(["_law_k","_law_pen_here","_law_names_here","_law_sorts"]:List Str).Nodup by trivial) rfl (Bp rfl),dJ,bO GO bN (cU (pv 1) (pa3 (aX (r:=aKO K) bJ (pv 2) (pv 0) Ih) (bO GN hr (pa3 (pv 1) aD aD)) (pv 3)))⟩))
  (aK (cF 7 nd (bO GX hr (pa1 (cH (pa2 (bO GY de (pa3 (pv 1) (pv 3) (aX bS (pv 5) aD Ih))) (cA cK (by rfl) cs (by kernel_rfl) (pa1 (aDd GK de bK (by rfl) ak (by rfl) mK (pa1 (pv 6))))))))))
  (aK (gL (i:=8) (N:=["_law_k"]) (src:=[none]) (osc:=bC yF) (oN:=["_law_script","_law_pen_here","_law_many","_law_fields","_law_names_here","_law_sorts","_law_rows","_law_text","_law_spare","_law_turn","_law_other","_law_thing"]) bkA nd rfl (iK rfl ah (pa1 aD)) (fun cl s H fp dl C=>⟨bW (i:=0) (show(["_law_k"]:List Str).Nodup by trivial) rfl (Bp rfl),dJ,aW bY (aW bY (aX mH aO (aW aAu (pv 0) aD) Ih) aO) (aX mH aO (aW gT (pv 0) aD) Ih)⟩))
  (aK (jG B1 rfl (iK rfl ah (pa1 aD)) (g:=bT 9) (bW (i:=9) nd rfl (Bp rfl))
  (aK (cF 10 nd (iA GB bN rfl mB kB bB .nil oG (cU (pv 1) (pa3 (pv 7) (pv 8) (pv 4)))))
   (aK (gW (bX (cT cP (bO GT J (pa2 (pv 1) aD)) aD) (aN (cF 10 nd (iA GB bN rfl mB kB bB .nil oG (cU (pv 1) (pa3 (pv 10) (pv 8) (pv 4)))))) bA))
   (aN (bX (cT nF (aQ (iO J) (by rfl) U (by kernel_rfl) (pa1 (bO GH hr (pa1 (pv 10))))) (aQ (iO J) (by rfl) U (by kernel_rfl) (pa1 (bO GD hr (pa1 (pv 10)))))) (aN (aT eZ)) bA)))))
  (aK (jG B1 rfl (kJ (cH (cU gG (cU eZ (cU aD (cU (dC dP) (cU (cH dP) (pa3 aGA (dC (pa1 (pv 7))) (cH (pa1 aO)))))))))) (g:=bT 11) (bW (i:=11) nd rfl (Bp rfl))
  (aN (bX (cT nF (aQ (iO J) (by rfl) U (by kernel_rfl) (pa1 (bO GH hr (pa1 (pv 11))))) aO) (aN (aT eZ)) bA)))
  (aN (aT (dA (dO cP (aQ (iO J) (by rfl) U (by kernel_rfl) (pa1 (bO GH hr (pa1 aO)))) aO (fA _)) (dR (dO cP (aQ (iO J) (by rfl) U (by kernel_rfl) (pa1 (iA GR cz rfl mR kR bR .nil aLC (pa1 (pv 7))))) (aQ (iO J) (by rfl) U (by kernel_rfl) (pa1 (bO GD hr (pa1 (pv 7))))) (fA _)))))))))))))))),?_⟩
 refine⟨_,rfl,sc,ns,rfl,hS,hln,fun p c H1 c6 s1 np=>?_⟩;dsimp only[bT];refine⟨_,rfl,p,c,ns,0,_,rfl,c6,by decide,by decide,by trivial,fun r1 a2 H2 ei f0 dn eM ck k2=>?_⟩;refine⟨_,rfl,p,c,ns,a2,_,rfl,ck,by lia,by decide,by trivial,fun r2 a3 H3 eH gu e4 eK ci k3=>?_⟩;refine⟨zZ3,fun q hq=>?_⟩;have sq:=aM (o:=.lst [V.int 40,.int r1,.int r2]) hq;have bx:=aH (H:=H3) (a:=q) (o:=.lst [V.int 40,.int r1,.int r2]);generalize upd H3 q _=H4 at sq bx ⊢;have b1:=ci.same sq;refine⟨_,rfl,p,c,ns,a3,_,rfl,b1,by lia,by decide,by trivial,fun r3 a5 H5 eW hw gz ew cg k5=>?_⟩;have⟨v,hv,hat⟩:=gX (xs:=[V.int 40,.int r1,.int r2]) (i:=r3) eW (by show r3<3;lia);obtain⟨m,rfl,hm⟩:∃ m:Nat,v=.int m/\m<=40:=by
  simp only[Ao,AB,or_false]at hv;rcases hv with rfl|rfl|rfl
  .exact⟨40,rfl,by lia⟩
  .exact⟨r1.toNat,by rw[C7 ei],by lia⟩
  .exact⟨r2.toNat,by rw[C7 eH],by lia⟩
 refine⟨q,_,r3,_,rfl,rfl,aP (bU bx b1 k5),hat,?_⟩;dsimp only[bT];refine⟨_,rfl,_,rfl,p,c,ns,a5,_,rfl,cg,by lia,by decide,by trivial,fun r4 a6 H6 gb f7 gc gk cx k6=>?_⟩;refine⟨_,_,rfl,rfl,zZ2,fun q2 af=>?_⟩;have bw:=aM (o:=.lst [V.int 8,.int (1+r4)]) af;have bz:=aH (H:=H6) (a:=q2) (o:=.lst [V.int 8,.int (1+r4)]);generalize upd H6 q2 _=H7 at bw bz ⊢;have br:=cx.same bw;refine⟨_,rfl,p,c,ns,a6,_,rfl,br,by lia,by decide,by trivial,fun r5 a8 H8 eb hL hB gI cy k8=>?_⟩;have⟨v2,hv2,hat2⟩:=gX (xs:=[V.int 8,.int (1+r4)]) (i:=r5) eb (by show r5<2;lia);obtain⟨nf,rfl,hf1,hf8⟩:∃ m:Nat,v2=.int m/\1<=m/\m<=8:=by
  simp only[Ao,AB,or_false]at hv2;rcases hv2 with rfl|rfl
  .exact⟨8,rfl,by lia,by lia⟩
  .exact⟨(1+r4).toNat,by rw[C7 (by lia)],by lia,by lia⟩
 refine⟨q2,_,r5,_,rfl,rfl,aP (bU bz br k8),hat2,p,c,ns,a8,nf,rfl,cy,by lia,by lia,fun l1 ws a9 H9 _ ar eB bP gi gK c7 k9=>?_⟩;clear hat hat2 hv hv2 bx bz sq bw hq af k2 k3 k5 k6 k8 k9 c6 ck ci b1 cg cx br cy;dsimp only[bT];refine⟨_,rfl,p,c,ns,a9,40,rfl,c7,by lia,by decide,fun l4 rs aA HA _ e3 c8 bv gl g6 bn dm=>?_⟩;have cq:=bU ar c7 dm;dsimp only[bT];refine⟨_,rfl,_,rfl,p,c,ns,aA,10,rfl,bn,by lia,by decide,fun l2 ps aB HB _ bg d8 d6 fX hI c0 kB=>?_⟩;refine⟨_,rfl,p,c,ns,aB,5,rfl,c0,by lia,by decide,fun l3 hs aC HC _ eg eP cL gt hD eT kC=>?_⟩;refine⟨zZ3,fun tS ca=>?_⟩;have sS:=aM (o:=.tup [V.ref l1,.ref l2,.ref l3]) ca;have aq:=aH (H:=HC) (a:=tS) (o:=.tup [V.ref l1,.ref l2,.ref l3]);have cn:=kB.trans kC;have ae:S3 HC l1 l2 l3 ws ps hs:=⟨bU cq bn cn,bU bg c0 kC,eg,by lia,by lia,d8,eP,bP,d6,cL⟩
 have j4:=sS _ _ (bU e3 bn cn);have ae:=ae.same sS;have W:=eT.same sS;generalize upd HC tS _=HD at sS aq j4 ae W ⊢;have en:((m:Nat):Int).toNat=m:=BK _;dsimp only[bT];refine⟨_,rfl,m,rfl,by lia,by lia,?_⟩;refine mI (n:=((m:Nat):Int).toNat) (fun i ys σ' H'=>Ex3 fun(a':Int) (o:Option V) (us:List dI)=>Aw6 (σ'=[o,some (.ref p),some (.ref l4),some (.ref tS)]) (cW H' p c ns a') (bM p HD H') (aC<=a') (a'<=aC+100*i) (Aw3 (ys.length=i) (hW H' ys us ws) (us.map (·.name)=rs.take i)))
  ⟨aC,none,[],rfl,W,bM.refl _ _,by lia,by lia,rfl,⟨rfl,fun i x hx=>by simp at hx⟩,rfl⟩ (aJ (by lia)) (fun i ys σ H p=>by obtain⟨_,_,_,_,_,_,_,_,e,_⟩:=p;lia) ?_ ?_
 .rintro i ys σ' HE hi ⟨aE,o,us,rfl,ai,kE,dw,b7,bj,ac,ax⟩;rw[en]at hi;dsimp only[bT];refine bF ?_;obtain⟨name,hn⟩:∃ x,rs[i]?=some x:=⟨_,Ai (by lia)⟩
  have cj:atI (rs.map V.str) (0+(i:Int))=some (.str name):=by
   rw[Int.zero_add];exact bG (by rw[AF,hn];rfl)
  refine⟨_,rfl,_,rfl,_,rfl,l4,_,_,_,rfl,rfl,aP (bU j4 W kE),cj,_,rfl,p,c,ns,aE,0,9999,rfl,ai,by lia,by decide,by decide,by decide,fun day aF HF d0 d1 g1 gy Z kF=>?_⟩;have Y:=kE.trans kF;refine⟨_,rfl,p,c,ns,aF,name,day,tS,l1,l2,l3,ws,ps,hs,rfl,Z,by lia,aA6 aq W Y,ae.but W Y,bv.ok _ (AG hn),d0,d1,fun x r aG HG cI d4 cr dq ev az kG=>?_⟩;refine⟨aG,_,us++[r],rfl,az,Y.trans kG,by lia,by lia,by rw[Am,bj];rfl,(ac.but ai (kF.trans kG)).snoc cI cr,?_⟩;rw[Al,ax,A0,hn];show _++[r.name]=_++[name]
  rw[d4]
 rintro vs σ' HE ⟨aE,o,us,rfl,ai,kE,dw,b7,bj,ac,ax⟩ lR e6;rw[en]at bj b7 ax;have da:(us.map (·.name)).Nodup:=by rw[ax];exact(bv.take m).nd
 have sR:=aM (o:=.lst vs) e6;have eR:upd HE lR (.lst vs) lR=some (.lst vs):=aH;generalize upd HE lR (.lst vs)=HF at sR eR ⊢;have Z:=ai.same sR;have Y:bM p HD HF:=kE.same sR;have hP:us.length<=40:=by rw[<- ac.len];lia
 have aj:=ae.but W Y;dsimp only[bT];refine⟨_,rfl,_,rfl,_,rfl,tS,_,2,_,rfl,rfl,aV (aA6 aq W Y),rfl,p,c,ns,aE,l1,l3,ws,hs,rfl,Z,by lia,aj.f,bP.ok,by lia,aj.h,cL.ok,by lia,by lia,fun tL g8 an aG HG c9 bu eu ea dq ev az kG=>?_⟩;subst ea;have cw:=bU eR Z kG;have bo:=(ac.same sR).but Z kG;refine⟨_,rfl,lR,vs,aEG HG,rfl,.inl (aP cw),by lia,aJM bo,fun E1 kk pp HH sH hE db hk ho eE=>?_⟩;have⟨os,ho1,ho2,ho3⟩:=aDB bo da db hk ho sH;have gw:=ho1.length_eq;refine⟨E1,_,rfl,.inl ⟨aP eE,fun l hl=>⟨zZ2,fun O hO=>?_⟩⟩⟩;have sl:=aM (o:=.tup (pp.map fun i=>vs.getD i .non)) hl;have el:upd HH l (.tup (pp.map fun i=>vs.getD i .non)) l=some (.tup (pp.map fun i=>vs.getD i .non)):=aH;generalize upd HH l _=HI at sl el hO ⊢;have sO:=aM (o:=.tup [V.ref tL,.ref l]) hO;have aw:=sH.trans (sl.trans sO);have c5:an.all cX=true:=AR.mpr fun d hd=>(eu d hd).1;have cv:an.length=nf:=by rw[<- eB,Ab]
 have bc:aLB an os:=⟨c5,fun e=>by rw[e]at cv;simp at cv;lia,by lia,bP.nd,fun u hu=>by
   obtain⟨j,hj⟩:=Eg (ho1.mem_iff.mp hu);have dt:j<vs.length:=by rw[ac.len];exact(AO.mp hj).1
   have⟨u2,h2,_,h4⟩:=ac.at' j _ (Ai dt);rw[hj]at h2;cases h2;exact h4,by lia,(ho1.map (·.name)).nodup_iff.mpr da,ho2⟩
 refine⟨O,tL,l,an,_,os,_,rfl,aH,(RdV.tup c9 (by have:=bu.len;lia) bu).same aw,c5,by lia,sO _ _ el,ho3.same (sl.trans sO),by lia,fun HJ sJ=>?_⟩;have e2:=(az.same aw).same sJ;have eD:HJ l4=some (.lst (rs.map V.str)):=sJ _ _ (aw _ _ (bU (bU j4 W Y) Z kG));clear aw sO sl el hO hl eE ho hk db hE sH ho3 bo cw c9 bu kG az Y Z eR sR ac ai kE W aj ae aq ca sJ;obtain⟨tl0,tln⟩:=aDN bc;have ad:=aBj (AH tl0 (by decide)) tln (by decide) (by decide);have am:=aF9 bc;generalize uK an os=T0 at tl0 tln ad am ⊢;dsimp only[bT];refine⟨42,rfl,by decide,by decide,?_⟩;refine mI (n:=42) (fun i ys σ' H'=>∃(o:Option V) (zs:List Str),Aw3 (σ'=[o]) (H'=HJ) (Aw3 (ys=zs.map V.str) (zs.length=i) (∀ x∈zs,x.length<=8))) ⟨none,[],rfl,rfl,rfl,rfl,fun x hx=>by simp at hx⟩ (aJ (by decide)) (fun i ys σ H p=>by obtain⟨_,zs,_,_,rfl,e,_⟩:=p;rw[Ab];lia) ?_ ?_
 .rintro i ys σ' H' hi ⟨o,zs,rfl,rfl,rfl,av,aI⟩;dsimp only[bT];refine bF ?_;have i0:(0+(i:Int))/14<3:=by lia
  have⟨c1,hc1,hat1⟩:=aD1 (xs:=("zyx":Str).cps.toList) (i:=(0+(i:Int))/14) (by lia) (by rw[show(("zyx":Str).cps.toList.length)=3 by trivial];lia);have⟨c2,hc2,hat2⟩:=aD1 (xs:=("abcdefghijklmn":Str).cps.toList) (i:=(0+(i:Int))%14) (by lia) (by rw[show(("abcdefghijklmn":Str).cps.toList.length)=14 by trivial];lia);refine⟨_,rfl,_,_,rfl,rfl,⟨by decide,by decide⟩,_,_,c1,rfl,rfl,aJ (by trivial),hat1,_,_,rfl,rfl,aJ (by show 1+("q":Str).length<=1000000;trivial),_,rfl,_,_,rfl,rfl,(show(0:Int)<14 by decide),_,_,c2,rfl,rfl,aJ (by trivial),hat2,_,_,rfl,rfl,aJ (by rw[AI];show 1+("q":Str).length+1<=1000000;trivial),⟨_,zs++[(⟨#[c1]⟩:Str)++("q":Str)++(⟨#[c2]⟩:Str)],rfl,rfl,by rw[Al];rfl,by rw[Am,av];rfl,fun x hx=>(A4.mp hx).elim (aI x) fun h=>?_⟩⟩;rw[Bd.mp h,AI,AI,show("q":Str).length=1 by trivial];show 1+1+1<=8;decide
 rintro ys σ' H' ⟨o,zs,rfl,rfl,rfl,av,aI⟩ lS d9;have sS:=aM (o:=.lst (zs.map V.str)) d9;have eS:=aH (H:=H') (a:=lS) (o:=.lst (zs.map V.str));have b6:=sS _ _ eD;have dc:=e2.same sS;generalize upd H' lS _=HS at sS eS b6 dc ⊢;have bb:∀ x∈rs,x.length<=8:=fun x hx=>(gE (bv.ok x hx)).2;dsimp only[bT];refine⟨8,rfl,by decide,by decide,oZ (n:=8) (fun i σ H'=>Ex3 fun(a':Int) (o9 aL:Option V)=>Aw3 (σ=[some (.ref sc),some (.ref p),some (.int m),some (.ref l1),some (.ref l4),some (.ref tS),some (.ref lR),some (.str T0),some (.ref lS),o9,aL,none]) (cW H' p c ns a') (Aw3 (H' l4=some (.lst (rs.map V.str))) (H' lS=some (.lst (zs.map V.str))) (a'<=10000+50*i))) ⟨_,none,none,rfl,dc,b6,eS,by lia⟩ ?_ ?_⟩
 .rintro i σ H1 hi ⟨a1,o9,aL,rfl,aR,f4,fS,dy⟩;dsimp only[bT];refine⟨_,rfl,_,rfl,_,rfl,_,rfl,.mk 306 25 11 p c ns a1 T0 lS l4 zs rs rfl aR (by lia) (by decide) (by decide) (by decide) (by decide) fS av aI f4 c8 bb (by lia) tln fun z1 a2 H2 hN ar dn eM af g2=>?_⟩;have du:=bU f4 aR g2;have d3:=bU fS aR g2;dsimp only[bT];refine⟨fun σ' H'=>∃(z:Str) (a':Int),σ'=[some (.ref sc),some (.ref p),some (.int m),some (.ref l1),some (.ref l4),some (.ref tS),some (.ref lR),some (.str T0),some (.ref lS),some (.int (0+(i:Int))),some (.str z),none]/\xW z/\cW H' p c ns a'/\H' l4=some (.lst (rs.map V.str))/\H' lS=some (.lst (zs.map V.str))/\a'<=10000+50*(i+1),?_,?_⟩
  .refine⟨_,rfl,p,c,ns,a2,_,rfl,af,by lia,by decide,by trivial,fun r6 a3 H3 hg hH e4 eK ay g3=>?_⟩;have bi:=bU du af g3;have bp:=bU d3 af g3;refine⟨rfl,_,rfl,dH (fun g=>?_) fun g=>?_⟩
   .refine⟨_,rfl,_,rfl,_,rfl,_,rfl,.mk 402 61 94 p c ns a3 z1 lS l4 zs rs rfl ay (by lia) (by decide) (by decide) (by decide) (by decide) bp av aI bi c8 bb (by lia) ar fun z2 a4 H4 g0 bg gm hh eC g4=>?_⟩;exact⟨z2,a4,rfl,aBj (by lia) bg (by decide) (by decide),eC,bU bi ay g4,bU bp ay g4,by lia⟩
   .exact⟨z1,a3,rfl,aBj (by lia) ar (by decide) (by decide),ay,bi,bp,by lia⟩
  rintro σ' H5 ⟨z,a5,rfl,tk,eI,e5,ed,ew⟩;have rp:=aBk tk;refine⟨_,rfl,_,_,rfl,aE8 tk,fun v H6 s6 rv=>⟨v,_,rfl,rv,rp,?_⟩⟩;refine⟨_,rfl,.mk z rfl tk fun v2 H7 s7 dv=>⟨v2,_,rfl,dv,rp,rfl,_,rfl,?_⟩⟩;rw[Ic (show V.str (hX z).shown=V.str (hX z).shown from rfl)];have bq:=s6.trans s7;exact bQ ⟨a5,_,_,rfl,eI.same bq,bq _ _ e5,bq _ _ ed,by lia⟩
 rintro σ H1 ⟨a1,o9,aL,rfl,aR,f4,fS,dy⟩;refine⟨A3 _,fun L1 h1=>⟨zZ0,fun T1 h2=>fun D1 h3=>⟨_,rfl,zZ1,fun L2 h4=>⟨zZ1,fun T2 h5=>⟨zZ8,fun TT h6=>?_⟩⟩⟩⟩⟩;have u1:=aM (o:=.lst []) h1;have u2:=aM (o:=.tup []) h2;have u3:=aM (o:=.dK []) h3;have u4:=aM (o:=.lst [V.str T0]) h4;have u5:=aM (o:=.tup [V.str "field a b 1 1"]) h5;have u6:=aM (o:=.tup [V.non,.bl true,.int 7,.ref L1,.ref T1,.ref D1,.ref L2,.ref T2]) h6;have f1:=(u2.trans (u3.trans (u4.trans (u5.trans u6)))) _ _ aH;have f2:=(u3.trans (u4.trans (u5.trans u6))) _ _ aH;have f3:=(u4.trans (u5.trans u6)) _ _ aH;have c3:=(u5.trans u6) _ _ aH;have f5:=u6 _ _ aH;have f6:upd (upd (upd (upd (upd (upd H1 L1 (.lst [])) T1 (.tup [])) D1 (.dK [])) L2 (.lst [V.str T0])) T2 (.tup [V.str "field a b 1 1"])) TT (.tup [V.non,.bl true,.int 7,.ref L1,.ref T1,.ref D1,.ref L2,.ref T2]) TT=some (.tup [V.non,.bl true,.int 7,.ref L1,.ref T1,.ref D1,.ref L2,.ref T2]):=aH;generalize upd (upd (upd (upd (upd (upd H1 L1 (.lst [])) T1 (.tup [])) D1 (.dK [])) L2 (.lst [V.str T0])) T2 (.tup [V.str "field a b 1 1"])) TT (.tup [V.non,.bl true,.int 7,.ref L1,.ref T1,.ref D1,.ref L2,.ref T2])=H2 at f1 f2 f3 c3 f5 f6 ⊢;have z0:(Gh 0).shown="0":=by trivial
 refine⟨TT,rfl,⟨_,aV f6⟩,aAt (K:=K) (xs:=[V.non,.bl true,.int 7,.ref L1,.ref T1,.ref D1,.ref L2,.ref T2]) (fun i σ H'=>∃(o:Option V),σ=[some (.ref sc),some (.ref p),some (.int m),some (.ref l1),some (.ref l4),some (.ref tS),some (.ref lR),some (.str T0),some (.ref lS),o9,aL,o]/\aU H2 H') ⟨none,rfl,aU.refl _⟩ (fun i σ H' _ h=>by have⟨_,_,s⟩:=h;exact aV (s _ _ f6)) ?_ ?_⟩
 .rintro i v σ H3 hv ⟨o,rfl,s3⟩;have ej:∃ t,kX K H3 v t/\Bm K t (.type "str")=some false:=by
   have hm:=AG hv;simp only[Ao,AB,or_false]at hm;rcases hm with rfl|rfl|rfl|rfl|rfl|rfl|rfl|rfl
   .exact⟨_,.non,hU .none⟩
   .exact⟨_,.bl _,hU (.bool true)⟩
   .exact⟨_,.int _,hU (.int 7)⟩
   .exact⟨_,.lst (s3 _ _ f1),hU (.list [])⟩
   .exact⟨_,.tup (s3 _ _ f2),hU (.tuple [])⟩
   .exact⟨_,.dK (s3 _ _ f3),hU (.dict [])⟩
   .exact⟨_,.lst (s3 _ _ c3),hU (.list [])⟩
   .exact⟨_,.tup (s3 _ _ f5),hU (.tuple [])⟩
  have⟨t,ty,hk⟩:=ej;dsimp only[bT];refine⟨_,rfl,_,_,rfl,aJ1 ty hk,fun v2 H4 s4 rv=>⟨v2,_,rfl,rv,.inl ⟨0,rfl,by decide⟩,rfl,_,rfl,?_⟩⟩;rw[z0,Ic (show V.str "0"=V.str "0" from rfl)];exact bQ ⟨_,rfl,s3.trans s4⟩
 rintro σ H3 ⟨o,rfl,s3⟩;have te:xW "":=aBj (n:=60) (b:=61) (m:=60) (by trivial) (fun y hy=>by
  have e:AA ("":Str) "\n"=[("":Str)]:=by trivial
  rw[e]at hy;rw[Bd.mp hy];exact Ln.short (by trivial) (by decide) (by decide) (by decide)) (by decide) (by decide)
 have e0:hX ""=.int 0:=by
  unfold hX;rw[show AA ("":Str) "\n"=[("":Str)] by trivial];refine pN ?_;unfold hJ;rw[show Bl ("":Str) "field "=false by trivial,Ia Aq,show fJ (eG (AA ("":Str) " "))=false by trivial];rfl
 refine⟨_,_,rfl,aE8 te,fun v2 H4 s4 rv=>⟨v2,_,rfl,rv,aBk te,rfl,_,rfl,?_⟩⟩;rw[e0,z0,Ic (show V.str "0"=V.str "0" from rfl)];refine bF ?_;have rp:=aBk ad;refine⟨_,rfl,.str T0 rfl ad (fun ds e t H5 s5 rd=>⟨_,_,rfl,rd,rp,?_⟩) fun n e=>by rw[am]at e;cases e⟩;refine⟨_,rfl,.mk T0 rfl ad fun v3 H6 s6 eX=>⟨v3,_,rfl,eX,rp,rfl,?_⟩⟩;rw[Ic (show V.str (hX T0).shown=V.str (hX T0).shown from rfl)];exact k H6
inductive aMG(K:Ae)(n:Str)(st:BA):Prop
 | mk (f:_) (q0:AC K mainGlobals n=some (some (.ref f))) (q1:(∃ oc od kV dc pm an cd ct sl,K.lookup f=some ⟨oc,od,.func (BC n n (fU st) (dZ st) (bC st) .none kV dc pm an cd ct),sl⟩/\BP K cd n=true)) (q2:AS K (.ref f)=true):aMG K n st
def Dx(K:Ae)(n:Str)(st:BA):Prop:=aMG K n st
def tZ{K:Ae}{h:Bb}{mg:Str->Option Ac}{n:Str}{st:BA}(d:Dx K n st)(X:K.In h)(G:h.Ns mainGlobals mg):∃ f fd,Fun K n n st f fd/\mg n=some (.ref f)/\AS K (.ref f)=true:=by
 obtain⟨f,a,⟨_,_,_,_,_,_,_,_,_,l,c⟩,k⟩:=d;exact⟨f,_,jI l c k,AX X G a,k⟩
def mkC{P:Ar}{w:AW}{K:Ae}{mg:Str->Option Ac}{base h:Bb}{n:Str}{st:BA}{k:Nat}{ps:List Str}{sp:Sp}(d:Dx K n st)(X:K.In h)(G:h.Ns mainGlobals mg)
  (o:∀{f fd},Fun K n n st f fd->cC P w K mg base CX0 k f fd ps sp) (b:∀{f fd},Fun K n n st f fd->dY K fd ps []:=by exact bdA):Cal P w K mg base k n ps sp:=by
 obtain⟨f,fd,F,m,k⟩:=tZ d X G;exact⟨f,fd,o F,m,k,b F⟩
set_option autoImplicit true in
def all_mk{l:FZ}{w:AW}{K:Ae}{h:Bb}{mg:Str->Option Ac}{fa:Ag}(X:K.In h)(G:h.Ns mainGlobals mg)(hfa:mg "law"=some (.ref fa))
  (b9:AC K mainGlobals "DykeError"=some (some (.ref f3)))
  (f4:AC K mainGlobals "Clash"=some (some (.ref l0)))
  (c5:AC K mainGlobals "NoBreach"=some (some (.ref g6)))
  (c8:AC K mainGlobals "NoField"=some (some (.ref h2)))
  (d7:AC K mainGlobals "NoInch"=some (some (.ref j4)))
  (d8:AC K mainGlobals "NoMend"=some (some (.ref j5)))
  (d9:AC K mainGlobals "NoName"=some (some (.ref j6)))
  (c9:AC K mainGlobals "NoOrder"=some (some (.ref h3)))
  (e0:AC K mainGlobals "NoRoll"=some (some (.ref j7)))
  (f5:AC K mainGlobals "NoRow"=some (some (.ref l1)))
  (e1:AC K mainGlobals "NoThen"=some (some (.ref j8)))
  (d0:AC K mainGlobals "TooMany"=some (some (.ref h4)))
  (f6:AC K mainGlobals "Twice"=some (some (.ref l2)))
  (e2:AC K mainGlobals "NoText"=some (some (.ref a0)))
  (aI:B0 K (.ref a0) "__init__"=some (some (.ref fI))) (iI:FJ K (.ref fI)=true) (lI:K.lookup fI=some ⟨ocI,odI,.func (BC "__init__" "NoText.__init__" (fU aCL) (dZ aCL) (bC aCL) .none kVI dcI pmI anI cdI ctI),slI⟩) (cI:BP K cdI "NoText.__init__"=true) (kI:AS K (.ref fI)=true)
  (sa:B0 K (.ref a0) "__setattr__"=some (some (.builtin "object.__setattr__"))) (hd:FM K a0=true) (zl:B0 K (.ref a0) "line"=some none)
  (zq:tI K a0 fI [.type "ValueError",.type "Exception",.type "BaseException",.type "object"] "ValueError.__new__"=true) (zo:(PySem.W.clsIn K a0).any (fun cd=>qF cd.mro)=true) (zn:PySem.W.takerIn K a0 "line"=some none)
  (ze:PySem.W.exmOne K (.ref a0) (.ref f3)=some true) (zf:aF4 K a0 [a0] [true] [l0,g6,h2,j4,j5,j6,h3,j7,l1,j8]=true) (zg:aF4 K a0 [a0] [true] [h4,l2]=true)
  (q5:AC K mainGlobals "fits_part"=some (some (.ref m5))) (q6:K.lookup m5=some ⟨ocF0,odF0,.func (BC "fits_part" "fits_part" (fU xB) (dZ xB) (bC xB) .none kVF0 dcF0 pmF0 anF0 p7 ctF0),slF0⟩) (q7:BP K p7 "fits_part"=true) (o7:AS K (.ref m5)=true)
  (q8:AC K mainGlobals "fits_join"=some (some (.ref m6))) (q9:K.lookup m6=some ⟨ocF1,odF1,.func (BC "fits_join" "fits_join" (fU xC) (dZ xC) (bC xC) .none kVF1 dcF1 pmF1 anF1 p8 ctF1),slF1⟩) (r0:BP K p8 "fits_join"=true) (o8:AS K (.ref m6)=true)
  (r1:AC K mainGlobals "fits_forfeit"=some (some (.ref m7))) (r2:K.lookup m7=some ⟨ocF2,odF2,.func (BC "fits_forfeit" "fits_forfeit" (fU lN) (dZ lN) (bC lN) .none kVF2 dcF2 pmF2 anF2 p9 ctF2),slF2⟩) (r3:BP K p9 "fits_forfeit"=true) (o9:AS K (.ref m7)=true)
  (r4:AC K mainGlobals "fits_measure"=some (some (.ref m8))) (r5:K.lookup m8=some ⟨ocF3,odF3,.func (BC "fits_measure" "fits_measure" (fU lO) (dZ lO) (bC lO) .none kVF3 dcF3 pmF3 anF3 q0 ctF3),slF3⟩) (r6:BP K q0 "fits_measure"=true) (p0:AS K (.ref m8)=true)
  (r7:AC K mainGlobals "fits_mend"=some (some (.ref m9))) (r8:K.lookup m9=some ⟨ocF4,odF4,.func (BC "fits_mend" "fits_mend" (fU xD) (dZ xD) (bC xD) .none kVF4 dcF4 pmF4 anF4 q1 ctF4),slF4⟩) (r9:BP K q1 "fits_mend"=true) (p1:AS K (.ref m9)=true)
  (s0:AC K mainGlobals "fits_alone"=some (some (.ref n6))) (s1:K.lookup n6=some ⟨ocF5,odF5,.func (BC "fits_alone" "fits_alone" (fU rW) (dZ rW) (bC rW) .none kVF5 dcF5 pmF5 anF5 q2 ctF5),slF5⟩) (s2:BP K q2 "fits_alone"=true) (p2:AS K (.ref n6)=true)
  (s3:AC K mainGlobals "fits_breach"=some (some (.ref n7))) (s4:K.lookup n7=some ⟨ocF6,odF6,.func (BC "fits_breach" "fits_breach" (fU oQ) (dZ oQ) (bC oQ) .none kVF6 dcF6 pmF6 anF6 q3 ctF6),slF6⟩) (s5:BP K q3 "fits_breach"=true) (p3:AS K (.ref n7)=true)
  (s6:AC K mainGlobals "fits_view"=some (some (.ref n8))) (s7:K.lookup n8=some ⟨ocF7,odF7,.func (BC "fits_view" "fits_view" (fU xE) (dZ xE) (bC xE) .none kVF7 dcF7 pmF7 anF7 q4 ctF7),slF7⟩) (s8:BP K q4 "fits_view"=true) (p4:AS K (.ref n8)=true)
  (aL:AC K mainGlobals "law"=some (some (.ref fL))) (lL:K.lookup fL=some ⟨ocL,odL,.func (BC "law" "law" (fU yF) (dZ yF) (bC yF) .none kVL dcL pmL anL z5 ctL),slL⟩) (cL:BP K z5 "law"=true) (kL:AS K (.ref fL)=true)
  (b0:AC K mainGlobals "isinstance"=some none)
  (h5:AC K mainGlobals "str"=some none)
  (h6:AC K mainGlobals "len"=some none)
  (h7:AC K mainGlobals "all"=some none)
  (h8:AC K mainGlobals "int"=some none)
  (f7:AC K mainGlobals "bool"=some none)
  (e3:AC K mainGlobals "tuple"=some none)
  (h9:AC K mainGlobals "set"=some none)
  (f8:AC K mainGlobals "list"=some none)
  (d1:AC K mainGlobals "sorted"=some none)
  (i0:AC K mainGlobals "abs"=some none)
  (e4:AC K mainGlobals "range"=some none)
  (i1:AC K mainGlobals "min"=some none)
  (f9:AC K mainGlobals "repr"=some none)
  (b4:AC K mainGlobals "enumerate"=some none)
  (b1:AC K mainGlobals "ValueError"=some none)
  (a7:AC K mainGlobals "MOST_FIELDS"=some (some (.int 8 i8)))
  (a1:AC K mainGlobals "MOST_FIELD_ACRES"=some (some (.int 1000000 f2)))
  (b5:AC K mainGlobals "MOST_ROWS"=some (some (.int 40 k7)))
  (c6:AC K mainGlobals "LONGEST"=some (some (.int 8 m3)))
  (c0:AC K mainGlobals "LAST_DAY"=some (some (.int 9999 k9)))
  (a5:AC K mainGlobals "FEWEST_LANDS"=some (some (.int 2 h0)))
  (b2:AC K mainGlobals "MOST_LANDS"=some (some (.int 6 j2)))
  (a2:AC K mainGlobals "MOST_PART_ACRES"=some (some (.int 10000000 g2)))
  (a8:AC K mainGlobals "MOST_INCHES"=some (some (.int 10000000 i9)))
  (b3:AC K mainGlobals "MOST_PENCE"=some (some (.int 1000000000 j3)))
  (a9:AC K mainGlobals "MOST_SPADES"=some (some (.int 1000000 j0)))
  (a6:AC K mainGlobals "MOST_FIGURES"=some (some (.int 60 h1)))
  (c7:AC K mainGlobals "NUMBERS"=some (some (.ref d6)))
  (s9:K.lookup d6=some { cls:=.type "dict",data:=.dict #[⟨AD w.params "forfeit",.str "forfeit" xn0,.ref n0⟩,⟨AD w.params "measure",.str "measure" xn1,.ref n1⟩,⟨AD w.params "mend",.str "mend" xn2,.ref n2⟩,⟨AD w.params "alone",.str "alone" xn3,.ref n3⟩,⟨AD w.params "breach",.str "breach" xn4,.ref n4⟩,⟨AD w.params "view",.str "view" xn5,.ref n5⟩] eN }) (t0:(d6==sysModules)=false) (t1:K.lookup n0=some { cls:=.type "tuple",data:=.seq #[] en0 }) (t2:K.lookup n1=some { cls:=.type "tuple",data:=.seq #[.int 4 y10] en1 }) (t3:K.lookup n2=some { cls:=.type "tuple",data:=.seq #[] en2 }) (t4:K.lookup n3=some { cls:=.type "tuple",data:=.seq #[] en3 }) (t5:K.lookup n4=some { cls:=.type "tuple",data:=.seq #[.int 4 y40,.int 5 y41,.int 6 y42] en4 }) (t6:K.lookup n5=some { cls:=.type "tuple",data:=.seq #[.int 4 y50] en5 })
  (e5:AC K mainGlobals "FORMS"=some (some (.ref g3)))
  (t7:K.lookup g3=some { cls:=.type "dict",data:=.dict #[⟨AD w.params "part",.str "part" xk0,.ref m5⟩,⟨AD w.params "join",.str "join" xk1,.ref m6⟩,⟨AD w.params "forfeit",.str "forfeit" xk2,.ref m7⟩,⟨AD w.params "measure",.str "measure" xk3,.ref m8⟩,⟨AD w.params "mend",.str "mend" xk4,.ref m9⟩,⟨AD w.params "alone",.str "alone" xk5,.ref n6⟩,⟨AD w.params "breach",.str "breach" xk6,.ref n7⟩,⟨AD w.params "view",.str "view" xk7,.ref n8⟩] eF }) (t8:(g3==sysModules)=false)
  (e6:AC K mainGlobals "RANKS"=some (some (.ref g4)))
  (t9:K.lookup g4=some { cls:=.type "dict",data:=.dict #[⟨AD w.params "measure",.str "measure" xr0,.int 0 yr0⟩,⟨AD w.params "part",.str "part" xr1,.int 1 yr1⟩,⟨AD w.params "join",.str "join" xr2,.int 1 yr2⟩,⟨AD w.params "forfeit",.str "forfeit" xr3,.int 1 yr3⟩,⟨AD w.params "mend",.str "mend" xr4,.int 2 yr4⟩,⟨AD w.params "alone",.str "alone" xr5,.int 2 yr5⟩,⟨AD w.params "breach",.str "breach" xr6,.int 3 yr6⟩,⟨AD w.params "view",.str "view" xr7,.int 3 yr7⟩] eR })
  (u0:Dx K "is_name" aAS)
  (u1:Dx K "is_number" zM)
  (u2:Dx K "is_whole" aB8)
  (u3:Dx K "is_rising" aAT)
  (u4:Dx K "is_field" aCb)
  (u5:Dx K "is_part" aEk)
  (u6:Dx K "all_parts" tK)
  (u7:Dx K "all_names" tM)
  (u8:Dx K "are_parts" tN)
  (u9:Dx K "are_lands" zO)
  (v0:Dx K "is_inch" aEl)
  (v1:Dx K "is_row" aHn)
  (v2:Dx K "number_of" tO)
  (v3:Dx K "with_numbers" aDo)
  (v4:Dx K "part_of" aAU)
  (v5:Dx K "join_of" aEm)
  (l3:Dx K "row_in" aHo)
  (v6:Dx K "field_of" aCc)
  (v7:Dx K "order" aHv)
  (v8:Dx K "goes_ahead" aHw)
  (l4:Dx K "field_in" aCd)
  (v9:Dx K "goes_behind" uZ)
  (x0:Dx K "take_line" tQ)
  (x1:Dx K "read_roll" aHx)
  (zP:Dx K "_law_pen" aMq)
  (zT:Dx K "_law_take" aHp)
  (zN:Dx K "_law_names" aDp)
  (x2:Dx K "_law_laying" aHq)
  (x3:Dx K "_law_number" aEn)
  (x4:Dx K "_law_some" aHr)
  (x5:Dx K "_law_row_of" aDq)
  (zR:Dx K "_law_row" aMr)
  (zK:Dx K "_law_place" aHy)
  (x6:Dx K "_law_is_name" rX)
  (x7:Dx K "_law_whole" aEo)
  (x8:Dx K "_law_is_part" aB9)
  (x9:Dx K "_law_rise" aAV)
  (y0:Dx K "_law_is_placed" aCa)
  (y1:Dx K "_law_is_row" aEp)
  (l5:Dx K "_law_row_text" tP)
  (y2:Dx K "_law_number_in" aDr)
  (l6:Dx K "_law_row_in" aEq)
  (y3:Dx K "_law_bent_word" aHs)
  (y4:Dx K "_law_bent_line" aHt)
  (i2:Dx K "_law_roll_text" mQ)
  (l7:Dx K "_law_field_in" zQ)
  (y5:Dx K "_law_row_fits" aEr)
  (y6:Dx K "_law_read" aDs)
  (y7:Dx K "_law_bent" aEs)
  (zH:Dx K "_law_heard" aHu)
  :∃ fd:Ay,(∀(s:Ad) (v:Ac),Gu s fd ⟨[v],[]⟩ [("_law_script",v)])/\∀ base:Bb,K.In base->base.Ns mainGlobals mg->cC l.prog w K mg base CX0 12 fa fd ["_law_script"] (aFa K):=by
 have e:=hfa.symm.trans (AX X G aL);cases e;have z6:=jI (st:=xB) q6 q7 o7;have mF0:=AX X G q5;have bF0:=bdA (ps:=["rest"]) z6;have z7:=jI (st:=xC) q9 r0 o8;have mF1:=AX X G q8;have bF1:=bdA (ps:=["rest"]) z7;have z8:=jI (st:=lN) r2 r3 o9;have mF2:=AX X G r1;have bF2:=bdA (ps:=["rest"]) z8;have z9:=jI (st:=lO) r5 r6 p0;have mF3:=AX X G r4;have bF3:=bdA (ps:=["rest"]) z9;have FF4:=jI (st:=xD) r8 r9 p1;have mF4:=AX X G r7;have bF4:=bdA (ps:=["rest"]) FF4;have FF5:=jI (st:=rW) s1 s2 p2;have mF5:=AX X G s0;have bF5:=bdA (ps:=["rest"]) FF5;have FF6:=jI (st:=oQ) s4 s5 p3;have mF6:=AX X G s3;have bF6:=bdA (ps:=["rest"]) FF6;have FF7:=jI (st:=xE) s7 s8 p4;have mF7:=AX X G s6;have bF7:=bdA (ps:=["rest"]) FF7;have FL:=jI (st:=yF) lL cL kL;have mL:=AX X G aL;have bL:=bdA (ps:=["_law_script"]) FL;have c2:=Bk X G b0;have i3:=Bk X G h5;have a3:=Bk X G h6;have n9:=Bk X G h7;have i4:=Bk X G h8;have l8:=Bk X G f7;have a4:=Bk X G e3;have o0:=Bk X G h9;have e7:=Bk X G f8;have b6:=Bk X G d1;have o1:=Bk X G i0;have c3:=Bk X G e4;have k8:=Bk X G i1;have l9:=Bk X G f9;have b7:=Bk X G b4;have e8:=Bk X G b1;have b8:=AX X G a7;have c1:=AX X G a1;have f1:=AX X G b5;have g7:=AX X G c6;have g0:=AX X G c0;have d2:=AX X G a5;have e9:=AX X G b2;have c4:=AX X G a2;have d4:=AX X G a8;have f0:=AX X G b3;have d5:=AX X G a9;have d3:=AX X G a6;have g8:=AX X G c7;have j9:=AX X G e5;have k1:=AX X G e6;refine⟨BC "law" "law" (fU yF) (dZ yF) (bC yF) .none kVL dcL pmL anL z5 ctL,fun s v=>.of_eq rfl,fun base _ _=>?_⟩;have⟨_,_,FRD,mRD,kRD⟩:=tZ x1 X G
 have bRD:=bdA (ps:=["text"]) FRD;have⟨_,_,FK,mK,kK⟩:=tZ zK X G;have bK:=bdA (ps:=["_law_row_here"]) FK;have⟨_,_,FlN,o5,o6⟩:=tZ x6 X G;have o2:=bdA (ps:=["_law_thing"]) FlN;have⟨_,_,FlP,mlP,klP⟩:=tZ x8 X G;have blP:=bdA (ps:=["_law_thing"]) FlP;have⟨_,_,FBN,mBN,kBN⟩:=tZ y7 X G;have bBN:=bdA (ps:=["_law_pen_here","_law_text","_law_spare","_law_names_here"]) FBN;have g1:=AX X G b9;have m0:=AX X G f4;have g9:=AX X G c5;have i5:=AX X G c8;have k2:=AX X G d7;have k3:=AX X G d8;have k4:=AX X G d9;have i6:=AX X G c9;have k5:=AX X G e0;have m1:=AX X G f5;have k6:=AX X G e1;have i7:=AX X G d0;have m2:=AX X G f6;have g5:=AX X G e2;have T:Txt K mg:=⟨⟨_,b8⟩,⟨_,c1⟩,c2,i3,a3,n9,i4,l8,a4,o0,⟨_,g7⟩,⟨_,g0⟩,⟨_,d2⟩,⟨_,e9⟩,⟨_,c4⟩,⟨_,d4⟩,⟨_,f0⟩,⟨_,d5⟩⟩
 have FI:=jI (st:=aCL) lI cI kI;have bI:=bdA (ps:=["self","line"]) FI;have XN:XNo l.prog w K mg base a0 fI _:=⟨g5,zq,aJX FI ⟨sa,zo,zn,hd⟩,bI,iI⟩
 have GT:=mkC zT X G fun F=>aJv (P:=l.prog) (w:=w) (base:=base) F a3 o1;have j1:=mkC u0 X G fun F=>aJB (aFT (P:=l.prog) (w:=w) (base:=base) F T) aFU;have GNB:=mkC u1 X G fun F=>aJC (P:=l.prog) (w:=w) (base:=base) F T;have m4:=mkC u2 X G fun F=>aDv F GNB;have GRI:=mkC u3 X G fun F=>aFX (P:=l.prog) (w:=w) (base:=base) F T e7 b6;have GPT:=mkC u5 X G fun F=>aJD F T j1 m4;have GIC:=mkC v0 X G fun F=>aJE F T m4;have GAP:=mkC u6 X G fun F=>aJG F T GPT;have y8:=mkC u7 X G fun F=>aJF F T j1;have GRP:=mkC u8 X G fun F=>aJI F T GAP GRI;have GRL:=mkC u9 X G fun F=>aJH F T y8 GRI;have GF0:=aHR z6 T j1 GRP;have GF1:=aHS z7 T j1 GRL;have GF2:=aCr z8 T y8;have GF3:=aCq z9 T j1 m4;have GF4:=aHO FF4 T y8;have GF5:=aFW FF5 T j1;have GF6:=aDx FF6 T j1 m4 GIC;have GF7:=aHN FF7 T j1 GIC;have GIR:=mkC v1 X G fun F=>aHT F T (aJK t7) (aLo m5 m6 m7 m8 m9 n6 n7 n8) t8 j9 (aMx m5 m6 m7 m8 m9 n6 n7 n8) (aMy GF0 o7 bF0 GF1 o8 bF1 GF2 o9 bF2 GF3 p0 bF3 GF4 p1 bF4 GF5 p2 bF5 GF6 p3 bF6 GF7 p4 bF7) j1 m4;have GNO:=mkC v2 X G fun F=>aFZ (P:=l.prog) (w:=w) (base:=base) F T ⟨_,d3⟩;have p5:=mkC v3 X G fun F=>aId F a4 b7 GNO;have GPO:=mkC v4 X G fun F=>aIh F a4 a3 c3 p5;have GJO:=mkC v5 X G fun F=>aIi F a4 a3 p5;have y9:=mkC l3 X G fun F=>aJQ F (aJP s9) (aLt n0 n1 n2 n3 n4 n5) t0 g8 (aMB t1 t2 t3 t4 t5 t6) (fun _ h=>aMC h) GPO GIR GJO p5;have GFD:=mkC u4 X G fun F=>aHY F T j1 m4;have RK:vD w K g4:=⟨_,_,_,_,_,_,_,_,_,_,_,_,_,_,_,_,_,t9⟩
 have GFO:=mkC v6 X G fun F=>aDz (P:=l.prog) (w:=w) (mg:=mg) (base:=base) F;have GOr:=mkC v7 X G fun F=>aH1 (P:=l.prog) (base:=base) F RK k1;have GAH:=mkC v8 X G fun F=>aIx F GOr;have z0:=mkC l4 X G fun F=>aDI F p5 GFD;have GBE:=mkC v9 X G fun F=>aF3 F a3 ⟨_,f1⟩ GFO GAH;have GTL:=mkC x0 X G fun F=>aCK F a3 ⟨_,b8⟩ y9 z0 GBE;have GRD:=aJY FRD T b7 XN GTL;have GN:=mkC zN X G fun F=>aHH F a3 c3 k8 GT;have z1:=mkC x3 X G fun F=>aLn F k8 GT;have GSm:=mkC x4 X G fun F=>aJJ F e7 c3 b6 a3 GT;have GRo:=mkC x5 X G fun F=>aHX F a3 a4 GT z1 GSm;have GR:=mkC zR X G fun F=>aLq F GT GRo;have GK:=aH0 (P:=l.prog) (w:=w) (mg:=mg) (base:=base) FK;have GLO:=mkC x2 X G fun F=>aH2 F a3 a4 GT z1;have o3:=aIo (P:=l.prog) (w:=w) (base:=base) FlN T;have p6:=mkC x7 X G fun F=>aF0 (P:=l.prog) (w:=w) (base:=base) F T;have GlP:=aDD FlP T ⟨_,_,o3,o5,o6,o2⟩ p6;have GlR:=mkC x9 X G fun F=>aIp F T b6 o3 o5 o6 o2 GlP mlP klP blP;have GlL:=mkC y0 X G fun F=>aDE F T ⟨_,_,o3,o5,o6,o2⟩ p6;have GlI:=mkC y1 X G fun F=>aF1 F T mlP o3 o5 o6 o2 p6 GlL GlR;have z2:=mkC l5 X G fun F=>aCz (P:=l.prog) (w:=w) (base:=base) F i3 e7;have GNI:=mkC y2 X G fun F=>aCC (P:=l.prog) (w:=w) (base:=base) F a3 i4;have z3:=mkC l6 X G fun F=>aF2 F a3 a4 i4 c3 GlI GNI;have GBW:=mkC y3 X G fun F=>aIK F a3 GT;have GBL:=mkC y4 X G fun F=>aIL F a3 GT GBW;have o4:=mkC i2 X G fun F=>aA9 F i3 z2;have z4:=mkC l7 X G fun F=>aCJ F a3 GNI ⟨_,_,o3,o5,o6,o2⟩ p6;have GFT:=mkC y5 X G fun F=>aJW F a3 ⟨_,_,GK,mK,kK,bK⟩;have GLR:=mkC y6 X G fun F=>aIF F a3 a4 b7 z4 z3 GFT
 have GBN:=aJZ FBN a3 b6 GT GBL;have GH:=mkC zH X G fun F=>aIG (P:=l.prog) (w:=w) (base:=base) F c2 e8 g1 m0 g9 i5 k2 k3 k4 i6 k5 m1 k6 i7 m2 g5 ze zf zg zl GRD mRD kRD bRD;exact aLD FL c3 a4 l9 b6 (mkC zP X G fun F=>aLi F e7) GN o4 GT GR GBN mBN kBN bBN z1 GLO GK mK kK bK GH GLR GRD mRD kRD bRD
def walk{l:FZ}{q:Ar}{loose:List Str}{XP:(Str->Option Ac)->Bb->Prop}{YP:AW->Bb->Prop}{d:DefRec}{K:Params->Ae}(hn:l.most=some 63)(hdf:d.params.defaults=[])
  (hY:∀(w:AW) (h:Bb),YP w h->(K w.params).In h)
  (F:∀(w:AW) (mg:Str->Option Ac) (fa:Ag) (h:Bb),(K w.params).In h->h.Ns mainGlobals mg->mg d.name=some (.ref fa)->
   ∃ fd:Ay,(∀(s:Ad) (u:Ac),Gu s fd ⟨[u],[]⟩ [("_law_script",u)])/\∀ base:Bb,(K w.params).In base->base.Ns mainGlobals mg->cC l.prog w (K w.params) mg base CX0 12 fa fd ["_law_script"] (aFa (K w.params))):
  PySem.W.WalkO q loose XP YP l.row.toRowW d [] (fun f vs=>Hq f vs):=
 L2.walk_of (n:=63) (k:=12) (x:="_law_script") (CX:=fun _=>CX0) (sp:=fun w=>aFa (K w.params)) hn (by decide) hdf ⟨rfl,by decide,by decide,rfl⟩ hY F (fun _ _ a ns hl _ hS=>⟨a,ns,rfl,hS,hl,fun _=>rfl⟩) fun _ _ _ _ _ z=>z
end K71
end
structure PySem.W.Fast:Prop where(tw1768550646441211662 tw7863461187207917777 tw10242148879236617966 tw1053302510954203678 tw14940422868803412287 tw11390600492559104578 tw15961023505995193618 tw9806300981921573178 tw8296870435485045443 tw10730465239184439922 tw13649592953832070363 tw2081624214402736640 tw16429288102932657053 tw13994278116388346258 tw3176761372313944326 tw11184167220672709458 tw17204360952373388003 tw4642682944611543086 tw15643589464408181559 tw5780676618923710943 tw7080557143953515837 tw10443861398117765838 tw10132845200067276583 tw5155161640726561483 tw11672534306219389341 tw6198449679711336873 tw18186420835420827784 tw11670533315080987275 tw14277641990525473027 tw9022162311159584717 tw422357022816006728 tw5580842380489383580 tw15586920819176686503 tw7188565179069652941 tw8184542194504650583 tw16266089909800419099 tw11499951125443210100 tw4870312356842688696 tw1652326896884742072 tw4443912518046044658 tw8681340754616021924 tw5840130116348928910 tw56157461178637756 tw13626499388771717610 tw4383402741572130935 tw17584389560960245696 tw7241997716634048544 tw14154699870368313261 tw242311512295770825 tw16673416416578377839 tw192800186412995908 tw7871737557489359550 tw371501189367315631 tw8375882519565749343 tw7977200948366679238 tw2539582425002487104 tw11122157985391841380 tw8098800592004821656 tw6226054083145542839 tw9161718802831334096 tw2197527074301936148 tw1372189676416358188 tw9776227365495802740 tw14895761424249185812 tw5689530513998005137 tw2347081665982115155 tw1017710575029391908 tw8298796641177980090 tw1454972320780807003 tw1671840661722920784 tw4935102607242260727 tw7980838748852707961 tw6831691003862982444 tw3246054249121931393 tw17982265499878730948 tw12494190950758443683 tw6231754825504351078 tw8325217504279980126 tw5863142960385538319 tw4669776842604048229 tw3370395592134950364 tw6533373678609133459 tw9726186667625361816 tw2012751444357196592 tw2111078027852799102 tw2812632434352062480 tw15809229263935908436 tw2393635757197997034 tw378891662107080133 tw8785437630861834756 tw4456549395662429612 tw11764806356207451808 tw15410229756150710382 tw10879299932604780260 tw7569071288937768489 tw14294307893083427844 tw121217242804716246 tw12039887499045927955 tw14763242493516188992 tw2291554065872360321 tw4144137813890795613 tw10116493016318401876 tw11549345079152183336 tw13067511675024960930 tw15790261994022972890 tw13516451915143693622 tw894448158771214364 tw11453289343731453693 tw8387951560804339837 tw16083570810386572899 tw12640999402955895142 tw15247948156358263103 tw7364689397792538141 tw12342401536409654739 tw16981280683240217491 tw12743599372849906025 tw14622153710121638453 tw6122832115643825812 tw14315005561777965365 tw14230440217664059687 tw4937027389204466563 tw17467322258353529582 tw5873603553570320625 tw2669479733277504053 tw12428413209512679601 tw12916039689588148946 tw14736560161425064544 tw5899167365490498370 tw17378006052254951374 tw2259058947905737552 tw1986643236854533075 tw3189031269062242173 tw16755778614159159966 tw4955653305229824692 tw4477812616153109560 tw10657303592137672530 tw17423065381603395043 tw10451039734294743987 tw12502566075497756731 tw18059861596590707225 tw957147786695125172 tw3542660609999427621 tw13136903320385114895 tw3866605707980856234 tw3614307304831040906 tw2230702237214416361 tw16070770810610837459 tw9036449831602910172 tw9669657845319626559 tw7379579188295501807 tw4481311429259764471 tw10788999713722261419 tw17814773554447576896 tw10014729047534719094 tw11565912540239232937 tw9172946759735360382 tw5599588043605664031 tw13372073007282955004 tw16026453530172042573 tw18035502943109376995 tw12917639133470566946 tw11038216387725244244 tw17283614236503138975 tw11289516888916802905 tw438482230088146171 tw16219663591043851184 tw17176853683574678024 tw12613878078059681909 tw9432291492867239482 tw17157966579064901835 tw17735429936779390392 tw16394445981674477709 tw13818936978720913675 tw14672089355516841644 tw3276209553440986054 tw2930481930063991655 tw5536655402289328100 tw5878971452691146620 tw1568706733974004122 tw5784281256002504342 tw9970661440392872681 tw3191836301798516979 tw16593587592728816422 tw13476780941639674816 tw11587488723538639376 tw16305426187084311349 tw15917258601547741561 tw2949952452060154142 tw2334538310670357365 tw5176960498843480069 tw4432280154327937477 tw6100571313079175818 tw11751327183084397536 tw10557634153469333695 tw13313001332091881871 tw10771263831345173333 tw7872448938616930370 tw15890920820943929584 tw11190015435545261334 tw1492278860602158770 tw840075418833205461 tw11459768121470608772 tw1288282917740809256 tw13704556345905107966 tw9247836687711200348 tw1543884100685586550 tw5338157123835684269 tw10565431059969187495 tw2004087381899266419 tw4062386246061627668 tw2097298189089452499 tw9013324412436329405 tw8375188163427185205 tw6842245804552309281 tw10052589324107990893 tw17637458825889547855 tw7622529943162798161 tw14380932227211435539 tw4381752948599960948 tw11831163269656149655 tw12405140358132693674 tw15201306444657163468 tw15636234356252432589 tw17367018199303807013 tw9696549106872330524 tw6627654753853109726 tw10954676278139834147 tw15460892116041504111 tw2262843967740389075 tw16439864044787359843 tw11699511022660852961 tw14442653996480935426 tw4258325518429196890 tw723484716300228988 tw12628287601965571293 tw10353407480559066672 tw13450627436708727178 tw15873430039549893987 tw4479531576135313596 tw17096706253518259266 tw5394113278957324868 tw9529384298843216477 tw3689642537435968115 tw11073046949790228009 tw2957846969830890630 tw15137320330329498616 tw12433159052527423560 tw14142337631686663666 tw836363157750475422 tw15904981602155133091 tw7422039354427776483 tw8816053825295649705 tw15306168712626952414 tw8228883057691118586 tw8232287096056483481 tw9071195760679967993 tw5374054847819781731 tw2471496432681461874 tw11331099153249487414 tw1513151971105393770 tw11303955195343565253 tw2694175863057052222 tw12350013400797708279 tw6840700201992113581 tw1632148970823233261 tw5865744456911241731 tw16587257220540045215 tw10071114189723066645 tw17883848642822944378 tw6309953968454983426 tw845822273035365920:True)
open PySem PySem.W PyProof.Rows
set_option maxRecDepth 100000 in
set_option maxHeartbeats 0 in
theorem PySem.Challenge.cw_dykelengths_k71_what_writes_no_roll_holds : PySem.Challenge.rw_dykelengths_k71_what_writes_no_roll.Holds := by
 w_on;o_law;k_head;(case hw=>w_witness2)
 k_fill
 refine K71.walk (l:=PySem.Challenge.rw_dykelengths_k71_what_writes_no_roll) rfl rfl (fun w h Y=>PySem.W.kIn_of Y) ?F
 case F=>
  intro w mg fa h KX G hmg
  refine' K71.all_mk KX G hmg ?b9 ?f4 ?c5 ?c8 ?d7 ?d8 ?d9 ?c9 ?e0 ?f5 ?e1 ?d0 ?f6 ?e2 ?aI ?iI ?lI ?cI ?kI ?sa ?hd ?zl ?zq ?zo ?zn ?ze ?zf ?zg ?q5 ?q6 ?q7 ?o7 ?q8 ?q9 ?r0 ?o8 ?r1 ?r2 ?r3 ?o9 ?r4 ?r5 ?r6 ?p0 ?r7 ?r8 ?r9 ?p1 ?s0 ?s1 ?s2 ?p2 ?s3 ?s4 ?s5 ?p3 ?s6 ?s7 ?s8 ?p4 ?aL ?lL ?cL ?kL ?b0 ?h5 ?h6 ?h7 ?h8 ?f7 ?e3 ?h9 ?f8 ?d1 ?i0 ?e4 ?i1 ?f9 ?b4 ?b1 ?a7 ?a1 ?b5 ?c6 ?c0 ?a5 ?b2 ?a2 ?a8 ?b3 ?a9 ?a6 ?c7 ?s9 ?t0 ?t1 ?t2 ?t3 ?t4 ?t5 ?t6 ?e5 ?t7 ?t8 ?e6 ?t9 ?u0 ?u1 ?u2 ?u3 ?u4 ?u5 ?u6 ?u7 ?u8 ?u9 ?v0 ?v1 ?v2 ?v3 ?v4 ?v5 ?l3 ?v6 ?v7 ?v8 ?l4 ?v9 ?x0 ?x1 ?zP ?zT ?zN ?x2 ?x3 ?x4 ?x5 ?zR ?zK ?x6 ?x7 ?x8 ?x9 ?y0 ?y1 ?l5 ?y2 ?l6 ?y3 ?y4 ?i2 ?l7 ?y5 ?y6 ?y7 ?zH
  case b9|f4|c5|c8|d7|d8|d9|c9|e0|f5|e1|d0|f6|e2|aI|iI|lI|cI|kI|sa|hd|zl=>k_is
  case zq|zo|zn|ze|zf|zg=>kernel_rfl
  case q5|q6|q7|o7|q8|q9|r0|o8|r1|r2|r3|o9|r4|r5|r6|p0|r7|r8|r9|p1|s0|s1|s2|p2|s3|s4|s5|p3|s6|s7|s8|p4|aL|lL|cL|kL|b0|h5|h6|h7|h8|f7|e3|h9|f8|d1|i0|e4|i1|f9|b4|b1|a7|a1|b5|c6|c0|a5|b2|a2|a8|b3|a9|a6|c7|s9=>k_is
  case t0=>first | rfl | decide
  case t1|t2|t3|t4|t5|t6|e5|t7=>k_is
  case t8=>first | rfl | decide
  case e6|t9=>k_is
  case u0|u1|u2|u3|u4|u5|u6|u7|u8|u9|v0|v1|v2|v3|v4|v5|l3|v6|v7|v8|l4|v9|x0|x1|zP|zT|zN|x2|x3|x4|x5|zR|zK|x6|x7|x8|x9|y0|y1|l5|y2|l6|y3|y4|i2|l7|y5|y6|y7|zH=>exact ⟨_,by k_is,⟨_,_,_,_,_,_,_,_,_,by k_is,by k_is⟩,by k_is⟩
