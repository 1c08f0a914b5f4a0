import PyProof.Rows.All
import Wide.All
import OpenK.AllK
import Wide.FinOn
import Lean
import PyProof.EqAt
import PyProof.EqKinds
import PyProof.TupleCall
import KE.KIntText
import KE.KDictList
import PyProof.StationsW
import PyProof.ExcClass2
import OpenK.KRaise
import OpenK.KOwn
import KE.KTryMore
import PyProof.NsDelKeeps
import PyProof.Rows.Catch
import PyProof.ExcArgs
import PyProof.AttrMissHeap
import KE.KDictOf
import KE.KPairComp
import PyProof.EnumFor
import PyProof.EnumMake
import PyProof.EnumStmt
import PyProof.Rows.EnumRows
import PyProof.StrCalls
import PyProof.NeData
import PySem.Challenge.RW_dykelengths_k04_rows_bent
set_option linter.all false
set_option maxRecDepth 100000
set_option Elab.async false
set_option maxHeartbeats 16000000
noncomputable section
local macro_rules
|`(tactic|omega)=>`(tactic|lia)
local macro_rules
|`(tactic|decide)=>`(tactic|decide +kernel)
open PySem renaming wpAny_bind->Aa,Value->Ab,Shared->Ac,wpAny_pure->Ad,Addr->Ah,PyData->Aj,boot_len->Aq,Program->Ar,wpAny_ite_false->Ay,FuncData->AC,Around->AJ,World->AQ,wpAny_newObj_type->A6,Heap->A8,wpAny_holding->Ba,Expr->Bb,strKind->BF,wpAny_mono->BH,wpAny_call_entry->BI,Stmt->BQ,wpAny_truthy_bool->BX,wpAny_callSpecial?_slot->B2,mem_of_lookup->B5,codeAny_builtin->Cb,wpAny_isInstance->Cj,wpAny_typeOf->Cn,wpAny_ite_true->Cy,wpAny_of_eq->CG,SetTable->CS,wpAny_passesOwn->C3,wpAny_setState_of->C8,wpAny_rule->Di,wpAny_call->Dj,wpAny_askSetting->Dk,codeAny_mono->Dl,wpAny_setEntries_of->Dq,wpAny_attempt->Du,Scope->Dw,wpAny_execs_nil->Dy,wpAny_Call_Name_kw->DG,wpAny_getItem_str_slice->DJ,wpAny_setField->DQ,NameKind->DS,codeAny_call_builtin->D3,Keyword->Em,wpAny_field->EA,fits_of_scanBound->EB,wpAny_newList->EC,plainId_quiet->ED,Model->EI,typeIs_str->EM,IsPart->ES,wpAny_specialOf->ET,wpAny_loadPart'->EU,post_val_or_str->EV,wpAny_runValue->E7,wpAny_fieldsOf->E8,sizeLine_eq->Fb,call_list_seq->Fi,tupleKind_room_in1->Fl,call_meets->Fn,wpAny_sequenceKey->Fu,wpAny_pyIter_list->Fv,GenState->Fz,BindsTo->FC,wpAny_execs_cons->FE,noFill_tuple_add->FF,Paired->FI,DictEntry->FM,codeAny_of_tree->FS,wpAny_newTuple->FW,wpAny_load->FX,CmpOp->F4,wpAny_standAt->F9,seq_tuple_add->Gj,evalPart_none->Gk,call->Gn,str_of_reads->Gr,concat_meets->Gw,seqIndex_of->GV,Drawn->Ha
open List renaming length_map->Ae,getElem?_eq_getElem->Ag,length_append->Al,mem_cons->Am,not_mem_nil->An,size_toArray->Ao,length_cons->Ax,mem_of_getElem?->AH,mem_cons_self->AM,length_take->AN,range->AU,take_of_length_le->AV,all_eq_true->AX,mem_cons_of_mem->AY,map_append->A0,append_assoc->A2,mem_append_right->A5,mem_singleton->A7,take_add_one->Be,getD_eq_getElem?_getD->Bf,map_cons->Bj,mem_map->Bk,getElem?_eq_some_iff->Bl,replicate->Bm,mem_append->Bo,getElem?_map->Bs,lookup_cons->BC,length_drop->BE,getElem_mem->BM,getElem?_eq_none->BN,take_length->B0,map_map->B7,length_reverse->B8,mem_filterMap->Cc,mem_range->Cf,eq_nil_of_length_eq_zero->Cg,all_cons->Cq,length_eraseIdx_of_lt->Cs,perm_append_comm->Cu,length_nil->Cz,mem_of_mem_take->CB,nodup_cons->CV,append_nil->CW,take->CY,length_range->C2,mem_of_mem_drop->C5,all_map->C9,replicate_succ->Df,filterMap_cons->Dg,length_set->Dm,find?_cons->Dn,map_nil->Dz,getElem?_set_self->DA,drop_zero->DB,drop_eq_nil_of_le->DC,take_append_drop->DL,range'->DU,not_lt->DV,mem_iff_getElem->DW,mem_append_left->DX,foldl_cons->DY,map_congr_left->DZ,perm_append_comm_assoc->D1,pairwise_cons->D8,mem_or_eq_of_mem_set->Ee,reverse_perm->Ei,nodup_append->Ej,flatten_cons->Ek,ext_getElem?->El,any_cons->Ep,any_eq_true->Eu,forIn_cons->EG,getElem?_set_ne->EK,drop_drop->EL,mem_map_of_mem->EY,pairwise_map->Fe,mem_reverse->Fj,le_antisymm->Fk,range_succ->Fq,of_mem_zip->Fs,sum_cons->FQ,map_id'->FV,map_id->F7,foldl->Gq
open PySem.W renaming Frag->Af,keepIn->Az,nsIn->AB,mg_of->AO,mg_none_of->Bn,kitOne->Bu,fnOf->BJ,codeIn->BP,kia_tup->BV,kia_one->BW,findIn->CD,kitAny->Dr,kitx_list->D5,kitx_dict->D6,callWith_K->EO,specialIn->EZ,methodObj->E1,instObj->Ff,OpenLaw->Fg,lookIn->Fp,mroIn->Fy,looks_findIn->Gu,looks_mroIn->GX,kas_item_eq->GZ,hideAll_get->G8
open PySem.Heap renaming get?_push_of_some->Ai,lt_size->Au,get?_push_size->Aw,get?_update_self->B9,size_push->Ci,get?_update_ne->Dh,get?_update_other->DD,SameBut->DE,size_update->DP,get?_push_ne->En
open Nat renaming le_refl->Ak,le_trans->AD,ne_of_lt->AF,lt_of_lt_of_le->AR,le_succ_of_le->AS,lt_succ_of_lt->Bw,zero_le->Bx,lt_irrefl->B6,lt_succ_self->CJ,le_succ->C6,ne_of_gt->De,add_sub_cancel_left->Dt,le_of_lt->D4,le_of_eq->EF,mul_le_mul_right->ER,succ_mul->F2,sub_zero->F3,mul_add->Gp
open PyProof.Rows renaming wpS_bind->Ap,wpS_pure->AE,slot_tuple_getitem->Bd,SortSt->Bp,Keyed->BG,wpS_forRange->BS,wpS_modify->Cw,shownAll_eq_map->CF,wpS_mono->CQ,sortedS->Ds,SortKind->Dv,envOfC->DH,callWith_type1->DK,listUpdate_at->D0,IsTup->Ef,wpS_get->Eg,AllBare->Eo,wpS_lift->E6,slicePart_none->E9,seqEpoch_at->Fc,args_tuple_getitem->Fo,listItems_at->Fw,StrsAre->FU,sortedHeap_old->FY,args_list_sort->FZ,Subscript_->F1,sortedHeap_at->Gi,plain_sorted->Gs,entry_sorted->Gv,args_sorted1->Gx,IntsAre->GQ,kind_sorted->GY
open Bool renaming and_eq_true->Av,false_ne_true->AG,true_and->AK,and_false->Bg,false_and->BR,eq_iff_iff->BY,eq_false_iff->DF,false_eq_true->Ea,or_eq_true->Ft
open Or renaming inl->AA,inr->FO
open PySem.Value renaming ref->AI,type->AW,str->BK,int->Cm,none->CN,builtin->DN,isStrOf_shape->EN,isStrOf->EW,bool->Fx,float->F0
open Sum renaming inr->AL,inl->EX
open PySem.Str renaming ofString->AZ,length_append->BU,length->Fd
open PySem.PyData renaming strOk->A1,shown->A4,keyHash->Bv,str->By,tuple->C4,showable->Ez,depth->E4
open Array renaming toList_append->A3,perm_iff_toList_perm->Bc,length_toList->Bh,all_eq_true_iff_forall_mem->Bz,getElem?_eq_getElem->BL,toList_push->B3,getElem?_toList->CZ,toList_reverse->DT,toList_inj->Fh
open PySem.Builtin.Tuple renaming tupleExact->A9,tupleItemsOf->DM
open List.Perm renaming append_left->Bi,append_right->CH,trans->Da,refl->Do,eq_nil->E2
open Int renaming toNat->Bq,toNat_natCast->BA,emod_lt_of_pos->Cv,emod_nonneg->CC,le_refl->CP,mul_nonneg->FJ
open PySem.NameKind renaming free->Br,cell->DI
open PySem.SetTable renaming fresh->Bt,grown->C1,below->Dp
open PySem.Builtin.Slice renaming slicePlaces->BB,sliceAdjust->B1,sliceApplied->CO
open PySem.Obj renaming mapSeq->BO,data_mapFields->Ct,isFreed_of_fields->DO,putSet->Gz
open PySem.Heap.SameBut renaming update->BZ
open True renaming intro->B4
open False renaming elim->Ca
open PySem.Around renaming under_plainId->Cd
open PySem.F renaming plainAttrs_list->Ce,called_set->Ck,type_list_append->Dc,slot_list_append->Dd,args_tuple_add_2->Eb,entry_tuple_add->Eh,slot_tuple_add->Es,plain_list_iadd->Ew,slot_dict_get->Ey,slot_tuple_mul->FA
open PySem.Data renaming set->Co,seq->Ex,fields->F8
open Option renaming some->Cp
open PySem.Txt renaming slice->Cr,slice_le->EE
open PySem.Builtin.Frozenset renaming updateFrom->CA
open PySem.PassesOwn renaming never->CI
open ForInStep renaming yield->CK
open PySem.Builtin.List renaming listExtendWith->CL,listItems->D9
open PySem.Builtin.Str renaming strSliceIndices->CM,reprChar->CT
open PyProof.Rows.F renaming plain_set_update_loop->CU
open Array.Perm renaming refl->C7
open Ne renaming symm->D7
open PySem.Calls renaming call_function_entry->Ec,evalArgs_plain->EJ,spliced_cons->E3
open PySem.Shared renaming TypeIs->Ed
open PySem.StrLaws renaming join_length_le->Er
open PyProof.Rows.SortSt renaming mk'->Et
open List.Pairwise renaming nil->EH
open PySem.Code renaming quiet_builtin->E5
open PySem.Paired renaming length->FD
open Eq renaming symm->FK
open PySem.SeqAt renaming EqAt->Gm
open PySem.Walks renaming toS->Gy
theorem Ia{c:Prop}{h:Decidable c}(n:¬c){α:Sort u}{t e:α}:ite c t e=e:=if_neg n
theorem Ib{c:Prop}{h:Decidable c}(n:c){α:Sort u}{t e:α}:ite c t e=t:=if_pos n
theorem Ic{p:Prop}[s:Decidable p](h:p):decide p=true:=decide_eq_true h
theorem Ie{p:Prop}[s:Decidable p](h:¬p):decide p=false:=decide_eq_false h
theorem Ig{p:Prop}[s:Decidable p](h:decide p=true):p:=of_decide_eq_true h
theorem Ih{α:Sort u}{β:Sort v}{γ:Sort w}{f:α->β->γ}:∀a b,f a b=f a b:=fun _ _=>rfl
abbrev Ii:=List (PySem.Addr×PySem.Obj)
namespace L2
open PySem PySem.Spec PyProof.Rows
variable{P:Ar}{w:AQ}{H H':Hp}{h h':A8}{e:Bb}{X:Cx}{dz:List (Ah×Obj)}{σ:St}{s:Ac}{pos:Pos}{E:Ab->Ac->Prop}{te:TE}{A:AJ}{C f:Ah}{es:List Bb}
inductive Ex3{α β γ:Type}(p:α->β->γ->Prop):Prop
 | mk (a:α) (b:β) (c:γ) (h:p a b c):Ex3 p
inductive Aw3(a b c:Prop):Prop
 | mk (h:a) (i:b) (j:c):Aw3 a b c
inductive Aw6(a b c d e f:Prop):Prop
 | mk (h:a) (i:b) (j:c) (k:d) (l:e) (m:f):Aw6 a b c d e f
theorem gD{α:Type}{z:List α}(h:z.length=1):∃ B,z=[B]:=by
 cases z with
 | nil=>simp at h
 | cons B D=>
  cases D with
  | nil=>exact⟨B,rfl⟩
  | cons _ _=>simp at h
theorem rJ{α:Type}{z:List α}(h:z.length=2):∃ B a1,z=[B,a1]:=by
 cases z with
 | nil=>simp at h
 | cons B D=>
  cases D with
  | nil=>simp at h
  | cons a1 J=>
   cases J with
   | nil=>exact⟨B,a1,rfl⟩
   | cons _ _=>simp at h
theorem aCy{α:Type}{z:List α}(h:z.length=3):∃ B a1 a2,z=[B,a1,a2]:=by
 cases z with
 | nil=>simp at h
 | cons B J=>
  cases J with
  | nil=>simp at h
  | cons a1 O=>
   cases O with
   | nil=>simp at h
   | cons a2 D=>
    cases D with
    | nil=>exact⟨B,a1,a2,rfl⟩
    | cons _ _=>simp at h
theorem aJI{α:Type}{z:List α}(h:z.length=4):∃ B a1 a2 a3,z=[B,a1,a2,a3]:=by
 cases z with
 | nil=>simp at h
 | cons B J=>
  cases J with
  | nil=>simp at h
  | cons a1 O=>
   cases O with
   | nil=>simp at h
   | cons a2 D=>
    cases D with
    | nil=>simp at h
    | cons a3 W=>
     cases W with
     | nil=>exact⟨B,a1,a2,a3,rfl⟩
     | cons _ _=>simp at h
theorem aIU{α:Type}{z:List α}(h:z.length=5):∃ B a1 a2 a3 a4,z=[B,a1,a2,a3,a4]:=by
 cases z with
 | nil=>simp at h
 | cons B O=>
  cases O with
  | nil=>simp at h
  | cons a1 W=>
   cases W with
   | nil=>simp at h
   | cons a2 J=>
    cases J with
    | nil=>simp at h
    | cons a3 Y=>
     cases Y with
     | nil=>simp at h
     | cons a4 D=>
      cases D with
      | nil=>exact⟨B,a1,a2,a3,a4,rfl⟩
      | cons _ _=>simp at h
abbrev Key:=Sum Int Str
def rK:Key->Ab->Bool
 | .inl k,v=>Value.isInt k v
 | .inr x,v=>EW x v
def aGX(w:AQ):Key->Int
 | .inl k=>hashInt k
 | .inr x=>hashStr w x
theorem dW:∀{k:Key}{v:Ab},rK k v=true->(∃ i t,k=EX i/\v=Cm i t)\/(∃ x t,k=AL x/\v=BK x t)
 | .inl i,v,h=>by
  obtain⟨t,e⟩:=Value.isInt_shape (k:=i) (v:=v) h;exact .inl ⟨i,t,rfl,e⟩
 | .inr x,v,h=>by
  obtain⟨t,e⟩:=EN (x:=x) (v:=v) h;exact .inr ⟨x,t,rfl,e⟩
theorem aCz(i:Int)(t:Tok):rK (.inl i) (.int i t)=true:=by simp[rK,Value.isInt]
theorem aCA(x:Str)(t:Tok):rK (.inr x) (.str x t)=true:=by simp[rK,EW]
theorem aGY(a b:Int):decide ((EX a:Key)=EX b)=(a==b):=by
 by_cases e:a=b
 .subst e;simp
 .have h:¬ (EX a:Key)=EX b:=fun q=>e (EX.inj q);rw[Ie h];exact(beq_eq_false_iff_ne.mpr e).symm
theorem aGZ(a b:Str):decide ((AL a:Key)=AL b)=decide (a=b):=by
 by_cases e:a=b
 .subst e;simp
 .have h:¬ (AL a:Key)=AL b:=fun q=>e (AL.inj q);rw[Ie h,Ie e]
theorem aG0(a:Int)(b:Str):decide ((EX a:Key)=AL b)=false:=Ie (fun q=>nomatch q)
theorem aG1(a:Str)(b:Int):decide ((AL a:Key)=EX b)=false:=Ie (fun q=>nomatch q)
def dE(prog:Ar)(w:AQ):PySem.KeyKind prog w Key where
 is:=rK
 hash:=aGX w
 inj:=fun v a b ha hb=>by
  rcases dW ha with⟨i,t,rfl,rfl⟩|⟨x,t,rfl,rfl⟩
  .rcases dW hb with⟨j,u,rfl,e⟩|⟨y,u,rfl,e⟩
   .injection e with e1 _;rw[e1]
   .exact nomatch e
  .rcases dW hb with⟨j,u,rfl,e⟩|⟨y,u,rfl,e⟩
   .exact nomatch e
   .injection e with e1 _;rw[e1]
 byValue:=fun k v h=>by
  rcases dW h with⟨i,t,rfl,rfl⟩|⟨x,t,rfl,rfl⟩<;>rfl
 pyHash:=fun hv h=>by
  rcases dW hv with⟨i,t,rfl,rfl⟩|⟨x,t,rfl,rfl⟩
  .exact wpAny_pyHash_int h
  .exact wpAny_pyHash_str h
 eqBool:=fun hu hv h=>by
  rcases dW hu with⟨i,t,rfl,rfl⟩|⟨x,t,rfl,rfl⟩
  .rcases dW hv with⟨j,u,rfl,rfl⟩|⟨y,u,rfl,rfl⟩
   .rw[aGY]at h;exact wpAny_eqBool_int h
   .rw[aG0]at h;exact SeqAt.EqAt.int_str i t y u _ _ _ _ h
  .rcases dW hv with⟨j,u,rfl,rfl⟩|⟨y,u,rfl,rfl⟩
   .rw[aG1]at h;exact SeqAt.EqAt.str_int x t j u _ _ _ _ h
   .rw[aGZ]at h;exact wpAny_eqBool_str h
 «strs»:=fun k x t v h=>by
  rcases dW h with⟨i,u,rfl,e⟩|⟨y,u,rfl,e⟩
  .exact nomatch e
  .injection e with e1 _;subst e1;cases v<;>rfl
theorem yL(prog:Ar)(w:AQ)(i:Int)(t:Tok):(dE prog w).is (.inl i) (.int i t)=true:=aCz i t
theorem yM(prog:Ar)(w:AQ)(x:Str)(t:Tok):(dE prog w).is (.inr x) (.str x t)=true:=aCA x t
inductive V where
 | non|bl (b:Bool)|int (i:Int)|str (x:Str)|byt (b:Array UInt8)|flt (b:UInt64)|ref (a:Ah)|ty (n:String)
 deriving DecidableEq
def cW:V->Ab->Prop
 | .non,u=>u=CN
 | .bl b,u=>u=Fx b
 | .int i,u=>∃ t,u=Cm i t
 | .str x,u=>∃ t,u=BK x t
 | .byt b,u=>∃ t,u=Value.bytes b t
 | .flt b,u=>∃ t,u=F0 b t
 | .ref a,u=>u=AI a
 | .ty n,u=>u=AW n
abbrev cJ:List V->List Ab->Prop:=FI cW
theorem cJ.length{xs:List V}{z:List Ab}(r:cJ xs z):xs.length=z.length:=FD r
theorem cJ.get:∀{xs:List V}{z:List Ab}{i:Nat}{x:V},cJ xs z->xs[i]?=some x->∃ u,z[i]?=some u/\cW x u
 | _,_,_,_,.nil,e=>by simp at e
 | _,_,0,_,.cons r _,e=>by simp at e;subst e;exact⟨_,rfl,r⟩
 | _,_,i+1,x,.cons _ t,e=>by
  obtain⟨u,h1,h2⟩:=cJ.get (i:=i) (x:=x) t (by simpa using e);exact⟨u,by simpa using h1,h2⟩
theorem cJ.set{x:V}{u:Ab}(r:cW x u):∀{xs:List V}{z:List Ab} (i:Nat),cJ xs z->cJ (xs.set i x) (z.set i u)
 | _,_,_,.nil=>.nil
 | _,_,0,.cons _ t=>.cons r t
 | _,_,i+1,.cons q t=>.cons q (cJ.set r i t)
theorem cJ.append:∀{xs ys:List V}{B z:List Ab},cJ xs B->cJ ys z->cJ (xs++ys) (B++z)
 | _,_,_,_,.nil,s=>s
 | _,_,_,_,.cons r t,s=>.cons r (cJ.append t s)
theorem cJ.take:∀{xs:List V}{z:List Ab} (n:Nat),cJ xs z->cJ (xs.take n) (z.take n)
 | _,_,0,_=>.nil
 | _,_,_+1,.nil=>.nil
 | _,_,n+1,.cons r t=>.cons r (cJ.take n t)
theorem cJ.drop:∀{xs:List V}{z:List Ab} (n:Nat),cJ xs z->cJ (xs.drop n) (z.drop n)
 | _,_,0,r=>r
 | _,_,_+1,.nil=>.nil
 | _,_,n+1,.cons _ t=>cJ.drop n t
def nE:Option V->Option Ab->Prop
 | some v,some u=>cW v u
 | none,none=>True
 | _,_=>False
def KV{κ:Type}:List (κ×V)->List (κ×Ab)->Prop:=FI fun(p:κ×V) (q:κ×Ab)=>p.1=q.1/\cW p.2 q.2
def kV:Key->V
 | .inl i=>.int i
 | .inr x=>.str x
inductive HO where
  | lst (xs:List V)
  | tup (xs:List V)
  | dK (fc:List (Key×V))|dT (fc:List (List Key×V))
  | set (S:Int->Bool) (n:Nat)
  | ins (C dx:Ah) (fs:List (Str×V))
  | own (x:Ah)
  | xd (fs:List (Str×V))
  | met (f x:Ah)
  | rng (lo hi:Int)
  | frz (o:Obj) (u:HO)
  | tbl (ps:Array Ab)
  | ext (φ:A8->Prop)
abbrev Hp:=Ah->Option HO
def upd(H:Hp)(a:Ah)(o:HO):Hp:=fun b=>if b=a then some o else H b
theorem aF{H:Hp}{a:Ah}{o:HO}:upd H a o a=some o:=by unfold upd;rw[Ib rfl]
theorem bD{H:Hp}{a b:Ah}{o:HO}(h:b≠a):upd H a o b=H b:=by unfold upd;rw[Ia h]
theorem aFo{H:Hp}{a:Ah}{o u:HO}:upd (upd H a o) a u=upd H a u:=by
 funext b;unfold upd;split<;>rfl
theorem aDq{H:Hp}{a b:Ah}{o u:HO}(h:H a=some o)(h':H b=some u)(d:o≠u):a≠b:=by
 intro e;subst e;rw[h]at h';exact d (Cp.inj h')
theorem bG{H:Hp}{a b:Ah}{o:HO}(h:H a=some o)(h':H b=none):a≠b:=by
 intro e;subst e;rw[h]at h';cases h'
section
variable(P:Ar)(w:AQ)
def kD(h:A8)(a:Ah)(aP:Array Ab):Prop:=∃ o,h.get? a=some o/\(o.cls=.type "tuple"/\∃ n,o.data=.seq aP n)/\o.dict=none
theorem kD.tup{h:A8}{a:Ah}{aP:Array Ab}(x:kD h a aP):Ef h a aP:=by
 obtain⟨o,e,c,_⟩:=x;exact⟨o,e,c⟩
instance kD.coe{h:A8}{a:Ah}{aP:Array Ab}:Coe (kD h a aP) (Ef h a aP):=⟨kD.tup⟩
theorem kD.lt{h:A8}{a:Ah}{aP:Array Ab}(x:kD h a aP):a<h.objs.size:=x.tup.lt
def c7(H:Hp)(h:A8)(a:Ah):HO->Prop
 | .lst xs=>xs.length<=sizeLine/\∃(its:List Ab) (n:Nat),cJ xs its/\h.get? a=some { cls:=.type "list",data:=.seq its.toArray n }
 | .tup xs=>xs.length<=sizeLine/\∃ its:List Ab,cJ xs its/\kD h a its.toArray
 | .dK fc=>fc.length<=sizeLine/\(a==sysModules)=false/\∃ vs,KV fc vs/\h.DictOf (dE P w) a vs
 | .dT fc=>fc.length<=sizeLine/\(a==sysModules)=false/\∃ xs:List (List Key×Ah×Ab),
   FI (fun(p:List Key×V) (q:List Key×Ah×Ab)=>p.1=q.1/\H q.2.1=some (.tup (p.1.map kV))/\cW p.2 q.2.2) fc xs/\
   ∃ o es ep,h.get? a=some o/\o.ExactDict/\o.data=.dict es ep/\es.toList=xs.map (entryOfKey (tupleKind (dE P w)))/\(xs.map (·.1)).Nodup
 | .set S n=>h.SetOf (intKind P w) a S n
 | .ins C dx fs=>H dx=some (.own a)/\fs.length<=1000/\dx≠a/\h.get? a=some (Ff C dx)/\
   ∃ mA,h.Ns1 dx mA/\(∀ f,nE (fs.lookup f) (mA f))/\PySem.Within mA (fs.map (·.1))
 | .own _=>∃ o,h.get? a=some o
 | .xd fs=>∃ mA,h.Ns1 a mA/\∀ f,nE (fs.lookup f) (mA f)
 | .rng lo hi=>∃ t u v,h.get? a=some { cls:=.type "range",data:=.fields #[.int lo t,.int hi u,.int 1 v] }
 | .frz o u=>h.get? a=some o/\c7 H h a u
 | .tbl ps=>h.get? a=some { cls:=.none,data:=.fields ps }
 | .met f x=>h.get? a=some (E1 (.ref f) (.ref x))
 | .ext φ=>φ h/\(∃ o,h.get? a=some o)/\∀ h1 h2:A8,φ h1->(∀ o,h1.get? a=some o->h2.get? a=some o)->φ h2
def HOk(H:Hp)(h:A8):Prop:=∀ a o,H a=some o->c7 P w H h a o
end
section
variable{a:Ah}{o:HO}
theorem c7.lt(x:c7 P w H h a o):a<h.objs.size:=by
 cases o with
 | lst xs=>obtain⟨_,_,_,_,e⟩:=x;exact Au e
 | tup xs=>obtain⟨_,_,_,p⟩:=x;exact p.lt
 | dK fc=>obtain⟨_,_,_,_,o,_,_,e,_⟩:=x;exact Au e
 | dT fc=>obtain⟨_,_,_,_,o,_,_,e,_⟩:=x;exact Au e
 | set S n=>obtain⟨o,_,_,_,e,_⟩:=x;exact Au e
 | ins C dx fs=>obtain⟨_,_,_,e,_⟩:=x;exact Au e
 | own y=>obtain⟨_,e⟩:=x;exact Au e
 | xd fs=>obtain⟨_,⟨_,_,_,e,_⟩,_⟩:=x;exact Au e
 | rng lo hi=>obtain⟨_,_,_,e⟩:=x;exact Au e
 | frz ob u=>obtain⟨e,_⟩:=x;exact Au e
 | tbl ps=>exact Au (show h.get? a=some _ from x)
 | met f y=>exact Au (show h.get? a=some _ from x)
 | ext φ=>obtain⟨_,⟨_,e⟩,_⟩:=x;exact Au e
theorem Paired.mapP{α β:Type}{F G:α->β->Prop}:∀{l₁:List α}{z:List β},FI F l₁ z->(∀ a b,F a b->G a b)->FI G l₁ z
 | _,_,.nil,_=>.nil
 | _,_,.cons r t,f=>.cons (f _ _ r) (Paired.mapP t f)
theorem c7.stay(x:c7 P w H h a o)(k:∀ b u,(b=a\/H b=some (.own a))->h.get? b=some u->h'.get? b=some u)
  (D:∀ b,H b=some (.own a)->H' b=some (.own a)) (ht:∀ b xs,H b=some (.tup xs)->H' b=some (.tup xs)):c7 P w H' h' a o:=by
 induction o with
 | lst xs=>obtain⟨z,its,n,r,e⟩:=x;exact⟨z,its,n,r,k _ _ (.inl rfl) e⟩
 | tup xs=>obtain⟨z,its,r,ob,e,c⟩:=x;exact⟨z,its,r,ob,k _ _ (.inl rfl) e,c⟩
 | dK fc=>obtain⟨z,y,vs,r,ob,es,ep,e,c⟩:=x;exact⟨z,y,vs,r,ob,es,ep,k _ _ (.inl rfl) e,c⟩
 | dT fc=>
  obtain⟨z,y,xs,r,ob,es,ep,e,c⟩:=x;exact⟨z,y,xs,Paired.mapP r fun p q z=>⟨z.1,ht _ _ z.2.1,z.2.2⟩,ob,es,ep,k _ _ (.inl rfl) e,c⟩
 | set S n=>obtain⟨ob,es,ep,t,e,c⟩:=x;exact⟨ob,es,ep,t,k _ _ (.inl rfl) e,c⟩
 | ins C dx fs=>
  obtain⟨d,z,ne,e,mA,⟨od,es,ep,e2,c⟩,r⟩:=x;exact⟨D _ d,z,ne,k _ _ (.inl rfl) e,mA,⟨od,es,ep,k _ _ (.inr d) e2,c⟩,r⟩
 | own y=>obtain⟨ob,e⟩:=x;exact⟨ob,k _ _ (.inl rfl) e⟩
 | xd fs=>obtain⟨mA,⟨od,es,ep,e,c⟩,r⟩:=x;exact⟨mA,⟨od,es,ep,k _ _ (.inl rfl) e,c⟩,r⟩
 | rng lo hi=>obtain⟨t,u,v,e⟩:=x;exact⟨t,u,v,k _ _ (.inl rfl) e⟩
 | frz ob u B=>obtain⟨e,q⟩:=x;exact⟨k _ _ (.inl rfl) e,B q⟩
 | tbl ps=>
  have e:h.get? a=some { cls:=.none,data:=.fields ps }:=x;show h'.get? a=some { cls:=.none,data:=.fields ps };exact k a _ (.inl rfl) e
 | met f y=>
  have e:h.get? a=some (E1 (.ref f) (.ref y)):=x;show h'.get? a=some (E1 (.ref f) (.ref y));exact k a _ (.inl rfl) e
 | ext φ=>obtain⟨p,⟨o,e⟩,st⟩:=x;exact⟨st _ _ p fun o q=>k _ _ (.inl rfl) q,⟨o,k _ _ (.inl rfl) e⟩,st⟩
theorem HOk.lt(x:HOk P w H h)(e:H a=some o):a<h.objs.size:=(x a o e).lt
theorem HOk.fresh(x:HOk P w H h)(e:h.objs.size<=a):H a=none:=by
 cases q:H a with
 | none=>rfl
 | some u=>exact absurd (AR (x.lt q) e) (B6 _)
theorem HOk.kept(x:HOk P w H h)(k:∀ b u,h.get? b=some u->h'.get? b=some u):HOk P w H h':=fun a o e=>
 (x a o e).stay (fun b u _ q=>k b u q) (fun _ q=>q) fun _ _ q=>q
theorem HOk.laid(x:HOk P w H h)(k:∀ b u,h.get? b=some u->h'.get? b=some u)(B:h.objs.size<=a)(new:c7 P w (upd H a o) h' a o):HOk P w (upd H a o) h':=fun b u e=>by
 have hn:=x.fresh B;by_cases z:b=a
 .subst z;rw[aF]at e;cases e;exact new
 .rw[bD z]at e;exact(x b u e).stay (fun c v _ q=>k c v q) (fun c q=>by rw[bD (bG q hn)];exact q) fun c xs q=>by rw[bD (bG q hn)];exact q
end
def Rd(H:Hp)(a:Ah)(u:HO):Prop:=H a=some u\/∃ o,H a=some (.frz o u)
theorem Rd.ok{P:Ar}{w:AQ}{H:Hp}{h:A8}{a:Ah}{u:HO}(r:Rd H a u)(x:HOk P w H h):c7 P w H h a u:=by
 rcases r with r|⟨o,r⟩
 .exact x a u r
 .obtain⟨_,q⟩:=x a _ r;exact q
def Mut:Option HO->Prop
 | some (.lst _)=>True
 | some (.dK _)=>True
 | some (.dT _)=>True
 | some (.set _ _)=>True
 | some (.ins _ _ _)=>True
 | some (.ext _)=>True
 | _=>False
section
variable{x e:Ah}{o':HO}
theorem HOk.write(ok:HOk P w H h)(O:Mut (H x))(Z:e=x\/H e=some (.own x))(k:∀ b u,b≠e->h.get? b=some u->h'.get? b=some u)(Y:∃ u,h'.get? e=some u)
  (new:c7 P w (upd H x o') h' x o'):HOk P w (upd H x o') h':=fun b u q=>by
 have D:∀ c y,H c=some (.own y)->c≠x:=fun c y r z=>by subst z;rw[r]at O;exact O
 have J:∀ c xs,H c=some (.tup xs)->c≠x:=fun c xs r z=>by subst z;rw[r]at O;exact O
 by_cases W:b=x
 .subst W;rw[aF]at q;cases q;exact new
 .rw[bD W]at q;by_cases B:b=e
  .have q':H b=some (.own x):=by
    rcases Z with z|z
    .exact absurd (B.trans z) W
    .rw[B];exact z
   rw[q]at q';cases q';obtain⟨v,hv⟩:=Y;exact⟨v,by rw[B];exact hv⟩
  .refine(ok b u q).stay (fun c v hc r=>k c v ?_ r) (fun c r=>by rw[bD (D c b r)];exact r) fun c xs r=>by rw[bD (J c xs r)];exact r
   rcases hc with rfl|hc
   .exact B
   .rintro rfl;rcases Z with z|z
    .exact D c b hc z
    .rw[hc]at z;cases z;exact W rfl
end
structure Un(fs ex:List Ah)(H H':Hp)(h h':A8):Prop where
 keep:∀ b o,h.get? b=some o->H b=none->b∉fs->b∉ex->h'.get? b=some o
 slot:∀ b o,h.get? b=some o->H b=none->b∈fs->b∉ex->∃ sl,h'.get? b=some { o with slots:=sl }
 free:∀ b o,h.get? b=some o->H b=none->b∉ex->H' b=none
 there:∀ b o,h.get? b=some o->b∉ex->∃ o',h'.get? b=some o'
 tups:∀ b xs,H b=some (.tup xs)->H' b=some (.tup xs)
 frzs:∀ b o u,H b=some (.frz o u)->H' b=some (.frz o u)
 tbls:∀ b ps,H b=some (.tbl ps)->∃ more,H' b=some (.tbl (ps++more))
section
variable{fs fs' ex ex':List Ah}{H1 H2:Hp}{h1 h2:A8}{a x e:Ah}{o:HO}
theorem Un.any(u:Un fs ex H H1 h h1){b:Ah}{ob:Obj}(q:h.get? b=some ob)(n:H b=none)(z:b∉ex):∃ D,h1.get? b=some { ob with slots:=D }:=by
 by_cases B:b∈fs
 .exact u.slot b ob q n B z
 .exact⟨ob.slots,u.keep b ob q n B z⟩
theorem Un.kept(k:∀ b u,h.get? b=some u->h'.get? b=some u):Un fs ex H H h h':=
 ⟨fun b ob q _ _ _=>k b ob q,fun b ob q _ _ _=>⟨ob.slots,k b ob q⟩,fun _ _ _ n _=>n,fun b ob q _=>⟨ob,k b ob q⟩,fun _ _ q=>q,fun _ _ _ q=>q,fun _ ps q=>⟨#[],by rw[q];simp⟩⟩
theorem Un.refl:Un fs ex H H h h:=Un.kept fun _ _ q=>q
theorem Un.laid(k:∀ b u,h.get? b=some u->h'.get? b=some u)(z:h.objs.size<=a)(hn:H a=none):Un fs ex H (upd H a o) h h' where
 keep:=fun b u q _ _ _=>k b u q
 slot:=fun b u q _ _ _=>⟨u.slots,k b u q⟩
 free:=fun b u q n _=>by rw[bD (AF (AR (Au q) z))];exact n
 there:=fun b u q _=>⟨u,k b u q⟩
 tups:=fun b xs q=>by rw[bD (bG q hn)];exact q
 frzs:=fun b u xs q=>by rw[bD (bG q hn)];exact q
 tbls:=fun b ps q=>⟨#[],by rw[bD (bG q hn),q];simp⟩
theorem Un.write(D:Mut (H x))(Y:e=x\/H e=some (.own x))(k:∀ b u,b≠e->h.get? b=some u->h'.get? b=some u)(J:∃ u,h'.get? e=some u):Un fs ex H (upd H x o) h h':=by
 have O:∀ b,H b=none->b≠x:=fun b n z=>by subst z;rw[n]at D;exact D
 have W:∀ b,H b=none->b≠e:=fun b n z=>by
  subst z;rcases Y with r|r
  .exact O b n r
  .rw[n]at r;cases r
 have hm:∀ b u,H b=some u->¬ Mut (some u)->b≠x:=fun b u q nm z=>by subst z;rw[q]at D;exact nm D
 refine⟨fun b u q n _ _=>k b u (W b n) q,fun b u q n _ _=>⟨u.slots,k b u (W b n) q⟩,fun b u q n _=>by rw[bD (O b n)];exact n,fun b u q _=>?_,
  fun b xs q=>by rw[bD (hm b _ q fun z=>z)];exact q,fun b u xs q=>by rw[bD (hm b _ q fun z=>z)];exact q,fun b ps q=>⟨#[],by rw[bD (hm b _ q fun z=>z),q];simp⟩⟩
 by_cases B:b=e
 .subst B;exact J
 .exact⟨u,k b u B q⟩
end
def trk(h:A8)(H:Hp):List Ah:=(AU h.objs.size).filter fun a=>(H a).isSome
def xC(h:A8)(H:Hp):A8:=PySem.W.hideAll h (trk h H)
theorem aCB(h:A8)(H:Hp):(xC h H).objs.size=h.objs.size:=PySem.W.hideAll_size _ _
theorem aDr{h:A8}{H:Hp}{b:Ah}{o:Obj}(e:h.get? b=some o)(n:H b=none):(xC h H).get? b=some o:=
 PySem.W.hideAll_get _ e fun hm=>by
  have q:(H b).isSome=true:=(List.mem_filter.mp hm).2;rw[n]at q;simp at q
theorem aFp{h:A8}{H:Hp}{b:Ah}{o:Obj}(e:(xC h H).get? b=some o):h.get? b=some o/\H b=none:=by
 have B:h.get? b=some o:=PySem.W.of_hideAll (trk h H) e;refine⟨B,?_⟩;cases q:H b with
 | none=>rfl
 | some x=>
  have hm:b∈trk h H:=List.mem_filter.mpr ⟨Cf.mpr (Au B),by simp[q]⟩;have z:(xC h H).get? b=none:=PySem.W.hideAll_none (trk h H) hm;rw[z]at e;cases e
def aFq(g h:A8)(L:Ah):List (Ah×Obj):=(AU h.objs.size).filterMap fun a=>if a=L\/(g.get? a).isSome=true then none else(h.get? a).map fun o=>(a,o)
def dR(g h:A8)(L d:Ah):List (Ah×Obj):=(aFq g h L).filter fun p=>decide (p.1≠d)
structure Mod(K:Af)(mg:Str->Option Ab)(base:A8):Prop where
 kin:K.In base
 glob:base.Ns mainGlobals mg
 blt:∃ mb,base.Ns builtinsNs mb/\∀ x:Str,x≠"__name__"->mb x=bootBuiltins x
 nolimit:base.NoLimit
structure Cx where
 prog:Ar
 w:AQ
 K:Af
 mg:Str->Option Ab
 base:A8
 A:AJ
 N:List Str
 s₀:Ac
 H₀:Hp
 env:Env
 outer:List Env
 stack:List Env
 ex:List Ah
 fn:Str->Bool
 calm:Bool
 pn:List (Ah×Obj)
 xe:Ab->Ac->Prop
def frs(l:List Env):List Ah:=l.filterMap (·.frame)
abbrev Cx.fs(X:Cx):List Ah:=frs X.outer
def Vis(sc:Dw)(x:Str):Prop:=sc.names.lookup x=some .local\/sc.names.lookup x=some .cell\/sc.names.lookup x=some .free
def Loc(sc:Dw)(x:Str):Prop:=sc.names.lookup x=some .local\/sc.names.lookup x=some .cell
def aIV(env:Env)(h:A8)(m:Str->Option Ab)(x:Str)(u:Ab):Prop:=
 (env.kindOf x=some .local/\m x=some u)\/((env.kindOf x=some .cell\/env.kindOf x=some .free)/\∃ c,env.cells.lookup x=some c/\h.IsCell c (some u))
structure Cx.Ok(X:Cx):Prop where
 mod:Mod X.K X.mg X.base
 kind:X.env.scope.kind=.function
 glob:X.env.globals=mainGlobals
 blt:X.env.builtins=builtinsNs
 above:X.s₀.heap.objs.size<=X.env.locals
 inj:∀ x y c,X.env.cells.lookup x=some c->X.env.cells.lookup y=some c->x=y
 has:∀ x,(X.env.kindOf x=some .cell\/X.env.kindOf x=some .free)->∃ c,X.env.cells.lookup x=some c
 cab:∀ x c,X.fn x=true->X.env.cells.lookup x=some c->X.s₀.heap.objs.size<=c
 hd:X.calm=true->X.A.handled=none
 frames:X.A.frames=some X.stack
 stk:X.stack=X.outer\/(X.stack=X.env::X.outer/\X.env.frame=some X.env.locals)
 exf:∀ b∈X.ex,b≠X.env.locals/\∀ x c,X.env.cells.lookup x=some c->c≠b
 bs:∀ b o,X.base.get? b=some o->X.s₀.heap.get? b=some o/\X.H₀ b=none
 bsz:X.base.objs.size<=X.s₀.heap.objs.size
 noex:∀ b o,X.base.get? b=some o->b∉X.ex
 exfs:∀ b∈X.ex,b∉X.fs
 funs:X.s₀.heap.FunFrames X.base X.outer
 frf:∀ b∈X.fs,X.H₀ b=none
structure Inv(X:Cx)(dz:List (Ah×Obj))(σ:List (Option V))(H:Hp)(s:Ac):Prop where
 ok:X.Ok
 os:s.os=X.s₀.os
 bare:Eo s.gens
 base:Un X.fs X.ex X.H₀ H X.s₀.heap s.heap
 loc:∃ m,s.heap.Ns X.env.locals m/\∀(i:Nat) (x:Str) (v:V),X.N[i]?=some x->σ[i]?=some (some v)->Vis X.env.scope x->∃ u,cW v u/\aIV X.env s.heap m x u
 cell:∀ x c,X.env.cells.lookup x=some c->∃ v,s.heap.IsCell c v
 free:H X.env.locals=none
 freeC:∀ x c,X.env.cells.lookup x=some c->H c=none
 pin:∀ p∈X.pn++dz,s.heap.get? p.1=some p.2/\H p.1=none/\p.1≠X.env.locals/\p.1∉X.fs/\∀ v,p.2.data≠.cell v
 hok:HOk X.prog X.w H s.heap
 len:σ.length=X.N.length
section
variable{σ:List (Option V)}
theorem Cx.Ok.nofr(ok:X.Ok){b:Ah}{o:Obj}(e:X.base.get? b=some o):b∉X.fs:=fun z=>by
 have:=(ok.funs.mem z).1;rw[e]at this;cases this
theorem Inv.bs(I:Inv X dz σ H s):∀ b o,X.base.get? b=some o->s.heap.get? b=some o/\H b=none:=fun b o e=>
 ⟨I.base.keep b o (I.ok.bs b o e).1 (I.ok.bs b o e).2 (I.ok.nofr e) (I.ok.noex b o e),I.base.free b o (I.ok.bs b o e).1 (I.ok.bs b o e).2 (I.ok.noex b o e)⟩
theorem Inv.bk(I:Inv X dz σ H s):∀ b o,X.base.get? b=some o->s.heap.get? b=some o:=fun b o e=>(I.bs b o e).1
theorem Inv.mod(I:Inv X dz σ H s):Mod X.K X.mg X.base:=I.ok.mod
theorem Inv.kIn(I:Inv X dz σ H s):X.K.In s.heap:=I.ok.mod.kin.keeps I.bk
theorem Inv.lt(I:Inv X dz σ H s):X.env.locals<s.heap.objs.size:=let ⟨_,hn,_⟩:=I.loc;hn.lt
theorem Inv.sz(I:Inv X dz σ H s):X.s₀.heap.objs.size<=s.heap.objs.size:=AD I.ok.above (D4 I.lt)
theorem Inv.nofs(I:Inv X dz σ H s){a:Ah}(h:s.heap.objs.size<=a):a∉X.fs:=fun z=>by
 obtain⟨_,o,ho,_⟩:=I.ok.funs.mem z;exact absurd (AR (Au ho) (AD I.sz h)) (B6 _)
theorem Inv.cne(I:Inv X dz σ H s):∀ x c,X.env.cells.lookup x=some c->c≠X.env.locals:=fun x c e z=>by
 obtain⟨v,o,ho,hd⟩:=I.cell x c e;obtain⟨m,⟨o',es,ep,ho',hd',_⟩,_⟩:=I.loc;rw[z,ho']at ho;cases ho;rw[hd']at hd;cases hd
theorem Inv.funs(I:Inv X dz σ H s):s.heap.FunFrames X.base X.outer:=by
 have all:∀(l:List Env),(∀ b∈frs l,b∈X.fs)->X.s₀.heap.FunFrames X.base l->s.heap.FunFrames X.base l:=by
  intro l
  induction l with
  | nil=>intro _ _;trivial
  | cons env r O=>
   intro J W;obtain⟨hk,⟨L,o,hf,hn,ho,hd⟩,hr⟩:=W;have D:L∈X.fs:=J L (by unfold frs;rw[Dg,hf];exact AM);obtain⟨sl,e⟩:=I.base.slot L o ho (I.ok.frf L D) D fun z=>I.ok.exfs L z D;exact⟨hk,⟨L,_,hf,hn,e,hd⟩,O (fun b B=>J b (by unfold frs;rw[Dg,hf];exact AY _ B)) hr⟩
 exact all X.outer (fun _ B=>B) I.ok.funs
theorem Inv.stack(I:Inv X dz σ H s):s.heap.FunFrames X.base X.stack:=by
 rcases I.ok.stk with e|⟨e,z⟩
 .rw[e];exact I.funs
 .rw[e];obtain⟨m,hn,_⟩:=I.loc;refine .cons (by rw[I.ok.kind];decide) z hn ?_ I.funs;exact Heap.get?_none_of_le (AD I.ok.bsz I.ok.above)
theorem Inv.stkSub(I:Inv X dz σ H s):∀ b∈frs X.stack,b∈X.env.locals::X.fs:=fun b z=>by
 rcases I.ok.stk with e|⟨e,B⟩
 .rw[e]at z;exact AY _ z
 .rw[e]at z;unfold frs at z;rw[Dg,B]at z;exact z
theorem Inv.stkFree(I:Inv X dz σ H s):∀ b∈frs X.stack,H b=none:=fun b B=>by
 rcases Am.mp (I.stkSub b B)with e|B
 .rw[e];exact I.free
 .obtain⟨_,o,ho,_⟩:=I.ok.funs.mem B;exact I.base.free b o ho (I.ok.frf b B) fun z=>I.ok.exfs b z B
theorem Inv.step{g':Array Fz}{t':Nat}{d':Ha}{ch:List Ah}(I:Inv X dz σ H s)
  (O:∀ b∈ch,(b∈X.ex\/X.s₀.heap.objs.size<=b)/\b≠X.env.locals/\(∀ x c,X.env.cells.lookup x=some c->c≠b)/\∀ p∈X.pn++dz,p.1≠b)
  (keep:∀ b o,b≠X.env.locals->b∉X.fs->b∉ch->s.heap.get? b=some o->H b=none->h'.get? b=some o)
  (slot:∀ b o,b≠X.env.locals->b∈X.fs->b∉ch->s.heap.get? b=some o->H b=none->∃ sl,h'.get? b=some { o with slots:=sl }) (free:∀ b o,b∉ch->s.heap.get? b=some o->H b=none->H' b=none)
  (there:∀ b o,b∉ch->s.heap.get? b=some o->∃ o',h'.get? b=some o')
  (tups:∀ b xs,H b=some (.tup xs)->H' b=some (.tup xs)) (frzs:∀ b o u,H b=some (.frz o u)->H' b=some (.frz o u)) (tbls:∀ b ps,H b=some (.tbl ps)->∃ ae,H' b=some (.tbl (ps++ae)))
  (ns:∀ m,s.heap.Ns X.env.locals m->h'.Ns X.env.locals m) (hok:HOk X.prog X.w H' h') (hg:Eo g'):
  Inv X dz σ H' { s with heap:=h',gens:=g',drawn:=d',toks:=t' }:=by
 have ac:∀ b o,X.s₀.heap.get? b=some o->b≠X.env.locals:=fun b o e=>AF (AR (Au e) I.ok.above);have W:∀ b o,X.s₀.heap.get? b=some o->b∉X.ex->b∉ch:=fun b o e B Z=>by
  rcases(O b Z).1 with z|z
  .exact B z
  .exact absurd (AR (Au e) z) (B6 _)
 have J:∀ x c,X.env.cells.lookup x=some c->∀ v,s.heap.IsCell c v->h'.IsCell c v:=fun x c e v ⟨o,ho,hd⟩=>by
  have D:c∉ch:=fun z=>(O c z).2.2.1 x c e rfl;by_cases hc:c∈X.fs
  .obtain⟨sl,q⟩:=slot c o (I.cne x c e) hc D ho (I.freeC x c e);exact⟨_,q,hd⟩
  .exact⟨o,keep c o (I.cne x c e) hc D ho (I.freeC x c e),hd⟩
 refine⟨I.ok,I.os,hg,⟨fun b o e n Z B=>?_,fun b o e n Z B=>?_,fun b o e n B=>?_,fun b o e B=>?_,fun b xs e=>tups b xs (I.base.tups b xs e),fun b o xs e=>frzs b o xs (I.base.frzs b o xs e),fun b ps e=>?_⟩,?_,fun x c e=>?_,?_,fun x c e=>?_,fun p hp=>?_,hok,I.len⟩
 .exact keep b o (ac b o e) Z (W b o e B) (I.base.keep b o e n Z B) (I.base.free b o e n B)
 .obtain⟨sl,Y⟩:=I.base.slot b o e n Z B;obtain⟨sl',e2⟩:=slot b _ (ac b o e) Z (W b o e B) Y (I.base.free b o e n B);exact⟨sl',e2⟩
 .obtain⟨o',Y⟩:=I.base.there b o e B;exact free b o' (W b o e B) Y (I.base.free b o e n B)
 .obtain⟨o',Y⟩:=I.base.there b o e B;exact there b o' (W b o e B) Y
 .obtain⟨m1,Y⟩:=I.base.tbls b ps e;obtain⟨m2,e2⟩:=tbls b _ Y;exact⟨m1++m2,by rw[e2,Array.append_assoc]⟩
 .obtain⟨m,hn,hl⟩:=I.loc;refine⟨m,ns m hn,fun i x v Y e2 e3=>?_⟩;obtain⟨u,r,l⟩:=hl i x v Y e2 e3;refine⟨u,r,?_⟩;rcases l with l|⟨k,c,e,z⟩
  .exact .inl l
  .exact .inr ⟨k,c,e,J x c e _ z⟩
 .obtain⟨v,z⟩:=I.cell x c e;exact⟨v,J x c e v z⟩
 .obtain⟨m,⟨o,_,_,ho,_⟩,_⟩:=I.loc;exact free _ o (fun z=>(O _ z).2.1 rfl) ho I.free
 .obtain⟨v,o,ho,hd⟩:=I.cell x c e;exact free c o (fun z=>(O c z).2.2.1 x c e rfl) ho (I.freeC x c e)
 .obtain⟨e,n,ne,nf,d⟩:=I.pin p hp;have D:p.1∉ch:=fun z=>(O p.1 z).2.2.2 p hp rfl;exact⟨keep p.1 p.2 ne nf D e n,free p.1 p.2 D e n,ne,nf,d⟩
theorem Inv.un{t':Nat}(I:Inv X dz σ H s)(u:Un X.fs [] H H' s.heap h')(hok:HOk X.prog X.w H' h'):Inv X dz σ H' { s with heap:=h',toks:=t' }:=by
 obtain⟨m,⟨o,es,ep,ho,r⟩,_⟩:=id I.loc;obtain⟨sl,hL⟩:=u.any ho I.free (by simp);exact I.step (g':=s.gens) (d':=s.drawn) (ch:=[]) (fun _ z=>nomatch z) (fun b o _ B _ e n=>u.keep b o e n B (by simp)) (fun b o _ B _ e n=>u.slot b o e n B (by simp)) (fun b o _ e n=>u.free b o e n (by simp)) (fun b o _ e=>u.there b o e (by simp)) u.tups u.frzs u.tbls (fun D hm=>by
  obtain⟨o',es',ep',ho',r'⟩:=hm;rw[ho]at ho';cases ho';exact⟨_,es',ep',hL,r'⟩) hok I.bare
theorem Inv.call{g':Array Fz}{t':Nat}{d':Ha}{ch:List Ah}(I:Inv X dz σ H s)(u:Un (frs X.stack) ch H H' s.heap h')(hok:HOk X.prog X.w H' h')(O:Eo g')
  (B:∀ b∈ch,(b∈X.ex\/X.s₀.heap.objs.size<=b)/\b≠X.env.locals/\(∀ x c,X.env.cells.lookup x=some c->c≠b)/\∀ p∈X.pn++dz,p.1≠b):
  Inv X dz σ H' { s with heap:=h',gens:=g',drawn:=d',toks:=t' }:=by
 obtain⟨m,⟨o,es,ep,ho,r⟩,_⟩:=id I.loc;obtain⟨sl,D⟩:=u.any ho I.free fun z=>(B _ z).2.1 rfl;exact I.step (ch:=ch) B (fun b o D J hc e n=>u.keep b o e n (fun z=>(Am.mp (I.stkSub b z)).elim D J) hc) (fun b o _ _ hc e n=>u.any e n hc) (fun b o hc e n=>u.free b o e n hc) (fun b o hc e=>u.there b o e hc) u.tups u.frzs u.tbls (fun W hm=>by
  obtain⟨o',es',ep',ho',r'⟩:=hm;rw[ho]at ho';cases ho';exact⟨_,es',ep',D,r'⟩) hok O
theorem Inv.turned{t':Nat}{it:Ah}(I:Inv X dz σ H s)(k:∀ b o,b≠it->s.heap.get? b=some o->h'.get? b=some o)(hn:H it=none)(D:it≠X.env.locals)
  (h1:it∈X.ex\/X.s₀.heap.objs.size<=it) (h2:∀ x c,X.env.cells.lookup x=some c->c≠it) (O:∀ p∈X.pn++dz,p.1≠it):Inv X dz σ H { s with heap:=h',toks:=t' }:=by
 have B:∀ b u,H b=some u->b≠it:=fun b u e z=>by rw[z,hn]at e;cases e
 refine I.step (g':=s.gens) (d':=s.drawn) (ch:=[it]) (fun b J=>?_) (fun b o _ _ hc e _=>k b o (fun z=>hc (by simp[z])) e) (fun b o _ _ hc e _=>⟨o.slots,k b o (fun z=>hc (by simp[z])) e⟩) (fun _ _ _ _ n=>n)
  (fun b o hc e=>⟨o,k b o (fun z=>hc (by simp[z])) e⟩) (fun _ _ e=>e) (fun _ _ _ e=>e) (fun b ps e=>⟨#[],by rw[e];simp⟩) (fun m hm=>?_) (fun b u e=>?_) I.bare
 .have e:b=it:=by simpa using J
  subst e;exact⟨h1,D,h2,O⟩
 .obtain⟨o,es,ep,ho,r⟩:=hm;exact⟨o,es,ep,k _ o (D7 D) ho,r⟩
 .refine(I.hok b u e).stay (fun c v hc q=>k c v ?_ q) (fun _ q=>q) fun _ _ q=>q;rcases hc with z|z
  .rw[z];exact B b u e
  .exact B c _ z
theorem Inv.tok(I:Inv X dz σ H s)(t:Nat):Inv X dz σ H { s with toks:=t }:=I.un (h':=s.heap) (t':=t) Un.refl I.hok
theorem Inv.kept{t':Nat}(I:Inv X dz σ H s)(k:∀ b u,s.heap.get? b=some u->h'.get? b=some u):Inv X dz σ H { s with heap:=h',toks:=t' }:=I.un (Un.kept k) (I.hok.kept k)
theorem Inv.laid{a:Ah}{o:HO}{t':Nat}(I:Inv X dz σ H s)(k:∀ b u,s.heap.get? b=some u->h'.get? b=some u)(z:s.heap.objs.size<=a)(new:c7 X.prog X.w (upd H a o) h' a o):
  Inv X dz σ (upd H a o) { s with heap:=h',toks:=t' }:=I.un (Un.laid k z (I.hok.fresh z)) (I.hok.laid k z new)
theorem Inv.write{x e:Ah}{o:HO}{t':Nat}(I:Inv X dz σ H s)(B:Mut (H x))(D:e=x\/H e=some (.own x))(k:∀ b u,b≠e->s.heap.get? b=some u->h'.get? b=some u)(z:∃ u,h'.get? e=some u)
  (new:c7 X.prog X.w (upd H x o) h' x o):Inv X dz σ (upd H x o) { s with heap:=h',toks:=t' }:=I.un (Un.write B D k z) (I.hok.write B D k z new)
theorem Inv.pins_of{B:List (Ah×Obj)}(I:Inv X dz σ H s)(h:∀ p∈B,s.heap.get? p.1=some p.2/\H p.1=none/\p.1≠X.env.locals/\p.1∉X.fs/\∀ v,p.2.data≠.cell v):Inv X B σ H s:=
 ⟨I.ok,I.os,I.bare,I.base,I.loc,I.cell,I.free,I.freeC,fun p D=>(Bo.mp D).elim (fun z=>I.pin p (DX _ z)) (h p),I.hok,I.len⟩
theorem rL{N:List Str}(hN:N.Nodup){i j:Nat}{x:Str}(a:N[i]?=some x)(b:N[j]?=some x):i=j:=by
 obtain⟨h1,e1⟩:=Bl.mp a;obtain⟨h2,e2⟩:=Bl.mp b;exact(List.getElem_inj hN).mp (e1.trans e2.symm)
theorem vJ{M:EI}{A:AJ}{E:Ab->Ac->Prop}{i:Nat}{x:Str}{v:V}{u:Ab}{Q:Unit->Ac->Prop}(I:Inv X dz σ H s)(hN:X.N.Nodup)(hi:X.N[i]?=some x)(O:Loc X.env.scope x)(r:cW v u)
  (h:∀ s',Inv X dz (σ.set i (some v)) H s'->(∃ a,DE a s.heap s'.heap/\(a=X.env.locals\/X.env.cells.lookup x=some a))->Q () s') (hf:X.fn x=true\/X.env.scope.names.lookup x=some .local:=by first|exact .inl rfl|exact .inr rfl|assumption):wpAny M A (storeName X.env x u) Q E s:=by
 obtain⟨m,hn,hl⟩:=id I.loc;have ag:(X.env.scope.kind==.class||(X.env.scope.kind==.module&&X.env.locals != X.env.globals))=false:=by rw[I.ok.kind];rfl
 have af:i<σ.length:=by rw[I.len];exact(Bl.mp hi).1
 have cne:=I.cne;have D:∀{a:Ah} {h':A8},(∃ o,s.heap.get? a=some o/\H a=none)->DE a s.heap h'->HOk X.prog X.w H h':=fun{a h'} ha B b ob e=>by
  obtain⟨_,_,hfree⟩:=ha;refine(I.hok b ob e).stay (fun c w' hc q=>(B.2 c ?_).trans q) (fun _ q=>q) fun _ _ q=>q;rintro rfl;rcases hc with rfl|hc
  .rw[hfree]at e;cases e
  .rw[hfree]at hc;cases hc
 rcases O with Y|Y
 .refine wpAny_storeName_local Y hn (fun h' ak B=>?_) ag;obtain⟨oL,_,_,hoL,_⟩:=id hn;refine h _ ⟨I.ok,I.os,I.bare,⟨fun b o e n Z O=>?_,fun b o e n Z O=>?_,I.base.free,fun b o e O=>?_,I.base.tups,I.base.frzs,I.base.tbls⟩,⟨_,ak,fun j y v' J W e3=>?_⟩,fun y c e=>?_,I.free,I.freeC,fun p hp=>?_,D ⟨oL,hoL,I.free⟩ B,by simpa using I.len⟩ ⟨_,B,.inl rfl⟩
  .exact(B.2 b (AF (AR (Au e) I.ok.above))).trans (I.base.keep b o e n Z O)
  .obtain⟨sl,J⟩:=I.base.slot b o e n Z O;exact⟨sl,(B.2 b (AF (AR (Au e) I.ok.above))).trans J⟩
  .obtain⟨o',J⟩:=I.base.there b o e O;exact⟨o',(B.2 b (AF (AR (Au e) I.ok.above))).trans J⟩
  .by_cases hj:j=i
   .subst hj;rw[hi]at J;cases J;rw[DA af]at W;cases W;exact⟨u,r,.inl ⟨Y,by simp⟩⟩
   .rw[EK (D7 hj)]at W;obtain⟨u',r',q⟩:=hl j y v' J W e3;refine⟨u',r',?_⟩;rcases q with⟨k,e⟩|⟨k,c,e,z⟩
    .refine .inl ⟨k,?_⟩;have:y≠x:=fun e=>hj (rL hN J (e▸hi));simp[this,e]
    .exact .inr ⟨k,c,e,z.sameBut B (cne y c e)⟩
  .obtain⟨w',z⟩:=I.cell y c e;exact⟨w',z.sameBut B (cne y c e)⟩
  .obtain⟨e,n,ne,nf,d⟩:=I.pin p hp;exact⟨(B.2 p.1 ne).trans e,n,ne,nf,d⟩
 .have aa:X.fn x=true:=by
   rcases hf with z|z
   .exact z
   .rw[z]at Y;cases Y
  obtain⟨c,hc⟩:=I.ok.has x (.inl Y);obtain⟨w',z⟩:=I.cell x c hc;refine wpAny_storeName_cell I.ok.kind Y hc z (fun h' ae B=>?_);obtain⟨oc,hoc,hocd⟩:=id z;refine h { s with heap:=h' } ⟨I.ok,I.os,I.bare,⟨fun b o e n Z O=>?_,fun b o e n Z O=>?_,I.base.free,fun b o e O=>?_,I.base.tups,I.base.frzs,I.base.tbls⟩,⟨m,hn.sameBut B (D7 (cne x c hc)),fun j y v' J W e3=>?_⟩,fun y c' e=>?_,I.free,I.freeC,fun p hp=>?_,D ⟨oc,hoc,I.freeC x c hc⟩ B,by simpa using I.len⟩ ⟨c,B,.inr hc⟩
  .exact(B.2 b (AF (AR (Au e) (I.ok.cab x c aa hc)))).trans (I.base.keep b o e n Z O)
  .obtain⟨sl,J⟩:=I.base.slot b o e n Z O;exact⟨sl,(B.2 b (AF (AR (Au e) (I.ok.cab x c aa hc)))).trans J⟩
  .obtain⟨o',J⟩:=I.base.there b o e O;exact⟨o',(B.2 b (AF (AR (Au e) (I.ok.cab x c aa hc)))).trans J⟩
  .by_cases hj:j=i
   .subst hj;rw[hi]at J;cases J;rw[DA af]at W;cases W;exact⟨u,r,.inr ⟨.inl Y,c,hc,ae⟩⟩
   .rw[EK (D7 hj)]at W;obtain⟨u',r',q⟩:=hl j y v' J W e3;refine⟨u',r',?_⟩;rcases q with q|⟨k,c',e,z'⟩
    .exact .inl q
    .refine .inr ⟨k,c',e,z'.sameBut B ?_⟩;rintro rfl;exact hj (rL hN J (I.ok.inj _ _ _ e hc▸hi))
  .by_cases ad:c'=c
   .subst ad;exact⟨_,ae⟩
   .obtain⟨w2,z2⟩:=I.cell y c' e;exact⟨w2,z2.sameBut B ad⟩
  .obtain⟨e,n,ne,nf,d⟩:=I.pin p hp;refine⟨(B.2 p.1 ?_).trans e,n,ne,nf,d⟩;intro q;rw[q,hoc]at e;have q':oc=p.2:=Cp.inj e;exact d w' (by rw[<- q'];exact hocd)
theorem nH{M:EI}{A:AJ}{E:Ab->Ac->Prop}{i:Nat}{x:Str}{v:V}{u:Ab}{Q:Unit->Ac->Prop}(I:Inv X dz σ H s)(hN:X.N.Nodup)(hi:X.N[i]?=some x)(B:Loc X.env.scope x)(r:cW v u)
  (h:∀ s',Inv X dz (σ.set i (some v)) H s'->Q () s') (D:X.fn x=true\/X.env.scope.names.lookup x=some .local:=by first|exact .inl rfl|exact .inr rfl|assumption):wpAny M A (storeName X.env x u) Q E s:=
 vJ I hN hi B r (fun s' z _=>h s' z) D
theorem Inv.call'{s':Ac}{ch:List Ah}(I:Inv X dz σ H s)(B:s'.os=s.os)(u:Un (frs X.stack) ch H H' s.heap s'.heap)(hok:HOk X.prog X.w H' s'.heap)(D:Eo s'.gens)
  (z:∀ b∈ch,(b∈X.ex\/X.s₀.heap.objs.size<=b)/\b≠X.env.locals/\(∀ x c,X.env.cells.lookup x=some c->c≠b)/\∀ p∈X.pn++dz,p.1≠b):Inv X dz σ H' s':=by
 obtain⟨h',g',d',t',o'⟩:=s';have e:o'=s.os:=B;subst e;exact I.call (g':=g') (t':=t') (d':=d') u hok D z
end
abbrev XK:=Ab->Option Ah->Hp->Prop
abbrev St:=List (Option V)
abbrev VK:=V->Hp->Prop
abbrev TE:=St->Hp->VK->Prop
abbrev TT:=St->Hp->(Bool->Hp->Prop)->Prop
abbrev TA:=St->Hp->(List V->Hp->Prop)->Prop
structure nJ where
 nx:St->Hp->Prop
 rt:VK
 bk:St->Hp->Prop:=fun _ _=>False
 ct:St->Hp->Prop:=fun _ _=>False
abbrev TS:=nJ->St->Hp->Prop
inductive aH2(X:Cx)(dz:List (Ah×Obj))(σ:St)(Q:VK)(u:Ab)(s':Ac):Prop
 | mk (v:_) (H':_) (q0:Inv X dz σ H' s') (q1:cW v u) (q2:Q v H'):aH2 X dz σ Q u s'
def EP(X:Cx)(dz:List (Ah×Obj))(σ:St)(Q:VK)(u:Ab)(s':Ac):Prop:=aH2 X dz σ Q u s'
def TP(X:Cx)(dz:List (Ah×Obj))(σ:St)(Q:Bool->Hp->Prop)(b:Bool)(s':Ac):Prop:=∃ H',Inv X dz σ H' s'/\Q b H'
inductive aH3(X:Cx)(dz:List (Ah×Obj))(σ:St)(Q:List V->Hp->Prop)(us:List Ab)(s':Ac):Prop
 | mk (vs:_) (H':_) (q0:Inv X dz σ H' s') (q1:cJ vs us) (q2:Q vs H'):aH3 X dz σ Q us s'
def AP(X:Cx)(dz:List (Ah×Obj))(σ:St)(Q:List V->Hp->Prop)(us:List Ab)(s':Ac):Prop:=aH3 X dz σ Q us s'
def SP(X:Cx)(dz:List (Ah×Obj))(D:nJ)(f:Flow)(s':Ac):Prop:=
 match f with
 | .next=>∃ σ' H',Inv X dz σ' H' s'/\D.nx σ' H'
 | .brk=>∃ σ' H',Inv X dz σ' H' s'/\D.bk σ' H'
 | .cont=>∃ σ' H',Inv X dz σ' H' s'/\D.ct σ' H'
 | .ret u=>∃ v σ' H',Inv X dz σ' H' s'/\cW v u/\D.rt v H'
structure PE(X:Cx)(e:Bb)(t:TE):Prop where
 run:
  ∀(dz:List (Ah×Obj)) (s:Ac) (σ:St) (H:Hp) (Q:VK),Inv X dz σ H s->t σ H Q->wpAny (model X.prog X.w) X.A (eval e X.env) (EP X dz σ Q) X.xe s
instance{X:Cx}{e:Bb}{t:TE}:CoeFun (PE X e t) (fun _=>
 ∀(dz:List (Ah×Obj)) (s:Ac) (σ:St) (H:Hp) (Q:VK),Inv X dz σ H s->t σ H Q->wpAny (model X.prog X.w) X.A (eval e X.env) (EP X dz σ Q) X.xe s):=⟨fun h=>h.run⟩
structure PT(X:Cx)(e:Bb)(t:TT):Prop where
 run:
  ∀(dz:List (Ah×Obj)) (s:Ac) (σ:St) (H:Hp) (Q:Bool->Hp->Prop),Inv X dz σ H s->t σ H Q->wpAny (model X.prog X.w) X.A (isTrue e X.env (eval e X.env)) (TP X dz σ Q) X.xe s
instance{X:Cx}{e:Bb}{t:TT}:CoeFun (PT X e t) (fun _=>
 ∀(dz:List (Ah×Obj)) (s:Ac) (σ:St) (H:Hp) (Q:Bool->Hp->Prop),Inv X dz σ H s->t σ H Q->wpAny (model X.prog X.w) X.A (isTrue e X.env (eval e X.env)) (TP X dz σ Q) X.xe s):=⟨fun h=>h.run⟩
structure PW(X:Cx)(e:Bb)(t:TT):Prop where
 run:
  ∀(whole:Sem Ab) (dz:List (Ah×Obj)) (s:Ac) (σ:St) (H:Hp) (Q:Bool->Hp->Prop),Inv X dz σ H s->t σ H Q->wpAny (model X.prog X.w) X.A (isTrue e X.env whole) (TP X dz σ Q) X.xe s
instance{X:Cx}{e:Bb}{t:TT}:CoeFun (PW X e t) (fun _=>
 ∀(whole:Sem Ab) (dz:List (Ah×Obj)) (s:Ac) (σ:St) (H:Hp) (Q:Bool->Hp->Prop),Inv X dz σ H s->t σ H Q->wpAny (model X.prog X.w) X.A (isTrue e X.env whole) (TP X dz σ Q) X.xe s):=⟨fun h=>h.run⟩
theorem PW.pt{X:Cx}{e:Bb}{t:TT}(h:PW X e t):PT X e t:=⟨h.run _⟩
structure PA(X:Cx)(es:List Bb)(t:TA):Prop where
 run:
  ∀(pos:Pos) (dz:List (Ah×Obj)) (s:Ac) (σ:St) (H:Hp) (Q:List V->Hp->Prop),Inv X dz σ H s->t σ H Q->wpAny (model X.prog X.w) X.A (spliced (backTo pos (starEach es X.env))) (AP X dz σ Q) X.xe s
instance{X:Cx}{es:List Bb}{t:TA}:CoeFun (PA X es t) (fun _=>
 ∀(pos:Pos) (dz:List (Ah×Obj)) (s:Ac) (σ:St) (H:Hp) (Q:List V->Hp->Prop),Inv X dz σ H s->t σ H Q->wpAny (model X.prog X.w) X.A (spliced (backTo pos (starEach es X.env))) (AP X dz σ Q) X.xe s):=⟨fun h=>h.run⟩
structure PS(X:Cx)(st:BQ)(t:TS):Prop where
 run:
  ∀(dz:List (Ah×Obj)) (s:Ac) (σ:St) (H:Hp) (D:nJ),Inv X dz σ H s->t D σ H->wpAny (model X.prog X.w) X.A (exec st X.env) (SP X dz D) X.xe s
instance{X:Cx}{st:BQ}{t:TS}:CoeFun (PS X st t) (fun _=>
 ∀(dz:List (Ah×Obj)) (s:Ac) (σ:St) (H:Hp) (D:nJ),Inv X dz σ H s->t D σ H->wpAny (model X.prog X.w) X.A (exec st X.env) (SP X dz D) X.xe s):=⟨fun h=>h.run⟩
structure PSs(X:Cx)(st:List BQ)(t:TS):Prop where
 run:
  ∀(dz:List (Ah×Obj)) (s:Ac) (σ:St) (H:Hp) (D:nJ),Inv X dz σ H s->t D σ H->wpAny (model X.prog X.w) X.A (execs st X.env) (SP X dz D) X.xe s
instance{X:Cx}{st:List BQ}{t:TS}:CoeFun (PSs X st t) (fun _=>
 ∀(dz:List (Ah×Obj)) (s:Ac) (σ:St) (H:Hp) (D:nJ),Inv X dz σ H s->t D σ H->wpAny (model X.prog X.w) X.A (execs st X.env) (SP X dz D) X.xe s):=⟨fun h=>h.run⟩
theorem thn{α:Type}{t:Sem α}{Q z:α->Ac->Prop}{M:EI}{A:AJ}{E:Ab->Ac->Prop}{s:Ac}(h:wpAny M A t Q E s)(B:∀ a s,Q a s->z a s):wpAny M A t z E s:=BH h B fun _ _ x=>x
section
inductive aDs(i:Nat)(σ:St)(H:Hp)(Q:VK):Prop
 | mk (v:_) (q0:σ[i]?=some (some v)) (q1:Q v H):aDs i σ H Q
def aH4(i:Nat):TE:=fun σ H Q=>aDs i σ H Q
def tC(v:V):TE:=fun _ H Q=>Q v H
theorem aG2{i:Nat}{x:Str}{pos:Pos}(hN:X.N[i]?=some x)(D:Vis X.env.scope x)(hd:(x==("__debug__":Str))=false:=by decide)(B:(x==("__classdict__":Str))=false:=by decide):PE X (.Name x pos) (aH4 i):=by
 constructor;intro dz s σ H Q I h;obtain⟨v,e,h⟩:=h;obtain⟨m,hn,hl⟩:=I.loc;obtain⟨u,r,l⟩:=hl i x v hN e D;have fin:EP X dz σ Q u s:=⟨v,H,I,r,h⟩
 rcases l with⟨z,hm⟩|⟨z,c,hc,hcell⟩
 .exact wpAny_Name (wpAny_loadName_local I.ok.kind z hn hm fin) hd
 .rcases z with z|z
  .exact wpAny_Name (wpAny_loadName_cell I.ok.kind z hc hcell fin) hd
  .exact wpAny_Name (wpAny_loadName_free I.ok.kind z hc hcell fin B) hd
theorem aE{i j pos}:PE X (.Constant (.int i) j pos) (tC (.int i)):=⟨fun _ _ _ H _ I h=>wpAny_Constant_int ⟨.int i,H,I.tok _,⟨_,rfl⟩,h⟩⟩
theorem eQ{b j pos}:PE X (.Constant (.bool b) j pos) (tC (.bl b)):=⟨fun _ _ _ H _ I h=>Constant_bool ⟨.bl b,H,I,rfl,h⟩⟩
theorem mS{j pos}:PE X (.Constant .none j pos) (tC .non):=⟨fun _ _ _ H _ I h=>Constant_none ⟨.non,H,I,rfl,h⟩⟩
theorem aN{x j pos}:PE X (.Constant (.str x) j pos) (tC (.str x)):=⟨fun _ _ _ H _ I h=>Calls.Constant_str ⟨.str x,H,I.tok _,⟨_,rfl⟩,h⟩⟩
def Gl(X:Cx)(x:Str):Prop:=X.env.kindOf x=some .globalImplicit
theorem qP{E:Ab->Ac->Prop}{dz:List (Ah×Obj)}{s:Ac}{σ:St}{H:Hp}{x:Str}{u:Ab}{pos:Pos}{Q:Ab->Ac->Prop}(I:Inv X dz σ H s)(z:Gl X x)(hm:X.mg x=some u)(h:Q u s)
  (hd:(x==("__debug__":Str))=false:=by decide):wpAny (model X.prog X.w) X.A (eval (.Name x pos) X.env) Q E s:=
 Calls.Name_function_global I.ok.kind z (Calls.loadGlobal_global (by rw[I.ok.glob];exact I.mod.glob.keeps I.bk) hm h) hd
theorem rM{E:Ab->Ac->Prop}{dz:List (Ah×Obj)}{s:Ac}{σ:St}{H:Hp}{x:Str}{u:Ab}{pos:Pos}{Q:Ab->Ac->Prop}(I:Inv X dz σ H s)(z:Gl X x)(hm:X.mg x=none)(B:bootBuiltins x=some u)(h:Q u s)
  (hn:x≠"__name__":=by decide) (hd:(x==("__debug__":Str))=false:=by decide):wpAny (model X.prog X.w) X.A (eval (.Name x pos) X.env) Q E s:=by
 obtain⟨mb,h1,h2⟩:=I.mod.blt;exact Calls.Name_function_global I.ok.kind z (Calls.loadGlobal_builtin (by rw[I.ok.glob];exact I.mod.glob.keeps I.bk) hm (by rw[I.ok.blt];exact h1.keeps I.bk) ((h2 x hn).trans B) h) hd
theorem cV{x:Str}{v:V}{u:Ab}{pos:Pos}(z:Gl X x)(hm:X.mg x=some u)(r:cW v u)(hd:(x==("__debug__":Str))=false:=by decide):PE X (.Name x pos) (tC v):=
 ⟨fun _ _ _ H _ I h=>qP I z hm ⟨v,H,I,r,h⟩ hd⟩
theorem cK{x:Str}{v:V}{u:Ab}{pos:Pos}(z:Gl X x)(hm:X.mg x=none)(B:bootBuiltins x=some u)(r:cW v u)(hn:x≠"__name__":=by decide)(hd:(x==("__debug__":Str))=false:=by decide):PE X (.Name x pos) (tC v):=
 ⟨fun _ _ _ H _ I h=>rM I z hm B ⟨v,H,I,r,h⟩ hn hd⟩
variable{a b:Bb}{ta tb:TE}
structure PC(X:Cx)(op:F4)(a b:Bb)(t:TE):Prop where
 run:
  ∀(dz:List (Ah×Obj)) (s:Ac) (σ:St) (H:Hp) (Q:VK),Inv X dz σ H s->t σ H Q->
   wpAny (model X.prog X.w) X.A (eval a X.env) (fun v s₁=>wpAny (model X.prog X.w) X.A (eval b X.env) (fun u s₂=>wpAny (model X.prog X.w) X.A (compareOp op v u) (EP X dz σ Q) X.xe s₂) X.xe s₁) X.xe s
instance{X:Cx}{op:F4}{a b:Bb}{t:TE}:CoeFun (PC X op a b t) (fun _=>
 ∀(dz:List (Ah×Obj)) (s:Ac) (σ:St) (H:Hp) (Q:VK),Inv X dz σ H s->t σ H Q->
  wpAny (model X.prog X.w) X.A (eval a X.env) (fun v s₁=>wpAny (model X.prog X.w) X.A (eval b X.env) (fun u s₂=>wpAny (model X.prog X.w) X.A (compareOp op v u) (EP X dz σ Q) X.xe s₂) X.xe s₁) X.xe s):=⟨fun h=>h.run⟩
theorem aDt(b:Bb){z:F4}(h:z≠.In)(h2:z≠.NotIn):behindInMarks z b=false:=by
 have B:(z==CmpOp.In)=false:=by cases z<;>first|rfl|exact absurd rfl h
 have D:(z==CmpOp.NotIn)=false:=by cases z<;>first|rfl|exact absurd rfl h2
 cases b<;>simp[behindInMarks,B,D]
def aIW(ta:TE):TE:=fun σ H Q=>ta σ H fun x H1=>Q (.bl (decide (x=.non))) H1
theorem cW.none_iff{x:V}{v:Ab}(r:cW x v):(v==CN)=decide (x=.non):=by
 cases x with
 | non=>cases r;rfl
 | bl _=>cases r;rfl
 | int _=>obtain⟨t,rfl⟩:=r;rfl
 | str _=>obtain⟨t,rfl⟩:=r;rfl
 | byt _=>obtain⟨t,rfl⟩:=r;rfl
 | flt _=>obtain⟨t,rfl⟩:=r;rfl
 | ref _=>cases r;rfl
 | ty _=>cases r;rfl
theorem aDu{j fm}(ha:PE X a ta):PC X .Is a (.Constant .none j fm) (aIW ta):=by
 constructor;intro dz s σ H Q I h;refine thn (ha dz s σ H _ I h) fun v J ⟨x,H1,D,B,z⟩=>?_;exact Constant_none (is_none_gen ⟨.bl _,H1,D,by rw[B.none_iff];rfl,z⟩)
inductive As{α:Type}(f:α->V)(x:V)(Q:α->Prop):Prop
 | mk (c:α) (h:x=f c) (q:Q c):As f x Q
def tB(t:TE):TT:=fun σ H Q=>t σ H fun x H1=>As V.bl x fun c=>Q c H1
theorem aDv{z:F4}{t:TE}(h:PC X z a b t)(h1:behindInMarks z b=false:=by first|exact aDt _ (by decide) (by decide)|rfl):PT X (.Compare a [z] [b] pos) (tB t):=by
 constructor;intro dz s σ H Q I hw;refine wpAny_isTrue_Compare1 (thn (h dz s σ H _ I hw) fun v Y h1=>thn h1 fun u W h2=>thn h2 fun c O ⟨x,H1,J,B,D⟩=>?_) h1;obtain⟨d,rfl,q⟩:=D;cases B;exact BX ⟨H1,J,q⟩
theorem cE{e:Bb}{t:TE}(h:PE X e t)(J:∀ z,isTrue e X.env z=(do let v <- z;standAt e.pos;holding [v] (truthy v)):=by intro _;rfl):PT X e (tB t):=by
 constructor;intro dz s σ H Q I hw;refine isTrue_plain (thn (h dz s σ H _ I hw) fun v W ⟨x,H1,O,B,D⟩=>?_) (J _);obtain⟨d,rfl,q⟩:=D;cases B;exact BX ⟨H1,O,q⟩
variable{tA ft:TT}{dR:List Bb}
def aIX(t u:TT):TT:=fun σ H Q=>t σ H fun c H1=>if c=true then u σ H1 Q else Q false H1
def tOr(t u:TT):TT:=fun σ H Q=>t σ H fun c H1=>if c=true then Q true H1 else u σ H1 Q
def aIY(t:TT):TT:=fun σ H Q=>t σ H fun c H1=>Q (!c) H1
theorem jQ(ha:PT X a tA):PW X (.BoolOp .And [a] pos) tA:=by
 constructor;intro B dz s σ H Q I h;refine isTrue_and (thn (ha dz s σ H Q I h) fun c z e=>?_);cases c with
 | true=>exact isTrue_and_nil e
 | false=>exact e
theorem dU(ha:PT X a tA):PW X (.BoolOp .Or [a] pos) tA:=by
 constructor;intro B dz s σ H Q I h;refine isTrue_or (thn (ha dz s σ H Q I h) fun c z e=>?_);cases c with
 | false=>exact isTrue_or_nil e
 | true=>exact e
theorem kE(ha:PT X a tA)(O:PW X (.BoolOp .And (b::dR) pos) ft):PW X (.BoolOp .And (a::b::dR) pos) (aIX tA ft):=by
 constructor;intro J dz s σ H Q I h;refine isTrue_and (thn (ha dz s σ H _ I h) fun c D ⟨H1,B,z⟩=>?_);cases c with
 | true=>exact O J dz D σ H1 Q B z
 | false=>exact⟨H1,B,z⟩
theorem dZ(ha:PT X a tA)(O:PW X (.BoolOp .Or (b::dR) pos) ft):PW X (.BoolOp .Or (a::b::dR) pos) (tOr tA ft):=by
 constructor;intro J dz s σ H Q I h;refine isTrue_or (thn (ha dz s σ H _ I h) fun c D ⟨H1,B,z⟩=>?_);cases c with
 | true=>exact⟨H1,B,z⟩
 | false=>exact O J dz D σ H1 Q B z
theorem cX(ha:PT X a tA):PT X (.UnaryOp .Not a pos) (aIY tA):=by
 constructor;intro dz s σ H Q I h;exact isTrue_not (ha dz s σ H (fun c H1=>Q (!c) H1) I h)
def aH5(ta tb:TE):TE:=fun σ H Q=>ta σ H fun x H1=>As V.bl x fun c=>if c=true then tb σ H1 Q else Q (.bl false) H1
def aIZ(ta tb:TE):TE:=fun σ H Q=>ta σ H fun x H1=>∃ c,x=.bl c/\if c=true then Q (.bl true) H1 else tb σ H1 Q
def aH6(ta:TE):TE:=fun σ H Q=>ta σ H fun x H1=>As V.bl x fun c=>Q (.bl (!c)) H1
theorem dL{op}{t:TE}(h:PE X a t):PE X (.BoolOp op [a] pos) t:=⟨fun dz s σ H Q I hw=>BoolOp_one (h dz s σ H Q I hw)⟩
theorem c6(ha:PE X a ta)(D:PE X (.BoolOp .And (b::dR) pos) tb):PE X (.BoolOp .And (a::b::dR) pos) (aH5 ta tb):=by
 constructor;intro dz s σ H Q I h;refine BoolOp_and (thn (ha dz s σ H _ I h) fun v J ⟨x,H1,B,O,z⟩=>?_);obtain⟨c,rfl,z⟩:=z;cases O;refine BX ?_;cases c with
 | true=>exact D dz J σ H1 Q B z
 | false=>exact⟨.bl false,H1,B,rfl,z⟩
theorem aH7(ha:PE X a ta)(D:PE X (.BoolOp .Or (b::dR) pos) tb):PE X (.BoolOp .Or (a::b::dR) pos) (aIZ ta tb):=by
 constructor;intro dz s σ H Q I h;refine BoolOp_or (thn (ha dz s σ H _ I h) fun v J ⟨x,H1,B,O,z⟩=>?_);obtain⟨c,rfl,z⟩:=z;cases O;refine BX ?_;cases c with
 | false=>exact D dz J σ H1 Q B z
 | true=>exact⟨.bl true,H1,B,rfl,z⟩
theorem aDw(ha:PE X a ta):PE X (.UnaryOp .Not a pos) (aH6 ta):=by
 constructor;intro dz s σ H Q I h;refine UnaryOp_ (thn (ha dz s σ H _ I h) fun v J ⟨x,H1,D,B,z⟩=>?_);obtain⟨c,rfl,z⟩:=z;cases B;exact not_of (BX ⟨.bl (!c),H1,D,rfl,z⟩)
def tIf(t:TT)(ta tb:TE):TE:=fun σ H Q=>t σ H fun c H1=>if c=true then ta σ H1 Q else tb σ H1 Q
theorem nK{c:Bb}(hc:PT X c tA)(ha:PE X a ta)(J:PE X b tb):PE X (.IfExp c a b pos) (tIf tA ta tb):=by
 constructor;intro dz s σ H Q I h;refine wpAny_IfExp (thn (hc dz s σ H _ I h) fun d z ⟨H1,D,B⟩=>?_);cases d with
 | true=>exact ha dz z σ H1 Q D B
 | false=>exact J dz z σ H1 Q D B
end
def SqL(K:Af)(H:Hp)(a:Ah)(xs:List V):Prop:=
 Rd H a (.lst xs)\/
  ∃(o:Obj) (its:Array Ab) (n:Nat),K.lookup a=some o/\o.cls=.type "list"/\o.dict=none/\o.data=.seq its n/\its.size<=sizeLine/\cJ xs its.toList
def SqT(K:Af)(H:Hp)(a:Ah)(xs:List V):Prop:=
 Rd H a (.tup xs)\/
  ∃(o:Obj) (its:Array Ab) (n:Nat),K.lookup a=some o/\o.cls=.type "tuple"/\o.data=.seq its n/\its.size<=sizeLine/\cJ xs its.toList
def aI0:Ab->Option V
 | .none=>some .non
 | .bool b=>some (.bl b)
 | .int i _=>some (.int i)
 | .str x _=>some (.str x)
 | .bytes b _=>some (.byt b)
 | .float b _=>some (.flt b)
 | .ref a=>some (.ref a)
 | .type n=>some (.ty n)
 | _=>none
theorem cW.abs{x:V}{u:Ab}(r:cW x u):aI0 u=some x:=by
 cases x with
 | non=>cases r;rfl
 | bl _=>cases r;rfl
 | int _=>obtain⟨t,rfl⟩:=r;rfl
 | str _=>obtain⟨t,rfl⟩:=r;rfl
 | byt _=>obtain⟨t,rfl⟩:=r;rfl
 | flt _=>obtain⟨t,rfl⟩:=r;rfl
 | ref _=>cases r;rfl
 | ty _=>cases r;rfl
theorem cW.inj{x y:V}{u:Ab}(r:cW x u)(q:cW y u):x=y:=Cp.inj (r.abs.symm.trans q.abs)
theorem cJ.inj:∀{xs ys:List V}{z:List Ab},cJ xs z->cJ ys z->xs=ys
 | _,_,_,.nil,.nil=>rfl
 | _,_,_,.cons r t,.cons B t'=>by rw[r.inj B,cJ.inj t t']
section
variable{a:Ah}{xs ys:List V}
theorem bB{K:Af}(h:H a=some (.lst xs)):SqL K H a xs:=.inl (.inl h)
theorem aU{K:Af}(h:H a=some (.tup xs)):SqT K H a xs:=.inl (.inl h)
theorem Inv.list(I:Inv X dz σ H s)(h:SqL X.K H a xs):∃ its:List Ab,cJ xs its/\PlainL s.heap a its.toArray/\xs.length<=sizeLine:=by
 rcases h with h|⟨o,its,n,D,hc,hd,B,hz,r⟩
 .obtain⟨z,its,n,r,e⟩:=h.ok I.hok;exact⟨its,r,⟨_,n,e,rfl,rfl,rfl⟩,z⟩
 .refine⟨its.toList,r,⟨o,n,I.kIn a o D,hc,hd,by simpa using B⟩,?_⟩;have e:=r.length;simp only[Bh]at e;omega
theorem Inv.tuple(I:Inv X dz σ H s)(h:SqT X.K H a xs):∃ its:List Ab,cJ xs its/\Ef s.heap a its.toArray/\xs.length<=sizeLine:=by
 rcases h with h|⟨o,its,n,D,hc,B,hz,r⟩
 .obtain⟨z,its,r,p⟩:=h.ok I.hok;exact⟨its,r,p.tup,z⟩
 .refine⟨its.toList,r,⟨o,I.kIn a o D,hc,n,by simpa using B⟩,?_⟩;have e:=r.length;simp only[Bh]at e;omega
theorem Inv.list_inj(I:Inv X dz σ H s)(h:SqL X.K H a xs)(h':SqL X.K H a ys):xs=ys:=by
 obtain⟨its,r,⟨o,n,e,_,_,d⟩,_⟩:=I.list h;obtain⟨its',r',⟨o',n',e',_,_,d'⟩,_⟩:=I.list h';rw[e]at e';cases e';rw[d]at d';injection d' with d1 _;have:its=its':=by simpa using congrArg Array.toList d1
 subst this;exact r.inj r'
theorem Inv.tuple_inj(I:Inv X dz σ H s)(h:SqT X.K H a xs)(h':SqT X.K H a ys):xs=ys:=by
 obtain⟨its,r,⟨o,e,_,n,d⟩,_⟩:=I.tuple h;obtain⟨its',r',⟨o',e',_,n',d'⟩,_⟩:=I.tuple h';rw[e]at e';cases e';rw[d]at d';injection d' with d1 _;have:its=its':=by simpa using congrArg Array.toList d1
 subst this;exact r.inj r'
end
abbrev Cx.wish(X:Cx)(E:Ab->Ac->Prop):Cx:={ X with xe:=E }
abbrev Cx.nox(X:Cx):Cx:=X.wish fun _ _=>False
theorem Cx.Ok.wish{X:Cx}(ok:X.Ok)(E:Ab->Ac->Prop):(X.wish E).Ok:=
 ⟨ok.mod,ok.kind,ok.glob,ok.blt,ok.above,ok.inj,ok.has,ok.cab,ok.hd,ok.frames,ok.stk,ok.exf,ok.bs,ok.bsz,ok.noex,ok.exfs,ok.funs,ok.frf⟩
theorem Cx.Ok.unwish{X:Cx}{E:Ab->Ac->Prop}(ok:(X.wish E).Ok):X.Ok:=
 ⟨ok.mod,ok.kind,ok.glob,ok.blt,ok.above,ok.inj,ok.has,ok.cab,ok.hd,ok.frames,ok.stk,ok.exf,ok.bs,ok.bsz,ok.noex,ok.exfs,ok.funs,ok.frf⟩
theorem Inv.wish(I:Inv X dz σ H s)(E:Ab->Ac->Prop):Inv (X.wish E) dz σ H s:=⟨I.ok.wish E,I.os,I.bare,I.base,I.loc,I.cell,I.free,I.freeC,I.pin,I.hok,I.len⟩
theorem Inv.unwish(I:Inv (X.wish E) dz σ H s):Inv X dz σ H s:=⟨I.ok.unwish,I.os,I.bare,I.base,I.loc,I.cell,I.free,I.freeC,I.pin,I.hok,I.len⟩
theorem SP.unwish{D:nJ}{f:Flow}{s':Ac}(h:SP (X.wish E) dz D f s'):SP X dz D f s':=by
 cases f with
 | next=>obtain⟨σ',H',I,q⟩:=h;exact⟨σ',H',I.unwish,q⟩
 | brk=>obtain⟨σ',H',I,q⟩:=h;exact⟨σ',H',I.unwish,q⟩
 | cont=>obtain⟨σ',H',I,q⟩:=h;exact⟨σ',H',I.unwish,q⟩
 | ret u=>obtain⟨v,σ',H',I,r,q⟩:=h;exact⟨v,σ',H',I.unwish,r,q⟩
theorem PSs.nox{st:List BQ}{t:TS}(h:PSs X.nox st t):PSs X st t:=⟨fun dz s σ H D I hw=>
 BH (h dz s σ H D (I.wish _) hw) (fun _ _ q=>q.unwish) fun _ _ z=>Ca z⟩
section
variable{st:BQ}{dR:List BQ}{t u:TS}
def aH8:TS:=fun D σ H=>D.nx σ H
def aI1(t u:TS):TS:=fun D σ H=>t { D with nx:=u D } σ H
theorem aT:PSs X [] aH8:=⟨fun _ _ σ H _ I h=>Dy ⟨σ,H,I,h⟩⟩
theorem aG(h1:PS X st t)(h2:PSs X dR u):PSs X (st::dR) (aI1 t u):=by
 constructor;intro dz s σ H D I h;refine FE (thn (h1 dz s σ H { D with nx:=u D } I h) fun f z q=>?_);cases f with
 | next=>
  obtain⟨σ',H',I',q⟩:=q;exact h2 dz z σ' H' D I' q
 | ret v=>exact q
 | brk=>exact q
 | cont=>exact q
theorem aJ(h1:PS X st t):PSs X [st] t:=by
 constructor;intro dz s σ H D I h;refine FE (thn (h1 dz s σ H D I h) fun f z q=>?_);cases f with
 | next=>exact Dy q
 | ret v=>exact q
 | brk=>exact q
 | cont=>exact q
theorem Inv.quiet{dz:List (Ah×Obj)}{σ:St}{H:Hp}{s:Ac}(I:Inv X dz σ H s):interactive X.env=false:=by simp[interactive,I.ok.kind]
def aH9(te:TE):TS:=fun D σ H=>te σ H fun _ H1=>D.nx σ H1
theorem qQ(B:PE X e te)(z:swapsWith e none pos.line X.env=pure false:=by rfl):PS X (.Expr e pos) (aH9 te):=by
 constructor;intro dz s σ H D I h;exact wpAny_Expr_any (thn (B dz s σ H _ I h) fun v W ⟨x,H1,O,Y,J⟩=>⟨σ,H1,O,J⟩) I.quiet z
def aI2(te:TE):TS:=fun D σ H=>te σ H D.rt
theorem aO(z:PE X e te):PS X (.Return (some e) pos) (aI2 te):=by
 constructor;intro dz s σ H D I h;exact wpAny_Return_some (thn (z dz s σ H _ I h) fun v W ⟨x,H1,O,J,B⟩=>⟨x,σ,H1,O,J,B⟩)
def aI3(c:TT)(t u:TS):TS:=fun D σ H=>c σ H fun b H1=>if b=true then t D σ H1 else u D σ H1
theorem bX{c:Bb}{a b:List BQ}{tc:TT}(hc:PT X c tc)(ha:PSs X a t)(O:PSs X b u):PS X (.If c a b pos) (aI3 tc t u):=by
 constructor;intro dz s σ H D I h;refine wpAny_If (thn (hc dz s σ H _ I h) fun d B ⟨H1,J,z⟩=>?_);cases d with
 | true=>exact ha dz B σ H1 D J z
 | false=>exact O dz B σ H1 D J z
end
abbrev TG:=V->St->Hp->(St->Hp->Prop)->Prop
abbrev TGs:=List V->St->Hp->(St->Hp->Prop)->Prop
structure PG(X:Cx)(target:Bb)(t:TG):Prop where
 run:
  ∀(dz:List (Ah×Obj)) (s:Ac) (σ:St) (H:Hp) (v:V) (u:Ab) (Q:St->Hp->Prop),Inv X dz σ H s->cW v u->t v σ H Q->
   wpAny (model X.prog X.w) X.A (assign target X.env u) (fun _ s'=>∃ σ' H',Inv X dz σ' H' s'/\Q σ' H') X.xe s
instance{X:Cx}{target:Bb}{t:TG}:CoeFun (PG X target t) (fun _=>
 ∀(dz:List (Ah×Obj)) (s:Ac) (σ:St) (H:Hp) (v:V) (u:Ab) (Q:St->Hp->Prop),Inv X dz σ H s->cW v u->t v σ H Q->
  wpAny (model X.prog X.w) X.A (assign target X.env u) (fun _ s'=>∃ σ' H',Inv X dz σ' H' s'/\Q σ' H') X.xe s):=⟨fun h=>h.run⟩
structure PGs(X:Cx)(ts:List Bb)(t:TGs):Prop where
 run:
  ∀(dz:List (Ah×Obj)) (s:Ac) (σ:St) (H:Hp) (vs:List V) (us:List Ab) (Q:St->Hp->Prop),Inv X dz σ H s->cJ vs us->t vs σ H Q->
   wpAny (model X.prog X.w) X.A (assignInOrder ((assignEach ts X.env).map (·.2)) us) (fun _ s'=>∃ σ' H',Inv X dz σ' H' s'/\Q σ' H') X.xe s
instance{X:Cx}{ts:List Bb}{t:TGs}:CoeFun (PGs X ts t) (fun _=>
 ∀(dz:List (Ah×Obj)) (s:Ac) (σ:St) (H:Hp) (vs:List V) (us:List Ab) (Q:St->Hp->Prop),Inv X dz σ H s->cJ vs us->t vs σ H Q->
  wpAny (model X.prog X.w) X.A (assignInOrder ((assignEach ts X.env).map (·.2)) us) (fun _ s'=>∃ σ' H',Inv X dz σ' H' s'/\Q σ' H') X.xe s):=⟨fun h=>h.run⟩
abbrev aG3:=V->V->V->Hp->(Hp->Prop)->Prop
def aIa(X:Cx)(t:aG3):Prop:=
 ∀(dz:List (Ah×Obj)) (s:Ac) (σ:St) (H:Hp) (o i v:V) (ov iv u:Ab) (Q:Hp->Prop),Inv X dz σ H s->cW o ov->cW i iv->cW v u->t o i v H Q->
  wpAny (model X.prog X.w) X.A (setItem ov iv u) (fun _ s'=>∃ H',Inv X dz σ H' s'/\Q H') X.xe s
def cF(i:Nat):TG:=fun v σ H Q=>Q (σ.set i (some v)) H
theorem bS{i:Nat}{x:Str}(hN:X.N.Nodup)(hi:X.N[i]?=some x)(B:Loc X.env.scope x)(D:X.fn x=true\/X.env.scope.names.lookup x=some .local:=by first|exact .inl rfl|exact .inr rfl|assumption):PG X (.Name x pos) (cF i):=by
 constructor;intro dz s σ H v u Q I r h;exact wpAny_assign_Name (nH I hN hi B r (fun s' z=>⟨_,H,z,h⟩) D)
def aI4:TGs:=fun vs σ H Q=>vs=[]/\Q σ H
inductive aBw(t:TG)(u:TGs)(vs:List V)(σ:St)(H:Hp)(Q:(St->Hp->Prop)):Prop
 | mk (v:_) (r:_) (q0:vs=v::r) (q1:t v σ H fun σ' H'=>u r σ' H' Q):aBw t u vs σ H Q
def aIb(t:TG)(u:TGs):TGs:=fun vs σ H Q=>aBw t u vs σ H Q
theorem lK:PGs X [] aI4:=by
 constructor;intro dz s σ H vs z Q I r h;obtain⟨e,h⟩:=h;subst e;cases r;exact assignInOrder_nil ⟨σ,H,I,h⟩
theorem dB{e:Bb}{es:List Bb}{t:TG}{u:TGs}(h1:PG X e t)(h2:PGs X es u)
  (z:(assignEach (e::es) X.env).map (·.2)=assign e X.env::(assignEach es X.env).map (·.2):=by rfl):PGs X (e::es) (aIb t u):=by
 constructor;intro dz s σ H vs Y Q I r h;obtain⟨v,vr,e1,h⟩:=h;subst e1;cases r with
 | cons r J=>
  rw[z];refine assignInOrder_cons (thn (h1 dz s σ H _ _ _ I r h) fun _ O ⟨B,H1,W,D⟩=>?_);exact h2 dz O B H1 _ _ Q W J D
inductive aDx(K:Af)(n:Nat)(t:TGs)(v:V)(σ:St)(H:Hp)(Q:(St->Hp->Prop)):Prop
 | mk (a:_) (xs:_) (q0:v=.ref a) (q1:SqT K H a xs) (q2:xs.length=n) (q3:t xs σ H Q):aDx K n t v σ H Q
def aI5(K:Af)(n:Nat)(t:TGs):TG:=fun v σ H Q=>aDx K n t v σ H Q
theorem oW{es:List Bb}{k:Nat}{t:TGs}{n:Nat}(hc:X.calm=true)(h:PGs X es t)
  (hn:(assignEach es X.env).length=n:=by rfl) (z:(assignEach es X.env).findIdx? (·.1)=none:=by rfl):PG X (.Tuple es k pos) (aI5 X.K n t):=by
 constructor;intro dz s σ H v u Q I r hw;obtain⟨a,xs,e1,hq,hl,hw⟩:=hw;subst e1;cases r;obtain⟨its,rv,ht,hz⟩:=I.tuple hq;refine assign_Tuple_tuple (I.ok.hd hc) ht (by simp[hn,<- hl,rv.length]) z fun h' D=>?_;have B:Inv X dz σ H { s with heap:=h' }:=I.kept (t':=s.toks) fun b o e=>D b o (AF (Au e)) e;exact h dz _ σ H xs _ Q B (by simpa using rv) hw
def aI6(to ti:TE)(t:aG3):TG:=fun v σ H Q=>to σ H fun o H1=>ti σ H1 fun i H2=>t o i v H2 fun H3=>Q σ H3
theorem aAL{o i:Bb}{to D:TE}{t:aG3}(ho:PE X o to)(hi:PE X i D)(J:aIa X t)
  (ha:∀ v,assign (.Subscript o i pos) X.env v=(do
   let z <- holding [v] (eval o X.env)
   let B <- holding [v,z] (eval i X.env)
   standAt pos
   holding [v,z,B] (setItem z B v)
   release [v,z,B] []):=by intro _;rfl):PG X (.Subscript o i pos) (aI6 to D t):=by
 constructor;intro dz s σ H v u Q I r h;rw[ha];refine Aa (Ba (thn (ho dz s σ H _ I h) fun z s1 ⟨x,H1,I1,Y,q1⟩=>?_));refine Aa (Ba (thn (hi dz s1 σ H1 _ I1 q1) fun B s2 ⟨y,H2,Z,r2,q2⟩=>?_));refine Aa (F9 (Aa (Ba (thn (J dz s2 σ H2 x y v z B u _ Z Y r2 r q2) fun _ s3 ⟨O,I3,W⟩=>?_))));exact wpAny_release ⟨σ,O,I3,W⟩
def aG4(te:TE)(g:TG):TS:=fun D σ H=>te σ H fun x H1=>g x σ H1 D.nx
theorem jR{tg e:Bb}{te:TE}{g:TG}(W:PE X e te)(Y:PG X tg g)(z:swapsWithSole [tg] e pos.line X.env=pure false:=by rfl)(hw:swappedStores [tg] e X.env=pure none:=by rfl)
  (h1:(assignEach [tg] X.env).map (·.2)=[assign tg X.env]:=by rfl):PS X (.Assign [tg] e pos) (aG4 te g):=by
 constructor;intro dz s σ H D I h;refine wpAny_Assign_stores (thn (W dz s σ H _ I h) fun v O ⟨x,H1,Z,B,J⟩=>?_) z hw;rw[h1];exact thn (Y dz O σ H1 x v _ Z B J) fun _ s2 q=>q
theorem bE{i:Nat}{x:Str}{e:Bb}{te:TE}{fm:Pos}(hN:X.N.Nodup)(hi:X.N[i]?=some x)(hx:Loc X.env.scope x)(W:PE X e te)(z:swapsWith e (some (.Name x fm)) pos.line X.env=pure false:=by rfl)(Z:X.fn x=true\/X.env.scope.names.lookup x=some .local:=by first|exact .inl rfl|exact .inr rfl|assumption):
  PS X (.Assign [.Name x fm] e pos) (aG4 te (cF i)):=by
 constructor;intro dz s σ H D I h;refine wpAny_Assign_Name (thn (W dz s σ H _ I h) fun v s1 ⟨y,H1,Y,B,O⟩=>?_) z;exact nH Y hN hi hx B (fun s2 J=>⟨_,H1,J,O⟩) Z
inductive yN(c:TT)(tb:TS)(D:nJ)(σ:St)(H:Hp):Prop
 | mk (W:Nat->St->Hp->Prop) (q0:(∃ m,W m σ H)) (q1:∀ m σ H,W m σ H->
 c σ H fun b H1=>if b=true then∃ N:St->Hp->Prop,(∀ σ' H',N σ' H'->∃ m',m'<m/\W m' σ' H')/\tb { D with nx:=N,ct:=N,bk:=D.nx } σ H1 else D.nx σ H1):yN c tb D σ H
def aG5(c:TT)(tb:TS):TS:=fun D σ H=>yN c tb D σ H
theorem aDy{c:Bb}{z:List BQ}{tc:TT}{tb:TS}(hp:PassesOwn (model X.prog X.w) X.A X.env X.xe)(hc:PT X c tc)(hb:PSs X z tb):PS X (.While c z [] pos) (aG5 tc tb):=by
 constructor;intro dz s σ H D I h;obtain⟨W,⟨m0,w0⟩,turn⟩:=h;refine wpAny_While (codeAny_whileLoop (fun n s'=>∃ Z H',Inv X dz Z H' s'/\W n Z H') ?_ m0 ⟨σ,H,I,w0⟩);rintro n s1 ⟨J,H1,I1,w1⟩;refine C3 hp (thn (hc dz s1 J H1 _ I1 (turn n J H1 w1)) fun b s2 ⟨H2,Y,O⟩=>?_);cases b with
 | true=>
  obtain⟨N,hN,O⟩:=O;rw[Ib rfl];refine C3 hp (thn (hb dz s2 J H2 _ Y O) fun f s3 B=>?_);cases f with
  | next=>
   obtain⟨σ3,H3,I3,n3⟩:=B;obtain⟨m',hm,w3⟩:=hN σ3 H3 n3;exact⟨m',hm,σ3,H3,I3,w3⟩
  | cont=>
   obtain⟨σ3,H3,I3,n3⟩:=B;obtain⟨m',hm,w3⟩:=hN σ3 H3 n3;exact⟨m',hm,σ3,H3,I3,w3⟩
  | brk=>exact B
  | ret v=>exact B
 | false=>
  rw[Ia AG];exact Dy ⟨J,H2,Y,O⟩
structure It where
 go:Nat->Hp->Prop
 yld:Nat->Hp->V->Hp->Prop
 stop:Nat->Hp->Prop
def oX(X:Cx)(dz:List (Ah×Obj))(H:Hp)(b:Ah):Prop:=
 H b=none/\b≠X.env.locals/\b∉X.fs/\(b∈X.ex\/X.s₀.heap.objs.size<=b)/\(∀ x c,X.env.cells.lookup x=some c->c≠b)/\∀ p∈X.pn++dz,p.1≠b
theorem Inv.fpOk{X:Cx}{dz:List (Ah×Obj)}{σ:St}{H H':Hp}{s:Ac}{b:Ah}(I:Inv X dz σ H s)(B:s.heap.objs.size<=b)(hn:H' b=none):oX X dz H' b:=by
 refine⟨hn,De (AR I.lt B),I.nofs B,.inr (AD I.sz B),fun x c e z=>?_,fun p D z=>?_⟩
 .obtain⟨v,q⟩:=I.cell x c e;exact absurd (AR q.lt (by rw[z];exact B)) (B6 _)
 .exact absurd (AR (Au (I.pin p D).1) (by rw[z];exact B)) (B6 _)
structure aCC(P:Ar)(w:AQ)(K:Af)(tg:Bb)(J:It)(fp:List Ah)(it:Ah)(tn:Nat->A8->Prop):Prop where
 mem:it∈fp
 obj:∀ i h,tn i h->∀ b∈fp,∃ o,h.get? b=some o/\∀ v,o.data≠.cell v
 keep:∀ i h h',tn i h->(∀ b∈fp,∀ o,h.get? b=some o->h'.get? b=some o)->tn i h'
 item:∀(X:Cx),X.prog=P->X.w=w->X.K=K->X.calm=true->∀(i:Nat) (dz:List (Ah×Obj)) (s:Ac) (σ:St) (H:Hp) (E:Ab->Ac->Prop),Inv X dz σ H s->(∀ b∈fp,oX X dz H b)->tn i s.heap->J.go i H->
  wpAny (model P w) X.A (pyNext (.ref it)) (fun r s1=>∃ u,r=some u/\
   wpAny (model P w) X.A (letOwnedTupleGo tg (.ref it) u) (fun _ s2=>∃ x H',Inv X dz σ H' s2/\cW x u/\J.yld i H x H'/\tn (i+1) s2.heap/\∀ b∈fp,H' b=none) E s1) E s
 done:∀(X:Cx),X.prog=P->X.w=w->X.K=K->X.calm=true->∀(i:Nat) (dz:List (Ah×Obj)) (s:Ac) (σ:St) (H:Hp) (E:Ab->Ac->Prop),Inv X dz σ H s->(∀ b∈fp,oX X dz H b)->tn i s.heap->J.stop i H->
  wpAny (model P w) X.A (pyNext (.ref it)) (fun r s1=>r=none/\Inv X dz σ H s1) E s
 self:∀(A:AJ) (i:Nat) (s:Ac) (Q:Ab->Ac->Prop) (E:Ab->Ac->Prop),tn i s.heap->Q (.ref it) s->wpAny (model P w) A (pyIter (.ref it)) Q E s
abbrev TI:=St->Hp->(It->Hp->Prop)->Prop
inductive aGx(X:Cx)(dz:List (Ah×Obj))(σ:St)(tg:Bb)(R:It->Hp->Prop)(itv:Ab)(s2:Ac):Prop
 | mk (it:Ah) (fp:List Ah) (tn:Nat->A8->Prop) (J:It) (H':Hp) (q0:itv=.ref it) (q1:Inv X dz σ H' s2) (q2:aCC X.prog X.w X.K tg J fp it tn) (q3:tn 0 s2.heap) (q4:(∀ b∈fp,oX X dz H' b)) (q5:R J H'):aGx X dz σ tg R itv s2
def PIE(X:Cx)(dz:List (Ah×Obj))(σ:St)(tg:Bb)(R:It->Hp->Prop)(itv:Ab)(s2:Ac):Prop:=aGx X dz σ tg R itv s2
structure PI(X:Cx)(tg iter:Bb)(wi:TI):Prop where
 run:
  ∀(dz:List (Ah×Obj)) (s:Ac) (σ:St) (H:Hp) (R:It->Hp->Prop),Inv X dz σ H s->wi σ H R->
   wpAny (model X.prog X.w) X.A (eval iter X.env) (fun v s1=>wpAny (model X.prog X.w) X.A (pyIter v) (PIE X dz σ tg R) X.xe s1) X.xe s
instance{X:Cx}{tg iter:Bb}{wi:TI}:CoeFun (PI X tg iter wi) (fun _=>
 ∀(dz:List (Ah×Obj)) (s:Ac) (σ:St) (H:Hp) (R:It->Hp->Prop),Inv X dz σ H s->wi σ H R->
  wpAny (model X.prog X.w) X.A (eval iter X.env) (fun v s1=>wpAny (model X.prog X.w) X.A (pyIter v) (PIE X dz σ tg R) X.xe s1) X.xe s):=⟨fun h=>h.run⟩
theorem aBx{M : EI}{A : AJ}{E : Ab -> Ac -> Prop}{s : Ac}{tg : Bb}{it : Ah}{u : Ab}{o : Obj}{n : String}{vs : Array Ab}{Q : Unit -> Ac -> Prop}(B : s.heap.get? it = some o)(hc : o.cls = .type n)(hd : o.data = .fields vs)
    (hn : ["enumerate", "zip", "dict_itemiterator", "dict_reverseitemiterator", "odict_iterator", "itertools.zip_longest", "itertools.pairwise"].contains n = false) (z : Q () s) : wpAny M A (letOwnedTupleGo tg (.ref it) u) Q E s := by
  unfold letOwnedTupleGo;cases tg<;>first
    | exact Ad z
    | (cases u<;>first
        | exact Ad z
        | (refine Aa (FX B ?_)
           rw[hc, hd];show wpAny M A (if (["enumerate", "zip", "dict_itemiterator", "dict_reverseitemiterator", "odict_iterator", "itertools.zip_longest", "itertools.pairwise"].contains n&&vs[0]?==some (rawInt _)) = true then _ else _) Q E s;rw[Ia (by intro h;rw[hn, BR]at h;cases h)];exact Ad z))
def Itl(K:Af)(a:Ah):It:=
 ⟨fun i H=>∃ xs x,SqL K H a xs/\xs[i]?=some x,fun i H x H'=>H'=H/\∀ xs,SqL K H a xs->xs[i]?=some x,fun i H=>∃ xs,SqL K H a xs/\xs.length<=i⟩
def Itt(K:Af)(a:Ah):It:=
 ⟨fun i H=>∃ xs x,SqT K H a xs/\xs[i]?=some x,fun i H x H'=>H'=H/\∀ xs,SqT K H a xs->xs[i]?=some x,fun i H=>∃ xs,SqT K H a xs/\xs.length<=i⟩
def Itr(lo:Int)(n:Nat):It:=⟨fun i _=>i<n,fun i H x H'=>H'=H/\x=.int (lo+i),fun i _=>n<=i⟩
theorem aCD{P:Ar}{w:AQ}{K:Af}{tg:Bb}(a it:Ah):aCC P w K tg (Itl K a) [it] it (fun i h=>h.IsListIter it a i) where
 mem:=by simp
 obj:=fun i h st b B=>by
  have e:b=it:=by simpa using B
  subst e;obtain⟨o,e,c,d⟩:=st;exact⟨o,e,fun v z=>by rw[d]at z;cases z⟩
 keep:=fun i h h' st k=>st.at fun o e=>k it (by simp) o e
 item:=by
  intro X O hw W hc i dz s σ H E I J st Y;subst O hw W;obtain⟨xs,x,hq,hx⟩:=Y;obtain⟨its,rv,p,hz⟩:=I.list hq;obtain⟨u,hu,ru⟩:=rv.get hx;obtain⟨f0,f1,f2,f3,f4,f5⟩:=J it (by simp);refine wpAny_pyNext_list_item st p.isList (x:=u) (by simpa using hu) fun h' D sb=>?_;have I1:Inv X dz σ H { s with heap:=h' }:=I.turned (t':=s.toks) (fun b o B e=>(sb.2 b B).trans e) f0 f1 f3 f4 f5;obtain⟨o,e,c,d⟩:=id D;exact⟨u,rfl,aBx (s:={ s with heap:=h' }) e c d (by decide) ⟨x,H,I1,ru,⟨rfl,fun ys Z=>by rw[I.list_inj Z hq];exact hx⟩,D,fun b B=>(J b B).1⟩⟩
 done:=by
  intro X O hw W hc i dz s σ H E I J st Y;subst O hw W;obtain⟨xs,hq,hx⟩:=Y;obtain⟨its,rv,p,hz⟩:=I.list hq;obtain⟨f0,f1,f2,f3,f4,f5⟩:=J it (by simp);have hl:=rv.length;exact wpAny_pyNext_list_end (I.ok.hd hc) st p.isList (by simp;omega) fun h' eb=>⟨rfl,I.turned (t':=s.toks) (fun b o B e=>eb b o B e) f0 f1 f3 f4 f5⟩
 self:=fun _ _ _ _ _ st h=>wpAny_pyIter_listiter st h
theorem aAM{P:Ar}{w:AQ}{K:Af}{tg:Bb}(a it:Ah):aCC P w K tg (Itt K a) [it] it (fun i h=>h.IsTupleIter it a i) where
 mem:=by simp
 obj:=fun i h st b B=>by
  have e:b=it:=by simpa using B
  subst e;obtain⟨o,e,c,d⟩:=st;exact⟨o,e,fun v z=>by rw[d]at z;cases z⟩
 keep:=fun i h h' st k=>st.at fun o e=>k it (by simp) o e
 item:=by
  intro X O hw W hc i dz s σ H E I J st Y;subst O hw W;obtain⟨xs,x,hq,hx⟩:=Y;obtain⟨its,rv,p,hz⟩:=I.tuple hq;obtain⟨u,hu,ru⟩:=rv.get hx;obtain⟨f0,f1,f2,f3,f4,f5⟩:=J it (by simp);refine wpAny_pyNext_tuple_item st (show s.heap.IsTuple a its.toArray from p) (x:=u) (by simpa using hu) fun h' D sb=>?_;have I1:Inv X dz σ H { s with heap:=h' }:=I.turned (t':=s.toks) (fun b o B e=>(sb.2 b B).trans e) f0 f1 f3 f4 f5;obtain⟨o,e,c,d⟩:=id D;exact⟨u,rfl,aBx (s:={ s with heap:=h' }) e c d (by decide) ⟨x,H,I1,ru,⟨rfl,fun ys Z=>by rw[I.tuple_inj Z hq];exact hx⟩,D,fun b B=>(J b B).1⟩⟩
 done:=by
  intro X O hw W hc i dz s σ H E I J st Y;subst O hw W;obtain⟨xs,hq,hx⟩:=Y;obtain⟨its,rv,p,hz⟩:=I.tuple hq;obtain⟨f0,f1,f2,f3,f4,f5⟩:=J it (by simp);have hl:=rv.length;exact wpAny_pyNext_tuple_end (I.ok.hd hc) st (show s.heap.IsTuple a its.toArray from p) (by simp;omega) fun h' eb=>⟨rfl,I.turned (t':=s.toks) (fun b o B e=>eb b o B e) f0 f1 f3 f4 f5⟩
 self:=fun _ _ _ _ _ st h=>wpAny_pyIter_tupleiter st h
theorem aAN{P:Ar}{w:AQ}{K:Af}{tg:Bb}(it:Ah)(lo:Int)(n:Nat):aCC P w K tg (Itr lo n) [it] it (fun i h=>IsRangeIter h it (lo+(i:Nat)*1) ((n:Int)-(i:Nat)) 1) where
 mem:=by simp
 obj:=fun i h st b B=>by
  have e:b=it:=by simpa using B
  subst e;exact⟨_,st,fun v z=>by
   have z':F8 _=Data.cell v:=z;cases z'⟩
 keep:=fun i h h' st k=>k it (by simp) _ st
 item:=by
  intro X O hw Y hc i dz s σ H E I J st Z;subst O hw Y;obtain⟨f0,f1,f2,f3,f4,f5⟩:=J it (by simp);have W:=Walks.range (prog:=X.prog) (w:=X.w) (I.ok.hd hc) it lo 1 n;refine W.item i s _ _ Z st fun v h' tk hv D kk=>?_;obtain⟨t,rfl⟩:=hv;have I1:Inv X dz σ H { s with heap:=h',toks:=tk }:=I.turned (fun b o B e=>kk b o (by simpa using B) e) f0 f1 f3 f4 f5;refine⟨_,rfl,aBx (s:={ s with heap:=h',toks:=tk }) (n:="range_iterator") D rfl rfl (by decide) ⟨.int (lo+i),H,I1,⟨t,?_⟩,⟨rfl,rfl⟩,D,fun b B=>(J b B).1⟩⟩;rw[Int.mul_one]
 done:=by
  intro X O hw Y hc i dz s σ H E I J st Z;subst O hw Y;obtain⟨f0,f1,f2,f3,f4,f5⟩:=J it (by simp);exact wpAny_pyNext_range_end (I.ok.hd hc) st (by have:n<=i:=Z;omega) fun h' eb=>⟨rfl,I.turned (t':=s.toks) (fun b o B e=>eb b o B e) f0 f1 f3 f4 f5⟩
 self:=fun _ _ _ _ _ st h=>wpAny_pyIter_rangeiter st h
section
variable{tg:Bb}
def aIc(K:Af)(tl:TE):TI:=fun σ H R=>tl σ H fun x H1=>As V.ref x fun a=>(∃ xs,SqL K H1 a xs)/\R (Itl K a) H1
def aI7(K:Af)(tl:TE):TI:=fun σ H R=>tl σ H fun x H1=>As V.ref x fun a=>(∃ xs,SqT K H1 a xs)/\R (Itt K a) H1
theorem jS{l:Bb}{tl:TE}(O:PE X l tl):PI X tg l (aIc X.K tl):=by
 constructor;intro dz s σ H R I h;refine thn (O dz s σ H _ I h) fun v z ⟨x,H1,B,D,J⟩=>?_;obtain⟨a,e,⟨xs,hq⟩,q⟩:=J;subst e;cases D;obtain⟨its,rv,p,hz⟩:=B.list hq;refine Fv p.isList ?_;refine⟨z.heap.objs.size,[z.heap.objs.size],_,_,H1,rfl,B.kept (t':=z.toks) fun b o e=>Ai _ e,aCD a _,⟨_,Aw _ rfl,rfl,rfl⟩,fun b W=>?_,q⟩;have e:b=z.heap.objs.size:=by simpa using W
 subst e;exact B.fpOk (Ak _) (B.hok.fresh (Ak _))
theorem jT{l:Bb}{tl:TE}(O:PE X l tl):PI X tg l (aI7 X.K tl):=by
 constructor;intro dz s σ H R I h;refine thn (O dz s σ H _ I h) fun v z ⟨x,H1,B,D,J⟩=>?_;obtain⟨a,e,⟨xs,hq⟩,q⟩:=J;subst e;cases D;obtain⟨its,rv,p,hz⟩:=B.tuple hq;refine wpAny_pyIter_tuple (show z.heap.IsTuple a its.toArray from p) ?_;refine⟨z.heap.objs.size,[z.heap.objs.size],_,_,H1,rfl,B.kept (t':=z.toks) fun b o e=>Ai _ e,aAM a _,⟨_,Aw _ rfl,rfl,rfl⟩,fun b W=>?_,q⟩;have e:b=z.heap.objs.size:=by simpa using W
 subst e;exact B.fpOk (Ak _) (B.hok.fresh (Ak _))
theorem yO{dz:List (Ah×Obj)}{σ:St}{H:Hp}{s:Ac}{R:It->Hp->Prop}{E:Ab->Ac->Prop}{lo hi:Int}{t u v:Tok}{tk:Nat}(I:Inv X dz σ H s)(h1:-(2^62)<=lo)(h2:lo<2^62)(W:-(2^62)<=hi)(O:hi<2^62)
  (q:R (Itr lo (hi-lo).toNat) H):wpAny (model X.prog X.w) X.A (pyIter (.ref s.heap.objs.size)) (PIE X dz σ tg R) E { s with heap:=s.heap.push { cls:=.type "range",data:=.fields #[.int lo t,.int hi u,.int 1 v] },toks:=tk }:=by
 refine wpAny_pyIter_range (IsRange.new ..) (small_one h1 h2 W O) ?_;have z:Inv X dz σ H { s with heap:=s.heap.push { cls:=.type "range",data:=.fields #[.int lo t,.int hi u,.int 1 v] },toks:=tk }:=I.kept fun b o e=>Ai _ e;refine⟨(s.heap.push { cls:=.type "range",data:=.fields #[.int lo t,.int hi u,.int 1 v] }).objs.size,[(s.heap.push { cls:=.type "range",data:=.fields #[.int lo t,.int hi u,.int 1 v] }).objs.size],_,_,H,rfl,
  z.kept (t':=tk) fun b o e=>Ai _ e,aAN _ lo (hi-lo).toNat,?_,fun b J=>?_,q⟩
 .have B:lo+((0:Nat):Int)*1=lo:=by simp
  have D:(((hi-lo).toNat:Nat):Int)-((0:Nat):Int)=Builtin.Range.rangeSize lo hi 1:=by rw[rangeSize_one];split<;>omega
  show IsRangeIter _ _ (lo+((0:Nat):Int)*1) ((((hi-lo).toNat:Nat):Int)-((0:Nat):Int)) 1;rw[B,D];exact Aw _ rfl
 .have e:b=(s.heap.push { cls:=.type "range",data:=.fields #[.int lo t,.int hi u,.int 1 v] }).objs.size:=by simpa using J
  subst e;exact z.fpOk (Ak _) (z.hok.fresh (Ak _))
def aId(ta:TA):TI:=fun σ H R=>ta σ H fun vs H1=>∃ j:Int,vs=[.int j]/\-(2^62)<=j/\j<2^62/\R (Itr 0 j.toNat) H1
def aIe(ta:TA):TI:=fun σ H R=>ta σ H fun vs H1=>∃ i j:Int,vs=[.int i,.int j]/\(-(2^62)<=i/\i<2^62/\-(2^62)<=j/\j<2^62)/\R (Itr i (j-i).toNat) H1
theorem fU{a:Bb}{ta:TA}{p pos:Pos}(O:Gl X "range")(hm:X.mg "range"=none)(ha:PA X [a] ta)(B:starEach [a] X.env=[(false,eval a X.env)]:=by rfl):PI X tg (.Call (.Name "range" p) [a] [] pos) (aId ta):=by
 constructor;intro dz s σ H R I h;refine Call_ (rM I O hm boot_range (DK (thn (ha pos dz s σ H _ I h) fun Y Z ⟨vs,H1,W,D,z⟩=>?_) B rfl));obtain⟨j,e,z,q2,q⟩:=z;subst e;cases D with
 | cons r J=>
  cases J;obtain⟨t,rfl⟩:=r;exact call_range_1 (yO W (by omega) (by omega) z q2 (by simpa using q))
theorem aCE{a b:Bb}{ta:TA}{p pos:Pos}(Y:Gl X "range")(hm:X.mg "range"=none)(ha:PA X [a,b] ta)(J:starEach [a,b] X.env=[(false,eval a X.env),(false,eval b X.env)]:=by rfl)(z:starEach [b] X.env=[(false,eval b X.env)]:=by rfl):
  PI X tg (.Call (.Name "range" p) [a,b] [] pos) (aIe ta):=by
 constructor;intro dz s σ H R I h;refine Call_ (rM I Y hm boot_range (DK (thn (ha pos dz s σ H _ I h) fun us s1 ⟨vs,H1,Z,O,B⟩=>?_) (by rw[J,z]) (by rw[z];rfl)));obtain⟨i,j,e,⟨B,q2,q3,q4⟩,q⟩:=B;subst e;cases O with
 | cons r D=>
  cases D with
  | cons W D=>
   cases D;obtain⟨t,rfl⟩:=r;obtain⟨t',rfl⟩:=W;exact call_range_2 (yO Z B q2 q3 q4 q)
def aI8(wi:TI)(g:TG)(tb:TS):TS:=fun D σ H=>wi σ H fun J H1=>∃ W:Nat->Nat->St->Hp->Prop,(∃ m,W 0 m σ H1)/\∀ i m σ H,W i m σ H->
 (J.stop i H/\D.nx σ H)\/(J.go i H/\∃ N:St->Hp->Prop,(∀ σ' H',N σ' H'->∃ m',m'<m/\W (i+1) m' σ' H')/\∀ x H',J.yld i H x H'->g x σ H' fun σ2 H2=>tb { D with nx:=N,ct:=N,bk:=D.nx } σ2 H2)
def mU(fp:List Ah)(h:A8):List (Ah×Obj):=fp.filterMap fun b=>(h.get? b).map fun o=>(b,o)
theorem jU{z:List Ah}{h:A8}{b:Ah}{o:Obj}(B:b∈z)(e:h.get? b=some o):(b,o)∈mU z h:=Cc.mpr ⟨b,B,by rw[e];rfl⟩
theorem vK{z:List Ah}{h:A8}{p:Ah×Obj}(D:p∈mU z h):p.1∈z/\h.get? p.1=some p.2:=by
 obtain⟨b,hb,e⟩:=Cc.mp D;cases q:h.get? b with
 | none=>rw[q]at e;cases e
 | some o=>
  rw[q]at e;have B:(b,o)=p:=Cp.inj e;subst B;exact⟨hb,q⟩
theorem Inv.pinned{dz:List (Ah×Obj)}{σ:St}{H:Hp}{s:Ac}{B:List Ah}(I:Inv X dz σ H s)(O:∀ b∈B,oX X dz H b)(D:∀ b∈B,∃ o,s.heap.get? b=some o/\∀ v,o.data≠.cell v):Inv X (dz++mU B s.heap) σ H s:=
 I.pins_of fun p J=>(Bo.mp J).elim (fun z=>I.pin p (A5 _ z)) fun z=>by
  obtain⟨hb,e⟩:=vK z;obtain⟨f0,f1,f2,_⟩:=O p.1 hb;obtain⟨o,e',d⟩:=D p.1 hb;rw[e]at e';cases e';exact⟨e,f0,f1,f2,d⟩
theorem Inv.unpinned{dz pl:List (Ah×Obj)}{σ:St}{H:Hp}{s:Ac}(I:Inv X (dz++pl) σ H s):Inv X dz σ H s:=I.pins_of fun p z=>I.pin p (A5 _ (DX _ z))
theorem oY{z:Bb}{aa:List BQ}{wi:TI}{g:TG}{tb:TS}{pos:Pos}(hp:PassesOwn (model X.prog X.w) X.A X.env X.xe)(hc:X.calm=true)(hi:PI X tg z wi)(hg:PG X tg g)(O:PSs X aa tb)
  (hs:∀ x,foldedSetIterable z X.env x=pure x:=by intro _;rfl):PS X (.For tg z aa [] pos) (aI8 wi g tb):=by
 constructor;intro dz s σ H D I h;refine wpAny_For (thn (hi dz s σ H _ I h) fun v s1 h1=>thn h1 fun az s2 h2=>?_) hs;obtain⟨it,fp,tn,J,H2,e,I2,T,st2,f2,W,⟨m0,w0⟩,turn⟩:=h2;subst e;have Y:∀{H':Hp},(∀ b∈fp,H' b=none)->∀ b∈fp,oX X dz H' b:=fun hn b O=>⟨hn b O,(f2 b O).2⟩
 refine codeAny_forLoop_any (fun n s'=>∃ i σ' H',Inv X dz σ' H' s'/\tn i s'.heap/\(∀ b∈fp,H' b=none)/\W i n σ' H') ?_ m0 ⟨0,σ,H2,I2,st2,fun b O=>(f2 b O).1,w0⟩;rintro n s3 ⟨i,σ3,H3,I3,ag,ai,w3⟩;rcases turn i n σ3 H3 w3 with⟨stop,qn⟩|⟨go,N,hN,step⟩
 .refine C3 hp (thn (T.done X rfl rfl rfl hc i dz s3 σ3 H3 X.xe I3 (Y ai) ag stop) fun r s4 ⟨hr,I4⟩=>?_);subst hr;exact Dy ⟨σ3,H3,I4,qn⟩
 .refine C3 hp (thn (T.item X rfl rfl rfl hc i dz s3 σ3 H3 X.xe I3 (Y ai) ag go) fun r s4 ⟨u,hr,h4⟩=>?_);subst hr;refine C3 hp (thn h4 fun _ s5 ⟨x,H5,I5,r5,y5,ad,ao⟩=>?_);have ak:=I5.pinned (Y ao) (T.obj _ _ ad);refine C3 hp (thn (hg _ s5 σ3 H5 x u _ ak r5 (step x H5 y5)) fun _ s6 ⟨σ6,H6,I6,q6⟩=>?_);refine C3 hp (thn (O _ s6 σ6 H6 _ I6 q6) fun f s7 q7=>?_);have again:∀{B:St} {Z:Hp},Inv X (dz++mU fp s5.heap) B Z s7->N B Z->∃ m,m<n/\∃ i σ' H',Inv X dz σ' H' s7/\tn i s7.heap/\(∀ b∈fp,H' b=none)/\W i m σ' H':=fun{B Z} I7 n7=>by
   obtain⟨m',hm,w7⟩:=hN B Z n7;refine⟨m',hm,i+1,B,Z,I7.unpinned,T.keep _ _ _ ad fun b O o e=>(I7.pin (b,o) (A5 _ (A5 _ (jU O e)))).1,fun b O=>?_,w7⟩;obtain⟨o,e,d⟩:=T.obj _ _ ad b O;exact(I7.pin (b,o) (A5 _ (A5 _ (jU O e)))).2.1
  cases f with
  | next=>obtain⟨B,Z,I7,n7⟩:=q7;exact again I7 n7
  | cont=>obtain⟨B,Z,I7,n7⟩:=q7;exact again I7 n7
  | brk=>obtain⟨B,Z,I7,q7⟩:=q7;exact⟨B,Z,I7.unpinned,q7⟩
  | ret v=>obtain⟨x7,B,Z,I7,r7,q7⟩:=q7;exact⟨x7,B,Z,I7.unpinned,r7,q7⟩
end
theorem aFr{K:Af}{a:Ah}{xs:List V}{g:TG}{tb:TS}{D:nJ}{σ:St}{H:Hp}(z:Nat->St->Hp->Prop)(h0:z 0 σ H)(hl:∀ i σ H,i<=xs.length->z i σ H->SqT K H a xs)
  (Z:∀ i x σ H,xs[i]?=some x->z i σ H->g x σ H fun O H2=>tb { D with nx:=z (i+1),ct:=z (i+1),bk:=D.nx } O H2) (hd:∀ σ H,z xs.length σ H->D.nx σ H):
  ∃ W:Nat->Nat->St->Hp->Prop,(∃ m,W 0 m σ H)/\∀ i m σ H,W i m σ H->
   ((Itt K a).stop i H/\D.nx σ H)\/((Itt K a).go i H/\∃ N:St->Hp->Prop,(∀ J H',N J H'->∃ Y,Y<m/\W (i+1) Y J H')/\∀ x H',(Itt K a).yld i H x H'->g x σ H' fun O H2=>tb { D with nx:=N,ct:=N,bk:=D.nx } O H2):=by
 refine⟨fun i m σ H=>m=xs.length-i/\i<=xs.length/\z i σ H,⟨xs.length,by simp,Bx _,h0⟩,?_⟩;rintro i m σ H ⟨rfl,hi,p⟩;have q:=hl i σ H hi p;by_cases B:i<xs.length
 .refine .inr ⟨⟨xs,xs[i],q,by simp[B]⟩,z (i+1),fun J H' p'=>⟨xs.length-(i+1),by omega,rfl,B,p'⟩,fun x H' y=>?_⟩;obtain⟨e,y⟩:=y;subst e;exact Z i x σ _ (y xs q) p
 .have e:i=xs.length:=by omega
  subst e;exact .inl ⟨⟨xs,q,Ak _⟩,hd σ H p⟩
theorem i9{lo:Int}{n:Nat}{g:TG}{tb:TS}{D:nJ}{σ:St}{H:Hp}(z:Nat->St->Hp->Prop)(h0:z 0 σ H)
  (Z:∀ i σ H,i<n->z i σ H->g (.int (lo+i)) σ H fun O H2=>tb { D with nx:=z (i+1),ct:=z (i+1),bk:=D.nx } O H2) (hd:∀ σ H,z n σ H->D.nx σ H):
  ∃ W:Nat->Nat->St->Hp->Prop,(∃ m,W 0 m σ H)/\∀ i m σ H,W i m σ H->
   ((Itr lo n).stop i H/\D.nx σ H)\/((Itr lo n).go i H/\∃ N:St->Hp->Prop,(∀ J H',N J H'->∃ Y,Y<m/\W (i+1) Y J H')/\∀ x H',(Itr lo n).yld i H x H'->g x σ H' fun O H2=>tb { D with nx:=N,ct:=N,bk:=D.nx } O H2):=by
 refine⟨fun i m σ H=>m=n-i/\i<=n/\z i σ H,⟨n,by simp,Bx _,h0⟩,?_⟩;rintro i m σ H ⟨rfl,hi,p⟩;by_cases B:i<n
 .refine .inr ⟨B,z (i+1),fun J H' p'=>⟨n-(i+1),by omega,rfl,B,p'⟩,fun x H' y=>?_⟩;obtain⟨e,y⟩:=y;subst e y;exact Z i σ _ B p
 .have e:i=n:=by omega
  subst e;exact .inl ⟨Ak _,hd σ H p⟩
abbrev R2:=V->V->Hp->VK->Prop
def OpR(X:Cx)(f:Ab->Ab->Sem Ab)(r:R2):Prop:=
 ∀(dz:List (Ah×Obj)) (s:Ac) (σ:St) (H:Hp) (x y:V) (v u:Ab) (Q:VK),Inv X dz σ H s->cW x v->cW y u->r x y H Q->
  wpAny (model X.prog X.w) X.A (f v u) (EP X dz σ Q) X.xe s
def UnR(X:Cx)(f:Ab->Sem Ab)(r:V->Hp->VK->Prop):Prop:=
 ∀(dz:List (Ah×Obj)) (s:Ac) (σ:St) (H:Hp) (x:V) (v:Ab) (Q:VK),Inv X dz σ H s->cW x v->r x H Q->
  wpAny (model X.prog X.w) X.A (f v) (EP X dz σ Q) X.xe s
def eU(X:Cx)(f:Ab)(r:List V->Hp->VK->Prop):Prop:=
 ∀(dz:List (Ah×Obj)) (s:Ac) (σ:St) (H:Hp) (xs:List V) (us:List Ab) (Q:VK),Inv X dz σ H s->cJ xs us->r xs H Q->
  wpAny (model X.prog X.w) X.A (call f us) (EP X dz σ Q) X.xe s
def tOp(r:R2)(ta tb:TE):TE:=fun σ H Q=>ta σ H fun x H1=>tb σ H1 fun y H2=>r x y H2 Q
def tUn(r:V->Hp->VK->Prop)(ta:TE):TE:=fun σ H Q=>ta σ H fun x H1=>r x H1 Q
inductive aIf(C:Int->Int->Prop)(g:Int->Int->V)(x:V)(y:V)(H:Hp)(Q:VK):Prop
 | mk (i:_) (j:_) (q0:x=.int i) (q1:y=.int j) (q2:C i j) (q3:Q (g i j) H):aIf C g x y H Q
def rI(C:Int->Int->Prop)(g:Int->Int->V):R2:=fun x y H Q=>aIf C g x y H Q
inductive aGy(g:Int->Int->V)(x:V)(y:V)(H:Hp)(Q:VK):Prop
 | mk (i:_) (j:_) (q0:x=.int i) (q1:y=.int j) (q2:Q (g i j) H):aGy g x y H Q
def rI0(g:Int->Int->V):R2:=fun x y H Q=>aGy g x y H Q
inductive aIg(g:Int->V)(x:V)(H:Hp)(Q:VK):Prop
 | mk (i:_) (q0:x=.int i) (q1:Q (g i) H):aIg g x H Q
def rU(g:Int->V):V->Hp->VK->Prop:=fun x H Q=>aIg g x H Q
section
variable{a b c:Bb}{ta tb tc:TE}
theorem aG6(ha:PE X a ta)(W:PE X b tb){dz:List (Ah×Obj)}{s:Ac}{σ:St}{H:Hp}{R:V->V->Hp->Prop}(I:Inv X dz σ H s)
  (h:ta σ H fun x H1=>tb σ H1 fun y H2=>R x y H2) {Q:Ab->Ac->Prop} {f:Ab->Ab->Sem Ab}
  (hf:∀ v u z x y H2,Inv X dz σ H2 z->cW x v->cW y u->R x y H2->wpAny (model X.prog X.w) X.A (f v u) Q X.xe z):
  wpAny (model X.prog X.w) X.A (eval a X.env) (fun v s₁=>wpAny (model X.prog X.w) X.A (eval b X.env) (fun u s₂=>wpAny (model X.prog X.w) X.A (f v u) Q X.xe s₂) X.xe s₁) X.xe s:=by
 refine thn (ha dz s σ H _ I h) fun v Y ⟨x,H1,I1,B,O⟩=>?_;refine thn (W dz Y σ H1 _ I1 O) fun u z ⟨y,H2,D,Z,J⟩=>?_;exact hf v u z x y H2 D B Z J
theorem aQ{z:Operator}{r:R2}(W:OpR X (binaryOp z) r)(ha:PE X a ta)(O:PE X b tb):PE X (.BinOp a z b pos) (tOp r ta tb):=by
 constructor;intro dz s σ H Q I h;exact wpAny_BinOp (aG6 ha O I h fun v u J x y H2 D B Y q=>W dz J σ H2 x y v u Q D B Y q)
theorem rN{z:UnaryOp}{r:V->Hp->VK->Prop}(B:UnR X (unaryOp z) r)(ha:PE X a ta):PE X (.UnaryOp z a pos) (tUn r ta):=by
 constructor;intro dz s σ H Q I h;exact UnaryOp_ (thn (ha dz s σ H _ I h) fun v D ⟨x,H1,W,O,J⟩=>B dz D σ H1 x v Q W O J)
theorem opI{f:Ab->Ab->Sem Ab}{C:Int->Int->Prop}{g:Int->Int->Int}
  (z:∀(i j:Int) (t u:Tok) (s:Ac) (Q:Ab->Ac->Prop) (E:Ab->Ac->Prop),C i j->Q (.int (g i j) s.toks) { s with toks:=s.toks+1 }->wpAny (model X.prog X.w) X.A (f (.int i t) (.int j u)) Q E s):
  OpR X f (rI C fun i j=>.int (g i j)):=by
 intro dz s σ H x y v u Q I B D h;obtain⟨i,j,rfl,rfl,hc,q⟩:=h;obtain⟨t,rfl⟩:=B;obtain⟨t',rfl⟩:=D;exact z i j t t' s _ _ hc ⟨.int (g i j),H,I.tok _,⟨_,rfl⟩,q⟩
theorem aIh{f:Ab->Ab->Sem Ab}{g:Int->Int->Int}
  (z:∀(i j:Int) (t u:Tok) (s:Ac) (Q:Ab->Ac->Prop) (E:Ab->Ac->Prop),Q (.int (g i j) s.toks) { s with toks:=s.toks+1 }->wpAny (model X.prog X.w) X.A (f (.int i t) (.int j u)) Q E s):
  OpR X f (rI0 fun i j=>.int (g i j)):=by
 intro dz s σ H x y v u Q I B D h;obtain⟨i,j,rfl,rfl,q⟩:=h;obtain⟨t,rfl⟩:=B;obtain⟨t',rfl⟩:=D;exact z i j t t' s _ _ ⟨.int (g i j),H,I.tok _,⟨_,rfl⟩,q⟩
theorem aFs{f:Ab->Ab->Sem Ab}{g:Int->Int->Bool}
  (z:∀(i j:Int) (t u:Tok) (s:Ac) (Q:Ab->Ac->Prop) (E:Ab->Ac->Prop),Q (.bool (g i j)) s->wpAny (model X.prog X.w) X.A (f (.int i t) (.int j u)) Q E s):
  OpR X f (rI0 fun i j=>.bl (g i j)):=by
 intro dz s σ H x y v u Q I B D h;obtain⟨i,j,rfl,rfl,q⟩:=h;obtain⟨t,rfl⟩:=B;obtain⟨t',rfl⟩:=D;exact z i j t t' s _ _ ⟨.bl (g i j),H,I,rfl,q⟩
def aI9(i j:Int):Prop:=0<j/\j<1073741824
def mV(i j:Int):Prop:=0<=j/\j<=1000000/\i.natAbs<2^64
def aG7(i j:Int):Prop:=(-(2^64)<i/\i<2^64)\/(-(2^64)<j/\j<2^64)
theorem aG7.ok{i j:Int}(h:aG7 i j):IntMulOk i j:=by
 rcases h with⟨h1,h2⟩|⟨h1,h2⟩
 .exact .of_left (intBits_le_64 h1 h2)
 .exact .of_right (intBits_le_64 h1 h2)
theorem cT:OpR X (binaryOp .Add) (rI0 fun i j=>.int (i+j)):=aIh fun _ _ _ _ _ _ _ q=>add_int q
theorem gO:OpR X (binaryOp .Sub) (rI0 fun i j=>.int (i-j)):=aIh fun _ _ _ _ _ _ _ q=>sub_int q
theorem jV:OpR X (binaryOp .Mult) (rI aG7 fun i j=>.int (i*j)):=opI fun _ _ _ _ _ _ _ hc q=>mul_int q hc.ok
theorem aBy:OpR X (binaryOp .FloorDiv) (rI aI9 fun i j=>.int (i/j)):=opI fun i j _ _ _ _ _ hc q=>by
 have h1:(0:Int)<j:=hc.1;have h2:j<1073741824:=hc.2;exact floordiv_int (by omega) (by rw[Int.fdiv_eq_ediv_of_nonneg i (by omega)];exact q) (.inl (PyProof.noPylong_small (by omega)))
theorem gE:OpR X (binaryOp .Mod) (rI (fun _ j=>0<j) fun i j=>.int (i%j)):=opI fun i j _ _ _ _ _ hc q=>by
 have h1:(0:Int)<j:=hc;exact mod_int' (by omega) (by rw[Int.fmod_eq_emod_of_nonneg i (by omega)];exact q)
theorem dM:OpR X (binaryOp .Pow) (rI mV fun i j=>.int (i^j.toNat)):=opI fun _ _ _ _ _ _ _ hc q=>pow_int_small hc.1 hc.2.1 hc.2.2 q
theorem unI{f:Ab->Sem Ab}{g:Int->Int}
  (z:∀(i:Int) (t:Tok) (s:Ac) (Q:Ab->Ac->Prop) (E:Ab->Ac->Prop),Q (.int (g i) s.toks) { s with toks:=s.toks+1 }->wpAny (model X.prog X.w) X.A (f (.int i t)) Q E s):
  UnR X f (rU fun i=>.int (g i)):=by
 intro dz s σ H x v Q I B h;obtain⟨i,rfl,q⟩:=h;obtain⟨t,rfl⟩:=B;exact z i t s _ _ ⟨.int (g i),H,I.tok _,⟨_,rfl⟩,q⟩
theorem mX:UnR X (unaryOp .USub) (rU fun i=>.int (-i)):=unI fun _ _ _ _ _ q=>neg_int q
end
def aG8:V->V->Bool
 | .non,.non=>true|.non,.int _=>true|.int _,.non=>true|.non,.bl _=>true|.bl _,.non=>true|.non,.str _=>true|.str _,.non=>true
 | .int _,.int _=>true|.bl _,.bl _=>true|.str _,.str _=>true|.byt _,.byt _=>true
 | .int _,.str _=>true|.str _,.int _=>true|.bl _,.str _=>true|.str _,.bl _=>true
 | _,_=>false
def rEq:R2:=fun x y H Q=>aG8 x y=true/\Q (.bl (decide (x=y))) H
def rNe:R2:=fun x y H Q=>aG8 x y=true/\Q (.bl (!decide (x=y))) H
theorem aBz{i j:Int}:decide (V.int i=V.int j)=(i==j):=by
 rw[BY];simp
theorem aDz{i j:Bool}:decide (V.bl i=V.bl j)=(i==j):=by
 rw[BY];simp
theorem aBA{i j:Str}:decide (V.str i=V.str j)=(i==j):=by
 rw[BY];simp
theorem aBB{i j:Array UInt8}:decide (V.byt i=V.byt j)=(i.toList==j.toList):=by
 rw[BY];cases i;cases j;simp
section
variable{a b c:Bb}{ta tb tc:TE}
theorem dD{dz:List (Ah×Obj)}{σ:St}{H:Hp}{s:Ac}{Q:VK}{k z:Bool}(I:Inv X dz σ H s)(q:Q (.bl k) H)(e:k=z):EP X dz σ Q (.bool z) s:=by
 subst e;exact⟨.bl k,H,I,rfl,q⟩
theorem cQ:OpR X (compareOp .Eq) rEq:=by
 intro dz s σ H x y v u Q I B z h;obtain⟨hs,q⟩:=h;cases x with
 | non=>
  cases B;cases y with
  | non=>cases z;exact PySem.EqNone.eq_none_none (dD I q (by simp))
  | bl j=>cases z;exact PySem.EqNone.eq_none_bool (dD I q (by simp))
  | int j=>obtain⟨t',rfl⟩:=z;exact PySem.EqNone.eq_none_int (dD I q (by simp))
  | str j=>obtain⟨t',rfl⟩:=z;exact PySem.EqNone.eq_none_str (dD I q (by simp))
  | _=>exact absurd (show false=true from hs) AG
 | bl i=>
  cases B;cases y with
  | non=>cases z;exact PySem.EqNone.eq_bool_none (dD I q (by simp))
  | bl j=>cases z;exact eq_bool (dD I q aDz)
  | str j=>obtain⟨t',rfl⟩:=z;exact PySem.EqMixed.eq_bool_str (dD I q (by simp))
  | _=>exact absurd (show false=true from hs) AG
 | int i=>
  obtain⟨t,rfl⟩:=B;cases y with
  | non=>cases z;exact PySem.EqNone.eq_int_none (dD I q (by simp))
  | int j=>obtain⟨t',rfl⟩:=z;exact eq_int (dD I q aBz)
  | str j=>obtain⟨t',rfl⟩:=z;exact PySem.EqMixed.eq_int_str (dD I q (by simp))
  | _=>exact absurd (show false=true from hs) AG
 | str i=>
  obtain⟨t,rfl⟩:=B;cases y with
  | non=>cases z;exact PySem.EqNone.eq_str_none (dD I q (by simp))
  | bl j=>cases z;exact PySem.EqMixed.eq_str_bool (dD I q (by simp))
  | int j=>obtain⟨t',rfl⟩:=z;exact PySem.EqMixed.eq_str_int (dD I q (by simp))
  | str j=>obtain⟨t',rfl⟩:=z;exact eq_str (dD I q aBA)
  | _=>exact absurd (show false=true from hs) AG
 | byt i=>
  obtain⟨t,rfl⟩:=B;cases y with
  | byt j=>obtain⟨t',rfl⟩:=z;exact PySem.W.eq_bytes (dD I q aBB)
  | _=>exact absurd (show false=true from hs) AG
 | _=>cases y<;>exact absurd (show false=true from hs) AG
theorem rO:OpR X (compareOp .NotEq) rNe:=by
 intro dz s σ H x y v u Q I B z h;obtain⟨hs,q⟩:=h;cases x with
 | non=>
  cases B;cases y with
  | non=>cases z;exact PySem.EqNone.ne_none_none (dD I q (by simp))
  | bl j=>cases z;exact PySem.EqNone.ne_none_bool (dD I q (by simp))
  | int j=>obtain⟨t',rfl⟩:=z;exact PySem.EqNone.ne_none_int (dD I q (by simp))
  | str j=>obtain⟨t',rfl⟩:=z;exact PySem.EqNone.ne_none_str (dD I q (by simp))
  | _=>exact absurd (show false=true from hs) AG
 | bl i=>
  cases B;cases y with
  | non=>cases z;exact PySem.EqNone.ne_bool_none (dD I q (by simp))
  | bl j=>cases z;exact ne_bool (dD I q (congrArg not aDz))
  | str j=>obtain⟨t',rfl⟩:=z;exact PySem.EqMixed.ne_bool_str (dD I q (by simp))
  | _=>exact absurd (show false=true from hs) AG
 | int i=>
  obtain⟨t,rfl⟩:=B;cases y with
  | non=>cases z;exact PySem.EqNone.ne_int_none (dD I q (by simp))
  | int j=>obtain⟨t',rfl⟩:=z;exact ne_int (dD I q (congrArg not aBz))
  | str j=>obtain⟨t',rfl⟩:=z;exact PySem.EqMixed.ne_int_str (dD I q (by simp))
  | _=>exact absurd (show false=true from hs) AG
 | str i=>
  obtain⟨t,rfl⟩:=B;cases y with
  | non=>cases z;exact PySem.EqNone.ne_str_none (dD I q (by simp))
  | bl j=>cases z;exact PySem.EqMixed.ne_str_bool (dD I q (by simp))
  | int j=>obtain⟨t',rfl⟩:=z;exact PySem.EqMixed.ne_str_int (dD I q (by simp))
  | str j=>obtain⟨t',rfl⟩:=z;exact ne_str (dD I q (congrArg not aBA))
  | _=>exact absurd (show false=true from hs) AG
 | byt i=>
  obtain⟨t,rfl⟩:=B;cases y with
  | byt j=>obtain⟨t',rfl⟩:=z;exact PySem.W.ne_bytes (dD I q (congrArg not aBB))
  | _=>exact absurd (show false=true from hs) AG
 | _=>cases y<;>exact absurd (show false=true from hs) AG
theorem yP:OpR X (compareOp .Lt) (rI0 fun i j=>.bl (decide (i<j))):=aFs fun _ _ _ _ _ _ _ q=>lt_int q
theorem j8:OpR X (compareOp .LtE) (rI0 fun i j=>.bl (decide (i<=j))):=aFs fun _ _ _ _ _ _ _ q=>le_int q
theorem yQ:OpR X (compareOp .Gt) (rI0 fun i j=>.bl (decide (j<i))):=aFs fun _ _ _ _ _ _ _ q=>gt_int q
theorem aIi:OpR X (compareOp .GtE) (rI0 fun i j=>.bl (decide (j<=i))):=aFs fun _ _ _ _ _ _ _ q=>ge_int q
theorem aY(b:Bb){z:F4}(h:z≠.In:=by decide)(h2:z≠.NotIn:=by decide):behindInMarks z b=false:=by
 have B:(z==CmpOp.In)=false:=by cases z<;>first|rfl|exact absurd rfl h
 have D:(z==CmpOp.NotIn)=false:=by cases z<;>first|rfl|exact absurd rfl h2
 cases b<;>simp[behindInMarks,B,D]
theorem dF{z:F4}{r:R2}(W:OpR X (compareOp z) r)(ha:PE X a ta)(O:PE X b tb)(hm:behindInMarks z b=false):PE X (.Compare a [z] [b] pos) (tOp r ta tb):=by
 constructor;intro dz s σ H Q I h;exact wpAny_Compare1 (aG6 ha O I h fun v u J x y H2 D B Y q=>W dz J σ H2 x y v u Q D B Y q) hm
def aGz(t:TE):TT:=fun σ H Q=>t σ H fun x H'=>As V.bl x fun k=>Q k H'
theorem aW{B:F4}{r:R2}(ho:OpR X (compareOp B) r)(ha:PE X a ta)(hb:PE X b tb)(hm:behindInMarks B b=false):PT X (.Compare a [B] [b] pos) (aGz (tOp r ta tb)):=by
 constructor;intro dz s σ H Q I h;refine wpAny_isTrue_Compare1 (thn (ha dz s σ H _ I h) fun v s1 ⟨x,H1,I1,O,q1⟩=>thn (hb dz s1 σ H1 _ I1 q1) fun u s2 ⟨y,H2,Y,r2,Z⟩=>
  thn (ho dz s2 σ H2 x y v u _ Y O r2 Z) fun c s3 ⟨z,D,I3,W,k,e,J⟩=>?_) hm
 subst e;cases W;exact BX ⟨D,I3,J⟩
def aDA(r r':R2)(ta tb tc:TE):TE:=fun σ H Q=>ta σ H fun x H1=>tb σ H1 fun y H2=>r x y H2 fun z H3=>As V.bl z fun k=>
 (if k=true then tc σ H3 fun w' H4=>r' y w' H4 Q else Q (.bl false) H3)
theorem nM{D B:F4}{r Y:R2}(ho:OpR X (compareOp D) r)(J:OpR X (compareOp B) Y)(ha:PE X a ta)(hb:PE X b tb)(hc:PE X c tc)
  (hm:lastMarks [D,B] [b,c]=false:=by with_unfolding_all rfl):PE X (.Compare a [D,B] [b,c] pos) (aDA r Y ta tb tc):=by
 constructor;intro dz s σ H Q I h;refine Compare_chain (thn (ha dz s σ H _ I h) fun v s1 ⟨x,H1,I1,r1,q1⟩=>chain_link (thn (hb dz s1 σ H1 _ I1 q1) fun u s2 ⟨y,H2,I2,Z,q2⟩=>
  thn (ho dz s2 σ H2 x y v u _ I2 r1 Z q2) fun d s3 ⟨z,O,I3,r3,k,e,W⟩=>?_)) hm
 subst e;cases r3;refine BX ?_;cases k with
 | false=>exact ite_ff ⟨.bl false,O,I3,rfl,W⟩
 | true=>exact ite_tt (chain_last (thn (hc dz s3 σ O _ I3 W) fun w' s4 ⟨z',H4,I4,r4,q4⟩=>J dz s4 σ H4 y z' u w' Q I4 Z r4 q4))
theorem rP{D B:F4}{r Y:R2}(ho:OpR X (compareOp D) r)(J:OpR X (compareOp B) Y)(ha:PE X a ta)(hb:PE X b tb)(hc:PE X c tc)
  (hm:lastMarks [D,B] [b,c]=false:=by with_unfolding_all rfl):PT X (.Compare a [D,B] [b,c] pos) (aGz (aDA r Y ta tb tc)):=by
 constructor;intro dz s σ H Q I h;refine isTrue_chain (thn (ha dz s σ H _ I h) fun v s1 ⟨x,H1,I1,r1,q1⟩=>test_link (thn (hb dz s1 σ H1 _ I1 q1) fun u s2 ⟨y,H2,I2,Z,q2⟩=>
  thn (ho dz s2 σ H2 x y v u _ I2 r1 Z q2) fun d s3 ⟨z,O,I3,r3,k,e,W⟩=>?_)) hm
 subst e;cases r3;refine BX ?_;cases k with
 | false=>
  obtain⟨k',e',q'⟩:=W;cases e';exact ite_ff ⟨O,I3,q'⟩
 | true=>
  refine ite_tt (test_last (thn (hc dz s3 σ O _ I3 W) fun w' s4 ⟨z',H4,I4,r4,q4⟩=>thn (J dz s4 σ H4 y z' u w' _ I4 Z r4 q4) fun d' s5 ⟨z2,H5,I5,r5,k2,e2,q5⟩=>?_));subst e2;cases r5;exact BX ⟨H5,I5,q5⟩
theorem oZ:(sizeLine:Nat)<2^63:=by rw[Fb];decide
inductive kF(x:V)(y:V)(H:Hp)(Q:VK):Prop
 | mk (i:_) (j:_) (q0:x=.str i) (q1:y=.str j) (q2:i.length+j.length<=sizeLine) (q3:Q (.str (i++j)) H):kF x y H Q
def xE:V->V->Hp->VK->Prop:=fun x y H Q=>kF x y H Q
theorem gP:OpR X (binaryOp .Add) xE:=by
 intro dz s σ H x y v u Q I z D h;obtain⟨i,j,rfl,rfl,hz,q⟩:=h;obtain⟨t,rfl⟩:=z;obtain⟨B,rfl⟩:=D;exact add_str (fun B tk=>⟨.str (i++j),H,I.tok _,⟨_,rfl⟩,q⟩) hz
theorem fY{x:V}{z:List Ab}(r:cJ [x] z):∃ u,z=[u]/\cW x u:=by
 cases r with
 | cons D B=>cases B;exact⟨_,rfl,D⟩
theorem aDB{x y:V}{z:List Ab}(r:cJ [x,y] z):∃ u B,z=[u,B]/\cW x u/\cW y B:=by
 cases r with
 | cons O J=>
  cases J with
  | cons W D=>cases D;exact⟨_,_,rfl,O,W⟩
inductive nO(xs:List V)(H:Hp)(Q:VK):Prop
 | mk (i:_) (q0:xs=[.int i]) (q1:Q (.int (if i<0 then -i else i)) H):nO xs H Q
def aAO:List V->Hp->VK->Prop:=fun xs H Q=>nO xs H Q
theorem rQ:eU X (.builtin "abs") aAO:=by
 intro dz s σ H xs z Q I r h;obtain⟨i,rfl,q⟩:=h;obtain⟨u,rfl,t,rfl⟩:=fY r;exact call_abs_int fun u tk=>⟨.int (if i<0 then -i else i),H,I.tok _,⟨_,rfl⟩,q⟩
inductive lW(xs:List V)(H:Hp)(Q:VK):Prop
 | mk (i:_) (j:_) (q0:xs=[.int i,.int j]) (q1:Q (.int (if j<i then j else i)) H):lW xs H Q
def yR:List V->Hp->VK->Prop:=fun xs H Q=>lW xs H Q
theorem vL(hc:X.calm=true):eU X (.builtin "min") yR:=by
 intro dz s σ H xs B Q I r h;obtain⟨i,j,rfl,q⟩:=h;obtain⟨u,w',rfl,⟨t,rfl⟩,⟨t',rfl⟩⟩:=aDB r;refine min_two_ints (I.ok.hd hc) fun h' tk k=>⟨_,H,I.kept k,?_,q⟩
 by_cases z:j<i
 .rw[Ib z,Ib z];exact⟨_,rfl⟩
 .rw[Ia z,Ia z];exact⟨_,rfl⟩
theorem aCF:eU X (.type "int") (fun xs H Q=>(∃ i,xs=[.int i]/\Q (.int i) H)\/∃ k,xs=[.bl k]/\Q (.int (if k then 1 else 0)) H):=by
 intro dz s σ H xs z Q I r h;rcases h with⟨i,rfl,q⟩|⟨k,rfl,q⟩
 .obtain⟨u,rfl,t,rfl⟩:=fY r;exact call_int_int ⟨.int i,H,I,⟨_,rfl⟩,q⟩
 .obtain⟨u,rfl,r1⟩:=fY r;cases r1;exact call_int_bool ⟨.int (if k then 1 else 0),H,I.tok _,⟨_,rfl⟩,q⟩
end
structure aG9(h:A8)(x dx C:Ah)(mA:Str->Option Ab):Prop where
 obj:h.get? x=some (Ff C dx)
 ns:h.Ns1 dx mA
 ne:dx≠x
theorem aCG{h:A8}{dx:Ah}{mA:Str->Option Ab}(n:h.Ns1 dx mA):∃ od,h.get? dx=some od/\∀ name,Fp name od=some (mA name):=by
 obtain⟨o,es,ep,ho,hd,hk,_,hm⟩:=n;refine⟨o,ho,fun name=>?_⟩;have e:=hm name;unfold nsFind findBy at e;rw[<- Array.find?_toList]at e;unfold Fp;rw[hd];dsimp only;split
 .rename_i y q;rw[q]at e;exact congrArg some e
 .rename_i q;rw[q]at e;have a:es.toList.any (·.refKey)=false:=by
   rw[List.any_eq_false];intro y D;obtain⟨z,t,hkey⟩:=hk y (Array.mem_toList_iff.mp D);simp[DictEntry.refKey,hkey]
  have B:¬ es.toList.any (·.refKey)=true:=by rw[a];exact AG
  rw[Ia B];exact congrArg some e
theorem aG9.look{h:A8}{x dx C:Ah}{mA:Str->Option Ab}(I:aG9 h x dx C mA):∃ od,PySem.W.InstAt h x (Ff C dx) C (some od)/\∀ name,Fp name od=some (mA name):=
 let ⟨od,ho,hl⟩:=aCG I.ns
 ⟨od,⟨I.obj,rfl,rfl,ho⟩,hl⟩
section
variable{prog:Ar}{K:Af}{x dx:Ah}{mA:Str->Option Ab}{name:Str}{v:Ab}
end
theorem nE.some_of{v:V}{o:Option Ab}(r:nE (some v) o):∃ u,o=some u/\cW v u:=by
 cases o with
 | none=>exact(show False from r).elim
 | some u=>exact⟨u,rfl,r⟩
section
variable{a dx:Ah}{fs fs':List (Str×V)}
theorem aBC(hok:HOk P w H h)(e:H a=some (.ins C dx fs)):∃ mA,aG9 h a dx C mA/\(∀ f,nE (fs.lookup f) (mA f))/\PySem.Within mA (fs.map (·.1))/\fs.length<=1000/\H dx=some (.own a):=by
 obtain⟨d,z,ne,ob,mA,n,r,q⟩:=(show c7 P w H h a (.ins C dx fs) from hok a _ e)
 exact⟨mA,⟨ob,n,ne⟩,r,q,z,d⟩
end
structure Cls(K:Af)(C:Ah):Prop where
 pg:PySem.W.plainGet K C Str.empty=true
 hd:PySem.W.hasDictIn K C=true
 po:PySem.W.plainOver K C=true
 sa:CD K (.ref C) "__setattr__"=some (some (.builtin "object.__setattr__"))
theorem Cls.get{K:Af}{C:Ah}(c:Cls K C)(f:Str):PySem.W.plainGet K C f=true:=c.pg
structure Con(K:Af)(C:Ah)(f:Str)(v:V)(u:Ab):Prop where
 at_:CD K (.ref C) f=some (some u)
 rel:cW v u
 get:EZ K u "__get__"=some none
 cp:PySem.W.copiedNames.contains f=false
structure aJJ(K:Af)(C:Ah)(m:Str)(f:Ah):Prop where
 at_:CD K (.ref C) m=some (some (.ref f))
 fn:PySem.W.isFn K (.ref f)=true
 kp:Az K (.ref f)=true
section
variable{a dx:Ah}{fs:List (Str×V)}{f:Str}{v:V}
end
section
variable{o value:Bb}{f:Str}{fm tpos:Pos}{ta tv:TE}
end
section
variable{Q:Ab->Ac->Prop}{c:Ab}{b:Bool}
inductive jA(K:Af)(H:Hp):V->Ab->Prop where
 | non:jA K H .non (.type "NoneType")
 | bl (x:Bool):jA K H (.bl x) (.type "bool")
 | int (i:Int):jA K H (.int i) (.type "int")
 | str (x:Str):jA K H (.str x) (.type "str")
 | flt (x:UInt64):jA K H (.flt x) (.type "float")
 | lst {a:Ah} {xs:List V} (e:H a=some (.lst xs)):jA K H (.ref a) (.type "list")
 | frz {a:Ah} {o:Obj} {xs:List V} (e:H a=some (.frz o (.lst xs))):jA K H (.ref a) (.type "list")
 | tup {a:Ah} {xs:List V} (e:H a=some (.tup xs)):jA K H (.ref a) (.type "tuple")
 | dK {a:Ah} {fc:List (Key×V)} (e:H a=some (.dK fc)):jA K H (.ref a) (.type "dict")
 | dT {a:Ah} {fc:List (List Key×V)} (e:H a=some (.dT fc)):jA K H (.ref a) (.type "dict")
 | ins {a C dx:Ah} {fs:List (Str×V)} (e:H a=some (.ins C dx fs)) (cl:Cls K C) (ha:CD K (.ref C) "__class__"=some (some (.builtin "object.__class__")))
   (hn:EZ K (.builtin "object.__class__") "__get__"=some (some (.builtin "getset_descriptor.__get__"))) (htk:PySem.W.takesIn K (.builtin "object.__class__")=some true)
   (hm:Fy K C (.type "object")=some true):jA K H (.ref a) (.ref C)
theorem aCH{x:V}{u t:Ab}(I:Inv X dz σ H s)(B:cW x u)(ty:jA X.K H x t)(e:Bu X.K t c=some b)(h:∀ tk,Q (.bool b) { s with toks:=tk }):
  wpAny (model X.prog X.w) A (call (.builtin "isinstance") [u,c]) Q E s:=by
 cases ty with
 | non=>cases(show u=CN from B);exact BW PySem.W.kitx_none I.kIn B4 e (fun z=>nomatch z) h
 | bl y=>cases(show u=Fx y from B);exact BW PySem.W.kitx_bool I.kIn B4 e (fun z=>nomatch z) h
 | int i=>obtain⟨t,q⟩:=(show∃ t,u=Cm i t from B);cases q;exact BW PySem.W.kitx_int I.kIn B4 e (fun z=>nomatch z) h
 | str y=>obtain⟨t,q⟩:=(show∃ t,u=BK y t from B);cases q;exact BW PySem.W.kitx_str I.kIn B4 e (fun z=>nomatch z) h
 | flt y=>obtain⟨t,q⟩:=(show∃ t,u=F0 y t from B);cases q;exact BW PySem.W.kitx_float I.kIn B4 e (fun z=>nomatch z) h
 | @lst a xs D=>
  cases(show u=AI a from B);obtain⟨_,_,n,_,h1⟩:=(show c7 X.prog X.w H s.heap a (.lst xs) from I.hok a _ D)
  exact BW D5 I.kIn ⟨_,h1,rfl⟩ e (fun z=>nomatch z) h
 | @frz a ob xs D=>
  cases(show u=AI a from B);obtain⟨_,_,_,n,_,h1⟩:=(show c7 X.prog X.w H s.heap a (.frz ob (.lst xs)) from I.hok a _ D)
  exact BW D5 I.kIn ⟨_,h1,rfl⟩ e (fun z=>nomatch z) h
 | @tup a xs D=>
  cases(show u=AI a from B);obtain⟨_,_,_,p⟩:=(show c7 X.prog X.w H s.heap a (.tup xs) from I.hok a _ D)
  obtain⟨o,h1,h2,_⟩:=p;exact BW PySem.W.kitx_tuple I.kIn ⟨o,h1,h2.1⟩ e (fun z=>nomatch z) h
 | @dK a fc D=>
  cases(show u=AI a from B);obtain⟨_,_,vs,_,p⟩:=(show c7 X.prog X.w H s.heap a (.dK fc) from I.hok a _ D)
  obtain⟨o,es,ep,h1,h2,_⟩:=p;exact BW D6 I.kIn ⟨o,h1,h2.1⟩ e (fun z=>nomatch z) h
 | @dT a fc D=>
  cases(show u=AI a from B);obtain⟨_,_,xs,_,o,es,ep,h1,h2,_⟩:=(show c7 X.prog X.w H s.heap a (.dT fc) from I.hok a _ D)
  exact BW D6 I.kIn ⟨o,h1,h2.1⟩ e (fun z=>nomatch z) h
 | @ins a C dx fs D Z ha hn Y hm=>
  cases(show u=AI a from B);obtain⟨mA,O,_⟩:=aBC I.hok D;obtain⟨od,J,_⟩:=O.look;exact BW (PySem.W.kitx_own (Z.get _) Z.hd ha hn Y hm) I.kIn J e (fun z=>nomatch z) h
end
structure cY(k:Nat)(A:AJ):Prop where
 hd:A.handled=none
 dp:A.depth+3*k+5<recursionLimit
 un:A.units+16*k+200<cLine
 gd:A.guards=some []
theorem cY.mono{j k:Nat}{A:AJ}(r:cY k A)(h:j<=k):cY j A:=⟨r.hd,by have:=r.dp;omega,by have:=r.un;omega,r.gd⟩
theorem cY.deeper{k:Nat}{A:AJ}(r:cY (k+1) A)(env:Env):cY k (A.deeper env):=
 ⟨r.hd,by have:=r.dp;show A.depth+1+3*k+5<_;omega,by have:=r.un;show A.units+3+16*k+200<_;omega,r.gd⟩
theorem cY.depth{k:Nat}{A:AJ}(r:cY k A):A.depth<recursionLimit:=by have:=r.dp;omega
theorem cY.units{k:Nat}{A:AJ}(r:cY k A):A.units+64<cLine:=by have:=r.un;omega
def aJa:TA:=fun _ H Q=>Q [] H
def aGA(ta:TE)(tr:TA):TA:=fun σ H Q=>ta σ H fun x H1=>tr σ H1 fun xs H2=>Q (x::xs) H2
section
variable{t:TA}
theorem aA:PA X [] aJa:=⟨fun _ _ _ _ H Q I h=>Calls.spliced_nil ⟨[],H,I,.nil,h⟩⟩
theorem gF(ha:PE X e te)(W:PA X es t)(z:starEach (e::es) X.env=(false,eval e X.env)::starEach es X.env:=by rfl):PA X (e::es) (aGA te t):=by
 constructor;intro pos dz s σ H Q I h;rw[z];show wpAny _ _ (spliced ((false,eval e X.env)::backTo pos (starEach es X.env))) _ _ s;refine E3 (thn (ha dz s σ H _ I h) fun u Y ⟨x,H1,I1,B,O⟩=>?_);exact thn (W pos dz Y σ H1 _ I1 O) fun us s2 ⟨xs,H2,D,Z,J⟩=>⟨x::xs,H2,D,.cons B Z,J⟩
def aJb(t:TA):TE:=fun σ H Q=>t σ H fun xs H1=>xs.length<=sizeLine/\∀ p,H1 p=none->Q (.ref p) (upd H1 p (.tup xs))
def aJc(t:TA):TE:=fun σ H Q=>t σ H fun xs H1=>xs.length<=sizeLine/\∀ p,H1 p=none->Q (.ref p) (upd H1 p (.lst xs))
theorem bU{x1}(h:PA X es t):PE X (.Tuple es x1 pos) (aJb t):=by
 constructor;intro dz s σ H Q I J;refine wpAny_Tuple_spliced (thn (h pos dz s σ H _ I J) fun O B ⟨xs,H1,D,r,z,q⟩=>⟨by rw[<- r.length];exact z,?_⟩);have W:H1 B.heap.objs.size=none:=D.hok.fresh (Ak _);refine⟨.ref B.heap.objs.size,upd H1 B.heap.objs.size (.tup xs),D.laid (t':=B.toks) (fun b u e=>Ai _ e) (Ak _) ?_,rfl,q _ W⟩;exact⟨z,O,r,⟨_,Aw _ rfl,⟨rfl,_,rfl⟩,rfl⟩⟩
theorem dN(h:PA X es t):PE X (.List es pos) (aJc t):=by
 constructor;intro dz s σ H Q I J;refine wpAny_List_spliced (thn (h pos dz s σ H _ I J) fun O B ⟨xs,H1,D,r,z,q⟩=>⟨by rw[<- r.length];exact z,?_⟩);have W:H1 B.heap.objs.size=none:=D.hok.fresh (Ak _);refine⟨.ref B.heap.objs.size,upd H1 B.heap.objs.size (.lst xs),D.laid (t':=B.toks) (fun b u e=>Ai _ e) (Ak _) ?_,rfl,q _ W⟩;exact⟨z,O,0,r,Aw _ rfl⟩
end
abbrev Sp:=List V->Hp->VK->XK->Prop
abbrev CXT:=List Env->Hp->Ac->XK->Ab->Ac->Prop
structure aFt(P:Ar)(w:AQ)(K:Af)(mg:Str->Option Ab)(base:A8)(A:AJ)(outer:List Env)(s:Ac)(H:Hp):Prop where
 frames:A.frames=some outer
 mod:Mod K mg base
 bs:∀ b o,base.get? b=some o->s.heap.get? b=some o/\H b=none
 bsz:base.objs.size<=s.heap.objs.size
 funs:s.heap.FunFrames base outer
 frf:∀ b∈frs outer,H b=none
 hok:HOk P w H s.heap
 bare:Eo s.gens
inductive aIj(outer:List Env)(P:Ar)(w:AQ)(H:Hp)(s:Ac)(Q:VK)(u:Ab)(s':Ac):Prop
 | mk (v:_) (H':_) (q0:s'.os=s.os) (q1:Eo s'.gens) (q2:Un (frs outer) [] H H' s.heap s'.heap) (q3:HOk P w H' s'.heap) (q4:cW v u) (q5:Q v H'):aIj outer P w H s Q u s'
def CE(outer:List Env)(P:Ar)(w:AQ)(H:Hp)(s:Ac)(Q:VK)(u:Ab)(s':Ac):Prop:=aIj outer P w H s Q u s'
def CR(CX:CXT)(outer:List Env)(P:Ar)(w:AQ)(H:Hp)(s:Ac)(Q:VK)(E:XK)(r:Result)(s':Ac):Prop:=
 match r with
 | .ok (.ret u)=>CE outer P w H s Q u s'
 | .ok _=>False
 | .error e=>CX outer H s E e s'
structure cN(P:Ar)(w:AQ)(K:Af)(mg:Str->Option Ab)(base:A8)(CX:CXT)(k:Nat)(f:Ah)(fd:AC)(ps:List Str)(sp:Sp):Prop where
 len:∀ vs H Q E,sp vs H Q E->vs.length=ps.length
 run:∀(A:AJ) (outer:List Env) (s:Ac) (H:Hp) (args:Args) (us:List Ab) (vs:List V) (Q:VK) (E:XK),cY k A->aFt P w K mg base A outer s H->FC s fd args (ps.zip us)->cJ vs us->sp vs H Q E->
  codeAny (model P w) A (.call (.ref f) args) (CR CX outer P w H s Q E) s
theorem cN.mono{P:Ar}{w:AQ}{K:Af}{mg:Str->Option Ab}{base:A8}{CX:CXT}{j k:Nat}{f:Ah}{fd:AC}{ps:List Str}{sp:Sp}(F:cN P w K mg base CX j f fd ps sp)(h:j<=k):
  cN P w K mg base CX k f fd ps sp:=⟨F.len,fun A outer s H z B vs Q E D=>F.run A outer s H z B vs Q E (D.mono h)⟩
section
variable{s':Ac}
theorem Inv.env0(I:Inv X dz σ H s):aFt X.prog X.w X.K X.mg X.base X.A X.stack s H:=
 ⟨I.ok.frames,I.ok.mod,I.bs,AD I.ok.bsz I.sz,I.stack,I.stkFree,I.hok,I.bare⟩
theorem Inv.after{Q:VK}{u:Ab}(I:Inv X dz σ H s)(h:CE X.stack X.prog X.w H s Q u s'):EP X dz σ Q u s':=by
 obtain⟨v,H',os,bare,un,hok,r,q⟩:=h;obtain⟨hh,g,d,t,os'⟩:=s';obtain rfl:os'=s.os:=os;exact⟨v,H',I.call (h':=hh) (g':=g) (d':=d) (t':=t) (ch:=[]) un hok bare (fun b z=>absurd z (by simp)),r,q⟩
end
def aGB(sp:Sp)(fo:List V)(E:XK)(t:TA):TE:=fun σ H Q=>t σ H fun vs H1=>sp (vs++fo) H1 Q E
def dX(K:Af)(fd:AC)(ps:List Str)(ds:List Ab):Prop:=
 ∀(s:Ac) (us:List Ab),K.In s.heap->(us++ds).length=ps.length->FC s fd ⟨us,[]⟩ (ps.zip (us++ds))
theorem dX.all{K:Af}{fd:AC}{ps:List Str}(h:∀ z:List Ab,z.length=ps.length->bindArgs fd ⟨z,[]⟩=pure (ps.zip z)):dX K fd ps []:=fun s z _ B=>by
 rw[CW]at B ⊢;exact .of_eq (h z B)
def aAP(CX:CXT)(X:Cx)(E:XK):Prop:=∀(dz:List (Ah×Obj)) (σ:St) (H:Hp) (s:Ac) (e:Ab) (s':Ac),Inv X dz σ H s->CX X.stack H s E e s'->X.xe e s'
section
variable{CX:CXT}{k:Nat}{fd:AC}{ps:List Str}{sp:Sp}{fo:List V}{ds:List Ab}{E:XK}{x m:Str}{p fh:Pos}{o:Bb}{ta:TE}{t:TA}
theorem aDC{dz:List (Ah×Obj)}{σ:St}{H:Hp}{s:Ac}{Q:VK}{z:List Ab}{vs:List V}(F:cN X.prog X.w X.K X.mg X.base CX k f fd ps sp)(O:cY k X.A)(W:dX X.K fd ps ds)(hd:cJ fo ds)(Y:aAP CX X E)
  (I:Inv X dz σ H s) (r:cJ vs z) (h:sp (vs++fo) H Q E):wpAny (model X.prog X.w) X.A (call (.ref f) z) (EP X dz σ Q) X.xe s:=by
 have D:cJ (vs++fo) (z++ds):=r.append hd;have J:(z++ds).length=ps.length:=by rw[<- D.length];exact F.len _ _ _ _ h
 refine Dj (Dl (F.run X.A X.stack s H ⟨z,[]⟩ (z++ds) (vs++fo) Q E O I.env0 (W s z I.kIn J) D h) fun r s' B=>?_);cases r with
 | error e=>exact Y dz σ H s e s' I B
 | ok Z=>
  cases Z with
  | ret u=>exact I.after B
  | next=>exact Ca B
  | brk=>exact Ca B
  | cont=>exact Ca B
theorem dP(F:cN X.prog X.w X.K X.mg X.base CX k f fd ps sp)(J:cY k X.A)(Z:Gl X x)(hm:X.mg x=some (.ref f))(Y:Az X.K (.ref f)=true)(O:dX X.K fd ps ds)(hd:cJ fo ds)(hx:aAP CX X E)
  (ha:PA X (e::es) t) (B:(x==("__debug__":Str))=false:=by decide) (W:starEach (e::es) X.env=(false,eval e X.env)::starEach es X.env:=by rfl) (z:(backTo pos (starEach es X.env)).any (·.1)=false:=by rfl):
  PE X (.Call (.Name x p) (e::es) [] pos) (aGB sp fo E t):=by
 constructor;intro dz s σ H Q I h;refine DG (qP I Z hm ?_ B);refine EO (h₀:=X.base) I.ok.mod.kin Y (thn (ha pos dz s σ H _ I h) fun us s1 ⟨vs,H1,D,r,q⟩=>⟨D.kIn,?_⟩) W z;exact aDC F J O hd hx D r q
structure Mk(K:Af)(C f:Ah):Prop where
 makes:PySem.W.makesIn K C=true
 init:CD K (.ref C) "__init__"=some (some (.ref f))
 fn:PySem.W.isFn K (.ref f)=true
 kp:Az K (.ref C)=true
end
structure PK(X:Cx)(fq:List Em)(t:TA):Prop where
 run:
  ∀(pos:Pos) (dz:List (Ah×Obj)) (s:Ac) (σ:St) (H:Hp) (Q:List V->Hp->Prop),Inv X dz σ H s->t σ H Q->wpAny (model X.prog X.w) X.A (evalAll ((backToKw pos (keywordEach fq X.env)).map (·.2))) (AP X dz σ Q) X.xe s
instance{X:Cx}{fq:List Em}{t:TA}:CoeFun (PK X fq t) (fun _=>
 ∀(pos:Pos) (dz:List (Ah×Obj)) (s:Ac) (σ:St) (H:Hp) (Q:List V->Hp->Prop),Inv X dz σ H s->t σ H Q->wpAny (model X.prog X.w) X.A (evalAll ((backToKw pos (keywordEach fq X.env)).map (·.2))) (AP X dz σ Q) X.xe s):=⟨fun h=>h.run⟩
section
variable{CX:CXT}{k:Nat}{fd:AC}{ps ks:List Str}{sp:Sp}{E:XK}{x m:Str}{p fh kpos:Pos}{o:Bb}{fq:List Em}{ta:TE}{t tk:TA}{nm:Option Str}
structure aJd(K:Af)(fd:AC)(ps ks:List Str)(g:List Ab->List Ab->List Ab)(gV:List V->List V->List V):Prop where
 to:∀(s:Ac) (us ws:List Ab),K.In s.heap->(g us ws).length=ps.length->FC s fd ⟨us,ks.zip ws⟩ (ps.zip (g us ws))
 rel:∀{vs:List V} {us:List Ab} {zs:List V} {ws:List Ab},cJ vs us->cJ zs ws->cJ (gV vs zs) (g us ws)
variable{g:List Ab->List Ab->List Ab}{gV:List V->List V->List V}
end
structure bM(N P:List Str)(sc:Dw):Prop where
 kind:sc.kind=.function
 co:sc.isCoroutine=false
 gen:sc.isGenerator=false
 nd:N.Nodup
 pre:N.take P.length=P
 par:∀ x∈P,sc.names.lookup x=some .local\/sc.names.lookup x=some .cell
 nofree:∀ y∈sc.names,y.2≠.free
theorem vM{z:Str->Option DS}{x:Str}:∀{binds:List (Str×Ab)}{m:Str->Option Ab},(∀ v,(x,v)∉binds)->bindL z binds m x=m x
 | [],_,_=>rfl
 | (n,v)::r,m,h=>by
  unfold bindL;rw[vM fun w hw=>h w (AY _ hw)];split
  .have:x≠n:=by rintro rfl;exact h v AM
   simp[this]
  .rfl
theorem vN{z:Str->Option DS}{x:Str}:∀{binds:List (Str×Ab)}{m:Str->Option Ab},(∀ v,(x,v)∉binds)->bindC z binds m x=m x
 | [],_,_=>rfl
 | (n,v)::r,m,h=>by
  unfold bindC;rw[vN fun w hw=>h w (AY _ hw)];split
  .rfl
  .have:x≠n:=by rintro rfl;exact h v AM
   simp[this]
theorem vO{z:Str->Option DS}{x:Str}{v:Ab}:∀{P:List Str}{vs:List Ab}{i:Nat}{m:Str->Option Ab},P.Nodup->P[i]?=some x->vs[i]?=some v->z x=some .local->
  bindL z (P.zip vs) m x=some v
 | [],_,_,_,_,h,_,_=>by simp at h
 | _::_,[],_,_,_,_,h,_=>by simp at h
 | p::P,w::vs,0,m,nd,h1,h2,B=>by
  simp at h1 h2;subst h1;subst h2;show bindL z ((p,w)::P.zip vs) m p=_;unfold bindL;rw[vM fun v D=>(CV.mp nd).1 (Fs D).1,Ib B];simp
 | p::P,w::vs,i+1,m,nd,h1,h2,B=>by
  show bindL z ((p,w)::P.zip vs) m x=_;unfold bindL;exact vO (i:=i) (CV.mp nd).2 (by simpa using h1) (by simpa using h2) B
theorem vP{z:Str->Option DS}{x:Str}{v:Ab}:∀{P:List Str}{vs:List Ab}{i:Nat}{m:Str->Option Ab},P.Nodup->P[i]?=some x->vs[i]?=some v->z x≠some .local->
  bindC z (P.zip vs) m x=some v
 | [],_,_,_,_,h,_,_=>by simp at h
 | _::_,[],_,_,_,_,h,_=>by simp at h
 | p::P,w::vs,0,m,nd,h1,h2,B=>by
  simp at h1 h2;subst h1;subst h2;show bindC z ((p,w)::P.zip vs) m p=_;unfold bindC;rw[vN fun v D=>(CV.mp nd).1 (Fs D).1,Ia B];simp
 | p::P,w::vs,i+1,m,nd,h1,h2,B=>by
  show bindC z ((p,w)::P.zip vs) m x=_;unfold bindC;exact vP (i:=i) (CV.mp nd).2 (by simpa using h1) (by simpa using h2) B
def start(N:List Str)(vs:List V):St:=vs.map some++Bm (N.length-vs.length) none
def i3(CX:CXT)(P:Ar)(w:AQ)(K:Af)(mg:Str->Option Ab)(base:A8)(N:List Str)(qual:Str)(scope:Dw)(f:Ah)(cd:Ab)(A:AJ)(outer:List Env)(s:Ac)(H:Hp)(E:XK):Cx where
 prog:=P
 w:=w
 K:=K
 mg:=mg
 base:=base
 A:=A.deeper (envOfC qual scope s.heap.objs.size f cd)
 N:=N
 s₀:=s
 H₀:=H
 env:=envOfC qual scope s.heap.objs.size f cd
 outer:=outer
 stack:=envOfC qual scope s.heap.objs.size f cd::outer
 ex:=[]
 calm:=true
 fn:=fun _=>true
 pn:=[]
 xe:=fun e s'=>wpAny (model P w) (A.deeper (envOfC qual scope s.heap.objs.size f cd)) (leaving (envOfC qual scope s.heap.objs.size f cd) e) (fun _ s''=>CX outer H s E e s'') (fun e' s''=>CX outer H s E e' s'') s'
theorem yS{z:Dw}{n:Nat}{x:Str}(h:z.names.lookup x=some .cell):∃ c,(cellsFrom n z.names []).lookup x=some c:=by
 have q:=PySem.W.cellsFrom_some z.names n [] (.inl h);exact Option.isSome_iff_exists.mp q
theorem aCI{CX:CXT}{P:Ar}{w:AQ}{K:Af}{mg:Str->Option Ab}{base:A8}{N ps:List Str}{qual:Str}{scope:Dw}{f:Ah}{cd:Ab}{A:AJ}{outer:List Env}{s Z:Ac}{H:Hp}{E:XK}{Y:List Ab}{vs:List V}
  (S:bM N ps scope) (hd:A.handled=none) (B:aFt P w K mg base A outer s H) (hl:vs.length=ps.length) (r:cJ vs Y)
  (x:InCallC s s.heap.objs.size (bindL (envOfC qual scope s.heap.objs.size f cd).kindOf (ps.zip Y) fun _=>none) (cellsFrom (s.heap.objs.size+1) scope.names []) (bindC (envOfC qual scope s.heap.objs.size f cd).kindOf (ps.zip Y) fun _=>none) Z):
  Inv (i3 CX P w K mg base N qual scope f cd A outer s H E) [] (start N vs) H Z:=by
 have aa:ps.length<=N.length:=by have:=congrArg List.length S.pre;rw[AN]at this;omega
 obtain⟨h1,tk,rfl,hk⟩:=x.done;have J:∀ b:Ah,b∉(i3 CX P w K mg base N qual scope f cd A outer s H E).ex:=fun b z=>absurd (show b∈([]:List Ah) from z) (by simp);refine⟨⟨B.mod,S.kind,rfl,rfl,Ak _,fun y z c h1 h2=>?_,fun y D=>?_,fun y c _ h=>?_,fun _=>hd,Around.frames_deeper B.frames,.inr ⟨rfl,rfl⟩,fun b z=>absurd z (J b),B.bs,B.bsz,fun b _ _=>J b,fun b z=>absurd z (J b),B.funs,B.frf⟩,
  rfl,B.bare,Un.kept hk,⟨_,x.toInCall.ns,fun i y v h1 h2 h3=>?_⟩,fun y c h=>⟨_,x.cell y c h⟩,B.hok.fresh (Ak _),fun y c h=>?_,fun p W=>absurd (show p∈([]:List (Ah×Obj)) from W) (by simp),B.hok.kept hk,?_⟩
 .exact name_of_addr x.apart (B5 h1) (B5 h2)
 .have D:scope.names.lookup y=some .cell\/scope.names.lookup y=some .free:=D;rcases D with D|D
  .exact yS D
  .exact absurd rfl (S.nofree _ (B5 D))
 .exact D4 (x.above y c (B5 h))
 .have hi:i<vs.length:=by
   unfold start at h2;by_cases hi:i<vs.length
   .exact hi
   .rw[List.getElem?_append_right (by simpa using hi)]at h2;rw[List.getElem?_replicate]at h2;split at h2<;>cases h2
  have ha:vs[i]?=some v:=by
   unfold start at h2;rw[List.getElem?_append_left (by simpa using hi),Bs]at h2;cases e:vs[i]? with
   | none=>rw[e]at h2;cases h2
   | some a=>rw[e]at h2;cases h2;rfl
  obtain⟨u,hu,rv⟩:=r.get ha;have W:ps[i]?=some y:=by
   rw[<- S.pre,List.getElem?_take_of_lt (by omega)];exact h1
  have O:ps.Nodup:=by rw[<- S.pre];exact S.nd.sublist (List.take_sublist _ _)
  refine⟨u,rv,?_⟩;rcases S.par y (AH W)with k|k
  .exact .inl ⟨k,vO O W hu k⟩
  .obtain⟨c,e⟩:=yS (n:=s.heap.objs.size+1) k;refine .inr ⟨.inl k,c,e,?_⟩;have q:=x.cell y c e;rw[vP O W hu (by show scope.names.lookup y≠_;rw[k];decide)]at q;exact q
 .exact B.hok.fresh (D4 (x.above y c (B5 h)))
 .unfold start;show _=N.length;rw[Al,Ae,List.length_replicate];omega
theorem aGC{CX:CXT}{P:Ar}{w:AQ}{K:Af}{mg:Str->Option Ab}{base:A8}{k:Nat}{f:Ah}{name qual:Str}{B:Arguments}{D:List BQ}{scope:Dw}{dV kV ad pm z ct oc:Ab}{an od:Option Ah}
  {ai:Array (Option Ab)} {N ps:List Str} {sp:Sp} (lk:K.lookup f=some ⟨oc,od,.func (BJ name qual B D scope dV kV ad pm an z ct),ai⟩) (ah:BP K z qual=true) (S:bM N ps scope)
  (len:∀ vs H Q E,sp vs H Q E->vs.length=ps.length)
  (Y:∀(A:AJ) (outer:List Env) (s:Ac) (H:Hp) (vs:List V) (Q:VK) (E:XK),cY k (A.deeper (envOfC qual scope s.heap.objs.size f z))->sp vs H Q E->
   ∃ t,PSs (i3 CX P w K mg base N qual scope f z A outer s H E) D t/\t { nx:=fun _ H'=>Q .non H',rt:=Q } (start N vs) H):
  cN P w K mg base CX (k+1) f (BJ name qual B D scope dV kV ad pm an z ct) ps sp:=by
 refine⟨len,fun A outer s H aq us vs Q E hr e0 hb r ac=>?_⟩;have hl:=len _ _ _ _ ac;have KX:K.In s.heap:=e0.mod.kin.keeps fun b o e=>(e0.bs b o e).1;have af:s.heap.NoLimit:=e0.mod.nolimit.keeps fun b o e=>(e0.bs b o e).1;have O:∀ y∈ps.zip us,scope.names.lookup y.1=some .local\/(scope.names.lookup y.1=some .cell/\((cellsFrom (s.heap.objs.size+1) scope.names []).lookup y.1).isSome=true):=fun⟨n,v⟩ hy=>by
  rcases S.par n (Fs hy).1 with q|q
  .exact .inl q
  .exact .inr ⟨q,PySem.W.cellsFrom_some _ _ _ (.inl q)⟩
 refine codeAny_call_function hr.depth (KX _ _ lk) rfl S.co S.gen rfl (PySem.W.codeRec_of KX ah) (hb _ _ _ _ ?_);refine wpAny_newFunctionEnv_cells S.kind O fun env he s1 x=>?_;subst he;refine⟨af.keeps x.toInCall.keep,codeAny_func ?_⟩;obtain⟨t,ht,hq⟩:=Y A outer s H vs Q E (hr.deeper _) ac;have I:Inv (i3 CX P w K mg base N qual scope f z A outer s H E) [] (start N vs) H s1:=aCI S hr.hd e0 hl r x;refine BH (ht [] s1 (start N vs) H _ I hq) (fun fl s' Z=>?_) fun e s' Z=>Z;have fin:∀{σ':St} {H':Hp} {v:V} {u:Ab},Inv (i3 CX P w K mg base N qual scope f z A outer s H E) [] σ' H' s'->cW v u->Q v H'->CE outer P w H s Q u s':=
  fun{σ' H' v u} J rv q=>⟨v,H',J.os,J.bare,J.base,J.hok,rv,q⟩
 cases fl with
 | ret u=>
  obtain⟨v,σ',H',J,rv,q⟩:=Z;exact fin J rv q
 | next=>
  obtain⟨σ',H',J,q⟩:=Z;exact fin (v:=V.non) (u:=CN) J rfl q
 | brk=>
  obtain⟨_,_,_,q⟩:=Z;exact Ca q
 | cont=>
  obtain⟨_,_,_,q⟩:=Z;exact Ca q
section
variable{x:Str}{p:Pos}{t:TA}{id T:String}{r:List V->Hp->VK->Prop}
def tCB(r:List V->Hp->VK->Prop)(t:TA):TE:=fun σ H Q=>t σ H fun vs H1=>r vs H1 Q
theorem aK(hc:eU X (.builtin id) r)(hg:Gl X x)(hm:X.mg x=none)(J:bootBuiltins x=some (.builtin id))(ha:PA X (e::es) t)(hn:x≠"__name__":=by decide)(B:(x==("__debug__":Str))=false:=by decide)
  (Z:starEach (e::es) X.env=(false,eval e X.env)::starEach es X.env:=by rfl) (z:(backTo pos (starEach es X.env)).any (·.1)=false:=by rfl):PE X (.Call (.Name x p) (e::es) [] pos) (tCB r t):=by
 constructor;intro dz s σ H Q I h;refine DG (rM I hg hm J ?_ hn B);exact PyProof.Rows.callWith_builtin1 (thn (ha pos dz s σ H _ I h) fun O Y ⟨vs,H1,I1,D,W⟩=>hc dz Y σ H1 vs O Q I1 D W) Z z
theorem cH(hc:eU X (.type T) r)(hg:Gl X x)(hm:X.mg x=none)(J:bootBuiltins x=some (.type T))(ha:PA X (e::es) t)(hn:x≠"__name__":=by decide)(B:(x==("__debug__":Str))=false:=by decide)
  (Z:starEach (e::es) X.env=(false,eval e X.env)::starEach es X.env:=by rfl) (z:(backTo pos (starEach es X.env)).any (·.1)=false:=by rfl):PE X (.Call (.Name x p) (e::es) [] pos) (tCB r t):=by
 constructor;intro dz s σ H Q I h;refine DG (rM I hg hm J ?_ hn B);exact DK (thn (ha pos dz s σ H _ I h) fun O Y ⟨vs,H1,I1,D,W⟩=>hc dz Y σ H1 vs O Q I1 D W) Z z
end
end L2
namespace HT
open PySem PyProof.Rows
section
open PySem.SeqAt
open PySem.AutoSeq1 (wpAny_loadPart')
open PySem.MeetsSeq PySem.MeetsSeq2 PySem.MeetsSeq3
end
section
variable{prog:Ar}{w:AQ}{A:AJ}{E:Ab->Ac->Prop}{s:Ac}
theorem cat_tup{t b:Ah}{vs z:List Ab}{Q:Ab->Ac->Prop}(ht:Ef s.heap t vs.toArray)(D:Ef s.heap b z.toArray)(B:vs≠[])
  (h1:z=[]->Q (.ref t) s) (h2:z≠[]->Q (.ref s.heap.objs.size) { s with heap:=s.heap.push { cls:=.type "tuple",data:=.seq (vs++z).toArray } })
  (hsz:vs.length+z.length<=sizeLine):wpAny (model prog w) A (binaryOp .Add (.ref t) (.ref b)) Q E s:=by
 obtain⟨⟨cls,dd,data,sl⟩,ho,hc,n,hd⟩:=id ht;obtain⟨⟨cls2,dd2,data2,sl2⟩,ho2,hc2,n2,hd2⟩:=id D;simp only at hc hd hc2 hd2;subst hc hd hc2 hd2;have e:vs.toArray++z.toArray=(vs++z).toArray:=by simp
 by_cases hw:z=[]
 .exact Gw ⟨_,ho,rfl⟩ ⟨_,ho2,rfl⟩ FF Gj Es Eh (Eb _ _)
   (tuple_addW1 t b vs.toArray z.toArray n n2 dd dd2 sl sl2 (by simpa using B) (by simp[hw])) ⟨ho,ho2,h1 hw⟩
 .refine Gw ⟨_,ho,rfl⟩ ⟨_,ho2,rfl⟩ FF Gj Es Eh (Eb _ _)
   (tuple_addW2 t b vs.toArray z.toArray n n2 dd dd2 sl sl2 (by simpa using B) (by simpa using hw) (by rw[Ao,Ao];exact hsz)) ⟨ho,ho2,?_⟩
  rw[e];exact h2 hw
def sIx(n d:Nat):Option Int->Nat
 | none=>d
 | some v=>if v<0 then(v+(n:Int)).toNat else min v.toNat n
theorem sIx_none(n d:Nat):sIx n d none=d:=rfl
theorem sIx_nat(n d k:Nat):sIx n d (some (k:Int))=min k n:=by
 show(if (k:Int)<0 then((k:Int)+(n:Int)).toNat else min (k:Int).toNat n)=min k n;rw[Ia (by omega),BA]
theorem aHa(n d:Nat)(hd:d<=n)(o:Option Int):sIx n d o<=n:=by
 cases o with
 | none=>exact hd
 | some v=>
  show(if v<0 then(v+(n:Int)).toNat else min v.toNat n)<=n;by_cases z:v<0
  .rw[Ib z];omega
  .rw[Ia z];exact Nat.min_le_right _ _
theorem aBD(v:Int)(n d:Nat):(if v<0 then max (v+(n:Int)) 0 else min v (n:Int))=((sIx n d (some v):Nat):Int):=by
 show(if v<0 then max (v+(n:Int)) 0 else min v (n:Int))=(((if v<0 then(v+(n:Int)).toNat else min v.toNat n):Nat):Int)
 by_cases z:v<0
 .simp only[Ib z];omega
 .simp only[Ia z];omega
theorem aAQ(lo hi:Option Int)(n:Nat):B1 lo hi 1 (n:Int)=(((sIx n 0 lo:Nat):Int),((sIx n n hi:Nat):Int)):=by
 have h1:¬ ((1:Int)<0):=by omega
 unfold B1;simp only[h1,if_false];refine Prod.ext ?_ ?_
 .cases lo with
  | none=>rfl
  | some v=>exact aBD v n 0
 .cases hi with
  | none=>rfl
  | some v=>exact aBD v n n
theorem aAR(i j:Nat):BB (i:Int) (j:Int) 1=j-i:=by
 unfold BB;have h1:(1:Int)>0:=by omega
 simp only[h1,if_true,Int.ediv_one];split<;>omega
theorem rS{v:Ab}{o:Option Int}{Q:Option Int->Ac->Prop}(p:ES v o)(h:Q o s):wpAny (model prog w) A (Builtin.Slice.slicePartIndex v) Q E s:=by
 cases p with
 | none=>exact E9 h
 | int i t=>exact slicePart_int h
theorem sliceApplied_gen{D:Ah}{z B:Ab}{lo hi:Option Int}{n:Nat}{Q:Int×Int×Nat->Ac->Prop}(J:s.heap.IsSliceOf D z B .none)(pl:ES z lo)(O:ES B hi)
  (h:Q (((sIx n 0 lo:Nat):Int),1,sIx n n hi-sIx n 0 lo) s):wpAny (model prog w) A (CO (.ref D) (pure (n:Int))) Q E s:=by
 obtain⟨os,hos,hcs,hds⟩:=id J;unfold CO Builtin.Slice.sliceFields;refine Aa (Aa (EA hos hds (x:=z) rfl (Aa (EA hos hds (x:=B) rfl (Aa (EA hos hds (x:=.none) rfl (Ad ?_)))))));refine Aa (E9 ?_);show wpAny _ _ (if ((1:Int)==0)=true then _ else _) _ _ s;rw[Ia (by decide)];refine Aa (rS pl (Aa (rS O (Aa (Ad ?_)))));show wpAny _ _ (match B1 lo hi 1 (n:Int)with|(lo,hi)=>pure (lo,(1:Int),BB lo hi 1)) _ _ s;rw[aAQ lo hi n];show wpAny _ _ (pure (((sIx n 0 lo:Nat):Int),(1:Int),BB ((sIx n 0 lo:Nat):Int) ((sIx n n hi:Nat):Int) 1)) _ _ s;rw[aAR];exact Ad h
theorem aDD(xs:Array Ab)(i k:Nat):((AU k).filterMap fun(m:Nat)=>xs[((i:Int)+(m:Int)*1).toNat]?).toArray=((xs.toList.drop i).take k).toArray:=by
 have e:(fun(m:Nat)=>xs[((i:Int)+(m:Int)*1).toNat]?)=fun m=>xs[i+m]?:=by
  funext m;have:((i:Int)+(m:Int)*1).toNat=i+m:=by omega
  rw[this]
 rw[e];have:=pick_run xs i k;rw[List.filterMap_map]at this;have z:((fun x=>xs[x]?) ∘ fun x=>i+x)=fun m=>xs[i+m]?:=rfl;rw[z]at this;rw[this]
theorem getItem_tuple_cut{t B:Ah}{aP:Array Ab}{W Y:Ab}{lo hi:Option Int}{Q:Ab->Ac->Prop}(ht:Ef s.heap t aP)(O:s.heap.IsSliceOf B W Y .none)(pl:ES W lo)(Z:ES Y hi)
  (hw:¬ (sIx aP.size 0 lo=0/\sIx aP.size aP.size hi=aP.size))
  (h:Q (.ref s.heap.objs.size) { s with heap:=s.heap.push { cls:=.type "tuple",data:=.seq ((aP.toList.drop (sIx aP.size 0 lo)).take (sIx aP.size aP.size hi-sIx aP.size 0 lo)).toArray } })
  (hsz:aP.size<=sizeLine):wpAny (model prog w) A (getItem (.ref t) (.ref B)) Q E s:=by
 have z:sizeOk (.seq ((aP.toList.drop (sIx aP.size 0 lo)).take (sIx aP.size aP.size hi-sIx aP.size 0 lo)).toArray):=by
  show((aP.toList.drop (sIx aP.size 0 lo)).take (sIx aP.size aP.size hi-sIx aP.size 0 lo)).toArray.size<=sizeLine;rw[Ao,AN,BE,Bh];omega
 have hj:sIx aP.size aP.size hi<=aP.size:=aHa _ _ (Ak _) hi;obtain⟨os,hos,hcs,hds⟩:=id O;have D:s.TypeIs (.ref B) "slice":=⟨os,hos,hcs⟩
 unfold getItem
 try with_reducible refine Ba ?_
 first|refine Aa (Ad ?_)|skip
 refine Aa (Fu ht.typeIs (by decide) ?_);refine Aa (B2 (name:=AZ "__getitem__") ht.typeIs Bd
  (BI Bd ht.typeIs entry_tuple_getitem ?_ (Fo _ _)))
 show wpAny _ _ (DM (.ref t) >>= _) _ _ s;refine Aa (tupleItemsOf_ ht ?_);refine Aa (Cn D ?_);rw[Ib (by decide)];refine Aa (sliceApplied_gen O pl Z ?_);have J:¬ ((((sIx aP.size 0 lo:Nat):Int)==0&&(1:Int)==1&&(sIx aP.size aP.size hi-sIx aP.size 0 lo)==aP.size)=true):=by
  intro q;rw[Av,Av]at q;have q1:((sIx aP.size 0 lo:Nat):Int)=0:=eq_of_beq q.1.1;have q2:sIx aP.size aP.size hi-sIx aP.size 0 lo=aP.size:=eq_of_beq q.2;exact hw ⟨by omega,by omega⟩
 show wpAny _ _ (if (((sIx aP.size 0 lo:Nat):Int)==0&&(1:Int)==1&&(sIx aP.size aP.size hi-sIx aP.size 0 lo)==aP.size)=true then _ else _) _ _ s;rw[Ia J,aDD]
 first
  | exact Aa (m:=A9 _) (A6 (Ad ⟨_,rfl,Ad h⟩) z)
  | exact Aa (m:=A9 _) (A6 (Aa (Ad (Ad ⟨_,rfl,Ad h⟩))) z)
  | exact Aa (Aa (m:=A9 _) (A6 (Ad (Ad ⟨_,rfl,Ad h⟩)) z))
  | exact Aa (Aa (m:=A9 _) (A6 (Ad ⟨_,rfl,Ad h⟩) z))
end
end HT
namespace L2
open PySem PySem.Spec PyProof.Rows
variable{X:Cx}{e:Bb}{pos:Pos}{dz:List (Ah×Obj)}{σ:St}{H:Hp}{s:Ac}{A:AJ}{E:Ab->Ac->Prop}
abbrev TO:=St->Hp->(Option Int->Hp->Prop)->Prop
structure PO(X:Cx)(e:Option Bb)(t:TO):Prop where
 run:
  ∀(dz:List (Ah×Obj)) (s:Ac) (σ:St) (H:Hp) (Q:Option Int->Hp->Prop),Inv X dz σ H s->t σ H Q->
   wpAny (model X.prog X.w) X.A (evalPart e X.env) (fun u s'=>∃ o H',Inv X dz σ H' s'/\ES u o/\Q o H') X.xe s
instance{X:Cx}{e:Option Bb}{t:TO}:CoeFun (PO X e t) (fun _=>
 ∀(dz:List (Ah×Obj)) (s:Ac) (σ:St) (H:Hp) (Q:Option Int->Hp->Prop),Inv X dz σ H s->t σ H Q->
  wpAny (model X.prog X.w) X.A (evalPart e X.env) (fun u s'=>∃ o H',Inv X dz σ H' s'/\ES u o/\Q o H') X.xe s):=⟨fun h=>h.run⟩
def aFu:TO:=fun _ H Q=>Q none H
def aIk(t:TE):TO:=fun σ H Q=>t σ H fun x H1=>As V.int x fun i=>Q (some i) H1
section
variable{te:TE}{lo hi:Option Bb}{tl th:TO}{p2:Pos}
theorem cC:PO X none aFu:=by
 constructor;intro dz s σ H Q I h;rw[Gk];exact Ad ⟨none,H,I,.none,h⟩
theorem bY(h:PE X e te):PO X (some e) (aIk te):=by
 constructor;intro dz s σ H Q I hw;rw[evalPart_some];refine thn (h dz s σ H _ I hw) fun u J ⟨x,H1,D,B,z⟩=>?_;obtain⟨i,rfl,q⟩:=z;obtain⟨t,rfl⟩:=B;exact⟨some i,H1,D,.int i t,q⟩
def SlR(X:Cx)(r:V->Option Int->Option Int->Hp->VK->Prop):Prop:=
 ∀(dz:List (Ah×Obj)) (s:Ac) (σ:St) (H:Hp) (x:V) (v vl vu:Ab) (lo hi:Option Int) (sl:Ah) (Q:VK),Inv X dz σ H s->cW x v->s.heap.IsSliceOf sl vl vu .none->ES vl lo->ES vu hi->r x lo hi H Q->
  ∃ T id,typeLookup (.type T) "__getitem__"=pure (some (.builtin id))/\s.TypeIs v T/\wpAny (model X.prog X.w) X.A (getItem v (.ref sl)) (EP X dz σ Q) X.xe s
def tSl(r:V->Option Int->Option Int->Hp->VK->Prop)(te:TE)(tl th:TO):TE:=fun σ H Q=>te σ H fun x H1=>tl σ H1 fun l H2=>th σ H2 fun u H3=>r x l u H3 Q
theorem bK{r:V->Option Int->Option Int->Hp->VK->Prop}(hr:SlR X r)(he:PE X e te)(hl:PO X lo tl)(hu:PO X hi th):PE X (.Subscript e (.Slice lo hi none p2) pos) (tSl r te tl th):=by
 constructor;intro dz s σ H Q I h;refine F1 (thn (he dz s σ H _ I h) fun v s1 ⟨x,H1,I1,Y,q1⟩=>?_);refine wpAny_Slice (thn (hl dz s1 σ H1 _ I1 q1) fun D s2 ⟨l,H2,Z,pl,q2⟩=>thn (hu dz s2 σ H2 _ Z q2) fun B z ⟨u,J,I3,W,O⟩=>?_);rw[Gk];refine Ad ?_;have I4:Inv X dz σ J { z with heap:=z.heap.push { cls:=.type "slice",data:=.fields #[D,B,.none] } }:=I3.kept (t':=z.toks) fun b ob q=>Ai _ q;obtain⟨T,id,hT,ht,hg⟩:=hr dz { z with heap:=z.heap.push { cls:=.type "slice",data:=.fields #[D,B,.none] } } σ J x v D B l u z.heap.objs.size Q I4 Y (Heap.IsSliceOf.new ..) pl W O;show wpAny (model X.prog X.w) X.A (subscriptTail e (.Slice lo hi none p2) v (.ref z.heap.objs.size)) (EP X dz σ Q) X.xe { z with heap:=z.heap.push { cls:=.type "slice",data:=.fields #[D,B,.none] } };exact tail_any (ops:=[.ref z.heap.objs.size,v]) ht hT hg (by with_unfolding_all rfl)
def d8(xs:List V)(lo hi:Option Int):List V:=(xs.drop (HT.sIx xs.length 0 lo)).take (HT.sIx xs.length xs.length hi-HT.sIx xs.length 0 lo)
theorem g8(xs:List V)(lo hi:Option Int):(d8 xs lo hi).length<=xs.length:=by
 unfold d8;rw[AN,BE];omega
inductive aDE(K:Af)(x:V)(lo:Option Int)(hi:Option Int)(H:Hp)(Q:VK):Prop
 | mk (a:_) (xs:_) (q0:x=.ref a) (q1:SqT K H a xs) (q2:¬ (HT.sIx xs.length 0 lo=0/\HT.sIx xs.length xs.length hi=xs.length)) (q3:∀ p,H p=none->Q (.ref p) (upd H p (.tup (d8 xs lo hi)))):aDE K x lo hi H Q
def aJe(K:Af):V->Option Int->Option Int->Hp->VK->Prop:=fun x lo hi H Q=>aDE K x lo hi H Q
theorem aHb:SlR X (aJe X.K):=by
 intro dz s σ H x v W Y lo hi O Q I B D pl J h;obtain⟨a,xs,rfl,hx,hw,q⟩:=h;cases B;obtain⟨its,r,ht,hz⟩:=I.tuple hx;have z:its.toArray.size=xs.length:=by rw[Ao];exact r.length.symm
 refine⟨"tuple",_,Bd.lookup,ht.typeIs,HT.getItem_tuple_cut ht D pl J (by rw[z];exact hw) ?_ (by rw[z];exact hz)⟩;rw[z];refine⟨.ref s.heap.objs.size,_,I.laid (t':=s.toks) (o:=.tup (d8 xs lo hi)) (fun b ob q=>Ai _ q) (Ak _) ?_,rfl,q _ (I.hok.fresh (Ak _))⟩;exact⟨AD (g8 xs lo hi) hz,_,(r.drop (HT.sIx xs.length 0 lo)).take (HT.sIx xs.length xs.length hi-HT.sIx xs.length 0 lo),⟨_,Aw _ rfl,⟨rfl,_,rfl⟩,rfl⟩⟩
inductive aBE(K:Af)(x:V)(y:V)(H:Hp)(Q:VK):Prop
 | mk (a:_) (b:_) (xs:_) (ys:_) (q0:x=.ref a) (q1:y=.ref b) (q2:SqT K H a xs) (q3:SqT K H b ys) (q4:xs≠[]) (q5:xs.length+ys.length<=sizeLine) (q6:(ys=[]->Q (.ref a) H)) (q7:(ys≠[]->∀ p,H p=none->Q (.ref p) (upd H p (.tup (xs++ys))))):aBE K x y H Q
def aIl(K:Af):R2:=fun x y H Q=>aBE K x y H Q
theorem cJ.nil_iff{xs:List V}{z:List Ab}(r:cJ xs z):z=[]↔xs=[]:=by
 cases r with
 | nil=>simp
 | cons _ _=>simp
theorem aFv:OpR X (binaryOp .Add) (aIl X.K):=by
 intro dz s σ H x y v u Q I B D h;obtain⟨a,b,xs,ys,rfl,rfl,ha,hb,hx,hz,q1,q2⟩:=h;cases B;cases D;obtain⟨its,r1,p1,_⟩:=I.tuple ha;obtain⟨its2,r2,p2,_⟩:=I.tuple hb;refine HT.cat_tup p1 p2 (fun z=>hx (r1.nil_iff.mp z)) (fun z=>⟨.ref a,H,I,rfl,q1 (r2.nil_iff.mp z)⟩) (fun z=>?_) (by rw[<- r1.length,<- r2.length];exact hz);refine⟨.ref s.heap.objs.size,_,I.laid (t':=s.toks) (o:=.tup (xs++ys)) (fun b ob q=>Ai _ q) (Ak _) ?_,rfl,q2 (fun w=>z (r2.nil_iff.mpr w)) _ (I.hok.fresh (Ak _))⟩;exact⟨by rw[Al];exact hz,_,r1.append r2,⟨_,Aw _ rfl,⟨rfl,_,rfl⟩,rfl⟩⟩
end
def ixN(n:Nat)(i:Int):Option Nat:=if 0<=i then(if i<n then some i.toNat else none) else if -(n:Int)<=i then some (i+n).toNat else none
def atI{α:Type}(xs:List α)(i:Int):Option α:=(ixN xs.length i).bind fun j=>xs[j]?
theorem aBF{n:Nat}{i:Int}{j:Nat}(h:ixN n i=some j):seqIndex? i n=some j/\j<n/\-(n:Int)<=i/\i<n:=by
 unfold ixN at h;by_cases z:0<=i
 .rw[Ib z]at h;by_cases h1:i<n
  .rw[Ib h1]at h;have e:i.toNat=j:=Cp.inj h;exact⟨by rw[GV z h1,e],by omega,by omega,h1⟩
  .rw[Ia h1]at h;cases h
 .rw[Ia z]at h;by_cases h1:-(n:Int)<=i
  .rw[Ib h1]at h;have e:(i+n).toNat=j:=Cp.inj h;exact⟨by rw[seqIndex_neg (by omega) h1,e],by omega,h1,by omega⟩
  .rw[Ia h1]at h;cases h
theorem xF{α:Type}{xs:List α}{i:Int}{v:α}(h:atI xs i=some v):∃ j,seqIndex? i xs.length=some j/\xs[j]?=some v/\j<xs.length/\-(xs.length:Int)<=i/\i<xs.length:=by
 unfold atI at h;cases e:ixN xs.length i with
 | none=>rw[e]at h;cases h
 | some j=>
  rw[e]at h;obtain⟨h1,h2,h3,h4⟩:=aBF e;exact⟨j,h1,h,h2,h3,h4⟩
theorem cB{α:Type}{xs:List α}{j:Nat}{v:α}(h:xs[j]?=some v):atI xs (j:Int)=some v:=by
 have z:j<xs.length:=(Bl.mp h).1;have e:ixN xs.length (j:Int)=some j:=by
  unfold ixN;rw[Ib (by omega),Ib (by omega)];simp
 unfold atI;rw[e];exact h
def aFw(b:Bb):Prop:=∀ o i,subscripted b false o i=operate [o,i] (getItem o i)
def IxR(X:Cx)(r:R2):Prop:=
 ∀(value slice:Bb) (dz:List (Ah×Obj)) (s:Ac) (σ:St) (H:Hp) (x y:V) (v u:Ab) (Q:VK),Inv X dz σ H s->cW x v->cW y u->r x y H Q->
  subscripted slice false v u=operate [v,u] (getItem v u)->wpAny (model X.prog X.w) X.A (subscriptTail value slice v u) (EP X dz σ Q) X.xe s
def MtR(X:Cx)(id:String)(r:V->List V->Hp->VK->Prop):Prop:=
 ∀(dz:List (Ah×Obj)) (s:Ac) (σ:St) (H:Hp) (x:V) (xs:List V) (v:Ab) (us:List Ab) (Q:VK),Inv X dz σ H s->cW x v->cJ xs us->r x xs H Q->
  wpAny (model X.prog X.w) X.A (call (.builtin id) (v::us)) (EP X dz σ Q) X.xe s
section
variable{a b:Bb}{ta tb:TE}
theorem bJ{r:R2}(J:IxR X r)(ha:PE X a ta)(W:PE X b tb)(B:aFw b):PE X (.Subscript a b pos) (tOp r ta tb):=by
 constructor;intro dz s σ H Q I h;exact F1 (aG6 ha W I h fun v u O x y H2 D z Y q=>J a b dz O σ H2 x y v u Q D z Y q (B _ _))
inductive aDF(K:Af)(x:V)(y:V)(H:Hp)(Q:VK):Prop
 | mk (p:_) (xs:_) (i:_) (v:_) (q0:x=.ref p) (q1:y=.int i) (q2:SqL K H p xs) (q3:atI xs i=some v) (q4:Q v H):aDF K x y H Q
def aIm(K:Af):R2:=fun x y H Q=>aDF K x y H Q
inductive aDG(K:Af)(x:V)(y:V)(H:Hp)(Q:VK):Prop
 | mk (p:_) (xs:_) (i:_) (v:_) (q0:x=.ref p) (q1:y=.int i) (q2:SqT K H p xs) (q3:atI xs i=some v) (q4:Q v H):aDG K x y H Q
def aDH(K:Af):R2:=fun x y H Q=>aDG K x y H Q
inductive aDI(x:V)(y:V)(H:Hp)(Q:VK):Prop
 | mk (z:_) (i:_) (c:_) (q0:x=.str z) (q1:y=.int i) (q2:z.length<=sizeLine) (q3:atI z.cps.toList i=some c) (q4:Q (.str ⟨#[c]⟩) H):aDI x y H Q
def aJf:R2:=fun x y H Q=>aDI x y H Q
theorem c4:IxR X (aIm X.K):=by
 intro value B dz s σ H x y v u Q I W Z h J;obtain⟨p,xs,i,z,rfl,rfl,hq,he,q⟩:=h;cases W;obtain⟨t,rfl⟩:=Z;obtain⟨its,r,pl,hz⟩:=I.list hq;obtain⟨j,h1,h2,h3,h4,h5⟩:=xF he;obtain⟨w,ew,rw'⟩:=r.get h2;have Y:=r.length;have hn:=oZ;have fin:EP X dz σ Q w s:=⟨z,H,I,rw',q⟩
 by_cases O:0<=i
 .have D:i.toNat=j:=by
   rw[GV O h5]at h1;exact Cp.inj h1
  exact item_listR pl.isList O (by omega) (by rw[D];simpa using ew) fin J
 .have D:(i+(its.toArray.size:Int)).toNat=j:=by
   rw[seqIndex_neg (by omega) h4]at h1;rw[Ao,<- Y];exact Cp.inj h1
  exact subscriptTail_builtinR (x:=w) pl.isList.typeIs slot_list_getitem.lookup
   (wpAny_getItem_list_neg (Q:=fun r s'=>r=w/\EP X dz σ Q r s') pl.isList (by omega) (by rw[Ao]<;>omega) (by omega) (by rw[D];simpa using ew) ⟨rfl,fin⟩) J
theorem cA:IxR X (aDH X.K):=by
 intro value B dz s σ H x y v u Q I D W h J;obtain⟨p,xs,i,z,rfl,rfl,hq,he,q⟩:=h;cases D;obtain⟨t,rfl⟩:=W;obtain⟨its,r,pl,hz⟩:=I.tuple hq;obtain⟨j,h1,h2,h3,h4,h5⟩:=xF he;obtain⟨w,ew,rw'⟩:=r.get h2;have O:=r.length;have hn:=oZ;have fin:EP X dz σ Q w s:=⟨z,H,I,rw',q⟩
 exact subscriptTail_builtinR (x:=w) pl.typeIs slot_tuple_getitem.lookup
  (getItem_tuple (j:=j) (Q:=fun r s'=>r=w/\EP X dz σ Q r s') pl (by omega) (by omega) (by rw[Ao,<- O];exact h1) (by simpa using ew) ⟨rfl,fin⟩) J
theorem rT:IxR X aJf:=by
 intro value B dz s σ H x y v u Q I D Z h J;obtain⟨z,i,c,rfl,rfl,hz,he,q⟩:=h;obtain⟨t,rfl⟩:=D;obtain⟨t',rfl⟩:=Z;obtain⟨j,h1,h2,h3,h4,h5⟩:=xF he;have O:z.cps.toList.length=z.length:=by simp[Fd]
 rw[O]at h1 h4 h5;have hn:=oZ;exact tail_any (EM s z t) slot_str_getitem.lookup (getItem_str (c:=c) (by
  have W:decide (i < -(2^63:Int))=false:=Ie (by omega);have Y:decide (i ≥ 2^63)=false:=Ie (by omega);rw[W,Y,Bool.or_false]) (by rw[h1];simpa using h2) ⟨.str ⟨#[c]⟩,H,I.tok _,⟨_,rfl⟩,q⟩) J
theorem aAS(its:List Ab)(n j:Nat)(u:Ab):BO (·.setIfInBounds j u) { cls:=.type "list",data:=.seq its.toArray n }={ cls:=.type "list",data:=.seq (its.set j u).toArray n }:=by
 simp[BO]
theorem Inv.lst{dz:List (Ah×Obj)}{σ:St}{H:Hp}{s:Ac}{p:Ah}{xs:List V}(I:Inv X dz σ H s)(h:H p=some (.lst xs)):
  ∃(its:List Ab) (n:Nat),cJ xs its/\s.heap.get? p=some { cls:=.type "list",data:=.seq its.toArray n }/\xs.length<=sizeLine:=by
 obtain⟨z,its,n,r,e⟩:=I.hok p _ h;exact⟨its,n,r,e,z⟩
theorem Inv.lstUpd{dz:List (Ah×Obj)}{σ:St}{H:Hp}{s:Ac}{p:Ah}{xs ys:List V}{its its':List Ab}{n z:Nat}{f:Obj->Obj}(I:Inv X dz σ H s)(h:H p=some (.lst xs))
  (J:s.heap.get? p=some { cls:=.type "list",data:=.seq its.toArray n }) (B:f { cls:=.type "list",data:=.seq its.toArray n }={ cls:=.type "list",data:=.seq its'.toArray z }) (r:cJ ys its') (hz:ys.length<=sizeLine) (t:Nat):
  Inv X dz σ (upd H p (.lst ys)) { s with heap:=s.heap.update p f,toks:=t }:=by
 have e:(s.heap.update p f).get? p=some { cls:=.type "list",data:=.seq its'.toArray z }:=by
  rw[B9 f J (by rw[B]<;>rfl),B]
 refine I.write (x:=p) (e:=p) (by rw[h];trivial) (.inl rfl) (fun b u D q=>(DD _ _ (D7 D)).trans q) ⟨_,e⟩ ?_;exact⟨hz,its',z,r,e⟩
inductive aBG(o:V)(i:V)(v:V)(H:Hp)(Q:(Hp->Prop)):Prop
 | mk (p:_) (xs:_) (k:_) (j:_) (q0:o=.ref p) (q1:i=.int k) (q2:H p=some (.lst xs)) (q3:ixN xs.length k=some j) (q4:Q (upd H p (.lst (xs.set j v)))):aBG o i v H Q
def aIn:V->V->V->Hp->(Hp->Prop)->Prop:=fun o i v H Q=>aBG o i v H Q
theorem rV:aIa X aIn:=by
 intro dz s σ H o i v ov iv u Q I Z Y O h;obtain⟨p,xs,k,j,rfl,rfl,hp,hj,q⟩:=h;cases Z;obtain⟨t,rfl⟩:=Y;obtain⟨its,n,r,ho,hz⟩:=I.lst hp;obtain⟨h1,h2,h3,h4⟩:=aBF hj;have z:=r.length;have hn:=oZ;have J:Inv X dz σ (upd H p (.lst (xs.set j v))) { s with heap:=s.heap.update p (BO (·.setIfInBounds j u)) }:=
  I.lstUpd hp ho (aAS its n j u) (r.set O j) (by rw[Dm];exact hz) s.toks
 by_cases D:0<=k
 .have B:k.toNat=j:=by
   rw[GV D h4]at h1;exact Cp.inj h1
  exact PySem.W.ki_setAt ho D (by omega) (by rw[Ao,<- z];exact h4) (by rw[B];exact⟨_,J,q⟩)
 .have B:(k+(its.toArray.size:Int)).toNat=j:=by
   rw[seqIndex_neg (by omega) h3]at h1;rw[Ao,<- z];exact Cp.inj h1
  exact PySem.W.ki_setBack ho (by omega) (by rw[Ao,<- z];exact h3) (by omega) (by rw[B];exact⟨_,J,q⟩)
theorem xG(lo hi:Option Int)(n:Nat):(sliceBounds lo hi none n).1=((HT.sIx n 0 lo:Nat):Int)/\(sliceBounds lo hi none n).2.1=((HT.sIx n n hi:Nat):Int)/\(sliceBounds lo hi none n).2.2=1:=by
 refine⟨?_,?_,rfl⟩
 .cases lo with
  | none=>simp[sliceBounds,HT.sIx]
  | some i=>
   simp only[sliceBounds,HT.sIx,Option.getD_none,show(1:Int)>0 by decide,if_true];by_cases h:i<0
   .simp only[h,if_true]<;>omega
   .simp only[h,if_false]<;>omega
 .cases hi with
  | none=>simp[sliceBounds,HT.sIx]
  | some i=>
   simp only[sliceBounds,HT.sIx,Option.getD_none,show(1:Int)>0 by decide,if_true];by_cases h:i<0
   .simp only[h,if_true]<;>omega
   .simp only[h,if_false]<;>omega
theorem vC(its:List Ab)(lo hi:Option Int):slicePick its.toArray lo hi none=((its.drop (HT.sIx its.length 0 lo)).take (HT.sIx its.length its.length hi-HT.sIx its.length 0 lo)).toArray:=by
 obtain⟨h1,h2,h3⟩:=xG lo hi its.toArray.size;unfold slicePick;rw[h1,h2,h3];simp only[sliceRange_one,pick_run,Ao]<;>rfl
inductive aDJ(K:Af)(x:V)(lo:Option Int)(hi:Option Int)(H:Hp)(Q:VK):Prop
 | mk (a:_) (xs:_) (q0:x=.ref a) (q1:SqL K H a xs) (q2:∀ p,H p=none->Q (.ref p) (upd H p (.lst (d8 xs lo hi)))):aDJ K x lo hi H Q
def aJg(K:Af):V->Option Int->Option Int->Hp->VK->Prop:=fun x lo hi H Q=>aDJ K x lo hi H Q
theorem nP:SlR X (aJg X.K):=by
 intro dz s σ H x v W Y lo hi O Q I B D pl J h;obtain⟨a,xs,rfl,hx,q⟩:=h;cases B;obtain⟨its,r,ht,hz⟩:=I.list hx;have z:=r.length;refine⟨"list",_,slot_list_getitem.lookup,ht.isList.typeIs,wpAny_getItem_list_slice ht.isList D pl J .none (by simp) ?_ (by rw[Ao]<;>omega)⟩;rw[vC,<- z];refine⟨.ref s.heap.objs.size,_,I.laid (t':=s.toks) (o:=.lst (d8 xs lo hi)) (fun b ob q=>Ai _ q) (Ak _) ?_,rfl,q _ (I.hok.fresh (Ak _))⟩;exact⟨AD (g8 xs lo hi) hz,_,0,(r.drop (HT.sIx xs.length 0 lo)).take (HT.sIx xs.length xs.length hi-HT.sIx xs.length 0 lo),Aw _ rfl⟩
def g9:V->Bool
 | .non=>true
 | .bl _=>true
 | .int _=>true
 | .str _=>true
 | _=>false
def eqV:V->V->Bool
 | .non,.non=>true
 | .bl a,.bl b=>a==b
 | .bl a,.int b=>(if a then 1 else 0)==b
 | .int a,.bl b=>a==(if b then 1 else 0)
 | .int a,.int b=>a==b
 | .str a,.str b=>a==b
 | _,_=>false
theorem aAT{A:AJ}{s:Ac}{y x:V}{u v:Ab}(D:cW y u)(z:cW x v)(J:g9 y=true)(B:g9 x=true):Gm A s u v (eqV y x):=by
 cases y with
 | non=>
  cases D;cases x with
  | non=>cases z;exact SeqAt.EqAt.same _
  | bl b=>cases z;exact SeqAt.EqAt.none_bool b
  | int b=>obtain⟨t,rfl⟩:=z;exact SeqAt.EqAt.none_int b t
  | str b=>obtain⟨t,rfl⟩:=z;exact SeqAt.EqAt.none_str b t
  | _=>exact absurd (show false=true from B) AG
 | bl a=>
  cases D;cases x with
  | non=>cases z;exact SeqAt.EqAt.bool_none a
  | bl b=>cases z;exact SeqAt.EqAt.bool_bool a b
  | int b=>obtain⟨t,rfl⟩:=z;exact SeqAt.EqAt.bool_int a b t
  | str b=>obtain⟨t,rfl⟩:=z;exact SeqAt.EqAt.bool_str a b t
  | _=>exact absurd (show false=true from B) AG
 | int a=>
  obtain⟨t',rfl⟩:=D;cases x with
  | non=>cases z;exact SeqAt.EqAt.int_none a t'
  | bl b=>cases z;exact SeqAt.EqAt.int_bool a t' b
  | int b=>obtain⟨t,rfl⟩:=z;exact SeqAt.EqAt.int_int a t' b t
  | str b=>obtain⟨t,rfl⟩:=z;exact SeqAt.EqAt.int_str a t' b t
  | _=>exact absurd (show false=true from B) AG
 | str a=>
  obtain⟨t',rfl⟩:=D;cases x with
  | non=>cases z;exact SeqAt.EqAt.str_none a t'
  | bl b=>cases z;exact SeqAt.EqAt.str_bool a t' b
  | int b=>obtain⟨t,rfl⟩:=z;exact SeqAt.EqAt.str_int a t' b t
  | str b=>obtain⟨t,rfl⟩:=z;exact SeqAt.EqAt.str_str a t' b t
  | _=>exact absurd (show false=true from B) AG
 | _=>exact absurd (show false=true from J) AG
def eqU(x:V)(u:Ab):Bool:=match u with
 | .none=>eqV .non x
 | .bool b=>eqV (.bl b) x
 | .int i _=>eqV (.int i) x
 | .str z _=>eqV (.str z) x
 | _=>false
theorem aDK{x y:V}{u:Ab}(r:cW y u)(f:g9 y=true):eqU x u=eqV y x:=by
 cases y with
 | non=>cases r;rfl
 | bl b=>cases r;rfl
 | int i=>obtain⟨t,rfl⟩:=r;rfl
 | str z=>obtain⟨t,rfl⟩:=r;rfl
 | _=>exact absurd (show false=true from f) AG
theorem nQ{x:V}:∀{xs:List V}{z:List Ab},cJ xs z->xs.all g9=true->z.any (eqU x)=xs.any fun y=>eqV y x
 | _,_,.nil,_=>rfl
 | y::xs,u::z,.cons r t,f=>by
  rw[Cq,Av]at f;rw[Ep,Ep,aDK r f.1,nQ t f.2]
theorem kG{A:AJ}{s:Ac}{x:V}{v:Ab}(D:cW x v)(J:g9 x=true):∀{xs:List V}{B:List Ab},cJ xs B->xs.all g9=true->∀ u∈B,Gm A s u v (eqU x u)
 | _,_,.nil,_=>fun u z=>by cases z
 | y::xs,u::B,.cons r t,f=>fun O z=>by
  rw[Cq,Av]at f;rcases Am.mp z with rfl|z
  .rw[aDK r f.1];exact aAT r D f.1 J
  .exact kG D J t f.2 O z
def inV(x:V)(xs:List V):Bool:=xs.any fun y=>eqV y x
inductive aGD(K:Af)(neg:Bool)(x:V)(y:V)(H:Hp)(Q:VK):Prop
 | mk (p:_) (xs:_) (q0:y=.ref p) (q1:(SqL K H p xs\/SqT K H p xs)) (q2:g9 x=true) (q3:xs.all g9=true) (q4:Q (.bl (if neg then !inV x xs else inV x xs)) H):aGD K neg x y H Q
def rIn(K:Af)(neg:Bool):R2:=fun x y H Q=>aGD K neg x y H Q
theorem o0:OpR X (compareOp .In) (rIn X.K false):=by
 intro dz s σ H x y v u Q I B D h;obtain⟨p,xs,rfl,z,fx,fs,q⟩:=h;cases D;rcases z with z|z
 .obtain⟨its,r,pl,hz⟩:=I.list z;refine SeqAt.in_listAt (eqU x) pl.isList (fun w hw=>kG B fx r fs w (by simpa using hw)) ⟨.bl _,H,I,rfl,?_⟩;rw[show its.toArray.any (eqU x)=its.any (eqU x) by simp,nQ r fs];exact q
 .obtain⟨its,r,pl,hz⟩:=I.tuple z;refine SeqAt.in_tupleAt (eqU x) pl (fun w hw=>kG B fx r fs w (by simpa using hw)) ⟨.bl _,H,I,rfl,?_⟩;rw[show its.toArray.any (eqU x)=its.any (eqU x) by simp,nQ r fs];exact q
theorem nR:OpR X (compareOp .NotIn) (rIn X.K true):=by
 intro dz s σ H x y v u Q I B D h;obtain⟨p,xs,rfl,z,fx,fs,q⟩:=h;cases D;rcases z with z|z
 .obtain⟨its,r,pl,hz⟩:=I.list z;refine SeqAt.notIn_listAt (eqU x) pl.isList (fun w hw=>kG B fx r fs w (by simpa using hw)) ⟨.bl _,H,I,rfl,?_⟩;rw[show its.toArray.any (eqU x)=its.any (eqU x) by simp,nQ r fs];exact q
 .obtain⟨its,r,pl,hz⟩:=I.tuple z;refine SeqAt.notIn_tupleAt (eqU x) pl (fun w hw=>kG B fx r fs w (by simpa using hw)) ⟨.bl _,H,I,rfl,?_⟩;rw[show its.toArray.any (eqU x)=its.any (eqU x) by simp,nQ r fs];exact q
inductive jB(x:V)(y:V)(H:Hp)(Q:VK):Prop
 | mk (i:_) (j:_) (q0:x=.str i) (q1:y=.str j) (q2:Q (.bl (!(!(Builtin.Str.occurrences j i 0 j.length 1).isEmpty))) H):jB x y H Q
def rW:V->V->Hp->VK->Prop:=fun x y H Q=>jB x y H Q
theorem xH:OpR X (compareOp .NotIn) rW:=by
 intro dz s σ H x y v u Q I z B h;obtain⟨i,j,rfl,rfl,q⟩:=h;obtain⟨t,rfl⟩:=z;obtain⟨t',rfl⟩:=B;exact notIn_str ⟨.bl _,H,I,rfl,q⟩
inductive jC(K:Af)(xs:List V)(H:Hp)(Q:VK):Prop
 | mk (p:_) (ys:_) (q0:xs=[.ref p]) (q1:(SqL K H p ys\/SqT K H p ys)) (q2:Q (.int ys.length) H):jC K xs H Q
def gG(K:Af):List V->Hp->VK->Prop:=fun xs H Q=>jC K xs H Q
theorem aS:eU X (.builtin "len") (gG X.K):=by
 intro dz s σ H xs D Q I r h;obtain⟨p,ys,rfl,B,q⟩:=h;obtain⟨u,rfl,rx⟩:=fY r;cases rx;have hn:=oZ;rcases B with B|B
 .obtain⟨its,r',pl,hz⟩:=I.list B;have z:=r'.length;exact Calls.call_len_list pl.isList (by simp only[Ao]<;>omega) ⟨.int ys.length,H,I.tok _,⟨s.toks+1,by rw[Ao,z]⟩,q⟩
 .obtain⟨its,r',pl,hz⟩:=I.tuple B;have z:=r'.length;exact len_tuple pl (by simp only[Ao]<;>omega) ⟨.int ys.length,H,I.tok _,⟨s.toks+1,by rw[Ao,z]⟩,q⟩
inductive jD(xs:List V)(H:Hp)(Q:VK):Prop
 | mk (z:_) (q0:xs=[.str z]) (q1:z.length<=sizeLine) (q2:Q (.int z.length) H):jD xs H Q
def rX:List V->Hp->VK->Prop:=fun xs H Q=>jD xs H Q
theorem fV:eU X (.builtin "len") rX:=by
 intro dz s σ H xs B Q I r h;obtain⟨z,rfl,hz,q⟩:=h;obtain⟨u,rfl,t,rfl⟩:=fY r;have hn:=oZ;exact len_str (by omega) ⟨.int z.length,H,I.tok _,⟨_,rfl⟩,q⟩
theorem eU.or{f:Ab}{r D:List V->Hp->VK->Prop}(h:eU X f r)(h':eU X f D):eU X f (fun xs H Q=>r xs H Q\/D xs H Q):=by
 intro dz s σ H xs z Q I B q;rcases q with q|q
 .exact h dz s σ H xs z Q I B q
 .exact h' dz s σ H xs z Q I B q
inductive jE(K:Af)(xs:List V)(H:Hp)(Q:VK):Prop
 | mk (p:_) (ys:_) (q0:xs=[.ref p]) (q1:(SqL K H p ys\/SqT K H p ys)) (q2:∀ l,H l=none->Q (.ref l) (upd H l (.lst ys))):jE K xs H Q
def rY(K:Af):List V->Hp->VK->Prop:=fun xs H Q=>jE K xs H Q
theorem gH:eU X (.type "list") (rY X.K):=by
 intro dz s σ H xs W Q I r h;obtain⟨p,ys,rfl,J,q⟩:=h;obtain⟨u,rfl,rx⟩:=fY r;cases rx;have fin:∀(z:List Ab),cJ ys z->ys.length<=sizeLine->∀(h':A8) (B:Nat),(∀ b o',s.heap.get? b=some o'->h'.get? b=some o')->
   h'.get? s.heap.objs.size=some { cls:=.type "list",dict:=none,data:=.seq z.toArray B,slots:=#[] }->EP X dz σ Q (.ref s.heap.objs.size) { s with heap:=h' }:=fun z D hz h' B kp e=>
  ⟨.ref s.heap.objs.size,_,I.laid (t':=s.toks) kp (Ak _) (show c7 X.prog X.w _ h' _ (.lst ys) from⟨hz,z,B,D,e⟩),rfl,q _ (I.hok.fresh (Ak _))⟩
 rcases J with J|J
 .obtain⟨z,D,pl,hz⟩:=I.list J;have O:=D.length;obtain⟨o,ho,hc,n,hd⟩:=pl.isList;exact Fi p (.inl rfl) ho hc hd (fun h' B kp e=>fin z D hz h' B kp e) (by simp only[Ao]<;>omega)
 .obtain⟨z,D,pl,hz⟩:=I.tuple J;have O:=D.length;obtain⟨o,ho,hc,n,hd⟩:=pl;exact Fi p (.inr rfl) ho hc hd (fun h' B kp e=>fin z D hz h' B kp e) (by simp only[Ao]<;>omega)
inductive iT(K:Af)(xs:List V)(H:Hp)(Q:VK):Prop
 | mk (p:_) (ys:_) (q0:xs=[.ref p]) (q1:((SqL K H p ys/\∀ l,H l=none->Q (.ref l) (upd H l (.tup ys)))\/(SqT K H p ys/\Q (.ref p) H))):iT K xs H Q
def j9(K:Af):List V->Hp->VK->Prop:=fun xs H Q=>iT K xs H Q
theorem cS:eU X (.type "tuple") (j9 X.K):=by
 intro dz s σ H xs J Q I r h;obtain⟨p,ys,rfl,h⟩:=h;obtain⟨u,rfl,rx⟩:=fY r;cases rx;rcases h with⟨hq,q⟩|⟨hq,q⟩
 .obtain⟨its,r',pl,hz⟩:=I.list hq;have z:=r'.length;refine call_tuple_list pl.isList (fun h' kp=>?_) (by simp only[Ao]<;>omega);have B:Inv X dz σ H { s with heap:=h' }:=I.kept (t':=s.toks) kp;have D:Inv X dz σ (upd H h'.objs.size (.tup ys)) { s with heap:=h'.push { cls:=.type "tuple",data:=.seq its.toArray } }:=
   B.laid (t':=s.toks) (fun b o e=>Ai _ e) (Ak _) (show c7 X.prog X.w _ _ _ (.tup ys) from⟨hz,its,r',⟨_,Aw _ rfl,⟨rfl,_,rfl⟩,rfl⟩⟩)
  exact⟨.ref h'.objs.size,_,D,rfl,q _ (B.hok.fresh (Ak _))⟩
 .obtain⟨its,r',pl,hz⟩:=I.tuple hq;exact call_tuple_same pl ⟨.ref p,H,I,rfl,q⟩
def tyV(K:Af)(T:String)(x:V)(H:Hp):Prop:=match x with
 | .str _=>T="str"
 | .int _=>T="int"
 | .ref p=>(T="list"/\∃ xs,SqL K H p xs)\/(T="tuple"/\∃ o,K.lookup p=some o/\o.cls=.type "tuple"/\o.dict=none)\/
   (T="dict"/\((∃ fc,H p=some (.dK fc))\/∃ fc,H p=some (.dT fc)))\/(T="set"/\∃ S n,H p=some (.set S n))\/(T="tuple"/\∃ xs,H p=some (.tup xs))
 | _=>False
theorem aHc{dz:List (Ah×Obj)}{σ:St}{H:Hp}{s:Ac}{T:String}{x:V}{v:Ab}(I:Inv X dz σ H s)(r:cW x v)(ty:tyV X.K T x H):
  s.TypeIs v T/\∀ a,v=.ref a->∃ ob,s.heap.get? a=some ob/\ob.dict=none:=by
 cases x with
 | str z=>
  obtain⟨t,rfl⟩:=r;cases(show T="str" from ty);exact⟨EM s z t,fun _ e=>nomatch e⟩
 | int i=>
  obtain⟨t,rfl⟩:=r;cases(show T="int" from ty);exact⟨typeIs_int s i t,fun _ e=>nomatch e⟩
 | ref p=>
  cases r;rcases ty with⟨rfl,xs,hq⟩|⟨rfl,o,hk,hc,hd⟩|⟨rfl,hk⟩|⟨rfl,S,n,hk⟩|⟨rfl,xs,hq⟩
  .obtain⟨its,_,pl,_⟩:=I.list hq;refine⟨pl.isList.typeIs,fun a e=>?_⟩;cases e;obtain⟨o,n,e,c,hd,_⟩:=pl;exact⟨o,e,hd⟩
  .refine⟨⟨o,I.kIn p o hk,hc⟩,fun a e=>?_⟩;cases e;exact⟨o,I.kIn _ o hk,hd⟩
  .have z:∃ o,s.heap.get? p=some o/\o.ExactDict:=by
    rcases hk with⟨fc,hk⟩|⟨fc,hk⟩
    .obtain⟨_,_,_,_,o,_,_,e,ex,_⟩:=I.hok p _ hk;exact⟨o,e,ex⟩
    .obtain⟨_,_,_,_,o,_,_,e,ex,_⟩:=I.hok p _ hk;exact⟨o,e,ex⟩
   obtain⟨o,e,ex⟩:=z;refine⟨⟨o,e,ex.1⟩,fun a B=>?_⟩;cases B;exact⟨o,e,ex.2.1⟩
  .obtain⟨o,_,_,_,e,ex,_⟩:=I.hok p _ hk;refine⟨⟨o,e,ex.1⟩,fun a B=>?_⟩;cases B;exact⟨o,e,ex.2.1⟩
  .obtain⟨_,_,_,o,e,⟨c,_⟩,hd⟩:=(show c7 X.prog X.w H s.heap p (.tup xs) from I.hok p _ hq)
   refine⟨⟨o,e,c⟩,fun a B=>?_⟩;cases B;exact⟨o,e,hd⟩
 | _=>exact Ca ty
def tBM(K:Af)(T:String)(r:V->List V->Hp->VK->Prop)(to:TE)(t:TA):TE:=fun σ H Q=>to σ H fun x H1=>tyV K T x H1/\t σ H1 fun xs H2=>r x xs H2 Q
variable{o:Bb}{es:List Bb}{to:TE}{t:TA}{name:Str}{fh fe:Pos}{T id:String}{r:V->List V->Hp->VK->Prop}
theorem vQ(pa:PlainAttrs T)(slot:Slot T name id)(O:typeOf (.builtin id)=pure (.type "method_descriptor"))(hm:MtR X id r)(ho:PE X o to)(ha:PA X (e::es) t)
  (D:attributeBase o name X.env (eval o X.env)=eval o X.env:=by rfl)
  (J:((backTo fe (starEach (e::es) X.env)).all (fun x=>!x.1)&&(backToKw fe (keywordEach [] X.env)).all (fun x=>x.1.isSome)
   && decide ((e::es).length+([]:List Em).length+(if ([]:List Em).isEmpty then 0 else 1)<30))=true:=by rfl)
  (B:(fh.endLine==fe.line)=true:=by rfl) (hs:starEach (e::es) X.env=(false,eval e X.env)::starEach es X.env:=by rfl) (z:(backTo fe (starEach es X.env)).any (·.1)=false:=by rfl):
  PE X (.Call (.Attribute o name fh) (e::es) [] fe) (tBM X.K T r to t):=by
 constructor;intro dz s σ H Q I h;refine wpAny_Call_method_late D J B rfl (thn (ho dz s σ H _ I h) fun v s1 ⟨x,H1,Z,W,ty,q1⟩=>?_);obtain⟨h1,h2⟩:=aHc Z W ty;refine⟨T,id,pa,slot,O,h1,h2,?_⟩;have Y:=ha fe dz s1 σ H1 _ Z q1;rw[hs]at Y ⊢;refine Calls.callWith_builtin (by show(false||(backTo fe (starEach es X.env)).any (·.1))=false;rw[z]<;>rfl) (EJ ?_)
 exact thn Y fun us s2 ⟨vs,H2,I2,r2,q2⟩=>hm dz s2 σ H2 x vs v us Q I2 W r2 q2
end
def MtM(X:Cx)(id:String)(r:V->List V->Hp->VK->Prop):Prop:=
 ∀(dz:List (Ah×Obj)) (s:Ac) (σ:St) (H:Hp) (x:V) (xs:List V) (v:Ab) (us:List Ab) (Q:VK),Inv X dz σ H s->cW x v->cJ xs us->r x xs H Q->
  wpAny (model X.prog X.w) X.A (call (.builtin id) (v::us)) (EP X dz σ Q) X.xe s
theorem cJ.one:∀{x:V}{z:List Ab},cJ [x] z->∃ u,z=[u]/\cW x u
 | _,_,.cons r .nil=>⟨_,rfl,r⟩
theorem cJ.eraseIdx:∀{xs:List V}{z:List Ab} (i:Nat),cJ xs z->cJ (xs.eraseIdx i) (z.eraseIdx i)
 | _,_,_,.nil=>.nil
 | _,_,0,.cons _ t=>t
 | _,_,i+1,.cons r t=>.cons r (cJ.eraseIdx i t)
theorem cJ.reverse{xs:List V}{z:List Ab}(h:cJ xs z):cJ xs.reverse z.reverse:=by
 induction h with
 | nil=>exact .nil
 | cons r t B=>rw[List.reverse_cons,List.reverse_cons];exact cJ.append B (.cons r .nil)
theorem cJ.rep{xs:List V}{z:List Ab}(h:cJ xs z):∀ k:Nat,cJ (Bm k xs).flatten (Bm k z).flatten
 | 0=>.nil
 | k+1=>by
  rw[Df,Df,Ek,Ek];exact cJ.append h (cJ.rep h k)
theorem vR{α:Type}:∀(l:List α) (i:Nat),(l.eraseIdx i).length<=l.length
 | [],_=>Ak _
 | _::_,0=>C6 _
 | _::r,i+1=>Nat.succ_le_succ (vR r i)
theorem vS(its:List Ab):∀(k:Nat) (z:List Ab),
  Gq (fun D J=>D++J) z.toArray (Bm k its.toArray)=(z++(Bm k its).flatten).toArray
 | 0,z=>by simp
 | k+1,z=>by
  have e:z.toArray++its.toArray=(z++its).toArray:=by simp
  have B:(z++its)++(Bm k its).flatten=z++(Bm (k+1) its).flatten:=by
   rw[Df,Ek,A2]
  rw[<- B,<- vS its k (z++its),<- e,Df,DY]
section
variable{l b:Ah}{xs ys zs:List V}
theorem Inv.lset{its its':List Ab}{n:Nat}{f:Array Ab->Array Ab}{t':Nat}(I:Inv X dz σ H s)(z:H l=some (.lst xs))
  (e:s.heap.get? l=some { cls:=.type "list",data:=.seq its.toArray n }) (D:f its.toArray=its'.toArray) (J:cJ ys its') (hz:ys.length<=sizeLine):
  Inv X dz σ (upd H l (.lst ys)) { s with heap:=s.heap.update l (BO f),toks:=t' }:=by
 have q:=PySem.IsL.update e f;rw[D]at q;refine I.write (x:=l) (e:=l) (by rw[z];exact trivial) (.inl rfl) (fun W u B O=>(DD s.heap (BO f) (D7 B)).trans O) ⟨_,q⟩ ?_;exact⟨hz,its',_,J,q⟩
theorem Inv.lnew{its:List Ab}{t':Nat}(I:Inv X dz σ H s)(z:cJ ys its)(hz:ys.length<=sizeLine):
  Inv X dz σ (upd H s.heap.objs.size (.lst ys)) { s with heap:=s.heap.push { cls:=.type "list",data:=.seq its.toArray },toks:=t' }:=
 I.laid (fun _ _ q=>Ai _ q) (Ak _) ⟨hz,its,0,z,Aw _ rfl⟩
theorem Inv.fresh(I:Inv X dz σ H s):H s.heap.objs.size=none:=I.hok.fresh (Ak _)
theorem Inv.lstM(I:Inv X dz σ H s)(B:H l=some (.lst xs)):xs.length<=sizeLine/\∃(its:List Ab) (n:Nat),cJ xs its/\xs.length=its.length/\s.heap.get? l=some { cls:=.type "list",data:=.seq its.toArray n }:=by
 obtain⟨z,its,n,r,e⟩:=I.hok l _ B;exact⟨z,its,n,r,r.length,e⟩
end
inductive vT(x:V)(vs:List V)(H:Hp)(Q:VK):Prop
 | mk (l:_) (xs:_) (y:_) (q0:x=.ref l) (q1:vs=[y]) (q2:H l=some (.lst xs)) (q3:xs.length<sizeLine) (q4:Q .non (upd H l (.lst (xs++[y])))):vT x vs H Q
def aFx:V->List V->Hp->VK->Prop:=fun x vs H Q=>vT x vs H Q
theorem lM:MtM X "list.append" aFx:=by
 intro dz s σ H x vs v J Q I B D h;obtain⟨l,xs,y,rfl,rfl,hH,hz,q⟩:=h;cases B;obtain⟨u,rfl,ru⟩:=D.one;obtain⟨z,its,n,r,hl,e⟩:=I.lstM hH;refine Fn F.slot_list_append ⟨_,e,rfl⟩ F.entry_list_append (F.args_list_append_2 _ _) (PySem.list_append l its.toArray n u (by rw[Ao];omega)) ⟨e,?_⟩;refine⟨.non,_,I.lset (its':=its++[u]) hH e (by simp) (r.append (.cons ru .nil)) ?_,rfl,q⟩;rw[Al,List.length_singleton];omega
inductive yT(x:V)(vs:List V)(H:Hp)(Q:VK):Prop
 | mk (l:_) (xs:_) (i:_) (k:_) (y:_) (q0:x=.ref l) (q1:vs=[.int i]) (q2:H l=some (.lst xs)) (q3:-(2^63)<=i) (q4:i<2^63) (q5:seqIndex? i xs.length=some k) (q6:xs[k]?=some y) (q7:Q y (upd H l (.lst (xs.eraseIdx k)))):yT x vs H Q
def aHd:V->List V->Hp->VK->Prop:=fun x vs H Q=>yT x vs H Q
theorem yU:MtM X "list.pop" aHd:=by
 intro dz s σ H x vs v J Q I B D h;obtain⟨l,xs,i,k,y,rfl,rfl,hH,h1,h2,hk,hy,q⟩:=h;cases B;obtain⟨u,rfl,ru⟩:=D.one;obtain⟨t,rfl⟩:=ru;obtain⟨z,its,n,r,hl,e⟩:=I.lstM hH;obtain⟨w,hw,rw'⟩:=r.get hy;refine Fn F.slot_list_pop ⟨_,e,rfl⟩ F.entry_list_pop (F.args_list_pop_2 _ _)
  (MeetsSeq.list_pop_at l its.toArray n i t k w (fitsIndex_both h1 h2) (by rw[Ao,<- hl];exact hk) (by rw[<- CZ];exact hw) (by rw[Ao];omega)) ⟨e,?_⟩
 refine⟨y,_,I.lset (its':=its.eraseIdx k) hH e ?_ (r.eraseIdx k) ?_,rw',q⟩
 .show its.toArray.eraseIdxIfInBounds k=(its.eraseIdx k).toArray;rw[List.eraseIdxIfInBounds_toArray]
 .have:=vR xs k;omega
inductive aDL(x:V)(y:V)(H:Hp)(Q:VK):Prop
 | mk (l:_) (b:_) (xs:_) (zs:_) (q0:x=.ref l) (q1:y=.ref b) (q2:H l=some (.lst xs)) (q3:H b=some (.lst zs)) (q4:xs.length+zs.length<=sizeLine) (q5:∀ p,H p=none->Q (.ref p) (upd H p (.lst (xs++zs)))):aDL x y H Q
def aHe:R2:=fun x y H Q=>aDL x y H Q
theorem pA:OpR X (binaryOp .Add) aHe:=by
 intro dz s σ H x y v u Q I B J h;obtain⟨l,b,xs,zs,rfl,rfl,hH,hB,hz,q⟩:=h;cases B;cases J;obtain⟨z,its,n,r,hl,e⟩:=I.lstM hH;obtain⟨z2,its2,n2,r2,hl2,e2⟩:=I.lstM hB;refine PySem.P.add_list e e2 ?_ (by rw[Ao,Ao];omega);have D:its.toArray++its2.toArray=(its++its2).toArray:=by simp
 rw[D];exact⟨.ref _,_,I.lnew (t':=s.toks) (r.append r2) (by rw[Al];omega),rfl,q _ I.fresh⟩
theorem aBH{α:Type}(xs:List α)(k:Nat):(Bm k xs).flatten.length=k*xs.length:=by
 induction k with
 | zero=>simp
 | succ k z=>rw[Df,Ek,Al,z,F2,Nat.add_comm]
section
variable{prog:Ar}{w:AQ}
end
section
variable{κ:Type}[DecidableEq κ]
def gQ(fc:List (κ×V))(k:κ):Option V:=(fc.find? fun kv=>decide (kv.1=k)).map (·.2)
def gR(fc:List (κ×V))(k:κ)(v:V):List (κ×V):=
 if (fc.any fun kv=>decide (kv.1=k))=true then fc.map (fun kv=>if kv.1=k then(kv.1,v) else kv) else fc++[(k,v)]
def aJA(fc:List (κ×V))(k:κ):List (κ×V):=fc.filter fun kv=>decide (kv.1≠k)
theorem rZ{k:κ}:gQ ([]:List (κ×V)) k=none:=rfl
theorem jF{p:κ×V}{r:List (κ×V)}{k:κ}(e:p.1=k):gQ (p::r) k=some p.2:=by simp[gQ,Dn,e]
theorem dO{p:κ×V}{r:List (κ×V)}{k:κ}(e:¬ p.1=k):gQ (p::r) k=gQ r k:=by simp[gQ,Dn,e]
theorem sO(k:κ):∀ fc:List (κ×V),(fc.any fun z=>decide (z.1=k))=(gQ fc k).isSome
 | []=>rfl
 | p::r=>by
  rw[Ep];by_cases e:p.1=k
  .simp only[jF e,Ic e,Bool.true_or,Option.isSome_some]
  .rw[dO e,Ie e,Bool.false_or];exact sO k r
theorem kJ(fc:List (κ×V))(k:κ)(v:V):(gR fc k v).length<=fc.length+1:=by
 unfold gR;split
 .rw[Ae];omega
 .rw[Al,Ax,Cz];omega
theorem sP{fc:List (κ×V)}{k:κ}(v:V)(h:gQ fc k=none):gR fc k v=fc++[(k,v)]:=by
 unfold gR;rw[sO,h];exact Ia (by decide)
theorem nE.isSome_eq{o:Option V}{u:Option Ab}(r:nE o u):o.isSome=u.isSome:=by
 cases o with
 | none=>cases u with
  | none=>rfl
  | some _=>exact(show False from r).elim
 | some _=>cases u with
  | none=>exact(show False from r).elim
  | some _=>rfl
theorem nE.getD{o:Option V}{u:Option Ab}{d:V}{d':Ab}(r:nE o u)(z:cW d d'):cW (o.getD d) (u.getD d'):=by
 cases o with
 | none=>cases u with
  | none=>exact z
  | some _=>exact(show False from r).elim
 | some _=>cases u with
  | none=>exact(show False from r).elim
  | some _=>exact r
theorem KV.val{fc:List (κ×V)}{vs:List (κ×Ab)}(r:KV fc vs)(k:κ):nE (gQ fc k) (valueAt vs k):=by
 unfold KV at r
 induction r with
 | nil=>exact B4
 | @cons p q ps D h t J=>
  obtain⟨h1,h2⟩:=h;by_cases e:p.1=k
  .have B:q.1=k:=h1.symm.trans e;have b:valueAt (q::D) k=some q.2:=by simp[valueAt,Dn,B]
   rw[jF e,b];exact h2
  .have B:¬ q.1=k:=fun z=>e (h1.trans z);have b:valueAt (q::D) k=valueAt D k:=by simp[valueAt,Dn,B]
   rw[dO e,b];exact J
theorem KV.any{fc:List (κ×V)}{vs:List (κ×Ab)}(r:KV fc vs)(k:κ):(fc.any fun z=>decide (z.1=k))=vs.any fun z=>decide (z.1=k):=by
 unfold KV at r
 induction r with
 | nil=>rfl
 | cons h t B=>rw[Ep,Ep,B,h.1]
theorem KV.repl{fc:List (κ×V)}{vs:List (κ×Ab)}(r:KV fc vs)(k:κ){y:V}{u:Ab}(J:cW y u):
  KV (fc.map fun B=>if B.1=k then(B.1,y) else B) (vs.map fun B=>if B.1=k then(B.1,u) else B):=by
 unfold KV at r ⊢
 induction r with
 | nil=>exact .nil
 | @cons p q ps O h t D=>
  rw[Bj,Bj];refine .cons ?_ D;obtain⟨h1,h2⟩:=h;by_cases e:p.1=k
  .rw[Ib e,Ib (h1.symm.trans e)];exact⟨h1,J⟩
  .rw[Ia e,Ia (fun z=>e (h1.trans z))];exact⟨h1,h2⟩
theorem KV.put{fc:List (κ×V)}{vs:List (κ×Ab)}(r:KV fc vs)(k:κ){y:V}{u:Ab}(z:cW y u):KV (gR fc k y) (stored vs k u):=by
 unfold gR stored;rw[r.any k];by_cases e:(vs.any fun B=>decide (B.1=k))=true
 .rw[Ib e,Ib e];exact r.repl k z
 .rw[Ia e,Ia e];exact Paired.snoc r ⟨rfl,z⟩
theorem KV.length{fc:List (κ×V)}{vs:List (κ×Ab)}(r:KV fc vs):fc.length=vs.length:=FD r
end
theorem sQ{P:Ar}{w:AQ}{k:Key}{u:Ab}(r:cW (kV k) u):(dE P w).is k u=true:=by
 cases k with
 | inl i=>obtain⟨t,e⟩:=(show∃ t,u=Cm i t from r);subst e;exact yL P w i t
 | inr x=>obtain⟨t,e⟩:=(show∃ t,u=BK x t from r);subst e;exact yM P w x t
theorem vU{P:Ar}{w:AQ}:∀{ks:List Key}{z:List Ab},cJ (ks.map kV) z->ItemsAre (dE P w) ks z
 | [],_,r=>by rw[Dz]at r;cases r;exact .nil
 | k::ks,_,r=>by
  rw[Bj]at r;cases r with
  | cons h t=>exact .cons (sQ h) (vU t)
abbrev KT(H:Hp):List (List Key×V)->List (List Key×Ah×Ab)->Prop:=FI fun p q=>p.1=q.1/\H q.2.1=some (.tup (p.1.map kV))/\cW p.2 q.2.2
theorem KT.val{H:Hp}{fc:List (List Key×V)}{xs:List (List Key×Ah×Ab)}(r:KT H fc xs)(k:List Key):nE (gQ fc k) ((atKey xs k).map (·.2)):=by
 induction r with
 | nil=>exact B4
 | @cons p q ps D h t J=>
  obtain⟨h1,_,h2⟩:=h;by_cases e:p.1=k
  .have B:q.1=k:=h1.symm.trans e;have b:atKey (q::D) k=some q.2:=by simp[atKey,Dn,B]
   rw[jF e,b];exact h2
  .have B:¬ q.1=k:=fun z=>e (h1.trans z);have b:atKey (q::D) k=atKey D k:=by simp[atKey,Dn,B]
   rw[dO e,b];exact J
theorem KT.repl{H:Hp}{fc:List (List Key×V)}{xs:List (List Key×Ah×Ab)}(r:KT H fc xs)(k:List Key){y:V}{u:Ab}(J:cW y u):
  KT H (fc.map fun B=>if B.1=k then(B.1,y) else B) (xs.map (putAt k u)):=by
 induction r with
 | nil=>exact .nil
 | @cons p q ps O h t D=>
  rw[Bj,Bj];refine .cons ?_ D;obtain⟨h1,h2,h3⟩:=h;unfold putAt;by_cases e:p.1=k
  .rw[Ib e,Ib (h1.symm.trans e)];exact⟨h1,h2,J⟩
  .rw[Ia e,Ia (fun z=>e (h1.trans z))];exact⟨h1,h2,h3⟩
theorem KT.put{H:Hp}{fc:List (List Key×V)}{xs:List (List Key×Ah×Ab)}(r:KT H fc xs)(k:List Key){b:Ah}{y:V}{u:Ab}(B:H b=some (.tup (k.map kV)))(z:cW y u):
  KT H (gR fc k y) (storedH xs k b u):=by
 have e:(fc.any fun D=>decide (D.1=k))=(atKey xs k).isSome:=by
  rw[sO,(r.val k).isSome_eq,Option.isSome_map]
 unfold gR storedH;rw[e];by_cases q:(atKey xs k).isSome=true
 .rw[Ib q,Ib q];exact r.repl k z
 .rw[Ia q,Ia q];exact Paired.snoc r ⟨rfl,B,z⟩
theorem KT.keeps{H H':Hp}{fc:List (List Key×V)}{xs:List (List Key×Ah×Ab)}(r:KT H fc xs)(ht:∀ b ys,H b=some (.tup ys)->H' b=some (.tup ys)):KT H' fc xs:=
 Paired.mapP r fun _ _ z=>⟨z.1,ht _ _ z.2.1,z.2.2⟩
section
variable{P:Ar}{w:AQ}{h:A8}{a:Ah}
theorem aGE{u:HO}(ok:HOk P w H h)(e:Rd H a u):c7 P w H h a u:=e.ok ok
theorem yV{fc:List (Key×V)}(ok:HOk P w H h)(e:Rd H a (.dK fc)):fc.length<=sizeLine/\(a==sysModules)=false/\∃ vs,KV fc vs/\h.DictOf (dE P w) a vs:=
 show c7 P w H h a (.dK fc) from aGE ok e
theorem aGF{fc:List (Key×V)}(ok:HOk P w H h)(e:H a=some (.dK fc)):fc.length<=sizeLine/\(a==sysModules)=false/\∃ vs,KV fc vs/\h.DictOf (dE P w) a vs:=yV ok (.inl e)
theorem xI{ks:List Key}(ok:HOk P w H h)(e:H a=some (.tup (ks.map kV))):(tupleKind (dE P w)).is h ks a:=by
 obtain⟨_,its,r,o,h1,⟨h2,n,h3⟩,_⟩:=(show c7 P w H h a (.tup (ks.map kV)) from ok a _ e)
 exact⟨o,its.toArray,n,h1,h2,h3,by simpa using vU r⟩
theorem yX{fc:List (List Key×V)}(ok:HOk P w H h)(e:Rd H a (.dT fc)):fc.length<=sizeLine/\(a==sysModules)=false/\
  ∃ xs,KT H fc xs/\h.DictOfH (tupleKind (dE P w)) a xs:=by
 obtain⟨z,y,xs,r,o,es,ep,h1,h2,h3,h4,h5⟩:=(show c7 P w H h a (.dT fc) from aGE ok e)
 refine⟨z,y,xs,r,o,es,ep,h1,h2,h3,h4,fun x B=>?_,h5⟩;have all:∀{l:List (List Key×V)} {m:List (List Key×Ah×Ab)},KT H l m->∀ x∈m,(tupleKind (dE P w)).is h x.1 x.2.1:=by
  intro l m q
  induction q with
  | nil=>intro x B;exact nomatch B
  | @cons p q ps O D t J=>
   intro x B;rcases Am.mp B with e|B
   .subst e;exact xI ok (by rw[<- D.1];exact D.2.1)
   .exact J x B
 exact all r x B
theorem aIo{fc:List (List Key×V)}(ok:HOk P w H h)(e:H a=some (.dT fc)):fc.length<=sizeLine/\(a==sysModules)=false/\
  ∃ xs,KT H fc xs/\h.DictOfH (tupleKind (dE P w)) a xs:=yX ok (.inl e)
end
def nS(H:Hp)(a:Ah)(y:V)(r:Option V):Prop:=
 (∃ fc k,Rd H a (.dK fc)/\y=kV k/\r=gQ fc k)\/∃ fc k b,Rd H a (.dT fc)/\y=.ref b/\H b=some (.tup (k.map kV))/\r=gQ fc k
def yY(H:Hp)(a:Ah)(y v:V)(H':Hp):Prop:=
 (∃ fc k,H a=some (.dK fc)/\y=kV k/\fc.length<sizeLine/\H'=upd H a (.dK (gR fc k v)))\/
 ∃ fc k b,H a=some (.dT fc)/\y=.ref b/\H b=some (.tup (k.map kV))/\fc.length<sizeLine/\H'=upd H a (.dT (gR fc k v))
theorem nS.k{H:Hp}{a:Ah}{fc:List (Key×V)}{k:Key}(e:H a=some (.dK fc)):nS H a (kV k) (gQ fc k):=.inl ⟨fc,k,.inl e,rfl,rfl⟩
theorem yY.k{H:Hp}{a:Ah}{fc:List (Key×V)}{k:Key}{v:V}(e:H a=some (.dK fc))(z:fc.length<sizeLine):yY H a (kV k) v (upd H a (.dK (gR fc k v))):=.inl ⟨fc,k,e,rfl,z,rfl⟩
section
variable{a:Ah}{y v:V}{u r:Ab}{o:Option V}
theorem Inv.big(I:Inv X dz σ H s):sysModules<s.heap.objs.size:=by
 have h:mainGlobals<s.heap.objs.size:=(I.mod.glob.keeps I.bk).lt;exact Nat.lt_trans (by decide) h
theorem aCJ{Q:Ab->Ac->Prop}(J:A.units+1<cLine)(I:Inv X dz σ H s)(g:nS H a y (some v))(D:cW y u)(h:∀ B s',Inv X dz σ H s'->cW v B->Q B s'):
  wpAny (model X.prog X.w) A (getItem (.ref a) u) Q E s:=by
 rcases g with⟨fc,k,e,ey,l⟩|⟨fc,k,b,e,ey,eb,l⟩
 .subst ey;obtain⟨z,hd,vs,rel,dd⟩:=yV I.hok e;obtain⟨B,hw,rw'⟩:=nE.some_of (v:=v) (o:=valueAt vs k) (by rw[l];exact rel.val k);exact wpAny_getItem_of (sQ D) dd.mapOf hw (h B _ (I.tok _) rw')
 .subst ey;cases(show u=AI b from D);obtain⟨z,hd,xs,rel,dd⟩:=yX I.hok e;obtain⟨B,hw,rw'⟩:=nE.some_of (v:=v) (o:=(atKey xs k).map (·.2)) (by rw[l];exact rel.val k)
  obtain⟨p,hp,hp2⟩:=Option.map_eq_some_iff.mp hw;refine wpAny_getItem_heap (Fl J) (xI I.hok eb) dd hp ?_;rw[hp2];exact h B _ (I.tok _) rw'
theorem xJ{h':A8}{t':Nat}{ob:HO}(I:Inv X dz σ H s)(D:Mut (H a))(B:DE a s.heap h')(O:∃ q,h'.get? a=some q)(new:c7 X.prog X.w (upd H a ob) h' a ob):
  Inv X dz σ (upd H a ob) { s with heap:=h',toks:=t' }:=
 I.write (x:=a) (e:=a) D (.inl rfl) (fun b q J z=>(B.2 b J).trans z) O new
theorem aDM{P:Ar}{w:AQ}{H':Hp}{h':A8}{fc:List (Key×V)}{vs:List (Key×Ab)}(z:fc.length<=sizeLine)(hd:(a==sysModules)=false)(rel:KV fc vs)(dd:h'.DictOf (dE P w) a vs):
  c7 P w H' h' a (.dK fc):=⟨z,hd,vs,rel,dd⟩
theorem aCK{H':Hp}{Q:Unit->Ac->Prop}(hu:A.units+1<cLine)(I:Inv X dz σ H s)(g:yY H a y v H')(W:cW y u)(O:cW v r)(h:∀ s',Inv X dz σ H' s'->Q () s'):
  wpAny (model X.prog X.w) A (setItem (.ref a) u r) Q E s:=by
 rcases g with⟨fc,k,e,ey,l,eH⟩|⟨fc,k,b,e,ey,eb,l,eH⟩
 .subst ey eH;obtain⟨z,hd,vs,rel,dd⟩:=aGF I.hok e;have hz:vs.length<=sizeLine:=by rw[<- rel.length];exact z
  have J:(gR fc k v).length<=sizeLine:=by have:=kJ fc k v;omega
  refine wpAny_setItem_pairs (hsz:=hz) (sQ W) dd fun h' B D=>h _ ?_;have Z:∃ q,h'.get? a=some q:=let ⟨q,_,_,hq,_⟩:=B;⟨q,hq⟩
  exact xJ I (by rw[e];exact B4) D Z (aDM J hd (rel.put k O) B)
 .subst ey eH;cases(show u=AI b from W);obtain⟨z,hd,xs,rel,dd⟩:=aIo I.hok e;have hz:xs.length<=sizeLine:=by rw[<- FD rel];exact z
  have J:(gR fc k v).length<=sizeLine:=by have:=kJ fc k v;omega
  refine wpAny_setItem_heap (hsz:=hz) (Fl hu) (xI I.hok eb) dd fun h' B D=>h _ ?_;obtain⟨q,es,ep,hq,h2,h3,h4,_,h5⟩:=B;refine xJ I (by rw[e];exact B4) D ⟨q,hq⟩ ⟨J,hd,_,(rel.put k eb O).keeps fun c ys Y=>?_,q,es,ep,hq,h2,h3,h4,h5⟩;rw[bD (aDq Y e (fun z=>nomatch z))];exact Y
end
section
variable{a:Ah}{fc:List (Key×V)}{k:Key}{u:Ab}
end
def aHf(i:Bb):Prop:=∀ ov iv,subscripted i false ov iv=operate [ov,iv] (getItem ov iv)
theorem aBI{prog:Ar}{w:AQ}{A:AJ}{E:Ab->Ac->Prop}{s:Ac}{env:Env}{value z:Bb}{pos:Pos}{T id:String}{Q:Ab->Ac->Prop}
  (Y:typeLookup (.type T) "__getitem__"=pure (some (.builtin id))) (W:aHf z)
  (h:wpAny (model prog w) A (eval value env) (fun o J=>wpAny (model prog w) A (eval z env) (fun i B=>B.TypeIs o T/\wpAny (model prog w) A (getItem o i) Q E B) E J) E s):
  wpAny (model prog w) A (eval (.Subscript value z pos) env) Q E s:=by
 refine F1 (BH h (fun o J h₁=>BH h₁ (fun i B D=>?_) fun _ _ x=>x) fun _ _ x=>x);obtain⟨hT,D⟩:=D;unfold subscriptTail;refine Aa ?_;rw[getitemInPython_of_ne hT.not_modules];refine Aa (ET hT Y ?_);have fin:wpAny (model prog w) A (subscripted z false o i) (fun r O=>wpAny (model prog w) A (letTemporaryGo value o r >>= fun _=>pure r) Q E O) E B:=by
  rw[W o i];exact wpAny_operating (BH D (fun r O Z=>Aa (wpAny_letTemporaryGo (Ad Z))) fun _ _ x=>x)
 first
  | exact Ad (Aa fin)
  | exact Aa (Ad (Aa fin))
  | exact Aa fin
theorem yZ{X:Cx}{dz:List (Ah×Obj)}{σ:St}{H:Hp}{s:Ac}{a:Ah}{y:V}{o:Option V}(I:Inv X dz σ H s)(g:nS H a y o):s.TypeIs (.ref a) "dict":=by
 rcases g with⟨fc,k,e,_,_⟩|⟨fc,k,b,e,_,_,_⟩
 .obtain⟨_,_,vs,_,dd⟩:=yV I.hok e;exact dd.typeIs
 .obtain⟨_,_,xs,_,dd⟩:=yX I.hok e;exact dd.typeIs
def aIp(td ty:TE):TE:=fun σ H Q=>td σ H fun x H1=>ty σ H1 fun y H2=>∃ a v,x=.ref a/\nS H2 a y (some v)/\Q v H2
def aIq(td ty tv:TE):TS:=fun D σ H=>tv σ H fun v H1=>td σ H1 fun x H2=>ty σ H2 fun y H3=>∃ a H4,x=.ref a/\yY H3 a y v H4/\D.nx σ H4
section
variable{o i value:Bb}{fm tpos:Pos}{td ty tv:TE}
theorem nT(Z:X.A.units+1<cLine)(ho:PE X o td)(hi:PE X i ty)(J:aHf i):PE X (.Subscript o i pos) (aIp td ty):=by
 constructor;intro dz s σ H Q I h;refine aBI PySem.F.slot_dict_getitem.lookup J (thn (ho dz s σ H _ I h) fun u Y ⟨x,H1,I1,D,W⟩=>thn (hi dz Y σ H1 _ I1 W) fun iv s2 ⟨y,H2,B,ry,a,v,ex,g,O⟩=>?_);subst ex;obtain rfl:u=AI a:=D;exact⟨yZ B g,aCJ Z B g ry fun w' s3 I3 z=>⟨v,H2,I3,z,O⟩⟩
theorem xK(hu:X.A.units+1<cLine)(ho:PE X o td)(hi:PE X i ty)(O:PE X value tv)(B:swapsWith value (some (.Subscript o i fm)) pos.line X.env=pure false):
  PS X (.Assign [.Subscript o i fm] value pos) (aIq td ty tv):=by
 constructor;intro dz s σ H D I h;refine wpAny_Assign_Subscript (thn (O dz s σ H _ I h) fun r s1 ⟨v,H1,I1,rv,Z⟩=>thn (ho dz s1 σ H1 _ I1 Z) fun u s2 ⟨x,H2,W,z,Y⟩=>thn (hi dz s2 σ H2 _ W Y) fun iv s3 ⟨y,H3,I3,ry,a,H4,ex,g,J⟩=>?_) B;subst ex;obtain rfl:u=AI a:=z;exact aCK hu I3 g ry rv fun s4 I4=>⟨σ,H4,I4,J⟩
end
theorem y0{P:Ar}{w:AQ}{H:Hp}(h:A8)(z:sysModules<h.objs.size):c7 P w H (h.push { cls:=.type "dict",data:=.dict #[] }) h.objs.size (.dK []):=
 ⟨Bx _,beq_eq_false_iff_ne.mpr (D7 (AF z)),[],.nil,Heap.DictOf.new h⟩
def aHg:TE:=fun _ H Q=>∀ p,H p=none->Q (.ref p) (upd H p (.dK []))
theorem sR:PE X (.Dict [] [] pos) aHg:=⟨fun dz s σ H Q I h=>
 wpAny_Dict_empty ⟨.ref s.heap.objs.size,_,I.laid (a:=s.heap.objs.size) (o:=.dK []) (t':=s.toks) (fun _ _ q=>Ai _ q) (Ak _) (y0 s.heap I.big),rfl,h _ (I.hok.fresh (Ak _))⟩⟩
def aAU:List (TE×TE)->St->Hp->(List (V×V)->Hp->Prop)->Prop
 | [],_,H,Q=>Q [] H
 | (tk,tv)::r,σ,H,Q=>tk σ H fun x H1=>tv σ H1 fun y H2=>aAU r σ H2 fun ps H3=>Q ((x,y)::ps) H3
abbrev VV:List (V×V)->List (Ab×Ab)->Prop:=FI fun p q=>cW p.1 q.1/\cW p.2 q.2
def PPs(X:Cx)(pos:Pos)(keys:List (Option Bb))(values:List Bb)(trs:List (TE×TE)):Prop:=
 ∀(dz:List (Ah×Obj)) (s:Ac) (σ:St) (H:Hp) (Q:List (V×V)->Hp->Prop),Inv X dz σ H s->aAU trs σ H Q->
  wpAny (model X.prog X.w) X.A (evalPairs (pairTrees keys values X.env pos)) (fun vs s'=>∃ ps H',Inv X dz σ H' s'/\VV ps vs/\Q ps H') X.xe s
theorem nU{X:Cx}{pos:Pos}:PPs X pos [] [] []:=fun dz s σ H Q I h=>pairTrees_nil_walk ⟨[],H,I,.nil,h⟩
theorem fZ{X:Cx}{pos:Pos}{k v:Bb}{ks:List (Option Bb)}{vs:List Bb}{tk tv:TE}{z:List (TE×TE)}(hk:PE X k tk)(O:PE X v tv)(hr:PPs X pos ks vs z):
  PPs X pos (some k::ks) (v::vs) ((tk,tv)::z):=fun dz s σ H Q I h=>
 pairTrees_cons_walk (thn (hk dz s σ H _ I h) fun u s1 ⟨x,H1,I1,B,Z⟩=>thn (O dz s1 σ H1 _ I1 Z) fun w2 s2 ⟨y,H2,W,ry,Y⟩=>
  thn (hr dz s2 σ H2 _ W Y) fun ws s3 ⟨ps,D,I3,rel,J⟩=>⟨(x,y)::ps,D,I3,.cons ⟨B,ry⟩ rel,J⟩)
def i4(fc more:List (Key×V)):List (Key×V):=more.foldl (fun acc kv=>gR acc kv.1 kv.2) fc
theorem KV.merge:∀{z:List (Key×V)}{B:List (Key×Ab)}{fc:List (Key×V)}{vs:List (Key×Ab)},KV z B->KV fc vs->KV (i4 fc z) (merged vs B):=by
 intro z B fc vs r;unfold KV at r
 induction r generalizing fc vs with
 | nil=>intro q;exact q
 | @cons p q ps O h t J=>
  intro D;have e:KV (gR fc p.1 p.2) (stored vs q.1 q.2):=by
   have:=D.put p.1 h.2;rw[<- h.1];exact this
  exact J e
theorem lX:∀(z fc:List (Key×V)),(i4 fc z).length<=fc.length+z.length
 | [],fc=>by show fc.length<=fc.length+0;omega
 | p::r,fc=>by
  have h1:=lX r (gR fc p.1 p.2);have h2:=kJ fc p.1 p.2;show(i4 (gR fc p.1 p.2) r).length<=_;rw[Ax];omega
theorem sU{P:Ar}{w:AQ}:∀{fc:List (Key×V)}{B:List (Ab×Ab)},VV (fc.map fun D=>(kV D.1,D.2)) B->∃ z,Carries (dE P w) B z/\KV fc z
 | [],_,r=>by rw[Dz]at r;cases r;exact⟨[],B4,.nil⟩
 | p::fc,_,r=>by
  rw[Bj]at r;cases r with
  | @cons a b as bs h t=>
   obtain⟨z,c,q⟩:=sU (P:=P) (w:=w) t;obtain⟨b1,b2⟩:=b;exact⟨(p.1,b2)::z,⟨sQ h.1,rfl,c⟩,.cons ⟨rfl,h.2⟩ q⟩
def aIr(trs:List (TE×TE)):TE:=fun σ H Q=>∀ p,H p=none->aAU trs σ (upd H p (.dK [])) fun ps H2=>H2 p=some (.dK [])/\∃ fc:List (Key×V),ps=fc.map (fun kv=>(kV kv.1,kv.2))/\fc.length<=15/\Q (.ref p) (upd H2 p (.dK (i4 [] fc)))
theorem nV{X:Cx}{pos:Pos}{B:List (Option Bb)}{D:List Bb}{W:List (TE×TE)}(h:PPs X pos B D W)(O:B.all (·.isSome)=true)(hl:B.length=D.length)(h0:B≠[])
  (Y:B.length<=15):PE X (.Dict B D pos) (aIr W):=by
 constructor;intro dz s σ H Q I q;have hn:=I.hok.fresh (Ak s.heap.objs.size);have I1:=I.laid (a:=s.heap.objs.size) (o:=.dK []) (h':=s.heap.push { cls:=.type "dict",data:=.dict #[] }) (t':=s.toks) (fun _ _ q=>Ai _ q) (Ak _) (y0 s.heap I.big);refine wpAny_Dict_walk (knd:=dE X.prog X.w) O hl h0 Y (thn (h dz _ σ _ _ I1 (q _ hn)) fun ws s2 ⟨ps,H2,Z,rel,e,fc,ep,lk,q2⟩=>?_);subst ep;obtain⟨rs,c,rk⟩:=sU (P:=X.prog) (w:=X.w) rel;obtain⟨z,hd,vs0,r0,dd⟩:=aGF Z.hok e;cases r0;refine⟨rs,c,dd,fun h' J hs=>⟨.ref s.heap.objs.size,_,?_,rfl,q2⟩⟩;have hz:(i4 [] fc).length<=sizeLine:=by
  have h1:=lX fc [];rw[Cz]at h1;rw[Fb];omega
 have he:∃ q,h'.get? s.heap.objs.size=some q:=let ⟨q,_,_,hq,_⟩:=J;⟨q,hq⟩
 exact xJ Z (by rw[e];exact B4) hs he (aDM hz hd (rk.merge .nil) J)
structure M1(X:Cx)(o:Bb)(m:Str)(fh:Pos)(e:Bb)(fe:Pos):Prop where
 base:attributeBase o m X.env (eval o X.env)=eval o X.env
 few:((backTo fe (starEach [e] X.env)).all (fun x=>!x.1)&&(backToKw fe (keywordEach [] X.env)).all (fun x=>x.1.isSome)
  && decide (([e]:List Bb).length+([]:List Em).length+(if ([]:List Em).isEmpty then 0 else 1)<30))=true
 line:(fh.endLine==fe.line)=true
 trees:backTo fe (starEach [e] X.env)=[(false,eval e X.env)]
structure M2(X:Cx)(o:Bb)(m:Str)(fh:Pos)(e f:Bb)(fe:Pos):Prop where
 base:attributeBase o m X.env (eval o X.env)=eval o X.env
 few:((backTo fe (starEach [e,f] X.env)).all (fun x=>!x.1)&&(backToKw fe (keywordEach [] X.env)).all (fun x=>x.1.isSome)
  && decide (([e,f]:List Bb).length+([]:List Em).length+(if ([]:List Em).isEmpty then 0 else 1)<30))=true
 line:(fh.endLine==fe.line)=true
 trees:backTo fe (starEach [e,f] X.env)=[(false,eval e X.env),(false,eval f X.env)]
def IsD(H:Hp)(a:Ah):Prop:=(∃ fc,Rd H a (.dK fc))\/∃ fc,Rd H a (.dT fc)
theorem aHh{X:Cx}{dz:List (Ah×Obj)}{σ:St}{H:Hp}{s:Ac}{a:Ah}(I:Inv X dz σ H s)(d:IsD H a):
  s.TypeIs (.ref a) "dict"/\(∀ b,AI a=.ref b->∃ ob,s.heap.get? b=some ob/\ob.dict=none)/\(a==sysModules)=false:=by
 rcases d with⟨fc,e⟩|⟨fc,e⟩
 .obtain⟨_,hd,vs,_,dd⟩:=yV I.hok e;refine⟨dd.typeIs,fun b q=>?_,hd⟩;cases q;obtain⟨ob,_,_,h1,h2,_⟩:=dd;exact⟨ob,h1,h2.2.1⟩
 .obtain⟨_,hd,xs,_,dd⟩:=yX I.hok e;refine⟨dd.typeIs,fun b q=>?_,hd⟩;cases q;obtain⟨ob,_,_,h1,h2,_⟩:=dd;exact⟨ob,h1,h2.2.1⟩
section
variable{a:Ah}{y d:V}{u r:Ab}{o:Option V}
theorem aHi{Q:Ab->Ac->Prop}(O:A.units+1<cLine)(I:Inv X dz σ H s)(g:nS H a y o)(D:cW y u)(J:cW d r)(h:∀ B s',Inv X dz σ H s'->cW (o.getD d) B->Q B s'):
  wpAny (model X.prog X.w) A (call (.builtin "dict.get") [.ref a,u,r]) Q E s:=by
 rcases g with⟨fc,k,e,ey,l⟩|⟨fc,k,b,e,ey,eb,l⟩
 .subst ey;obtain⟨z,hd,vs,rel,dd⟩:=yV I.hok e;refine call_meetsIn Ey dd.typeIs PySem.F.entry_dict_get (PySem.F.args_dict_get_3 _ _ _) (meets_dict_get_default (dE X.prog X.w) a (sQ D) hd r) ⟨_,dd.mapOf,h _ _ (I.tok _) ?_⟩;rw[l];exact(rel.val k).getD J
 .subst ey;cases(show u=AI b from D);obtain⟨z,hd,xs,rel,dd⟩:=yX I.hok e;refine call_meetsIn Ey dd.typeIs PySem.F.entry_dict_get (PySem.F.args_dict_get_3 _ _ _) (meetsH_dict_get_default (tupleKind (dE X.prog X.w)) a b hd r) ⟨Fl O,k,xs,xI I.hok eb,dd,h _ _ (I.tok _) ?_⟩;rw[l];exact(rel.val k).getD J
end
def aHj(td ty tx:TE):TE:=fun σ H Q=>td σ H fun x H1=>∃ a,x=.ref a/\IsD H1 a/\ty σ H1 fun y H2=>tx σ H2 fun z H3=>∃ o,nS H3 a y o/\Q (o.getD z) H3
section
variable{o f:Bb}{fh fe:Pos}{td ty tx:TE}
theorem aDN(hu:X.A.units+1<cLine)(ho:PE X o td)(he:PE X e ty)(hf:PE X f tx)(m:M2 X o "get" fh e f fe):PE X (.Call (.Attribute o "get" fh) [e,f] [] fe) (aHj td ty tx):=by
 constructor;intro dz s σ H Q I h;refine wpAny_Call_method m.base m.few m.line PySem.F.plainAttrs_dict Ey PySem.F.type_dict_get (thn (ho dz s σ H _ I h) fun u s1 ⟨x,H1,D,O,a,ex,d,q1⟩=>?_);subst ex;obtain rfl:u=AI a:=O;obtain⟨t1,t2,_⟩:=aHh D d;refine⟨t1,t2,?_⟩;rw[m.trees];refine Calls.callWith_builtin rfl (EJ (E3 (thn (he dz s1 σ H1 _ D q1) fun iv s2 ⟨y,H2,Z,ry,q2⟩=>
  E3 (thn (hf dz s2 σ H2 _ Z q2) fun fv s3 ⟨z,W,I3,J,ov,g,Y⟩=>Calls.spliced_nil ?_))))
 exact aHi hu I3 g ry J fun w' s4 I4 B=>⟨_,W,I4,B,Y⟩
end
section
variable{a:Ah}{fc:List (Key×V)}
end
section
variable{a:Ah}{y:V}{u:Ab}
end
end L2
namespace Att
open PySem PySem.W PySem.Calls PyProof.Rows
theorem p3{P:Params}{h:A8}:∀(ns:List Int) (vs:List Ab),WellAll P h vs (ns.map WData.int)->GQ vs ns:=by
 intro ns
 induction ns with
 | nil=>
  intro vs w;rw[Dz]at w;cases w;exact .nil
 | cons n ns z=>
  intro vs w;rw[Bj]at w;cases w with
  | cons a b=>
   cases a;exact .cons _ _ (z _ b)
theorem aCL{l:OpenLaw}{n:Nat}(hn:l.most=some n){P:Params}{h:A8}{args:List WData}{B:List Ab}
  (z:l.row.toRowW.claim.pre args=true) (Y:WellAll P h B args):
  ∃ a vs ns,B=[AI a]/\args=[WData.list (ns.map WData.int)]/\h.get? a=some { cls:=.type "list",data:=.seq vs.toArray }/\GQ vs ns/\ns.length<=n:=by
 have Z:WShape.hasAll [] args [.list .int]=true:=(pre_splitW z).1;have hc:l.pre.holds [] { args:=args }=true:=(pre_splitW z).2;obtain⟨d,r,rfl,h1,h2⟩:=hasAllW_cons Z;obtain rfl:=hasAllW_nil h2;obtain⟨xs,rfl,h3⟩:=hasW_list h1;obtain⟨ns,rfl⟩:=items_int h3;have D:ns.length<=n:=by
  unfold OpenLaw.pre at hc;have W:(WTm.not (.lt (.lit (.int (n:Int))) (.len (.arg 0)))).holds [] { args:=[.list (ns.map .int)] }=true:=by
   have W:=(holds_andW hc).1;rw[hn]at W;exact W
  have O:=condW_of W (w_not (w_lt w_lit (w_len_list (w_arg rfl))));rw[Ae]at O;refine Nat.le_of_not_lt fun q=>?_;have q':(n:Int)<((ns.length:Nat):Int):=by omega
  first
   | (rw[Ic q']at O;exact absurd O (by decide))
   | (simp at O;omega)
 cases Y with
 | cons w1 w2=>
  cases w2;cases w1 with
  | list ho J=>exact⟨_,_,ns,rfl,rfl,ho,p3 ns _ J,D⟩
theorem aCM(l:OpenLaw)(args:List WData):l.row.toRowW.claim.post args (.bool true) args=true:=
 postW_of (r:=l.row.toRowW) (X:=(true==true))
  (show WShape.has [] (.bool true) .bool=true by first|rfl|decide|simp[WShape.has,WShape.arms,WShape.armsAll])
  (show(WTm.eq .res (.lit (.bool true))).value [] { args:=args,res:=some (.bool true),after:=args }=some (.bool (true==true)) from w_eq_bool (w_res rfl) w_lit) rfl
theorem attach_call{l:OpenLaw}{n:Nat}{q:Ar}{B:List Str}{XP:(Str->Option Ab)->A8->Prop}{YP:AQ->A8->Prop}{d:DefRec}
  (hn:l.most=some n) (Z:d.params.defaults=[])
  (call:∀(w:AQ) (s₀ z:Ac) (mg mb:Str->Option Ab) (O:Ah) (o:Obj) (pm cd D:Ab) (a:Ah) (vs:List Ab) (ns:List Int),
   Ground q B [] XP w s₀ mg mb z.heap->YP w z.heap->
   z.heap.get? O=some o->o.data=.func (docDef d.name d.params d.body d.scope pm cd D)->z.heap.CodeRec cd d.name->mg d.name=some (.ref O)->
   z.heap.get? a=some { cls:=.type "list",data:=.seq vs.toArray }->GQ vs ns->ns.length<=n->z.gens=#[]->
   codeAny (model l.prog w) callerA (.call (.ref O) ⟨[.ref a],[]⟩) (fun r s'=>r=.ok (.ret (.bool true))/\OldK z.heap s'.heap/\s'.os=z.os/\Eo s'.gens) z):
  WalkO q B XP YP l.row.toRowW d [] (fun f vs=>Gn f vs):=by
 intro w s₀ z mg mb G Y O o pm cd D dV kV ho hd aa hD ad hg ai ah as J ag ao W ap;obtain rfl:dV=.none:=Dflts.none hD Z;obtain rfl:kV=.none:=Dflts.noKw hD;obtain⟨a,vs,ns,rfl,rfl,hobj,hints,hlen⟩:=aCL hn J W;refine enter_call (Dl (call w s₀ z mg mb O o pm cd D a vs ns G Y ho (fd_plain hd) aa ad hobj hints hlen hg) fun r s' hq=>?_);obtain⟨rfl,h2,h3,h4⟩:=hq;exact⟨.inl ⟨.bool true,.bool true,[],rfl,fun _=>rfl,.bool true,aCM l _,fun _=>⟨EH,fun _ hm=>(nomatch hm)⟩⟩,h2,h3,h4⟩
section
variable{prog:Ar}{w:AQ}{A:AJ}{E:Ab->Ac->Prop}{s:Ac}{K:Frag}
end
end Att
namespace L2
open PySem PySem.Spec PyProof.Rows
variable{P prog:Ar}{w:AQ}{K:Af}{mg:Str->Option Ab}{base:A8}{X:Cx}{dz:List (Ah×Obj)}{σ:St}{H:Hp}{s:Ac}{A:AJ}{E:Ab->Ac->Prop}{e:Bb}{te:TE}{pos:Pos}{es:Array (Int×Ab)}{f:Ah}{qual:Str}{scope:Dw}{cd:Ab}{outer:List Env}
theorem vV:∀{vs:List Ab}{ns:List Int},GQ vs ns->cJ (ns.map V.int) vs
 | _,_,.nil=>.nil
 | _,_,.cons n t h=>.cons ⟨t,rfl⟩ (vV h)
def aHk(H:Hp):Prop:=∀ b,H b=none\/∃ o xs,H b=some (.frz o (.lst xs))
theorem aDO{P:Ar}{w:AQ}{K:Af}{mg mb:Str->Option Ab}{CX:CXT}{k:Nat}{fa a:Ah}{fd:AC}{x:Str}{sp:Sp}{B:Ac}{vs:List Ab}{ns:List Int}
  (KX:K.In B.heap) (ac:B.heap.Ns mainGlobals mg) (J:B.heap.Ns builtinsNs mb) (ag:∀ x:Str,x≠"__name__"->mb x=bootBuiltins x) (aa:B.heap.NoLimit) (hg:B.gens=#[])
  (ha:B.heap.get? a=some { cls:=.type "list",data:=.seq vs.toArray }) (hi:GQ vs ns) (hl:ns.length<=sizeLine) (hr:cY k callerA)
  (F:∀ base:A8,K.In base->base.Ns mainGlobals mg->cN P w K mg base CX k fa fd [x] sp) (Y:∀(s:Ac) (u:Ab),FC s fd ⟨[u],[]⟩ [(x,u)])
  (ah:∀ H:Hp,aHk H->SqL K H a (ns.map V.int)->sp [.ref a] H (fun v _=>v=.bl true) fun _ _ _=>False)
  (af:∀ H e s',CX [] H B (fun _ _ _=>False) e s'->False):
  codeAny (model P w) callerA (.call (.ref fa) ⟨[.ref a],[]⟩) (fun r s'=>r=.ok (.ret (.bool true))/\OldK B.heap s'.heap/\s'.os=B.os/\Eo s'.gens) B:=by
 have rv:=vV hi;have ad:=hi.length;have W:∀ H:Hp,aHk H->SqL K H a (ns.map V.int)->HOk P w H B.heap->(∀ b,H b≠none->b=a)->(H a≠none->K.lookup a=none)->
   codeAny (model P w) callerA (.call (.ref fa) ⟨[.ref a],[]⟩) (fun r s'=>r=.ok (.ret (.bool true))/\OldK B.heap s'.heap/\s'.os=B.os/\Eo s'.gens) B:=by
  intro H hO hS hok hA hK;have D:∀{b:Ah} {o:Obj},B.heap.get? b=some o->H b=none->(xC B.heap H).get? b=some o:=fun e n=>aDr e n;have aj:∀{b:Ah} {o:Obj} {es:Array FM} {ep:Nat},B.heap.get? b=some o->o.data=.dict es ep->H b=none:=fun{b o es ep} e d=>by
   cases q:H b with
   | none=>rfl
   | some u=>
    have e':b=a:=hA b (by rw[q];simp);subst e';rw[ha]at e;cases e;have d':Ex vs.toArray _=Data.dict es ep:=d;cases d'
  have O:∀{b:Ah} {m:Str->Option Ab},B.heap.Ns b m->(xC B.heap H).Ns b m:=fun{b m} ⟨o,es,ep,e,d,r⟩=>⟨o,es,ep,D e (aj e d),d,r⟩
  have Z:K.In (xC B.heap H):=fun b o e=>D (KX b o e) (by
   cases q:H b with
   | none=>rfl
   | some u=>
    have e':b=a:=hA b (by rw[q];simp);subst e';rw[hK (by rw[q];simp)]at e;cases e)
  have hM:Mod K mg (xC B.heap H):=⟨Z,O ac,⟨mb,O J,ag⟩,let ⟨mc,h1,h2⟩:=aa;⟨mc,O h1,h2⟩⟩
  have e0:aFt P w K mg (xC B.heap H) callerA [] B H:=⟨rfl,hM,fun b o e=>aFp e,EF (aCB _ _),trivial,fun b J=>absurd (show b∈([]:List Ah) from J) (by simp),hok,.of_eq hg⟩
  refine Dl ((F _ Z (O ac)).run callerA [] B H ⟨[.ref a],[]⟩ [.ref a] [.ref a] _ _ hr e0 (Y B (.ref a)) (.cons rfl .nil) (ah H hO hS)) fun r s' h=>?_;cases r with
  | error e=>exact(af H e s' h).elim
  | ok fl=>
   cases fl with
   | next=>exact Ca h
   | brk=>exact Ca h
   | cont=>exact Ca h
   | ret u=>
    obtain⟨v,H',os,bare,un,hok',r',q⟩:=h;have q':v=.bl true:=q;subst q';obtain rfl:u=Fx true:=r';refine⟨rfl,OldK.of_keep fun b o e=>?_,os,bare⟩;cases q:H b with
    | none=>exact un.keep b o e q (by intro z;exact absurd (show b∈([]:List Ah) from z) (by simp)) (by simp)
    | some u=>
     rcases hO b with z|⟨ob,xs,z⟩
     .rw[q]at z;cases z
     .have z2:=un.frzs b ob _ z;obtain⟨e1,_⟩:=hok b _ z;obtain⟨e2,_⟩:=hok' b _ z2;rw[e]at e1;cases e1;exact e2
 cases hk:K.lookup a with
 | some o=>
  have e:=KX a o hk;rw[ha]at e;cases e;refine W (fun _=>none) (fun _=>.inl rfl) (.inr ⟨_,vs.toArray,_,hk,rfl,rfl,rfl,by rw[Ao,ad];exact hl,by simpa using rv⟩) (fun b u z=>by have z':(none:Option HO)=some u:=z;cases z') (fun b z=>absurd rfl z) fun z=>absurd rfl z
 | none=>
  refine W (fun b=>if b=a then some (.frz { cls:=.type "list",data:=.seq vs.toArray } (.lst (ns.map V.int))) else none) (fun b=>?_) (.inl (.inr ⟨{ cls:=.type "list",data:=.seq vs.toArray },Ib rfl⟩)) (fun b u z=>?_) (fun b z=>?_) fun _=>hk
  .by_cases J:b=a
   .exact .inr ⟨_,_,Ib J⟩
   .exact .inl (Ia J)
  .by_cases J:b=a
   .have z':=(Ib J).symm.trans z;cases z';subst J;exact⟨ha,by rw[Ae];exact hl,vs,_,rv,ha⟩
   .have z':=(Ia J).symm.trans z;cases z'
  .by_cases J:b=a
   .exact J
   .exact absurd (Ia J) z
abbrev KOf{K:Af}{h:A8}(_:K.In h):Af:=K
theorem walk_of{l:Fg}{n k:Nat}{q:Ar}{D:List Str}{XP:(Str->Option Ab)->A8->Prop}{YP:AQ->A8->Prop}{d:DefRec}{K:Params->Af}{CX:AQ->CXT}{sp:AQ->Sp}{x:Str}
  (hn:l.most=some n) (ae:n<=sizeLine) (aa:d.params.defaults=[]) (hr:cY k callerA)
  (hY:∀(w:AQ) (h:A8),YP w h->(K w.params).In h)
  (F:∀(w:AQ) (mg:Str->Option Ab) (O:Ah) (h:A8),(K w.params).In h->h.Ns mainGlobals mg->mg d.name=some (.ref O)->
   ∃ fd:AC,(∀(s:Ac) (u:Ab),FC s fd ⟨[u],[]⟩ [(x,u)])/\
    ∀ base:A8,(K w.params).In base->base.Ns mainGlobals mg->cN l.prog w (K w.params) mg base (CX w) k O fd [x] (sp w))
  (ac:∀(w:AQ) (H:Hp) (a:Ah) (ns:List Int),ns.length<=n->aHk H->SqL (K w.params) H a (ns.map V.int)->sp w [.ref a] H (fun v _=>v=.bl true) fun _ _ _=>False)
  (Z:∀(w:AQ) (H:Hp) (s:Ac) (e:Ab) (s':Ac),CX w [] H s (fun _ _ _=>False) e s'->False):
  PySem.W.WalkO q D XP YP l.row.toRowW d [] (fun f vs=>Gn f vs):=by
 refine Att.attach_call hn aa fun w s₀ s₁ mg mb O o pm cd ak a vs ns G Y ho hd ai ad J B z hg=>?_;have KX:=hY w _ Y;obtain⟨fd,hb,hF⟩:=F w mg O _ KX G.T.g ad;exact aDO KX G.T.g G.T.b G.T.builtins G.T.nolimit hg J B (AD z ae) hr hF hb (fun H hO hS=>ac w H a ns z hO hS) fun H e s'=>Z w H s₁ e s'
def fE(s:BQ):Arguments:=match s with
 | .FunctionDef _ a _ _ _ _ _ _ _ _=>a
 | _=>{ posonlyargs:=[],args:=[],vararg:=none,kwonlyargs:=[],kw_defaults:=[],kwarg:=none,defaults:=[] }
def d9(s:BQ):List BQ:=match s with
 | .FunctionDef _ _ b _ _ _ _ _ _ _=>b
 | _=>[]
def aM(s:BQ):Dw:=match s with
 | .FunctionDef _ _ _ _ _ _ sc _ _ _=>sc
 | _=>{ kind:=.function,names:=[],isGenerator:=false,isCoroutine:=false }
abbrev CX0:CXT:=fun _ _ _ _ _ _=>False
abbrev E0:XK:=fun _ _ _=>False
theorem f6{X:Cx}:aAP CX0 X E0:=fun _ _ _ _ _ _ _ h=>h.elim
structure Fun(K:Af)(x qual:Str)(st:BQ)(f:Ah)(fd:AC):Prop where
 ex:∃(oc:Ab) (od:Option Ah) (kV doc pm:Ab) (an:Option Ah) (cdv ct:Ab) (osl:Array (Option Ab)),
  fd=BJ x qual (fE st) (d9 st) (aM st) .none kV doc pm an cdv ct/\K.lookup f=some ⟨oc,od,.func fd,osl⟩/\BP K cdv qual=true
 kp:Az K (.ref f)=true
theorem Fun.ok{x qual:Str}{st:BQ}{f:Ah}{fd:AC}{N ps:List Str}{k:Nat}{sp:Sp}(F:Fun K x qual st f fd)(S:bM N ps (aM st))(len:∀ vs H Q E,sp vs H Q E->vs.length=ps.length)
  (B:∀(z:Ab) (A:AJ) (outer:List Env) (s:Ac) (H:Hp) (vs:List V) (Q:VK) (E:XK),cY k (A.deeper (envOfC qual (aM st) s.heap.objs.size f z))->sp vs H Q E->
   ∃ t,PSs (i3 CX0 P w K mg base N qual (aM st) f z A outer s H E).nox (d9 st) t/\t { nx:=fun _ H'=>Q .non H',rt:=Q } (start N vs) H):cN P w K mg base CX0 (k+1) f fd ps sp:=by
 obtain⟨oc,od,kV,doc,pm,an,z,ct,osl,rfl,lk,hcd⟩:=F.ex;refine aGC lk hcd S len fun A outer s H vs Q E J D=>?_;obtain⟨t,h,q⟩:=B z A outer s H vs Q E J D;exact⟨t,h.nox,q⟩
theorem Fun.binds{x qual:Str}{st:BQ}{f:Ah}{fd:AC}{ps:List Str}(F:Fun K x qual st f fd)
  (h:∀(kV z O:Ab) (J:Option Ah) (B ct:Ab) (D:List Ab),D.length=ps.length->bindArgs (BJ x qual (fE st) (d9 st) (aM st) .none kV z O J B ct) ⟨D,[]⟩=pure (ps.zip D)):dX K fd ps []:=by
 obtain⟨oc,od,kV,z,O,J,B,ct,osl,rfl,lk,hcd⟩:=F.ex;exact .all (h kV z O J B ct)
theorem i5{x qual:Str}{st:BQ}{f:Ah}{W:Ab}{od J:Option Ah}{D:Array (Option Ab)}{kV B O z ct:Ab}(l:K.lookup f=some ⟨W,od,.func (BJ x qual (fE st) (d9 st) (aM st) .none kV B O J z ct),D⟩)
  (c:BP K z qual=true) (k:Az K (.ref f)=true):Fun K x qual st f (BJ x qual (fE st) (d9 st) (aM st) .none kV B O J z ct):=⟨⟨W,od,kV,B,O,J,z,ct,D,rfl,l,c⟩,k⟩
theorem vW{A:AJ}{k:Nat}(z:cY k A):A.units+1<cLine:=Nat.lt_of_le_of_lt (Nat.add_le_add_left (by decide:1<=64) _) z.units
theorem pB{n:Nat}(h:n<=1000):n<sizeLine:=Nat.lt_of_le_of_lt h (by decide)
theorem pv(i:Nat){x:Str}{pos:Pos}(hN:X.N[i]?=some x:=by rfl)(B:Vis X.env.scope x:=by first|exact AA rfl|exact FO (AA rfl)|exact FO (FO rfl))(hd:(x==("__debug__":Str))=false:=by decide)
  (z:(x==("__classdict__":Str))=false:=by decide):PE X (.Name x pos) (aH4 i):=aG2 hN B hd z
theorem cM{A B:Prop}(h:B):if false=true then A else B:=by
 rw[Ia AG];exact h
theorem cG{A B:Prop}(h:A):if true=true then A else B:=by
 rw[Ib rfl];exact h
theorem c8{c A B:Prop}[Decidable c](h1:c->A)(h2:¬ c->B):if c then A else B:=by
 by_cases h:c
 .rw[Ib h];exact h1 h
 .rw[Ia h];exact h2 h
def aV(H H':Hp):Prop:=∀ b o,H b=some o->H' b=some o
theorem aV.refl(H:Hp):aV H H:=fun _ _ h=>h
theorem aV.trans{H H1 H2:Hp}(a:aV H H1)(b:aV H1 H2):aV H H2:=fun c o h=>b c o (a c o h)
theorem aV.seq{K:Af}{H H':Hp}{a:Ah}{xs:List V}(e:aV H H')(h:SqL K H a xs):SqL K H' a xs:=by
 rcases h with(h|⟨o,h⟩)|h
 .exact .inl (.inl (e _ _ h))
 .exact .inl (.inr ⟨o,e _ _ h⟩)
 .exact .inr h
section
variable{κ:Type}[DecidableEq κ]
end
theorem Inv.track{D:Ah}{ob:HO}(I:Inv X dz σ H s)(O:oX X dz H D)(new:c7 X.prog X.w (upd H D ob) s.heap D ob):Inv X dz σ (upd H D ob) s:=by
 obtain⟨hn,hL,hfs,hex,hce,hpi⟩:=O;have B:∀ b u,H b=some u->b≠D:=fun b u e=>bG e hn;refine I.step (g':=s.gens) (t':=s.toks) (d':=s.drawn) (h':=s.heap) (H':=upd H D ob) (ch:=[D]) (fun b J=>?_) (fun b o _ _ _ e _=>e) (fun b o _ _ _ e _=>⟨o.slots,e⟩) (fun b o hc e n=>?_)
  (fun b o _ e=>⟨o,e⟩) (fun b xs e=>by rw[bD (B b _ e)];exact e) (fun b o u e=>by rw[bD (B b _ e)];exact e) (fun b ps e=>⟨#[],by rw[bD (B b _ e),e];simp⟩) (fun m hm=>hm) (fun b u e=>?_) I.bare
 .have e:b=D:=by simpa using J
  subst e;exact⟨hex,hL,hce,hpi⟩
 .rw[bD (fun z=>hc (by simp[z]))];exact n
 .by_cases J:b=D
  .subst J;rw[aF]at e;cases e;exact new
  .rw[bD J]at e;exact(I.hok b u e).stay (fun c v _ q=>q) (fun c q=>by rw[bD (B c _ q)];exact q) fun c xs q=>by rw[bD (B c _ q)];exact q
def iC(env:Env):List (Str×DS)->List (Str×Ah)->List (Str×Ah)
 | [],cs=>cs
 | (n,k)::r,cs=>iC env r (if k=.free then(match env.cells.lookup n with|some c=>(n,c)::cs|none=>cs) else cs)
theorem sV{α β:Type}(f:α->β->Sem (ForInStep β))(g:α->β->β):∀(l:List α) (b:β),(∀ y∈l,∀ b,f y b=pure (.yield (g y b)))->(forIn l b f:Sem β)=pure (l.foldl (fun b y=>g y b) b)
 | [],b,_=>rfl
 | a::r,b,h=>by
  rw[EG,h a AM b];exact sV f g r (g a b) fun y z=>h y (AY _ z)
def vX(env:Env)(y:Str×DS)(cs:List (Str×Ah)):List (Str×Ah):=if y.2=.free then(match env.cells.lookup y.1 with|some c=>(y.1,c)::cs|none=>cs) else cs
theorem sW(env:Env):∀(l:List (Str×DS)) (z:List (Str×Ah)),l.foldl (fun b y=>vX env y b) z=iC env l z
 | [],z=>rfl
 | (n,k)::r,z=>by
  rw[DY,sW env r];rfl
theorem nX{scope:Dw}{env:Env}(h:∀ y∈scope.names,y.2=.free->∃ c,env.cells.lookup y.1=some c):closureFor scope env=pure (iC env scope.names []):=by
 simp only[closureFor];rw[sV _ (vX env) scope.names [] (fun y D b=>?_)]
 .rw[sW];rfl
 .obtain⟨n,k⟩:=y;by_cases z:k=.free
  .obtain⟨c,hc⟩:=h (n,k) D z;subst z;have e:cellOf env n=pure c:=by unfold cellOf;rw[hc]
   have B:vX env (n,Br) b=(n,c)::b:=by unfold vX;rw[Ib rfl,hc]
   simp only[e,B];rfl
  .have e:(k==Br)=false:=by simpa using z
   have B:vX env (n,k) b=b:=by unfold vX;rw[Ia z]
   simp only[e,B,Ea,if_false]
theorem pC{env:Env}:∀(l:List (Str×DS)) (z:List (Str×Ah)),(∀ x c,z.lookup x=some c->env.cells.lookup x=some c)->∀ x c,(iC env l z).lookup x=some c->env.cells.lookup x=some c
 | [],z,h,x,c,e=>h x c e
 | (n,k)::r,z,h,x,c,e=>by
  unfold iC at e;refine pC r _ (fun x c e=>?_) x c e;by_cases D:k=.free
  .rw[Ib D]at e;cases hc:env.cells.lookup n with
   | none=>rw[hc]at e;exact h x c e
   | some d=>
    rw[hc]at e;by_cases B:x=n
    .subst B;simp at e;rw[<- e];exact hc
    .have:(x==n)=false:=by simpa using B
     rw[BC,this]at e;exact h x c e
  .rw[Ia D]at e;exact h x c e
theorem pE{env:Env}:∀(l:List (Str×DS)) (z:List (Str×Ah)) (x:Str),(∀ y∈l,y.2=.free->∃ c,env.cells.lookup y.1=some c)->((∃ c,z.lookup x=some c)\/(x,Br)∈l)->∃ c,(iC env l z).lookup x=some c
 | [],z,x,_,h=>by
  rcases h with h|h
  .exact h
  .simp at h
 | (n,k)::r,z,x,hc,h=>by
  unfold iC;refine pE r _ x (fun y J=>hc y (AY _ J)) ?_;rcases h with⟨c,h⟩|h
  .refine .inl ?_;split
   .split
    .rename_i d _;by_cases D:x=n
     .subst D;exact⟨d,by simp⟩
     .have:(x==n)=false:=by simpa using D
      exact⟨c,by rw[BC,this];exact h⟩
    .exact⟨c,h⟩
   .exact⟨c,h⟩
  .rcases Am.mp h with h|h
   .cases h;obtain⟨d,hd⟩:=hc (n,Br) AM rfl;refine .inl ⟨d,?_⟩;rw[Ib rfl];have B:env.cells.lookup n=some d:=hd;rw[B];simp
   .exact .inr h
theorem tE{env : Env} : ∀{names : List (Str×DS)}{x : Str}, (∀ y∈names, y.2≠.cell) ->
    ((names.map fun(n, k) => if (k==Br&&env.scope.kind==.function&&env.kindOf n==some .cell) then(n, DI) else(n, k)).lookup x = some .cell \/
     (names.map fun(n, k) => if (k==Br&&env.scope.kind==.function&&env.kindOf n==some .cell) then(n, DI) else(n, k)).lookup x = some .free) -> names.lookup x = some .free
  | [], x, _, h => by simp at h
  | (n, k)::r, x, hc, h => by
    have O := @tE env r x fun y D => hc y (AY _ D);have J := hc (n, k) AM;rw[Bj]at h;by_cases B : x = n
    . subst B
      rw[BC, beq_self_eq_true];simp only;by_cases z : (k==Br&&env.scope.kind==.function&&env.kindOf x==some .cell) = true
      . have : (k==Br) = true := by
          rw[Av, Av]at z;exact z.1.1
        simpa using this
      . simp only[Ia z, BC, beq_self_eq_true]at h
        rcases h with h|h
        . exact absurd (Cp.inj h) J
        . exact h
    . have e : (x==n) = false := by simpa using B
      rw[BC, e];refine O ?_;by_cases z : (k==Br&&env.scope.kind==.function&&env.kindOf n==some .cell) = true
      . simp only[Ib z, BC, e]at h
        exact h
      . simp only[Ia z, BC, e]at h
        exact h
theorem nY{env : Env} : ∀{names : List (Str×DS)}{x : Str}, names.lookup x = some .free ->
    ((names.map fun(n, k) => if (k==Br&&env.scope.kind==.function&&env.kindOf n==some .cell) then(n, DI) else(n, k)).lookup x = some .cell \/
     (names.map fun(n, k) => if (k==Br&&env.scope.kind==.function&&env.kindOf n==some .cell) then(n, DI) else(n, k)).lookup x = some .free)
  | [], x, h => by simp at h
  | (n, k)::r, x, h => by
    have D := @nY env r x;rw[Bj];by_cases B : x = n
    . subst B
      rw[BC, beq_self_eq_true]at h;simp only at h;cases h;by_cases z : (Br==Br&&env.scope.kind==.function&&env.kindOf x==some .cell) = true
      . refine .inl ?_
        show List.lookup x ((if (Br==Br&&env.scope.kind==.function&&env.kindOf x==some .cell) = true then(x, DI) else(x, Br))::_) = _;rw[Ib z, BC, beq_self_eq_true]
      . refine .inr ?_
        show List.lookup x ((if (Br==Br&&env.scope.kind==.function&&env.kindOf x==some .cell) = true then(x, DI) else(x, Br))::_) = _;rw[Ia z, BC, beq_self_eq_true]
    . have e : (x==n) = false := by simpa using B
      rw[BC, e]at h;have := D h;by_cases z : (k==Br&&env.scope.kind==.function&&env.kindOf n==some .cell) = true
      . simp only[Ib z, BC, e]
        exact this
      . simp only[Ia z, BC, e]
        exact this
def blk(X:Cx)(N:List Str)(scope:Dw)(cl:List (Str×Ah))(s:Ac)(H:Hp)(fp:List Ah)(dz:List (Ah×Obj))(C:Ah):Cx where
 prog:=X.prog
 w:=X.w
 K:=X.K
 mg:=X.mg
 base:=X.base
 A:=X.A
 N:=N
 s₀:=s
 H₀:=H
 env:=compEnvC scope cl C X.env
 outer:=X.stack
 stack:=X.stack
 ex:=fp
 fn:=fun _=>false
 calm:=X.calm
 pn:=X.pn++dz
 xe:=fun _ _=>False
def aGG(N:List Str)(src:List (Option Nat))(scope:Dw)(oN:List Str):Bool:=
 (N.zip src).all fun p=>match p.2 with|none=>true|some j=>(oN[j]?==some p.1)&&(scope.names.lookup p.1==some .free)
structure y1(N:List Str)(src:List (Option Nat))(scope osc:Dw)(oN:List Str):Prop where
 kind:scope.kind=.function
 nocell:∀ y∈scope.names,y.2≠.cell
 names:∀ y∈scope.names,y.2=.local->scope.names.lookup y.1=some .local
 fr:∀ y∈scope.names,y.2=.free->osc.names.lookup y.1=some .cell\/osc.names.lookup y.1=some .free
 len:src.length=N.length
 srcs:aGG N src scope oN=true
def sub(src:List (Option Nat))(σ:St):St:=src.map fun o=>match o with|none=>none|some j=>(σ[j]?).getD none
theorem aDP{N:List Str}{src:List (Option Nat)}{scope:Dw}{oN:List Str}(h:aGG N src scope oN=true){i j:Nat}{x:Str}(h1:N[i]?=some x)(h2:src[i]?=some (some j)):oN[j]?=some x/\scope.names.lookup x=some .free:=by
 have hm:(x,some j)∈N.zip src:=by
  refine AH (i:=i) ?_;rw[List.getElem?_zip_eq_some];exact⟨h1,h2⟩
 have:=AX.mp h _ hm;simp only[Av,beq_iff_eq]at this;exact this
theorem aHl{src:List (Option Nat)}{σ:St}{i:Nat}{v:V}(h:(sub src σ)[i]?=some (some v)):∃ j,src[i]?=some (some j)/\σ[j]?=some (some v):=by
 unfold sub at h;rw[Bs]at h;cases e:src[i]? with
 | none=>rw[e]at h;simp at h
 | some o=>
  rw[e]at h;cases o with
  | none=>simp at h
  | some j=>
   refine⟨j,rfl,?_⟩;cases z:σ[j]? with
   | none=>simp[z]at h
   | some B=>
    simp[z]at h;rw[h]
structure PTs(X:Cx)(ifs:List Bb)(t:TT):Prop where
 run:
  ∀(dz:List (Ah×Obj)) (s:Ac) (σ:St) (H:Hp) (Q:Bool->Hp->Prop),Inv X dz σ H s->t σ H Q->
   wpAny (model X.prog X.w) X.A (forIn ifs true fun c r=>if r=true then do let ok <- isTrue c X.env (eval c X.env);pure (CK ok) else pure (CK r)) (TP X dz σ Q) X.xe s
instance{X:Cx}{ifs:List Bb}{t:TT}:CoeFun (PTs X ifs t) (fun _=>
 ∀(dz:List (Ah×Obj)) (s:Ac) (σ:St) (H:Hp) (Q:Bool->Hp->Prop),Inv X dz σ H s->t σ H Q->
  wpAny (model X.prog X.w) X.A (forIn ifs true fun c r=>if r=true then do let ok <- isTrue c X.env (eval c X.env);pure (CK ok) else pure (CK r)) (TP X dz σ Q) X.xe s):=⟨fun h=>h.run⟩
theorem dY{X:Cx}:PTs X [] (fun _ H Q=>Q true H):=⟨fun _ _ _ H _ I h=>wpAny_tests_nil ⟨H,I,h⟩⟩
theorem xL{X:Cx}{c:Bb}{t:TT}(h:PT X c t):PTs X [c] t:=⟨fun dz s σ H Q I q=>wpAny_tests_one (h dz s σ H Q I q)⟩
theorem Inv.clos{N:List Str}{src:List (Option Nat)}{scope:Dw}(B:y1 N src scope X.env.scope X.N)(I:Inv X dz σ H s):∀ y∈scope.names,y.2=.free->∃ c,X.env.cells.lookup y.1=some c:=
 fun y z D=>I.ok.has y.1 (B.fr y z D)
theorem Inv.block{N:List Str}{src:List (Option Nat)}{scope:Dw}{fp:List Ah}{Z:Ac}{C:Ah}{m:Str->Option Ab}(B:y1 N src scope X.env.scope X.N)(I:Inv X dz σ H s)
  (hf:∀ b∈fp,oX X dz H b) (ak:∀ b∈fp,b<s.heap.objs.size) (hC:s.heap.objs.size<=C) (Y:Z.os=s.os) (J:Eo Z.gens) (hk:∀ b o,s.heap.get? b=some o->Z.heap.get? b=some o) (hn:Z.heap.Ns C m):
  Inv (blk X N scope (iC X.env scope.names []) s H fp dz C) [] (sub src σ) H Z:=by
 have O:=I.clos B;have D:∀ x c,(iC X.env scope.names []).lookup x=some c->X.env.cells.lookup x=some c:=pC _ _ (fun x c e=>by simp at e);have am:∀ b∈frs X.stack,b<s.heap.objs.size:=fun b J=>by
  obtain⟨_,o,Y,_⟩:=I.stack.mem J;exact Au Y
 refine⟨⟨I.ok.mod,B.kind,I.ok.glob,I.ok.blt,hC,fun x y c e1 e2=>I.ok.inj x y c (D x c e1) (D y c e2),fun x hx=>?_,fun x c hx=>absurd hx AG,I.ok.hd,I.ok.frames,.inl rfl,fun b J=>⟨?_,fun x c e=>?_⟩,fun b o e=>?_,AD I.ok.bsz I.sz,fun b o e J=>?_,fun b J hz=>?_,I.stack,I.stkFree⟩,
  Y,J,Un.kept hk,⟨m,hn,fun i x v e1 e2 e3=>?_⟩,fun x c e=>?_,?_,fun x c e=>I.freeC x c (D x c e),fun p hp=>?_,I.hok.kept hk,?_⟩
 .have aj:=tE (env:=X.env) B.nocell hx;exact pE _ _ x O (.inr (B5 aj))
 .exact AF (AR (ak b J) hC)
 .exact(hf b J).2.2.2.2.1 x c (D x c e)
 .exact I.bs b o e
 .rcases(hf b J).2.2.2.1 with z|z
  .exact I.ok.noex b o e z
  .exact absurd (AR (Au e) (AD I.ok.bsz z)) (B6 _)
 .rcases Am.mp (I.stkSub b hz)with e|z
  .exact(hf b J).2.1 e
  .exact(hf b J).2.2.1 z
 .obtain⟨j,ej,ev⟩:=aHl e2;obtain⟨oj,fj⟩:=aDP B.srcs e1 ej;have W:=B.fr _ (B5 fj) rfl;obtain⟨m0,hn0,hl0⟩:=id I.loc;obtain⟨u,ru,lk⟩:=hl0 j x v oj ev (.inr W);refine⟨u,ru,.inr ⟨nY fj,?_⟩⟩;rcases lk with⟨k,_⟩|⟨k,c,hc,hcell⟩
  .have k':X.env.scope.names.lookup x=some .local:=k;rcases W with z|z<;>(rw[k']at z;cases z)
  .obtain⟨c',hc'⟩:=pE (env:=X.env) scope.names [] x O (.inr (B5 fj));have e:=D x c' hc';rw[hc]at e;cases e;obtain⟨o,Y,hd⟩:=hcell;exact⟨c,hc',o,hk _ _ Y,hd⟩
 .obtain⟨v,o,Y,hd⟩:=I.cell x c (D x c e);exact⟨v,o,hk _ _ Y,hd⟩
 .exact I.hok.fresh hC
 .have ae:p∈X.pn++dz:=by
   rcases Bo.mp hp with z|z
   .exact z
   .simp at z
  obtain⟨q1,q2,q3,q4,q5⟩:=I.pin p ae;refine⟨hk _ _ q1,q2,AF (AR (Au q1) hC),fun z=>?_,q5⟩;rcases Am.mp (I.stkSub _ z)with e|z
  .exact q3 e
  .exact q4 z
 .show(sub src σ).length=N.length;unfold sub;rw[Ae];exact B.len
section
variable{R:Result->Ac->Prop}
theorem y3{O z B:Bb}{D:List Bb}{scope:Dw}{pos:Pos}{it J:Ab}{env:Env}(I:Nat->Ac->Prop)
  (W:∀ n s,I n s->wpAny (model prog w) A (pyNext it) (fun r s₁=>match r with
   | none=>R (.ok .next) s₁
   | some v=>wpAny (model prog w) A (letOwnedTupleGo z it v) (fun _ Y=>wpAny (model prog w) A (assign z env v) (fun _ s₂=>
     wpAny (model prog w) A (forIn D true fun c r=>if r=true then do let ok <- isTrue c env (eval c env);pure (CK ok) else pure (CK r)) (fun ok s₃=>
      if ok=true then wpAny (model prog w) A (eval O env) (fun x s₄=>
       wpAny (model prog w) A (call (.builtin "list.append") [J,x]) (fun _ s₅=>∃ m,m<n/\I m s₅) (fun _ _=>False) s₄) (fun _ _=>False) s₃
      else∃ m,m<n/\I m s₃) (fun _ _=>False) s₂) (fun _ _=>False) Y) (fun _ _=>False) s₁) (fun _ _=>False) s)
  (n:Nat) (h:I n s):
  codeAny (model prog w) A (.compLoop (.ListComp O [⟨z,B,D,0⟩] scope pos) 0 it J env) R s:=by
 have nv:∀{α:Type} {t:Sem α} {Q:α->Ac->Prop} {E:Ab->Ac->Prop} {s:Ac},wpAny (model prog w) A t Q (fun _ _=>False) s->wpAny (model prog w) A t Q E s:=fun h=>BH h (fun _ _ x=>x) fun _ _ x=>x.elim;refine codeAny_loop rfl I (fun n s hI=>?_) n h;show wpAny _ A ((compTurn (.ListComp O [⟨z,B,D,0⟩] scope pos) 0 it J env).onRaise (fun x=>do noteFrame x env;theTreesLotGoes x)) _ _ s;refine wpAny_noted ?_;rw[compTurn_list];refine Aa (F9 (Aa (nv (thn (W n s hI) (fun r s₁ h₁=>?_)))));cases r with
 | none=>exact Ad h₁
 | some v=>
  refine Aa (BH h₁ (fun _ Y Z=>?_) fun _ _ x=>x.elim);refine Aa (BH Z (fun _ s₂ h₂=>Aa (BH h₂ (fun ok s₃ h₃=>?_) fun _ _ h'=>h'.elim)) fun _ _ h'=>h'.elim);cases ok with
  | false=>exact Ad ⟨rfl,h₃⟩
  | true=>
   exact Aa (Aa (BH h₃ (fun x s₄ h₄=>Aa (BH h₄ (fun _ s₅ h₅=>Ad (Ad ⟨rfl,h₅⟩)) fun _ _ h'=>h'.elim)) fun _ _ h'=>h'.elim))
end
inductive aBJ(J : It)(g : TG)(tt : TT)(te : TE)(σ₀ : St)(H₀ : Hp)(Q : VK) : Prop
  | mk (W : Nat -> Nat -> List V -> St -> Hp -> Prop) (q0 : (∃ m, W 0 m [] σ₀ H₀)) (q1 : ∀ i m ys σ H, W i m ys σ H -> ys.length <= sizeLine /\
    ((J.stop i H /\ ∀ D, H D = none -> D≠sysModules -> Q (.ref D) (upd H D (.lst ys))) \/
     (J.go i H /\ ∃ N : List V -> St -> Hp -> Prop, (∀ zs σ' H', N zs σ' H' -> ∃ m', m'<m /\ W (i+1) m' zs σ' H') /\
       ∀ x H', J.yld i H x H' -> g x σ H' fun σ2 H2 => tt σ2 H2 fun b H3 => if b = true then te σ2 H3 fun v H4 => N (ys++[v]) σ2 H4 else N ys σ2 H3))) : aBJ J g tt te σ₀ H₀ Q
def nZ(J:It)(g:TG)(tt:TT)(te:TE)(σ₀:St)(H₀:Hp)(Q:VK):Prop:=aBJ J g tt te σ₀ H₀ Q
theorem vY{tg aB bi:Bb}{bc:List Bb}{scope:Dw}{pos:Pos}{N:List Str}{src:List (Option Nat)}{g:TG}{tt:TT}{te:TE}{J:It}{fp:List Ah}{it:Ah}{tn:Nat->A8->Prop}{H2:Hp}{s2:Ac}{Q:VK}{E:Ab->Ac->Prop}
  {RR:Ab->Ah->Result->Ac->Prop} (B:y1 N src scope X.env.scope X.N) (hc:X.calm=true)
  (O:∀ cl s H fp dz C,PG (blk X N scope cl s H fp dz C) tg g/\PTs (blk X N scope cl s H fp dz C) bc tt/\PE (blk X N scope cl s H fp dz C) bi te)
  (I2:Inv X dz σ H2 s2) (T:aCC X.prog X.w X.K tg J fp it tn) (bT:tn 0 s2.heap) (f2:∀ b∈fp,oX X dz H2 b) (cw:nZ J g tt te (sub src σ) H2 Q)
  (cb:∀ D C H' m s',Inv X dz σ H' s'->s'.heap.Ns C m->oX X dz H' C->D≠C->Q (.ref D) H'->RR (.ref D) C (.ok .next) s'):
  wpAny (model X.prog X.w) X.A (newList []) (fun bP s₃=>wpAny (model X.prog X.w) X.A (newFunctionEnv scope X.env.globals (iC X.env scope.names []) [] X.env.qual none .none (some X.env)) (fun ay s₄=>
   codeAny (model X.prog X.w) X.A (.compStart (.ListComp bi [⟨tg,aB,bc,0⟩] scope pos) 0 (.ref it) bP { ay with scope:=relabel scope X.env }) (RR bP ay.locals) s₄) E s₃) E s2:=by
 refine A6 (wpAny_newFunctionEnv B.nocell (by intro y hy;simp at hy) (fun h₁ ar ag=>?_) B.kind);dsimp only at ar ag ⊢;generalize bf:s2.heap.push { cls:=.type "list",dict:=none,data:=.seq ([]:List Ab).toArray }=HH at ar ag ⊢;have aL:HH.objs.size=s2.heap.objs.size+1:=by rw[<- bf,Ci]
 have aq:s2.heap.objs.size≠HH.objs.size:=by rw[aL];exact AF (CJ _)
 have aj:s2.heap.objs.size<=HH.objs.size:=by rw[aL];exact C6 _
 have av:∀ b∈fp,b<s2.heap.objs.size:=fun b O=>by
  obtain⟨o,e,_⟩:=T.obj _ _ bT b O;exact Au e
 have bp:∀ b o,s2.heap.get? b=some o->h₁.get? b=some o:=fun b o e=>
  ag.extBut b o (by rw[aL];exact AF (Bw (Au e))) (Ai _ (bf▸Ai _ e))
 have bz:h₁.PlainList s2.heap.objs.size #[]:=⟨_,ag.extBut _ _ aq (Ai _ (bf▸Aw _ rfl))⟩
 have bw:tn 0 h₁:=T.keep _ _ _ bT fun b _ o e=>bp b o e;obtain⟨W,⟨m0,w0⟩,turn⟩:=cw;have bx:∀ b∈frs X.stack,b<s2.heap.objs.size:=fun b O=>by
  obtain⟨_,o,ho,_⟩:=I2.stack.mem O;exact Au ho
 generalize Y:blk X N scope (iC X.env scope.names []) s2 H2 fp dz HH.objs.size=Z;have bO:=O (iC X.env scope.names []) s2 H2 fp dz HH.objs.size;rw[Y]at bO;have eP:Z.prog=X.prog:=by rw[<- Y];rfl
 have eW:Z.w=X.w:=by rw[<- Y];rfl
 have eK:Z.K=X.K:=by rw[<- Y];rfl
 have eA:Z.A=X.A:=by rw[<- Y];rfl
 have eE:Z.env=compEnvC scope (iC X.env scope.names []) HH.objs.size X.env:=by rw[<- Y];rfl
 have eL:Z.env.locals=HH.objs.size:=by rw[eE];rfl
 have eF:Z.fs=frs X.stack:=by rw[<- Y];rfl
 have eX:Z.ex=fp:=by rw[<- Y];rfl
 have eS:Z.s₀=s2:=by rw[<- Y];rfl
 have eH:Z.H₀=H2:=by rw[<- Y];rfl
 have eC:Z.calm=true:=by rw[<- Y];exact hc
 have bI:Z.pn=X.pn++dz:=by rw[<- Y];rfl
 have be:Z.xe=fun _ _=>False:=by rw[<- Y];rfl
 have af:∀ x c,Z.env.cells.lookup x=some c->X.env.cells.lookup x=some c:=fun x c e=>by
  rw[eE]at e;exact pC scope.names [] (fun x c e=>by simp at e) x c e
 have ai:∀ x c,Z.env.cells.lookup x=some c->c<s2.heap.objs.size:=fun x c e=>by
  obtain⟨v,o,ho,_⟩:=I2.cell x c (af x c e);exact Au ho
 have ak:∀ p∈X.pn++dz,p.1<s2.heap.objs.size:=fun p hp=>Au (I2.pin p hp).1;generalize hD:s2.heap.objs.size=D at *;generalize d0:HH.objs.size=C at *;have ax:∀ s₃:Ac,s₃={ s2 with heap:=h₁,toks:=s2.toks+([]:List (Str×Ab)).length }->
   codeAny (model X.prog X.w) X.A (.compLoop (.ListComp bi [⟨tg,aB,bc,0⟩] scope pos) 0 (.ref it) (.ref D) (compEnvC scope (iC X.env scope.names []) C X.env)) (RR (.ref D) C) s₃:=by
  rintro s₃ rfl;have I3:Inv Z [] (sub src σ) H2 { s2 with heap:=h₁,toks:=s2.toks+([]:List (Str×Ab)).length }:=by
   rw[<- Y];exact I2.block B f2 (by rw[hD];exact av) (by rw[hD];exact aj) rfl I2.bare bp ar
  have b8:H2 D=none:=I2.hok.fresh (EF hD);have cr:D∉Z.fs:=fun z=>by rw[eF]at z;exact absurd (bx D z) (B6 _)
  have aC:∀{σ':St} {H':Hp} {s':Ac} {pl:List (Ah×Obj)} {its:List Ab} {n:Nat},Inv Z pl σ' H' s'->H' D=none->s'.heap.get? D=some { cls:=.type "list",data:=.seq its.toArray n }->
    Inv Z ((D,{ cls:=.type "list",data:=.seq its.toArray n })::pl) σ' H' s':=fun{σ' H' s' pl its n} I' hn hg=>
   I'.pins_of fun p hp=>by
    rcases Am.mp hp with e|hp
    .subst e;exact⟨hg,hn,by rw[eL];exact aq,cr,fun v z=>by cases z⟩
    .exact I'.pin p (A5 _ hp)
  obtain⟨n0,hg0⟩:=bz;have cg:=aC (its:=[]) I3 b8 hg0;have a0:∀{H':Hp} {pl:List (Ah×Obj)},(∀ p∈pl,p.1=D)->(∀ b∈fp,H' b=none)->∀ b∈fp,oX Z pl H' b:=fun{H' pl} hpl hn b O=>by
   refine⟨hn b O,by rw[eL];exact AF (AR (av b O) aj),fun z=>?_,.inl (by rw[eX];exact O),fun x c e=>(f2 b O).2.2.2.2.1 x c (af x c e),fun p hp=>?_⟩
   .rw[eF]at z;rcases Am.mp (I2.stkSub b z)with e|z
    .exact(f2 b O).2.1 e
    .exact(f2 b O).2.2.1 z
   .rw[bI]at hp;rcases Bo.mp hp with z|z
    .exact(f2 b O).2.2.2.2.2 p z
    .rw[hpl p z];exact De (av b O)
  refine y3 (fun n s'=>∃ i ys its nn σ' H',Inv Z [(D,{ cls:=.type "list",data:=.seq its.toArray nn })] σ' H' s'/\tn i s'.heap/\(∀ b∈fp,H' b=none)/\cJ ys its/\W i n ys σ' H') ?_ m0
   ⟨0,[],[],n0,sub src σ,H2,cg,bw,fun b O=>(f2 b O).1,.nil,w0⟩
  rintro n s4 ⟨i,ys,its,nn,σ4,H4,I4,bu,bH,aw,w4⟩;obtain⟨hsz,hcase⟩:=turn i n ys σ4 H4 w4;have one:∀{o:Obj},∀ p∈[(D,o)],p.1=D:=fun{o} p hp=>by
   have:=A7.mp hp;rw[this]
  rcases hcase with⟨stop,qn⟩|⟨go,Nx,hN,step⟩
  .have am:=T.done Z eP eW eK eC i _ s4 σ4 H4 (fun _ _=>False) I4 (a0 one bH) bu stop;rw[eA]at am;refine thn am fun r s5 ⟨hr,I5⟩=>?_;subst hr;have pd:=I5.pin _ (A5 _ AM);have ck:Un (frs X.stack) fp H2 H4 s2.heap s5.heap:=by
    have:=I5.base;rw[eF,eX,eS,eH]at this;exact this
   have bN:HOk X.prog X.w H4 s5.heap:=by
    have:=I5.hok;rw[eP,eW]at this;exact this
   have cq:s5.os=s2.os:=by
    have:=I5.os;rw[eS]at this;exact this
   have J5:Inv X dz σ H4 s5:=I2.call' cq ck bN I5.bare fun b O=>⟨(f2 b O).2.2.2.1,(f2 b O).2.1,(f2 b O).2.2.2.2.1,(f2 b O).2.2.2.2.2⟩
   have fD:oX X dz H4 D:=I2.fpOk (EF hD) pd.2.1;have J6:Inv X dz σ (upd H4 D (.lst ys)) s5:=J5.track fD ⟨hsz,its,nn,aw,pd.1⟩;obtain⟨mm,nsC,_⟩:=I5.loc;rw[eL]at nsC;have cn:H4 C=none:=by
    have:=I5.free;rw[eL]at this;exact this
   have fC:oX X dz (upd H4 D (.lst ys)) C:=I2.fpOk (by rw[hD];exact aj) (by rw[bD (D7 aq)];exact cn);exact cb D C _ mm s5 J6 nsC fC aq (qn D pd.2.1 (by have O:=I2.big;rw[hD]at O;exact De O))
  .have ao:=T.item Z eP eW eK eC i _ s4 σ4 H4 (fun _ _=>False) I4 (a0 one bH) bu go;rw[eA]at ao;refine thn ao fun r s5 ⟨u,hr,h5⟩=>?_;subst hr;refine thn h5 fun _ s6 ⟨x,H6,I6,r6,y6,aR,cc⟩=>?_;have cm:=I6.pinned (a0 one cc) (T.obj _ _ aR);obtain⟨hg,ht,he⟩:=bO;have e1:=hg _ s6 σ4 H6 x u _ cm r6 (step x H6 y6);rw[eP,eW,eA,eE,be]at e1;refine thn e1 fun _ s7 ⟨σ7,H7,I7,q7⟩=>?_;have e2:=ht _ s7 σ7 H7 _ I7 q7;rw[eP,eW,eA,eE,be]at e2;refine thn e2 fun ok s8 ⟨H8,I8,q8⟩=>?_;have fin:∀{σ':St} {H':Hp} {s':Ac} {ah:List Ab} {an:Nat} {zs:List V},Inv Z ([(D,{ cls:=.type "list",data:=.seq ah.toArray an })]++mU fp s6.heap) σ' H' s'->cJ zs ah->Nx zs σ' H'->
     ∃ m,m<n/\∃ i ys its nn σ' H',Inv Z [(D,{ cls:=.type "list",data:=.seq its.toArray nn })] σ' H' s'/\tn i s'.heap/\(∀ b∈fp,H' b=none)/\cJ ys its/\W i m ys σ' H':=fun{σ' H' s' ah an zs} I' vs' n'=>by
    obtain⟨m',hm,w'⟩:=hN zs σ' H' n';refine⟨m',hm,i+1,zs,ah,an,σ',H',I'.unpinned,T.keep _ _ _ aR fun b O o e=>(I'.pin (b,o) (A5 _ (A5 _ (jU O e)))).1,fun b O=>?_,vs',w'⟩;obtain⟨o,e,d⟩:=T.obj _ _ aR b O;exact(I'.pin (b,o) (A5 _ (A5 _ (jU O e)))).2.1
   cases ok with
   | false=>
    simp only[Ea,if_false]at q8 ⊢;exact fin I8 aw q8
   | true=>
    simp only[if_true]at q8 ⊢;have e3:=he _ s8 σ7 H8 _ I8 q8;rw[eP,eW,eA,eE,be]at e3;refine thn e3 fun v s9 ⟨y,H9,I9,r9,q9⟩=>?_;have pd:=I9.pin _ (A5 _ (DX _ AM));have cx:=aw.length;refine wpAny_list_append_plain (hsz:=by simp only[Ao];omega) (⟨nn,pd.1⟩:s9.heap.PlainList D its.toArray) fun h' ⟨an,b9⟩ ca=>?_;have cj:Inv Z (mU fp s6.heap) σ7 H9 s9:=I9.pins_of fun p hp=>I9.pin p (A5 _ (A5 _ hp));have b5:Inv Z (mU fp s6.heap) σ7 H9 { s9 with heap:=h' }:=cj.turned (t':=s9.toks) (it:=D) (fun b o O e=>(ca.2 b O).trans e) pd.2.1 (by rw[eL];exact aq) (.inr (by rw[eS];exact EF hD))
     (fun x c e=>AF (ai x c e)) fun p hp=>by
      rw[bI]at hp;rcases Bo.mp hp with z|z
      .exact AF (ak p z)
      .exact AF (av _ (vK z).1)
    have bq:h'.get? D=some { cls:=.type "list",data:=.seq (its++[v]).toArray an }:=by
     rw[b9];simp
    exact fin (aC (s':={ s9 with heap:=h' }) b5 pd.2.1 bq) (aw.append (.cons r9 .nil)) q9
 exact codeAny_compStart_list (ax _ rfl) (T.self X.A 0 _ _ _ bw (ax _ rfl))
def aGH(src:List (Option Nat))(wi:TI)(g:TG)(tt:TT)(te:TE):TE:=fun σ H Q=>wi σ H fun J H1=>nZ J g tt te (sub src σ) H1 Q
theorem fM{tg z W:Bb}{O:List Bb}{scope osc:Dw}{pos:Pos}{N oN:List Str}{src:List (Option Nat)}{wi:TI}{g:TG}{tt:TT}{te:TE}(B:y1 N src scope osc oN)(hi:PI X tg z wi)
  (Z:∀ cl s H Y dz C,PG (blk X N scope cl s H Y dz C) tg g/\PTs (blk X N scope cl s H Y dz C) O tt/\PE (blk X N scope cl s H Y dz C) W te)
  (hc:X.calm=true:=by rfl) (eo:X.env.scope=osc:=by rfl) (eN:X.N=oN:=by rfl)
  (hs:∀ x,foldedSetIterable z X.env x=pure x:=by intro _;rfl):PE X (.ListComp W [⟨tg,z,O,0⟩] scope pos) (aGH src wi g tt te):=by
 subst eo eN;constructor;intro dz s σ H Q I h;rw[eval_ListComp];refine wpAny_comprehension_free (use:=none) (cl:=iC X.env scope.names []) rfl hs (nX (I.clos B)) B.kind B.names (thn (hi dz s σ H _ I h) fun xv s1 h1=>thn h1 fun ah s2 h2=>?_);obtain⟨it,Y,tn,J,H2,e,I2,T,st2,f2,cw⟩:=h2;subst e;refine vY B hc Z I2 T st2 f2 cw fun D C H' m s' J' aa fC ai q=>?_;refine⟨m,aa,fun h' sb=>⟨.ref D,H',?_,rfl,q⟩⟩;obtain⟨f0,f1,_,f3,f4,f5⟩:=fC;exact J'.turned (t':=s'.toks) (fun b o Z e=>(sb.2 b Z).trans e) f0 f1 f3 f4 f5
theorem f8{tg O Y:Bb}{W:List Bb}{scope osc:Dw}{pos ps py:Pos}{y:Str}{i:Nat}{N oN:List Str}{src:List (Option Nat)}{wi:TI}{g:TG}{tt:TT}{te:TE}(B:y1 N src scope osc oN)(hN:X.N.Nodup)(hy:X.N[i]?=some y)(hi:PI X tg O wi)
  (hb:∀ cl s H fp dz C,PG (blk X N scope cl s H fp dz C) tg g/\PTs (blk X N scope cl s H fp dz C) W tt/\PE (blk X N scope cl s H fp dz C) Y te)
  (Z:X.env.scope.names.lookup y=some .local:=by rfl)
  (ag:swapsWith (.ListComp Y [⟨tg,O,W,0⟩] scope pos) (some (.Name y py)) ps.line X.env=pure true:=by rfl)
  (hc:X.calm=true:=by rfl) (eo:X.env.scope=osc:=by rfl) (eN:X.N=oN:=by rfl)
  (hs:∀ x,foldedSetIterable O X.env x=pure x:=by intro _;rfl):PS X (.Assign [.Name y py] (.ListComp Y [⟨tg,O,W,0⟩] scope pos) ps) (aG4 (aGH src wi g tt te) (cF i)):=by
 subst eo eN;constructor;intro dz s σ H D I h;rw[exec_Assign_Name_used _ _ _ _ ag];refine Aa (F9 (Aa ?_));show wpAny _ _ (evalThenUse (.ListComp Y [⟨tg,O,W,0⟩] scope pos) X.env (assign (.Name y py) X.env)) _ _ s;have e:evalThenUse (.ListComp Y [⟨tg,O,W,0⟩] scope pos) X.env (assign (.Name y py) X.env)=(do
   let _ <- comprehension (.ListComp Y [⟨tg,O,W,0⟩] scope pos) scope X.env (firstIterPos [⟨tg,O,W,0⟩] pos) (newList []) (firstAsync [⟨tg,O,W,0⟩]) (firstIter [⟨tg,O,W,0⟩] X.env) (some (assign (.Name y py) X.env))):=rfl
 rw[e];refine Aa ?_;refine wpAny_comprehension_free (use:=some (assign (.Name y py) X.env)) (cl:=iC X.env scope.names []) rfl hs (nX (I.clos B)) B.kind B.names (thn (hi dz s σ H _ I h) fun xv s1 h1=>thn h1 fun au s2 h2=>?_);obtain⟨it,fp,tn,J,H2,e,I2,T,st2,f2,cw⟩:=h2;subst e;refine vY B hc hb I2 T st2 f2 cw fun D' C H' m s' J' ah fC av q=>?_;obtain⟨f0,f1,_,f3,f4,f5⟩:=fC;refine wpAny_assign_Name (vJ J' hN hy (.inl Z) (v:=.ref D') rfl (fun aj af ⟨a,sb,ha⟩=>?_) (.inr Z));have ai:C≠a:=by
  rcases ha with rfl|ha
  .exact f1
  .exact fun z=>f4 y a ha z.symm
 refine⟨m,ah.sameBut sb ai,fun h' ad=>Ad (Ad ⟨_,H',af.turned (t':=aj.toks) (fun b o hb e=>(ad.2 b hb).trans e) f0 f1 f3 f4 f5,q⟩)⟩
inductive kB(K:Af)(xs:List V)(H:Hp)(Q:VK):Prop
 | mk (x:_) (n:_) (t:_) (b:_) (q0:xs=[x,.ty n]) (q1:jA K H x t) (q2:Bu K t (.type n)=some b) (q3:Q (.bl b) H):kB K xs H Q
def f7(K:Af):List V->Hp->VK->Prop:=fun xs H Q=>kB K xs H Q
theorem bZ:eU X (.builtin "isinstance") (f7 X.K):=by
 intro dz s σ H xs z Q I r h;obtain⟨x,n,t,b,rfl,ty,e,q⟩:=h;obtain⟨u,w',rfl,r1,r2⟩:=aDB r;cases r2;exact aCH I r1 ty e fun tk=>⟨.bl b,H,I.tok _,rfl,q⟩
inductive lY(x:V)(y:V)(H:Hp)(Q:VK):Prop
 | mk (i:_) (j:_) (q0:x=.str i) (q1:y=.str j) (q2:Q (.bl (!decide (j.cps.toList<i.cps.toList))) H):lY x y H Q
def y4:V->V->Hp->VK->Prop:=fun x y H Q=>lY x y H Q
theorem vZ:OpR X (compareOp .LtE) y4:=by
 intro dz s σ H x y v u Q I z B h;obtain⟨i,j,rfl,rfl,q⟩:=h;obtain⟨t,rfl⟩:=z;obtain⟨t',rfl⟩:=B;exact PySem.P.le_str ⟨.bl _,H,I,rfl,q⟩
theorem y7{x:V}{v:Ab}{b:Bool}(r:cW x v):(v==.bool b)=decide (x=.bl b):=by
 cases x with
 | bl c=>
  cases r;cases b<;>cases c<;>rfl
 | int i=>obtain⟨t,rfl⟩:=r;simp
 | str i=>obtain⟨t,rfl⟩:=r;simp
 | byt i=>obtain⟨t,rfl⟩:=r;simp
 | flt i=>obtain⟨t,rfl⟩:=r;simp
 | non=>cases r;simp
 | ref a=>cases r;simp
 | ty a=>cases r;simp
theorem tF{x:V}{v:Ab}{b:Bool}(r:cW x v):plainIs v (.bool b)=true:=by
 cases x with
 | bl c=>cases r;rfl
 | int i=>obtain⟨t,rfl⟩:=r;rfl
 | str i=>obtain⟨t,rfl⟩:=r;rfl
 | byt i=>obtain⟨t,rfl⟩:=r;rfl
 | flt i=>obtain⟨t,rfl⟩:=r;rfl
 | non=>cases r;rfl
 | ref a=>cases r;rfl
 | ty a=>cases r;rfl
inductive tG(x:V)(y:V)(H:Hp)(Q:VK):Prop
 | mk (b:_) (q0:y=.bl b) (q1:Q (.bl (decide (x=.bl b))) H):tG x y H Q
def aDQ:V->V->Hp->VK->Prop:=fun x y H Q=>tG x y H Q
theorem aDR:OpR X (compareOp .Is) aDQ:=by
 intro dz s σ H x y v u Q I z B h;obtain⟨b,rfl,q⟩:=h;cases B;exact wpAny_is_plain (tF z) ⟨.bl _,H,I,by rw[y7 z];rfl,q⟩
inductive lZ(x:V)(y:V)(H:Hp)(Q:VK):Prop
 | mk (b:_) (q0:y=.bl b) (q1:Q (.bl (!decide (x=.bl b))) H):lZ x y H Q
def y8:V->V->Hp->VK->Prop:=fun x y H Q=>lZ x y H Q
theorem aCN:OpR X (compareOp .IsNot) y8:=by
 intro dz s σ H x y v u Q I z B h;obtain⟨b,rfl,q⟩:=h;cases B;exact wpAny_isNot_plain (tF z) ⟨.bl _,H,I,by rw[y7 z];rfl,q⟩
def v3(i j:Int):Prop:=0<j/\j.natAbs.log2<9000
theorem v3.of{i j:Int}(h:0<j)(h2:j<2^512):v3 i j:=by
 refine⟨h,?_⟩;have z:j.natAbs≠0:=by omega
 have:j.natAbs.log2<512:=(Nat.log2_lt z).mpr (by
  have e:((2:Int)^512)=((2^512:Nat):Int):=by decide
  rw[e]at h2;omega)
 omega
theorem tH:OpR X (binaryOp .FloorDiv) (rI v3 fun i j=>.int (i/j)):=opI fun i j _ _ _ _ _ hc q=>by
 have h1:(0:Int)<j:=hc.1;refine floordiv_int (by omega) ?_ (AA (PyProof.noPylong_of_log2 hc.2));rw[Int.fdiv_eq_ediv_of_nonneg i (by omega)];exact q
def Its(x:Str):It:=⟨fun i _=>i<x.cps.size,fun i H v H'=>H'=H/\∃ c,x.cps[i]?=some c/\v=.str ⟨#[c]⟩,fun i _=>x.cps.size<=i⟩
theorem aDS{P:Ar}{w:AQ}{K:Af}{tg:Bb}(it:Ah)(x:Str)(t:Tok)(nm:String)(aa:nm="str_ascii_iterator"\/nm="str_iterator")
  (W:∀ A':AJ,A'.handled=none->Walks P w A' it [it] [it] x.cps.size (SignAt x) (fun i h=>h.IsStrIter it nm x t i))
  (D:∀(A:AJ) (i:Nat) (s:Ac) (Q:Ab->Ac->Prop) (E:Ab->Ac->Prop),s.heap.IsStrIter it nm x t i->Q (.ref it) s->wpAny (model P w) A (pyIter (.ref it)) Q E s):
  aCC P w K tg (Its x) [it] it (fun i h=>i<=x.cps.size/\h.IsStrIter it nm x t i) where
 mem:=by simp
 obj:=fun i h st b B=>by
  have e:b=it:=by simpa using B
  subst e;obtain⟨_,o,e,c,d⟩:=st;exact⟨o,e,fun v z=>by rw[d]at z;cases z⟩
 keep:=fun i h h' st k=>⟨st.1,by obtain⟨_,o,e,c,d⟩:=st;exact⟨o,k it (by simp) o e,c,d⟩⟩
 item:=by
  intro X hP hw hK hc i dz s σ H E I Y st O;subst hP hw hK;obtain⟨f0,f1,f2,f3,f4,f5⟩:=Y it (by simp);refine(W X.A (I.ok.hd hc)).item i s _ _ O st.2 fun v h' tk hv J Z=>?_;obtain⟨c,u,ec,rfl⟩:=hv;have I1:Inv X dz σ H { s with heap:=h',toks:=tk }:=I.turned (fun b o B e=>Z b o (by simpa using B) e) f0 f1 f3 f4 f5;obtain⟨o,e,c',d⟩:=id J;refine⟨_,rfl,aBx (s:={ s with heap:=h',toks:=tk }) e c' d (by rcases aa with rfl|rfl<;>decide) ⟨.str ⟨#[c]⟩,H,I1,⟨u,rfl⟩,⟨rfl,c,ec,rfl⟩,⟨O,J⟩,fun b B=>(Y b B).1⟩⟩
 done:=by
  intro X hP hw hK hc i dz s σ H E I Y st O;subst hP hw hK;obtain⟨f0,f1,f2,f3,f4,f5⟩:=Y it (by simp);have e:i=x.cps.size:=Nat.le_antisymm st.1 O;subst e;exact(W X.A (I.ok.hd hc)).done s _ _ st.2 fun h' tk Z=>⟨rfl,I.turned (fun b o B e=>Z b o (by simpa using B) e) f0 f1 f3 f4 f5⟩
 self:=fun A i s Q E st h=>D A i s Q E st.2 h
def aJh(tl:TE):TI:=fun σ H R=>tl σ H fun x H1=>As V.str x fun z=>R (Its z) H1
theorem aDT{tg l:Bb}{tl:TE}(hl:PE X l tl):PI X tg l (aJh tl):=by
 constructor;intro dz s σ H R I h;refine thn (hl dz s σ H _ I h) fun v B ⟨x,H1,Z,r1,q1⟩=>?_;obtain⟨z,rfl,q⟩:=q1;obtain⟨t,rfl⟩:=r1;have fin:∀(nm:String) (J:nm="str_ascii_iterator"\/nm="str_iterator")
   (W:∀ O:AJ,O.handled=none->Walks X.prog X.w O B.heap.objs.size [B.heap.objs.size] [B.heap.objs.size] z.cps.size (SignAt z) (fun i h=>h.IsStrIter B.heap.objs.size nm z t i))
   (D:∀(A:AJ) (i:Nat) (s:Ac) (Q:Ab->Ac->Prop) (E:Ab->Ac->Prop),s.heap.IsStrIter B.heap.objs.size nm z t i->Q (.ref B.heap.objs.size) s->wpAny (model X.prog X.w) A (pyIter (.ref B.heap.objs.size)) Q E s),
   PIE X dz σ tg R (.ref B.heap.objs.size) { B with heap:=B.heap.push { cls:=.type nm,data:=.fields #[.str z t,.int 0 0] } }:=fun nm J W D=>by
  refine⟨B.heap.objs.size,[B.heap.objs.size],_,_,H1,rfl,Z.kept (t':=B.toks) fun b o e=>Ai _ e,aDS B.heap.objs.size z t nm J W D,⟨Bx _,_,Aw _ rfl,rfl,rfl⟩,fun b hb=>?_,q⟩;have e:b=B.heap.objs.size:=by simpa using hb
  subst e;exact Z.fpOk (Ak _) (Z.hok.fresh (Ak _))
 cases ha:z.cps.all (·<128)
 .exact wpAny_pyIter_wide ha (fin "str_iterator" (.inr rfl) (fun O Y=>Walks.strWide Y _ z t) fun A i s Q E st h=>wpAny_pyIter_striter_wide st h)
 .exact wpAny_pyIter_ascii ha (fin "str_ascii_iterator" (.inl rfl) (fun O Y=>Walks.strAscii Y _ z t) fun A i s Q E st h=>wpAny_pyIter_striter_ascii st h)
inductive tI(x:V)(lo:Option Int)(hi:Option Int)(H:Hp)(Q:VK):Prop
 | mk (z:_) (q0:x=.str z) (q1:z.length<=sizeLine) (q2:Q (.str (Cr z lo hi)) H):tI x lo hi H Q
def aDU:V->Option Int->Option Int->Hp->VK->Prop:=fun x lo hi H Q=>tI x lo hi H Q
theorem xM:SlR X aDU:=by
 intro dz s σ H x v vl vu lo hi Z Q I W Y pl D h;obtain⟨z,rfl,hz,q⟩:=h;obtain⟨t,rfl⟩:=W;refine⟨"str",_,F.slot_str_getitem.lookup,EM _ _ _,?_⟩;have fin:∀ J k,EP X dz σ Q (.str (Cr z lo hi) J) { s with toks:=k }:=fun J k=>⟨.str _,H,I.tok _,⟨_,rfl⟩,q⟩
 obtain⟨o,ho,hc,hd⟩:=Y;cases pl with
 | none=>
  cases D with
  | none=>exact DJ (l:=none) (u:=none) (st:=none) ⟨o,ho,hc,hd⟩ rfl (EV ⟨AD (EE z _ _) hz,fin⟩)
  | int j B=>exact DJ (l:=none) (u:=some (j,B)) (st:=none) ⟨o,ho,hc,hd⟩ rfl (EV ⟨AD (EE z _ _) hz,fin⟩)
 | int i O=>
  cases D with
  | none=>exact DJ (l:=some (i,O)) (u:=none) (st:=none) ⟨o,ho,hc,hd⟩ rfl (EV ⟨AD (EE z _ _) hz,fin⟩)
  | int j B=>exact DJ (l:=some (i,O)) (u:=some (j,B)) (st:=none) ⟨o,ho,hc,hd⟩ rfl (EV ⟨AD (EE z _ _) hz,fin⟩)
theorem aBK:∀{ys:List Str}{z:List Ab},cJ (ys.map V.str) z->FU z ys
 | [],_,.nil=>.nil
 | y::ys,_,.cons ⟨t,rfl⟩ r=>.cons y t (aBK r)
inductive pW(K:Af)(x:V)(xs:List V)(H:Hp)(Q:VK):Prop
 | mk (z:_) (p:_) (ys:_) (q0:x=.str z) (q1:xs=[.ref p]) (q2:SqL K H p (ys.map V.str)) (q3:(ys.map (·.length)).sum+ys.length*z.length<=16777216) (q4:Q (.str (Txt.join z ys)) H):pW K x xs H Q
def aCO(K:Af):V->List V->Hp->VK->Prop:=fun x xs H Q=>pW K x xs H Q
theorem aFy:MtR X "str.join" (aCO X.K):=by
 intro dz s σ H x xs v D Q I B r h;obtain⟨z,p,ys,rfl,rfl,hx,hz,q⟩:=h;obtain⟨t,rfl⟩:=B;obtain⟨u,rfl,ru⟩:=fY r;cases ru;obtain⟨its,rv,pl,_⟩:=I.list hx;exact join_list pl.isList (by simpa using aBK rv) hz fun J k=>⟨.str _,H,I.tok _,⟨_,rfl⟩,q⟩
theorem y9:∀{bs:List Bool}{z:List Ab},cJ (bs.map V.bl) z->∀(i:Nat) v,z[i]?=some v->∃ b,bs[i]?=some b/\v=.bool b
 | [],_,.nil,i,v,e=>by simp at e
 | b::bs,_,.cons rfl r,0,v,e=>by simp at e;exact⟨b,rfl,e.symm⟩
 | b::bs,_,.cons rfl r,i+1,v,e=>by
  obtain⟨c,h1,h2⟩:=y9 r i v (by simpa using e);exact⟨c,by simpa using h1,h2⟩
theorem aAV(bs:List Bool):((AU bs.length).all fun i=>(bs[i]?).getD true)=bs.all id:=by
 rw[BY,AX,AX];constructor
 .intro h b B;obtain⟨i,hi,e⟩:=DW.mp B;have:=h i (Cf.mpr hi);rw[Ag hi]at this;simpa[e]using this
 .intro h i hi;have z:=Cf.mp hi;rw[Ag z];exact h _ (BM z)
inductive n5(K:Af)(xs:List V)(H:Hp)(Q:VK):Prop
 | mk (p:Ah) (bs:List Bool) (q0:xs=[.ref p]) (q1:SqL K H p (bs.map V.bl)) (q2:Q (.bl (bs.all id)) H):n5 K xs H Q
def aAW(K:Af):List V->Hp->VK->Prop:=fun xs H Q=>n5 K xs H Q
theorem jG(hc:X.calm=true):eU X (.builtin "all") (aAW X.K):=by
 intro dz s σ H xs Y Q I r h;obtain⟨p,bs,rfl,hx,q⟩:=h;obtain⟨u,rfl,ru⟩:=fY r;cases ru;obtain⟨its,rv,pl,_⟩:=I.list hx;have B:=pl.isList;have z:its.length=bs.length:=by have:=rv.length;simpa using this.symm
 have D:p<s.heap.objs.size:=by obtain⟨_,e,_⟩:=B;exact Au e
 refine call_all_walk (Fv B ?_);refine⟨s.heap.objs.size,[s.heap.objs.size,p],[s.heap.objs.size],its.toArray.size,_,_,fun i=>(bs[i]?).getD true,rfl,Walks.list (A:=X.A.in1) (I.ok.hd hc) _ p (AF D) its.toArray,
  ⟨⟨_,Aw _ rfl,rfl,rfl⟩,B.push _⟩,fun i v s' Q' Z O J=>?_,fun h' tk W=>?_⟩
 .obtain⟨b,e,rfl⟩:=y9 rv i v (by simpa using O);simp only[e,Option.getD_some]at J;exact BX J
 .rw[Ao,z,aAV];exact⟨.bl _,H,I.kept fun b x e=>W b x (fun hm=>by rw[A7.mp hm]at e;exact B6 _ (Au e)) (Ai _ e),rfl,q⟩
def tJ:List V->List V->Bool
 | [],[]=>true
 | x::xs,y::ys=>eqV x y&&tJ xs ys
 | _,_=>false
theorem n8:∀{xs ys:List V},xs.length≠ys.length->tJ xs ys=false
 | [],[],h=>absurd rfl h
 | [],_::_,_=>rfl
 | _::_,[],_=>rfl
 | x::xs,y::ys,h=>by
  show(eqV x y&&tJ xs ys)=false;rw[n8 (fun e=>h (by simp[e])),Bg]
theorem tK:∀{xs ys:List V},xs.length=ys.length->((AU xs.length).all fun i=>eqV (xs[i]?.getD .non) (ys[i]?.getD .non))=tJ xs ys
 | [],[],_=>rfl
 | x::xs,y::ys,h=>by
  have z:=tK (xs:=xs) (ys:=ys) (by simpa using h);rw[Ax,List.range_succ_eq_map,Cq,C9];show(eqV x y&&_)=(eqV x y&&tJ xs ys)
  rw[<- z];rfl
theorem zC{A:AJ}{s:Ac}{xs ys:List V}{D J:List Ab}(O:cJ xs D)(W:cJ ys J)(f1:xs.all g9=true)(f2:ys.all g9=true)(j:Nat)(h1:j<D.toArray.size)(h2:j<J.toArray.size):
  Gm A s D.toArray[j] J.toArray[j] (eqV (xs[j]?.getD .non) (ys[j]?.getD .non)):=by
 have l1:=O.length;have l2:=W.length;have B:j<xs.length:=by simpa[l1]using h1
 have z:j<ys.length:=by simpa[l2]using h2
 obtain⟨u,eu,ru⟩:=O.get (Ag B);obtain⟨w',ew,rw'⟩:=W.get (Ag z);have Y:D.toArray[j]=u:=by
  rw[Ag (by simpa using h1)]at eu;simpa using eu
 have Z:J.toArray[j]=w':=by
  rw[Ag (by simpa using h2)]at ew;simpa using ew
 rw[Y,Z,Ag B,Ag z];exact aAT ru rw' (AX.mp f1 _ (BM B)) (AX.mp f2 _ (BM z))
inductive tL(K:Af)(x:V)(y:V)(H:Hp)(Q:VK):Prop
 | mk (p:_) (q:_) (xs:_) (ys:_) (q0:x=.ref p) (q1:y=.ref q) (q2:SqL K H p xs) (q3:SqL K H q ys) (q4:xs.all g9=true) (q5:ys.all g9=true) (q6:Q (.bl (tJ xs ys)) H):tL K x y H Q
def aDV(K:Af):V->V->Hp->VK->Prop:=fun x y H Q=>tL K x y H Q
theorem xN(z:X.A.units<cLine):OpR X (compareOp .Eq) (aDV X.K):=by
 intro dz s σ H x y v u Q I B J h;obtain⟨p,q,xs,ys,rfl,rfl,h1,h2,f1,f2,hq⟩:=h;cases B;cases J;obtain⟨us,r1,p1,_⟩:=I.list h1;obtain⟨ws,r2,p2,_⟩:=I.list h2;have D:=r1.length;have l2:=r2.length;by_cases e:xs.length=ys.length
 .refine SeqAt.eq_listAt p1.isList p2.isList (by simp;omega) z (zC r1 r2 f1 f2) ?_;rw[Ao,<- D,tK e];exact⟨.bl _,H,I,rfl,hq⟩
 .refine SeqAt.eq_list_lengthsAt p1.isList p2.isList (by simp;omega) z ?_;rw[n8 e]at hq;exact⟨.bl _,H,I,rfl,hq⟩
inductive tM(K:Af)(x:V)(y:V)(H:Hp)(Q:VK):Prop
 | mk (p:_) (q:_) (xs:_) (ys:_) (q0:x=.ref p) (q1:y=.ref q) (q2:SqL K H p xs) (q3:SqL K H q ys) (q4:xs.all g9=true) (q5:ys.all g9=true) (q6:Q (.bl (!tJ xs ys)) H):tM K x y H Q
def aDW(K:Af):V->V->Hp->VK->Prop:=fun x y H Q=>tM K x y H Q
theorem aDX(z:X.A.units<cLine):OpR X (compareOp .NotEq) (aDW X.K):=by
 intro dz s σ H x y v u Q I B J h;obtain⟨p,q,xs,ys,rfl,rfl,h1,h2,f1,f2,hq⟩:=h;cases B;cases J;obtain⟨us,r1,p1,_⟩:=I.list h1;obtain⟨ws,r2,p2,_⟩:=I.list h2;have D:=r1.length;have l2:=r2.length;by_cases e:xs.length=ys.length
 .refine SeqAt.RcNeAt.lists p1.isList p2.isList (by simp;omega) z (zC r1 r2 f1 f2) X.prog X.w _ _ ?_;rw[Ao,<- D,tK e];exact⟨.bl _,H,I,rfl,hq⟩
 .refine SeqAt.RcNeAt.lists_lengths p1.isList p2.isList (by simp;omega) z X.prog X.w _ _ ?_;rw[n8 e]at hq;exact⟨.bl _,H,I,rfl,hq⟩
theorem aH{n:Nat}(h:n<=1000000):n<=sizeLine:=by
 have:sizeLine=16777216:=Fb;omega
theorem zD{J:It}{g:TG}{tt:TT}{te:TE}{σ₀:St}{H₀:Hp}{Q:VK}(n:Nat)(z:Nat->List V->St->Hp->Prop)(h0:z 0 [] σ₀ H₀)(hn:n<=sizeLine)(W:∀ i ys σ H,z i ys σ H->ys.length<=i)
  (Z:∀ i ys σ H,i<n->z i ys σ H->J.go i H) (B:∀ ys σ H,z n ys σ H->J.stop n H)
  (hs:∀ i ys σ H x H',i<n->z i ys σ H->J.yld i H x H'->g x σ H' fun Y H2=>tt Y H2 fun b H3=>if b=true then te Y H3 fun v H4=>z (i+1) (ys++[v]) Y H4 else z (i+1) ys Y H3)
  (hd:∀ ys σ H,z n ys σ H->∀ D,H D=none->D≠sysModules->Q (.ref D) (upd H D (.lst ys))):nZ J g tt te σ₀ H₀ Q:=by
 refine⟨fun i m ys σ H=>m=n-i/\i<=n/\z i ys σ H,⟨n,by simp,Bx _,h0⟩,?_⟩;rintro i m ys σ H ⟨rfl,hi,p⟩;refine⟨AD (W i ys σ H p) (AD hi hn),?_⟩;by_cases O:i<n
 .exact .inr ⟨Z i ys σ H O p,z (i+1),fun zs σ' H' p'=>⟨n-(i+1),by omega,rfl,O,p'⟩,fun x H' y=>hs i ys σ H x H' O p y⟩
 .have e:i=n:=by omega
  subst e;exact .inl ⟨B ys σ H p,hd ys σ H p⟩
theorem qR{J:It}{g:TG}{tt:TT}{te:TE}{σ₀:St}{H₀:Hp}{Q:VK}(n:Nat)(z:Nat->List V->St->Hp->Prop)(h0:z 0 [] σ₀ H₀)(hn:n<=sizeLine)(O:∀ i ys σ H,z i ys σ H->ys.length<=i)
  (Y:∀ i ys σ H,i<n->z i ys σ H->J.go i H) (B:∀ ys σ H,z n ys σ H->J.stop n H)
  (hs:∀ i ys σ H x H',i<n->z i ys σ H->J.yld i H x H'->g x σ H' fun W H2=>tt W H2 fun b Z=>if b=true then te W Z fun v H4=>z (i+1) (ys++[v]) W H4 else z (i+1) ys W Z)
  (hd:∀ ys σ H,z n ys σ H->∀ D,H D=none->Q (.ref D) (upd H D (.lst ys))):nZ J g tt te σ₀ H₀ Q:=zD n z h0 hn O Y B hs fun ys σ H p D h _=>hd ys σ H p D h
theorem zE{x:Str}{g:TG}{Y:TT}{te:TE}{W:St}{H₀:Hp}{Q:VK}(z:Nat->List V->St->Hp->Prop)(h0:z 0 [] W H₀)(hn:x.cps.size<=sizeLine)(B:∀ i ys σ H,z i ys σ H->ys.length<=i)
  (Z:∀ i c ys σ H,x.cps[i]?=some c->z i ys σ H->g (.str ⟨#[c]⟩) σ H fun J H2=>Y J H2 fun b O=>if b=true then te J O fun v H4=>z (i+1) (ys++[v]) J H4 else z (i+1) ys J O)
  (hd:∀ ys σ H,z x.cps.size ys σ H->∀ D,H D=none->Q (.ref D) (upd H D (.lst ys))):nZ (Its x) g Y te W H₀ Q:=
 qR x.cps.size z h0 hn B (fun i _ _ _ h _=>h) (fun _ _ _ _=>Ak _) (fun i ys σ H v H' hi p y=>by
  obtain⟨e,c,ec,rfl⟩:=y;subst e;exact Z i c ys σ _ ec p) hd
theorem iL{lo:Int}{n:Nat}{g:TG}{Y:TT}{te:TE}{W:St}{H₀:Hp}{Q:VK}(z:Nat->List V->St->Hp->Prop)(h0:z 0 [] W H₀)(hn:n<=sizeLine)(B:∀ i ys σ H,z i ys σ H->ys.length<=i)
  (Z:∀ i ys σ H,i<n->z i ys σ H->g (.int (lo+i)) σ H fun J H2=>Y J H2 fun b O=>if b=true then te J O fun v H4=>z (i+1) (ys++[v]) J H4 else z (i+1) ys J O)
  (hd:∀ ys σ H,z n ys σ H->∀ D,H D=none->Q (.ref D) (upd H D (.lst ys))):nZ (Itr lo n) g Y te W H₀ Q:=
 qR n z h0 hn B (fun i _ _ _ h _=>h) (fun _ _ _ _=>Ak _) (fun i ys σ H v H' hi p y=>by
  obtain⟨e,rfl⟩:=y;subst e;exact Z i ys σ _ hi p) hd
theorem iH{K:Af}{a:Ah}{xs:List V}{g:TG}{Z:TT}{te:TE}{Y:St}{H₀:Hp}{Q:VK}(z:Nat->List V->St->Hp->Prop)(h0:z 0 [] Y H₀)(hn:xs.length<=sizeLine)(B:∀ i ys σ H,z i ys σ H->ys.length<=i)
  (O:∀ i ys σ H,z i ys σ H->SqL K H a xs)
  (hs:∀ i x ys σ H,xs[i]?=some x->z i ys σ H->g x σ H fun J H2=>Z J H2 fun b W=>if b=true then te J W fun v H4=>z (i+1) (ys++[v]) J H4 else z (i+1) ys J W)
  (hd:∀ ys σ H,z xs.length ys σ H->∀ D,H D=none->Q (.ref D) (upd H D (.lst ys))):nZ (Itl K a) g Z te Y H₀ Q:=
 qR xs.length z h0 hn B (fun i ys σ H h p=>⟨xs,xs[i],O i ys σ H p,by simp[h]⟩) (fun ys σ H p=>⟨xs,O _ ys σ H p,Ak _⟩) (fun i ys σ H v H' hi p y=>by
  obtain⟨e,y⟩:=y;subst e;exact hs i v ys σ _ (y xs (O i ys σ _ p)) p) hd
theorem jH{K:Af}{a:Ah}{xs:List V}{g:TG}{Z:TT}{te:TE}{Y:St}{H₀:Hp}{Q:VK}(z:Nat->List V->St->Hp->Prop)(h0:z 0 [] Y H₀)(hn:xs.length<=sizeLine)(B:∀ i ys σ H,z i ys σ H->ys.length<=i)
  (O:∀ i ys σ H,z i ys σ H->SqT K H a xs)
  (hs:∀ i x ys σ H,xs[i]?=some x->z i ys σ H->g x σ H fun J H2=>Z J H2 fun b W=>if b=true then te J W fun v H4=>z (i+1) (ys++[v]) J H4 else z (i+1) ys J W)
  (hd:∀ ys σ H,z xs.length ys σ H->∀ D,H D=none->Q (.ref D) (upd H D (.lst ys))):nZ (Itt K a) g Z te Y H₀ Q:=
 qR xs.length z h0 hn B (fun i ys σ H h p=>⟨xs,xs[i],O i ys σ H p,by simp[h]⟩) (fun ys σ H p=>⟨xs,O _ ys σ H p,Ak _⟩) (fun i ys σ H v H' hi p y=>by
  obtain⟨e,y⟩:=y;subst e;exact hs i v ys σ _ (y xs (O i ys σ _ p)) p) hd
def bC(p:Ah)(H H':Hp):Prop:=∀ b o,H b=some o->b≠p->H' b=some o
theorem bC.refl(p:Ah)(H:Hp):bC p H H:=fun _ _ e _=>e
theorem bC.trans{p:Ah}{H H1 H2:Hp}(a:bC p H H1)(b:bC p H1 H2):bC p H H2:=fun c o e h=>b c o (a c o e h) h
theorem bC.same{p:Ah}{H H1 H2:Hp}(a:bC p H H1)(b:aV H1 H2):bC p H H2:=fun c o e h=>b c o (a c o e h)
theorem aV.but{p:Ah}{H H1:Hp}(a:aV H H1):bC p H H1:=fun c o e _=>a c o e
theorem bC.upd{p:Ah}{o:HO}{H H1:Hp}(a:bC p H H1):bC p H (upd H1 p o):=fun c u e h=>by rw[bD h];exact a c u e h
theorem aI{p:Ah}{o:HO}{H:Hp}(h:H p=none):aV H (upd H p o):=fun c u e=>by rw[bD (bG e h)];exact e
inductive aDY(t:TS)(D:nJ)(σ:St)(H:Hp):Prop
 | mk (R:St->Hp->Prop) (q0:t { D with nx:=R } σ H) (q1:∀ σ' H',R σ' H'->D.nx σ' H'):aDY t D σ H
def aJi(t:TS):TS:=fun D σ H=>aDY t D σ H
theorem gS{st:BQ}{t:TS}(h:PS X st t):PS X st (aJi t):=by
 constructor;intro dz s σ H D I q;obtain⟨R,q1,q2⟩:=q;refine thn (h dz s σ H _ I q1) fun f s' z=>?_;cases f with
 | next=>obtain⟨σ',H',I',r⟩:=z;exact⟨σ',H',I',q2 _ _ r⟩
 | brk=>exact z
 | cont=>exact z
 | ret u=>exact z
inductive aBL(t:TT)(σ:St)(H:Hp)(Q:(Bool->Hp->Prop)):Prop
 | mk (R:Bool->Hp->Prop) (q0:t σ H R) (q1:∀ b H',R b H'->Q b H'):aBL t σ H Q
def aIs(t:TT):TT:=fun σ H Q=>aBL t σ H Q
theorem xO{e:Bb}{t:TT}(h:PT X e t):PT X e (aIs t):=by
 constructor;intro dz s σ H Q I q;obtain⟨R,q1,q2⟩:=q;exact thn (h dz s σ H _ I q1) fun b s' ⟨H',B,z⟩=>⟨H',B,q2 _ _ z⟩
theorem v4:∀ ns:List Int,(ns.map V.int).all g9=true
 | []=>rfl
 | _::r=>v4 r
theorem tN{K:Af}{T U:String}{b:Bool}(hn:(AW T==AW U)=false)(hm:PySem.W.kitMeta U=true)(z:(PySem.fastBuiltinMro T).map (·.contains (AW U))=some b):Bu K (.type T) (.type U)=some b:=by
 unfold Bu;rw[Ia (by rw[hn];exact AG)];show(if PySem.W.kitMeta U=true then PySem.W.subIn K (AW T) (AW U) else none)=_;rw[Ib hm];exact z
theorem kK{K:Af}{T:String}:Bu K (.type T) (.type T)=some true:=by
 unfold Bu;rw[Ib (by rw[beq_self_eq_true])]
theorem pF{xs:List V}{i:Int}(B:0<=i)(h1:i<xs.length):∃ v,v∈xs/\atI xs i=some v:=by
 have z:i.toNat<xs.length:=by omega
 refine⟨xs[i.toNat],BM z,?_⟩;have e:=cB (xs:=xs) (j:=i.toNat) (v:=xs[i.toNat]) (Ag z);rw[Int.toNat_of_nonneg B]at e;exact e
def aDZ:Bb->Bool
 | .Starred ..=>false
 | _=>true
theorem aCP{e:Bb}{es:List Bb}{env:Env}(h:aDZ e=true):starEach (e::es) env=(false,eval e env)::starEach es env:=by
 cases e<;>first|rfl|cases h
theorem aD{X:Cx}{e:Bb}{es:List Bb}{te:TE}{t:TA}(ha:PE X e te)(B:PA X es t)(z:aDZ e=true:=by rfl):PA X (e::es) (aGA te t):=gF ha B (aCP z)
structure ZA(z TI TO i1 i2:Ah):Prop where
 a1:TI≠z
 a2:TO≠z
 a3:i1≠z
 a4:i2≠z
 a5:TI≠TO
 a6:TI≠i1
 a7:TI≠i2
 a8:TO≠i1
 a9:TO≠i2
 a10:i1≠i2
def jI(σ:List Str)(v:Str):List Str:=if v∈σ then σ else σ++[v]
def gT(val:Nat->Str):Nat->List Str
 | 0=>[]
 | i+1=>jI (gT val i) (val i)
theorem oB(σ:List Str)(k:Str):(σ.any fun x=>x==k)=decide (k∈σ):=by
 rw[BY,Eu,decide_eq_true_iff];constructor
 .rintro⟨x,hx,e⟩;rw[beq_iff_eq]at e;exact e▸hx
 .intro h;exact⟨k,h,beq_self_eq_true k⟩
theorem aCQ(σ:List Str)(v k:Str):((jI σ v).any fun x=>x==k)=((σ.any fun x=>x==k)||decide (k=v)):=by
 rw[oB,oB];unfold jI;split
 .next h=>
  rw[BY];simp only[decide_eq_true_eq,Ft];constructor
  .intro z;exact .inl z
  .rintro(z|z)
   .exact z
   .exact z▸h
 .rw[BY];simp
theorem jW(σ:List Str)(v:Str):(jI σ v).length=if (σ.any fun x=>x==v)=true then σ.length else σ.length+1:=by
 rw[oB];unfold jI;by_cases h:v∈σ
 .rw[Ib h,Ib (Ic h)]
 .rw[Ia h,Ia (by simpa using h),Al];rfl
theorem qS(val:Nat->Str):∀ i,(gT val i).length<=i
 | 0=>Ak _
 | i+1=>by
  have z:=qS val i;show(jI _ _).length<=_;rw[jW];split<;>omega
theorem tO(val:Nat->Str):∀ i k,k∈gT val i↔∃ j,j<i/\val j=k
 | 0,k=>by
  show k∈[]↔_;simp
 | i+1,k=>by
  show k∈jI (gT val i) (val i)↔_;have B:=tO val i;unfold jI;by_cases h:val i∈gT val i
  .rw[Ib h,B k];constructor
   .rintro⟨j,hj,e⟩;exact⟨j,by omega,e⟩
   .rintro⟨j,hj,e⟩;by_cases z:j=i
    .subst z;obtain⟨j',hj',e'⟩:=(B _).mp h;exact⟨j',hj',e'.trans e⟩
    .exact⟨j,by omega,e⟩
  .rw[Ia h,Bo,B k,A7];constructor
   .rintro(⟨j,hj,e⟩|e)
    .exact⟨j,by omega,e⟩
    .exact⟨i,by omega,e.symm⟩
   .rintro⟨j,hj,e⟩;by_cases z:j=i
    .subst z;exact .inr e.symm
    .exact .inl ⟨j,by omega,e⟩
theorem v5(val:Nat->Str):∀ i,(gT val i).length=i↔((AU i).map val).Nodup
 | 0=>by simp[gT]
 | i+1=>by
  have D:=v5 val i;have J:=qS val i;show(jI (gT val i) (val i)).length=_↔_;rw[jW,oB,Fq,A0,Ej];have hm:val i∈gT val i↔val i∈(AU i).map val:=by
   rw[tO,Bk];constructor
   .rintro⟨j,hj,e⟩;exact⟨j,Cf.mpr hj,e⟩
   .rintro⟨j,hj,e⟩;exact⟨j,Cf.mp hj,e⟩
  by_cases h:val i∈gT val i
  .rw[Ib (Ic h)];constructor
   .intro z;omega
   .rintro⟨_,_,z⟩;exact absurd rfl (z _ (hm.mp h) _ (by simp))
  .rw[Ia (by simpa using h)];constructor
   .intro z;refine⟨D.mp (by omega),by simp,fun a ha b O e=>?_⟩;have B:b=val i:=by simpa using O
    subst B;exact h (hm.mpr (e▸ha))
   .rintro⟨z,_,_⟩;rw[D.mpr z]
theorem aCR(z:List Str):decide (((gT (fun i=>z.getD i "") z.length).length:Int)=(z.length:Int))=decide z.Nodup:=by
 have e:(AU z.length).map (fun i=>z.getD i "")=z:=by
  apply El;intro j;rw[Bs];by_cases h:j<z.length
  .rw[List.getElem?_range h,Ag h];simp[h]
  .rw[BN (by rw[C2];omega),BN (by omega)];rfl
 have:=v5 (fun i=>z.getD i "") z.length;rw[e]at this;rw[decide_eq_decide,<- this];omega
inductive zF(K:Af)(x:V)(y:V)(H:Hp)(Q:VK):Prop
 | mk (a:_) (b:_) (ys:_) (q0:x=.ref a) (q1:y=.ref b) (q2:SqT K H a []) (q3:SqT K H b ys) (q4:Q (.ref b) H):zF K x y H Q
def aHm(K:Af):R2:=fun x y H Q=>zF K x y H Q
theorem aD0:OpR X (binaryOp .Add) (aHm X.K):=by
 intro dz s σ H x y v u Q I z B h;obtain⟨a,b,ys,rfl,rfl,ha,hb,q⟩:=h;cases z;cases B;obtain⟨its,r1,p1,_⟩:=I.tuple ha;obtain⟨its2,r2,p2,_⟩:=I.tuple hb;cases r1;obtain⟨⟨cls,dd,data,sl⟩,ho,hc,n,hd⟩:=id p1;obtain⟨⟨cls2,dd2,data2,sl2⟩,ho2,hc2,n2,hd2⟩:=id p2;simp only at hc hd hc2 hd2;subst hc hd hc2 hd2;exact Gw ⟨_,ho,rfl⟩ ⟨_,ho2,rfl⟩ FF Gj Es Eh (Eb _ _)
   (tuple_addW0 a b _ _ n n2 dd dd2 sl sl2 (by simp)) ⟨ho,ho2,⟨.ref b,H,I,rfl,q⟩⟩
theorem pG{z:Ah}{t:Tok}{n:Nat}{Q:Int×Int×Nat->Ac->Prop}(B:s.heap.IsSliceOf z .none .none (.int (-1) t))
  (h:Q ((n:Int)-1,-1,n) s):wpAny (model prog w) A (CO (.ref z) (pure (n:Int))) Q E s:=by
 obtain⟨os,hos,hcs,hds⟩:=id B;unfold CO Builtin.Slice.sliceFields;refine Aa (Aa (EA hos hds (x:=.none) rfl (Aa (EA hos hds (x:=.none) rfl (Aa (EA hos hds (x:=.int (-1) t) rfl (Ad ?_)))))));refine Aa (slicePart_int ?_);show wpAny _ _ (if ((-1:Int)==0)=true then _ else _) _ _ s;rw[Ia (by decide)];refine Aa (E9 (Aa (E9 (Aa (Ad ?_)))));show wpAny _ _ (match B1 none none (-1) (n:Int)with|(lo,hi)=>pure (lo,(-1:Int),BB lo hi (-1))) _ _ s;have e:B1 none none (-1) (n:Int)=((n:Int)-1,-1):=by
  unfold B1;simp
 rw[e];show wpAny _ _ (pure ((n:Int)-1,(-1:Int),BB ((n:Int)-1) (-1) (-1))) _ _ s;have D:BB ((n:Int)-1) (-1) (-1)=n:=by
  unfold BB;have h1:¬ ((-1:Int)>0):=by omega
  simp only[h1,if_false,Int.neg_neg,Int.ediv_one];split<;>omega
 rw[D];exact Ad h
theorem aD1(l:List Ab):((AU l.length).filterMap fun(m:Nat)=>l.toArray[((l.length:Int)-1+(m:Int)*(-1)).toNat]?).toArray=l.reverse.toArray:=by
 congr 1;have e:∀ k,k<=l.length->((AU k).filterMap fun(m:Nat)=>l.toArray[((l.length:Int)-1+(m:Int)*(-1)).toNat]?)=l.reverse.take k:=by
  intro k
  induction k with
  | zero=>intro _;simp
  | succ k B=>
   intro O;rw[Fq,List.filterMap_append,B (by omega),Be];congr 1;have z:((l.length:Int)-1+(k:Int)*(-1)).toNat=l.length-1-k:=by omega
   have h1:l.length-1-k<l.length:=by omega
   rw[Dg,z];have J:l.toArray[l.length-1-k]?=some (l[l.length-1-k]):=by simp[h1]
   have D:l.reverse[k]?=some (l[l.length-1-k]):=by
    rw[List.getElem?_reverse (by omega),Ag h1]
   rw[J,D];rfl
 rw[e l.length (Ak _)];rw[<- B8,B0]
theorem oC{t J:Ah}{its:List Ab}{tk:Tok}{Q:Ab->Ac->Prop}(ht:Ef s.heap t its.toArray)(O:s.heap.IsSliceOf J .none .none (.int (-1) tk))
  (h:Q (.ref s.heap.objs.size) { s with heap:=s.heap.push { cls:=.type "tuple",data:=.seq its.reverse.toArray } })
  (hsz:its.length<=sizeLine):wpAny (model prog w) A (getItem (.ref t) (.ref J)) Q E s:=by
 have z:sizeOk (.seq its.reverse.toArray):=by
  show its.reverse.toArray.size<=sizeLine;rw[Ao,B8];exact hsz
 obtain⟨os,hos,hcs,hds⟩:=id O;have B:s.TypeIs (.ref J) "slice":=⟨os,hos,hcs⟩
 unfold getItem
 try with_reducible refine Ba ?_
 first|refine Aa (Ad ?_)|skip
 refine Aa (Fu ht.typeIs (by decide) ?_);refine Aa (B2 (name:=AZ "__getitem__") ht.typeIs Bd
  (BI Bd ht.typeIs entry_tuple_getitem ?_ (Fo _ _)))
 show wpAny _ _ (DM (.ref t) >>= _) _ _ s;refine Aa (tupleItemsOf_ ht ?_);refine Aa (Cn B ?_);rw[Ib (by decide)];refine Aa (pG (n:=its.toArray.size) O ?_);have D:¬ ((((its.toArray.size:Nat):Int)-1==0&&(-1:Int)==1&&its.toArray.size==its.toArray.size)=true):=by
  intro q;rw[Av,Av]at q;exact absurd q.1.2 (by decide)
 show wpAny _ _ (if (((its.toArray.size:Nat):Int)-1==0&&(-1:Int)==1&&its.toArray.size==its.toArray.size)=true then _ else _) _ _ s;rw[Ia D];have ep:=aD1 its;rw[Ao];rw[ep]
 first
  | exact Aa (m:=A9 _) (A6 (Ad ⟨_,rfl,Ad h⟩) z)
  | exact Aa (m:=A9 _) (A6 (Aa (Ad (Ad ⟨_,rfl,Ad h⟩))) z)
  | exact Aa (Aa (m:=A9 _) (A6 (Ad (Ad ⟨_,rfl,Ad h⟩)) z))
  | exact Aa (Aa (m:=A9 _) (A6 (Ad ⟨_,rfl,Ad h⟩) z))
section
variable{st:Bb}{ts:TE}{p2:Pos}
def aJj(K:Af)(te ts:TE):TE:=fun σ H Q=>te σ H fun x H1=>ts σ H1 fun y H2=>∃ a xs,y=.int (-1)/\x=.ref a/\SqT K H2 a xs/\∀ p,H2 p=none->Q (.ref p) (upd H2 p (.tup xs.reverse))
theorem aAX(he:PE X e te)(D:PE X st ts):PE X (.Subscript e (.Slice none none (some st) p2) pos) (aJj X.K te ts):=by
 constructor;intro dz s σ H Q I h;refine F1 (thn (he dz s σ H _ I h) fun v Z ⟨x,H1,I1,J,Y⟩=>?_);refine wpAny_Slice ?_;rw[Gk];refine Ad (Ad ?_);rw[evalPart_some];refine thn (D dz Z σ H1 _ I1 Y) fun u z ⟨y,H2,O,r2,W⟩=>?_;obtain⟨a,xs,rfl,rfl,hx,q⟩:=W;obtain⟨t,rfl⟩:=r2;cases J;have B:Inv X dz σ H2 { z with heap:=z.heap.push { cls:=.type "slice",data:=.fields #[.none,.none,.int (-1) t] } }:=O.kept (t':=z.toks) fun b ob q=>Ai _ q;obtain⟨its,r,ht,hz⟩:=B.tuple hx;have hl:=r.length;refine tail_any (ops:=[.ref a,.ref z.heap.objs.size]) ht.typeIs Bd.lookup ?_ (by with_unfolding_all rfl);refine oC ht (Heap.IsSliceOf.new ..) ?_ (by omega);refine⟨.ref _,_,B.laid (t':=z.toks) (o:=.tup xs.reverse) (fun b ob q=>Ai _ q) (Ak _) ?_,rfl,q _ (B.hok.fresh (Ak _))⟩;exact⟨by rw[B8];exact hz,_,r.reverse,⟨_,Aw _ rfl,⟨rfl,_,rfl⟩,rfl⟩⟩
end
theorem aIt(a:Int)(t:Tok)(l:Ah)(aP:Array Ab)(n:Nat)(dd:Option Ah)(z:Array (Option Ab)):
 Meets (Builtin.«int.__rmul__» { pos:=[Cm a t,AI l] }) fun x R s=>
  s.heap.get? l=some { cls:=AW "tuple",dict:=dd,data:=Ex aP n,slots:=z }/\
   R (Except.ok (Flow.ret Value.notImplemented)) s:=by
 intro prog w A R s ⟨B,h⟩;unfold Builtin.«int.__rmul__» Builtin.Int.intBinary
 wp_walk
 exact h
theorem pH:fillsNumberSlot (AW "tuple") "mul"=pure false:=PySem.fillsNumberSlot_seq FA.lookup (by decide) F.slot_tuple_rmul.lookup (by decide)
theorem xP:seqRepeat? (AW "tuple")=pure (some (DN "tuple.__mul__")):=by
 unfold seqRepeat?;rw[PySem.seqSlot_of (name:=AZ "__mul__") FA.lookup (by decide),PySem.seqSlot_of (name:=AZ "__rmul__") F.slot_tuple_rmul.lookup (by decide)];rfl
theorem aJk{prog:Ar}{w:AQ}{A:AJ}{E:Ab->Ac->Prop}{s:Ac}{l:Ah}{its:List Ab}{k:Int}{t:Tok}{Q:Ab->Ac->Prop}(ht:Ef s.heap l its.toArray)(W:its≠[])(hk:1<k)(O:k<1000)(hz:its.length*k.toNat<=1000000)
  (h:Q (.ref s.heap.objs.size) { s with heap:=s.heap.push { cls:=.type "tuple",data:=.seq (Bm k.toNat its).flatten.toArray } }):
  wpAny (model prog w) A (call (DN "tuple.__mul__") [AI l,Cm k t]) Q E s:=by
 refine BI FA ht.typeIs F.entry_tuple_mul ?_ (F.args_tuple_mul_2 _ _);show wpAny _ _ (asIndex (Cm k t) >>= _) _ _ _;refine Aa (Aa (Ad (Ad ?_)));dsimp only;have B:its.toArray.size=its.length:=Ao;have J:(its.toArray.size:Int)*k<=1000000:=by
  rw[B];have:k=(k.toNat:Int):=by omega
  rw[this,<- Int.natCast_mul];omega
 have D:its.toArray.isEmpty=false:=by simpa using W
 refine Ay (by
  rw[decide_eq_false_iff_not];simp only[Ft,decide_eq_true_eq,not_or];omega) ?_
 refine Aa (tupleItemsOf_ ht ?_);refine Ay (by
  rw[decide_eq_false_iff_not,D];simp only[Bool.false_or,beq_iff_eq];omega) ?_
 refine Ay (by
  rw[decide_eq_false_iff_not,D];simp only[Bool.or_false,decide_eq_true_eq];omega) ?_
 refine Ay (by
  rw[decide_eq_false_iff_not];omega) ?_
 refine Ay (by
  rw[decide_eq_false_iff_not];unfold Builtin.Tuple.tupleTooMany;rw[decide_eq_true_eq,show(sizeLine:Int)=16777216 from rfl];omega) ?_
 have Z:Gq (fun x1 Y=>x1++Y) #[] (Bm k.toNat its.toArray)=(Bm k.toNat its).flatten.toArray:=by
  have:=vS its k.toNat [];rw[List.nil_append]at this;exact this
 rw[Z];have z:sizeOk (.seq (Bm k.toNat its).flatten.toArray):=by
  show(Bm k.toNat its).flatten.toArray.size<=sizeLine;rw[Ao,aBH];exact aH (by rw[Nat.mul_comm];exact hz)
 first
  | exact Aa (m:=A9 _) (A6 (Ad ⟨_,rfl,h⟩) z)
  | exact Aa (m:=A9 _) (A6 (Aa (Ad (Ad ⟨_,rfl,h⟩))) z)
  | exact Aa (Aa (m:=A9 _) (A6 (Ad (Ad ⟨_,rfl,h⟩)) z))
  | exact Aa (Aa (m:=A9 _) (A6 (Ad ⟨_,rfl,h⟩) z))
inductive aBM(K:Af)(x:V)(y:V)(H:Hp)(Q:VK):Prop
 | mk (l:_) (k:_) (xs:_) (q0:x=.ref l) (q1:y=.int k) (q2:SqT K H l xs) (q3:xs≠[]) (q4:1<k) (q5:k<1000) (q6:xs.length*k.toNat<=1000000) (q7:∀ p,H p=none->Q (.ref p) (upd H p (.tup (Bm k.toNat xs).flatten))):aBM K x y H Q
def aIu(K:Af):R2:=fun x y H Q=>aBM K x y H Q
theorem aFz:OpR X (binaryOp .Mult) (aIu X.K):=by
 intro dz s σ H x y v u Q I B J h;obtain⟨l,k,xs,rfl,rfl,hx,h0,h1,h2,hz,q⟩:=h;cases B;obtain⟨t,rfl⟩:=J;obtain⟨its,r,ht,hzz⟩:=I.tuple hx;have D:=r.length;obtain⟨⟨cls,dd,data,sl⟩,ho,hc,n,hd⟩:=id ht;simp only at hc hd;subst hc hd;refine wpAny_binaryOp_repeat_ref (T:="tuple") (U:="int") (by decide) ⟨_,ho,rfl⟩ (fun s'=>typeIs_int s' k t) pH F.fills_int_mul F.slot_int_rmul xP F.slot_int_index.lookup
  (Fn F.slot_int_rmul (typeIs_int s k t) F.entry_int_rmul (F.args_int_rmul_2 _ _) (aIt k t l _ n dd sl) ⟨ho,rfl,⟨_,ho,rfl⟩,aJk ht (fun z=>h0 (by rw[z]at r;cases r;rfl)) h1 h2 (by rw[<- D];exact hz) ?_⟩)
 refine⟨.ref _,_,I.laid (t':=s.toks) (o:=.tup (Bm k.toNat xs).flatten) (fun b ob q=>Ai _ q) (Ak _) ?_,rfl,q _ (I.hok.fresh (Ak _))⟩;exact⟨aH (by rw[aBH,Nat.mul_comm];exact hz),_,r.rep k.toNat,⟨_,Aw _ rfl,⟨rfl,_,rfl⟩,rfl⟩⟩
def diK(ks:List (Str×Int)):List (Key×V):=ks.map fun p=>(AL p.1,V.int p.2)
def diD(ks:List (Str×Int)):List (Aj×Aj):=ks.map fun p=>(By p.1,PyData.int p.2)
theorem aHn{ks:List (Str×Int)}{k:Key}{b:Ah}{r:List (Key×V)}(h:HO.dK (diK ks)=.dK ((k,V.ref b)::r)):False:=by
 cases ks with
 | nil=>cases h
 | cons p ks=>cases h
mutual
inductive RdV(m:Bool)(H:Hp):V->Aj->Prop
 | non:RdV m H .non .none
 | bl (b:Bool):RdV m H (.bl b) (.bool b)
 | int (i:Int):RdV m H (.int i) (.int i)
 | str (z:Str) (h:z.length<=1000):RdV m H (.str z) (.str z)
 | lst {a:Ah} {xs:List V} {ds:List Aj} (hm:m=true/\a≠sysModules) (e:H a=some (.lst xs)) (hl:xs.length<=1000) (r:c9 m H xs ds):RdV m H (.ref a) (.list ds)
 | tup {a:Ah} {xs:List V} {ds:List Aj} (e:H a=some (.tup xs)) (hl:xs.length<=1000) (r:c9 m H xs ds):RdV m H (.ref a) (.tuple ds)
 | dct {a:Ah} {ks:List (Str×Int)} (hl:ks.length<=1000) (e:H a=some (.dK (diK ks))):RdV m H (.ref a) (.dict (diD ks))
inductive c9(m:Bool)(H:Hp):List V->List Aj->Prop
 | nil:c9 m H [] []
 | cons {x:V} {d:Aj} {xs:List V} {ds:List Aj} (a:RdV m H x d) (r:c9 m H xs ds):c9 m H (x::xs) (d::ds)
end
mutual
theorem RdV.keep{m:Bool}{H H':Hp}(k:∀ a o,H a=some o->(∀ b r,o≠.dK ((AL "cells",V.ref b)::r))->H' a=some o):∀{x:V}{d:Aj},RdV m H x d->RdV m H' x d
 | _,_,.non=>.non
 | _,_,.bl b=>.bl b
 | _,_,.int i=>.int i
 | _,_,.str z h=>.str z h
 | _,_,.lst hm e B r=>.lst hm (k _ _ e (fun _ _ z=>nomatch z)) B (c9.keep k r)
 | _,_,.tup e B r=>.tup (k _ _ e (fun _ _ z=>nomatch z)) B (c9.keep k r)
 | _,_,.dct hm e=>.dct hm (k _ _ e fun _ _ z=>aHn z)
theorem c9.keep{m:Bool}{H H':Hp}(k:∀ a o,H a=some o->(∀ b r,o≠.dK ((AL "cells",V.ref b)::r))->H' a=some o):∀{xs:List V}{ds:List Aj},c9 m H xs ds->c9 m H' xs ds
 | _,_,.nil=>.nil
 | _,_,.cons a r=>.cons (RdV.keep k a) (c9.keep k r)
end
theorem RdV.same{m:Bool}{H H':Hp}{x:V}{d:Aj}(h:RdV m H x d)(s:aV H H'):RdV m H' x d:=h.keep fun a o e _=>s a o e
theorem c9.same{m:Bool}{H H':Hp}{x:List V}{d:List Aj}(h:c9 m H x d)(s:aV H H'):c9 m H' x d:=h.keep fun a o e _=>s a o e
theorem c9.len{m:Bool}{H:Hp}:∀{xs:List V}{ds:List Aj},c9 m H xs ds->xs.length=ds.length
 | _,_,.nil=>rfl
 | _,_,.cons _ r=>by rw[Ax,Ax,c9.len r]
theorem c9.app{m:Bool}{H:Hp}:∀{xs:List V}{ds:List Aj}{ys:List V}{es:List Aj},c9 m H xs ds->c9 m H ys es->c9 m H (xs++ys) (ds++es)
 | _,_,_,_,.nil,h=>h
 | _,_,_,_,.cons a r,h=>.cons a (c9.app r h)
theorem c9.at{m:Bool}{H:Hp}:∀{xs:List V}{ds:List Aj}{i:Nat}{x:V},c9 m H xs ds->xs[i]?=some x->∃ d,ds[i]?=some d/\RdV m H x d
 | _,_,0,_,.cons a r,e=>by simp at e;subst e;exact⟨_,rfl,a⟩
 | _,_,i+1,_,.cons a r,e=>by simp at e;simpa using c9.at r e
theorem aGI{P:Ar}{w:AQ}(h:A8):∀{ks:List (Str×Int)}{vs:List (Key×Ab)}{es:List FM},KV (diK ks) vs->PySem.Pairs (dE P w) es vs->ReadsAll h (es.map (·.key)) ((diD ks).map (·.1)) []/\ReadsAll h (es.map (·.val)) ((diD ks).map (·.2)) []
 | [],_,_,B,hp=>by
  cases B;cases hp;exact⟨.nil,.nil⟩
 | (z,i)::ks,_,_,B,hp=>by
  cases B with
  | cons h1 B=>
  obtain⟨h1,h2⟩:=h1;cases hp with
  | cons D J O=>
  rw[<- h1]at D;rcases dW (k:=AL _) D with⟨j,t,y,_⟩|⟨z',t,y,ek⟩
  .cases y
  .cases y;rw[<- J]at h2;obtain⟨t',h2⟩:=h2;obtain⟨r1,r2⟩:=aGI h B O;rw[Bj,Bj,ek,h2];exact⟨.cons (as:=[]) (.str _ _) r1,.cons (as:=[]) (.int _ _) r2⟩
mutual
theorem RdV.reads{dz:List (Ah×Obj)}{σ:St}{m:Bool}{H:Hp}{s:Ac}(I:Inv X dz σ H s):∀{x:V}{d:Aj}{v:Ab},RdV m H x d->cW x v->∃ as,Reads s.heap v d as/\¬ sysModules∈as
 | _,_,_,.non,r=>by cases r;exact⟨[],.none,by simp⟩
 | _,_,_,.bl b,r=>by cases r;exact⟨[],.bool b,by simp⟩
 | _,_,_,.int i,r=>by obtain⟨t,rfl⟩:=r;exact⟨[],.int i t,by simp⟩
 | _,_,_,.str z _,r=>by obtain⟨t,rfl⟩:=r;exact⟨[],.str z t,by simp⟩
 | _,_,_,.lst hm e _ B,r=>by
  cases r;obtain⟨_,its,n,rv,eo⟩:c7 X.prog X.w H s.heap _ (.lst _):=I.hok _ _ e;obtain⟨as,ra,h2⟩:=c9.reads I B rv;refine⟨_,.list eo rfl rfl (by simpa using ra),fun w=>?_⟩;rcases Am.mp w with w|w
  .exact hm.2 w.symm
  .exact h2 w
 | _,_,_,.tup e _ B,r=>by
  cases r;obtain⟨_,its,rv,pt⟩:c7 X.prog X.w H s.heap _ (.tup _):=I.hok _ _ e;obtain⟨as,ra,h2⟩:=c9.reads I B rv;obtain⟨o,eo,⟨hc,n,hd⟩,_⟩:=pt;exact⟨as,.tuple eo hc hd (by simpa using ra),h2⟩
 | _,_,_,.dct _ e,r=>by
  cases r;obtain⟨_,hs,vs,kv,o,es,ep,eo,hx,hd,hk,hp,_⟩:c7 X.prog X.w H s.heap _ (.dK (diK _)):=I.hok _ _ e;obtain⟨h1,h2⟩:=aGI s.heap kv hp;refine⟨_,Reads.dict (as:=[]) (bs:=[]) eo hx.1 hd h1 h2,fun w=>?_⟩;rcases Am.mp w with w|w
  .rw[<- w]at hs;simp at hs
  .cases w
theorem c9.reads{dz:List (Ah×Obj)}{σ:St}{m:Bool}{H:Hp}{s:Ac}(I:Inv X dz σ H s):∀{xs:List V}{ds:List Aj}{vs:List Ab},c9 m H xs ds->cJ xs vs->∃ as,ReadsAll s.heap vs ds as/\¬ sysModules∈as
 | _,_,_,.nil,.nil=>⟨[],.nil,by simp⟩
 | _,_,_,.cons a r,.cons z B=>by
  obtain⟨as,h1,h3⟩:=RdV.reads I a z;obtain⟨bs,g1,g3⟩:=c9.reads I r B;refine⟨as++bs,.cons h1 g1,fun w=>?_⟩;rcases Bo.mp w with w|w
  .exact h3 w
  .exact g3 w
end
inductive l0(xs:List V)(H:Hp)(Q:VK):Prop
 | mk (a:Ah) (m:Bool) (d:Aj) (q0:xs=[.ref a]) (q1:RdV m H (.ref a) d) (q2:d.showable=true) (q3:d.depth<=20) (q4:d.shown.length<=sizeLine) (q5:Q (.str d.shown) H):l0 xs H Q
def zG:List V->Hp->VK->Prop:=fun xs H Q=>l0 xs H Q
theorem pI{k:Nat}(z:cY k X.A):eU X (.builtin "repr") zG:=by
 intro dz s σ H xs D Q I r h;obtain⟨a,m,d,rfl,hx,hs,hd,hz,q⟩:=h;obtain⟨u,rfl,ru⟩:=fY r;cases ru;obtain⟨as,hrd,h2⟩:=RdV.reads I hx rfl;exact repr_of_reads' hrd hs (fun _=>h2) z.gd (by have:=z.un;omega) (fun b o e=>e) (fun h' u tk B=>⟨.str d.shown,H,I.kept (t':=tk) B,⟨u,rfl⟩,q⟩) hz
theorem oD{t D:Ah}{aP:Array Ab}{O W:Ab}{lo hi:Option Int}{Q:Ab->Ac->Prop}(ht:Ef s.heap t aP)(J:s.heap.IsSliceOf D O W .none)(pl:ES O lo)(Y:ES W hi)
  (hw:HT.sIx aP.size 0 lo=0/\HT.sIx aP.size aP.size hi=aP.size) (h:Q (.ref t) s):wpAny (model prog w) A (getItem (.ref t) (.ref D)) Q E s:=by
 obtain⟨os,hos,hcs,hds⟩:=id J;have B:s.TypeIs (.ref D) "slice":=⟨os,hos,hcs⟩
 unfold getItem
 try with_reducible refine Ba ?_
 first|refine Aa (Ad ?_)|skip
 refine Aa (Fu ht.typeIs (by decide) ?_);refine Aa (B2 (name:=AZ "__getitem__") ht.typeIs Bd
  (BI Bd ht.typeIs entry_tuple_getitem ?_ (Fo _ _)))
 show wpAny _ _ (DM (.ref t) >>= _) _ _ s;refine Aa (tupleItemsOf_ ht ?_);refine Aa (Cn B ?_);rw[Ib (by decide)];refine Aa (HT.sliceApplied_gen J pl Y ?_);have z:(((HT.sIx aP.size 0 lo:Nat):Int)==0&&(1:Int)==1&&(HT.sIx aP.size aP.size hi-HT.sIx aP.size 0 lo)==aP.size)=true:=by
  rw[hw.1,hw.2];simp
 show wpAny _ _ (if (((HT.sIx aP.size 0 lo:Nat):Int)==0&&(1:Int)==1&&(HT.sIx aP.size aP.size hi-HT.sIx aP.size 0 lo)==aP.size)=true then _ else _) _ _ s;rw[Ib z];obtain⟨⟨cls,dd,data,sl'⟩,ho,hc,n,hd⟩:=id ht;simp only at hc hd;subst hc hd
 wp_walk
 exact⟨_,rfl,Ad h⟩
inductive aD2(K:Af)(x:V)(lo:Option Int)(hi:Option Int)(H:Hp)(Q:VK):Prop
 | mk (a:_) (xs:_) (q0:x=.ref a) (q1:H a=some (.tup xs)) (q2:∀ r H',aV H H'->H' r=some (.tup (d8 xs lo hi))->Q (.ref r) H'):aD2 K x lo hi H Q
def aJl(K:Af):V->Option Int->Option Int->Hp->VK->Prop:=fun x lo hi H Q=>aD2 K x lo hi H Q
theorem cP:SlR X (aJl X.K):=by
 intro dz s σ H x v Y Z lo hi O Q I B D pl J h;obtain⟨a,xs,rfl,hx,q⟩:=h;by_cases hw:HT.sIx xs.length 0 lo=0/\HT.sIx xs.length xs.length hi=xs.length
 .cases B;obtain⟨its,r,ht,hz⟩:=I.tuple (aU hx);have z:its.toArray.size=xs.length:=by rw[Ao];exact r.length.symm
  refine⟨"tuple",_,Bd.lookup,ht.typeIs,oD ht D pl J (by rw[z];exact hw) ⟨.ref a,H,I,rfl,q a H (aV.refl H) ?_⟩⟩;have e:d8 xs lo hi=xs:=by
   unfold d8;rw[hw.1,hw.2,DB,F3,B0]
  rw[e];exact hx
 .exact aHb dz s σ H _ v Y Z lo hi O Q I B D pl J ⟨a,xs,rfl,aU hx,hw,fun p W=>q p _ (aI W) aF⟩
inductive aBN(x:V)(y:V)(H:Hp)(Q:VK):Prop
 | mk (a:_) (b:_) (xs:_) (ys:_) (q0:x=.ref a) (q1:y=.ref b) (q2:H a=some (.tup xs)) (q3:H b=some (.tup ys)) (q4:xs.length+ys.length<=1000000) (q5:∀ r H',aV H H'->H' r=some (.tup (xs++ys))->Q (.ref r) H'):aBN x y H Q
def aIv:R2:=fun x y H Q=>aBN x y H Q
theorem c5:OpR X (binaryOp .Add) aIv:=by
 intro dz s σ H x y v u Q I z D h;obtain⟨a,b,xs,ys,rfl,rfl,ha,hb,hz,q⟩:=h;by_cases B:xs=[]
 .subst B;exact aD0 dz s σ H _ _ v u Q I z D ⟨a,b,ys,rfl,rfl,aU ha,aU hb,q b H (aV.refl H) hb⟩
 .refine aFv dz s σ H _ _ v u Q I z D ⟨a,b,xs,ys,rfl,rfl,aU ha,aU hb,B,aH hz,fun h1=>?_,fun h1 p J=>q p _ (aI J) aF⟩;subst h1;exact q a H (aV.refl H) (by rw[CW];exact ha)
theorem mY{α:Type}(xs:List V)(n:Nat):d8 xs none (some (n:Int))=xs.take n:=by
 unfold d8;rw[HT.sIx_none,HT.sIx_nat,DB,F3];by_cases h:n<=xs.length
 .rw[Nat.min_eq_left h]
 .rw[Nat.min_eq_right (by omega),B0,AV (by omega)]
theorem kM{α:Type}(xs:List V)(n:Nat):d8 xs (some (n:Int)) none=xs.drop n:=by
 unfold d8;rw[HT.sIx_none,HT.sIx_nat];by_cases h:n<=xs.length
 .rw[Nat.min_eq_left h];exact AV (by rw[BE];exact Ak _)
 .rw[Nat.min_eq_right (by omega),DC (Ak _),DC (by omega),List.take_nil]
open PySem PySem.Spec PyProof.Rows PySem.W
def iM{α:Type}(n:Nat)(P:α->Prop):KasT α->Prop
 | .ret a=>P a
 | .ask i j k=>i<n/\j<n/\∀ b,iM n P (k b)
theorem iM.bind{α β:Type}{n:Nat}{P:α->Prop}{Q:β->Prop}{f:α->KasT β}:∀{t:KasT α},iM n P t->(∀ a,P a->iM n Q (f a))->iM n Q (t.bind f)
 | .ret a,h,g=>by rw[KasT.bind.eq_1];exact g a h
 | .ask i j k,h,g=>by
  rw[KasT.bind.eq_2];exact⟨h.1,h.2.1,fun b=>iM.bind (h.2.2 b) g⟩
def Pm(n:Nat)(p:Array Nat):Prop:=p.Perm (AU n).toArray
theorem Pm.lt{n:Nat}{p:Array Nat}(h:Pm n p)(hn:0<n)(i:Nat):p.getD i 0<n:=by
 by_cases hi:i<p.size
 .have hm:p[i]∈(AU n).toArray:=h.mem_iff.mp (Array.getElem_mem hi);have:p[i]<n:=by simpa using hm
  rw[Array.getD_eq_getD_getElem?,BL hi];exact this
 .rw[Array.getD_eq_getD_getElem?,Array.getElem?_eq_none (by omega)];exact hn
theorem Pm.rev{n:Nat}{p:Array Nat}(h:Pm n p)(i j:Nat):Pm n (kas_rev p i j):=(mirror_perm p i j _).trans h
theorem Pm.bub{n:Nat}{p:Array Nat}(h:Pm n p)(i j:Nat):Pm n (bubble p i j):=(bubble_perm p i j).trans h
section
variable{n:Nat}(hn:0<n)
include hn
theorem tP{p:Array Nat}(h:Pm n p):∀(f x:Nat),iM n (fun _=>True) (kas_asc p f x)
 | 0,x=>by rw[kas_asc.eq_1];trivial
 | f+1,x=>by
  rw[kas_asc.eq_2];refine⟨h.lt hn _,h.lt hn _,fun b=>?_⟩;cases b
  .exact tP h f (x+1)
  .exact trivial
theorem lN:∀(f:Nat) {p:Array Nat} (x y:Nat),Pm n p->iM n (fun r=>Pm n r.1) (kas_desc f p x y)
 | 0,p,x,y,h=>by rw[kas_desc.eq_1];exact h
 | f+1,p,x,y,h=>by
  rw[kas_desc.eq_2];refine⟨h.lt hn _,h.lt hn _,fun b=>?_⟩;cases b
  .refine⟨h.lt hn _,h.lt hn _,fun b=>?_⟩;cases b
   .exact lN f _ _ h
   .exact h
  .show iM n _ (if y>0 then _ else _);split
   .exact lN f _ _ (h.rev _ _)
   .exact lN f _ _ h
theorem mZ{p:Array Nat}(h:Pm n p)(k:Nat):∀(f x y:Nat),iM n (fun _=>True) (kas_place p k f x y)
 | 0,x,y=>by rw[kas_place.eq_1];trivial
 | f+1,x,y=>by
  rw[kas_place.eq_2];split
  .trivial
  .refine⟨h.lt hn _,h.lt hn _,fun b=>?_⟩;cases b
   .exact mZ h k f _ _
   .exact mZ h k f _ _
theorem zI:∀(f:Nat) {p:Array Nat} (x:Nat),Pm n p->iM n (Pm n) (kas_bin f p x)
 | 0,p,x,h=>by rw[kas_bin.eq_1];exact h
 | f+1,p,x,h=>by
  rw[kas_bin.eq_2];exact(mZ hn h x _ _ _).bind fun l _=>zI f _ (h.bub _ _)
theorem tQ{p:Array Nat}(h:Pm n p)(a b:Nat):iM n (fun r=>Pm n r.2) (kas_tail3 a b p):=by
 unfold kas_tail3;exact(tP hn (h.rev _ _) _ _).bind fun m _=>h.rev _ _
theorem mB{p:Array Nat}(h:Pm n p)(a b:Nat):iM n (fun r=>Pm n r.2) (kas_descPart a b p):=by
 unfold kas_descPart;refine(lN hn _ _ _ h).bind fun r z=>?_;split
 .exact tQ hn (z.rev _ _) _ _
 .exact tQ hn z _ _
theorem aAY{p:Array Nat}(h:Pm n p)(a:Nat):iM n (fun r=>Pm n r.2) (kas_count a p):=by
 unfold kas_count;refine(tP hn h _ _).bind fun m _=>?_;split
 .exact h
 .split
  .refine⟨h.lt hn _,h.lt hn _,fun b=>?_⟩;cases b
   .exact mB hn (h.rev _ _) _ _
   .exact h
  .exact mB hn h _ _
theorem v6:iM n (Pm n) (kas_sort n):=by
 unfold kas_sort;refine(aAY hn (C7 _) n).bind fun r z=>?_;split
 .exact zI hn _ _ z
 .exact z
end
theorem pJ{x:Ah}{its:Array Ab}{Q:Array Ab->Ac->Prop}(z:Ef s.heap x its)(h:Q its s):wpAny (model prog w) A (D9 (AI x)) Q E s:=by
 obtain⟨⟨cls,dd,data,sl⟩,ho,hc,n,hd⟩:=id z;simp only at hc hd;subst hc hd;unfold D9
 wp_walk
 exact h
inductive aD3(h:A8)(v:Ab):Prop
 | mk (t:_) (a:_) (b:_) (c:_) (u1:_) (u2:_) (u3:_) (q0:v=.ref t) (q1:Ef h t #[.int a u1,.int b u2,.str c u3]):aD3 h v
def aJK(h:A8)(v:Ab):Prop:=aD3 h v
theorem tR{α β:Type}{f:α->Sem β}{R:α->β->Prop}:∀(l:List α) {Q:List β->Ac->Prop},(∀ v∈l,∃ r,R v r/\∀ W:β->Ac->Prop,W r s->wpAny (model prog w) A (f v) W E s)->(∀ B:List β,B.length=l.length->(∀ r∈B,∃ v∈l,R v r)->Q B s)->wpAny (model prog w) A (List.mapM f l) Q E s
 | [],Q,_,q=>by
  rw[List.mapM_nil];exact Ad (q [] rfl fun r O=>by simp at O)
 | a::l,Q,h,q=>by
  rw[List.mapM_cons];obtain⟨r,O,hw⟩:=h a AM;refine Aa (hw _ (Aa (tR l (fun v D=>h v (AY _ D)) fun B Y J=>Ad (q (r::B) (by rw[Ax,Ax,Y]) fun z hz=>?_))));rcases Am.mp hz with rfl|hz
  .exact⟨a,AM,O⟩
  .obtain⟨v,D,hR⟩:=J z hz;exact⟨v,AY _ D,hR⟩
inductive aD4(H:Hp)(v:Ab):Prop
 | mk (t:_) (a:_) (b:_) (c:_) (q0:v=.ref t) (q1:H t=some (.tup [.int a,.int b,.str c])):aD4 H v
def aJL(H:Hp)(v:Ab):Prop:=aD4 H v
section
variable{ta:TA}
end
open PySem.SeqAt
open PySem.AutoSeq1 (wpAny_loadPart')
open PySem.MeetsSeq PySem.MeetsSeq2 PySem.MeetsSeq3
inductive aGJ(X:Cx)(k:Nat)(ps:List Str)(f:Ah)(sp:Sp):Prop
 | mk (fd:AC) (q0:cN X.prog X.w X.K X.mg X.base CX0 k f fd ps sp) (q1:Az X.K (.ref f)=true) (q2:dX X.K fd ps []):aGJ X k ps f sp
def FnV(X:Cx)(k:Nat)(ps:List Str)(f:Ah)(sp:Sp):Prop:=aGJ X k ps f sp
def aHo(X:Cx)(k:Nat)(ps:List Str)(tv:TE)(t:TA):TE:=fun σ H Q=>tv σ H fun v H1=>∃(f:Ah) (sp:Sp),v=.ref f/\FnV X k ps f sp/\t σ H1 fun vs H2=>sp vs H2 Q E0
theorem zJ{X:Cx}{k:Nat}{ps:List Str}{x:Str}{p pos:Pos}{e:Bb}{es:List Bb}{tv:TE}{t:TA}(J:PE X (.Name x p) tv)(O:cY k X.A)(ha:PA X (e::es) t)
  (Z:starEach (e::es) X.env=(false,eval e X.env)::starEach es X.env:=by rfl) (z:(backTo pos (starEach es X.env)).any (·.1)=false:=by rfl):
  PE X (.Call (.Name x p) (e::es) [] pos) (aHo X k ps tv t):=by
 constructor;intro dz s σ H Q I h;refine DG (thn (J dz s σ H _ I h) fun u Y ⟨y,H1,D,ry,f,sp,ey,⟨fd,F,hk,W⟩,h2⟩=>?_);subst ey;cases ry;refine EO (h₀:=X.base) D.ok.mod.kin hk (thn (ha pos dz Y σ H1 _ D h2) fun us s2 ⟨vs,H2,B,r,q⟩=>⟨B.kIn,?_⟩) Z z;exact aDC F O W .nil f6 B r (by rw[CW];exact q)
def aIw(fc:List (Key×V))(ty:TE):TE:=fun σ H Q=>ty σ H fun y H2=>∃ k v,y=kV k/\gQ fc k=some v/\Q v H2
theorem aFA{X:Cx}{i:Bb}{x:Str}{ty:TE}{a:Ah}{vs:List (Key×Ab)}{fc:List (Key×V)}{p pos:Pos}(hd:∀ h:A8,X.K.In h->h.DictOf (dE X.prog X.w) a vs)(rel:KV fc vs)(hg:Gl X x)(hm:X.mg x=some (.ref a))(hi:PE X i ty)(O:aHf i)(z:(x==("__debug__":Str))=false:=by decide):
  PE X (.Subscript (.Name x p) i pos) (aIw fc ty):=by
 constructor;intro dz s σ H Q I h;have ho:PE X (.Name x p) (tC (.ref a)):=cV hg hm rfl z;refine aBI PySem.F.slot_dict_getitem.lookup O (thn (ho dz s σ H (fun v H1=>v=.ref a/\ty σ H1 fun y H2=>∃ k v,y=kV k/\gQ fc k=some v/\Q v H2) I ⟨rfl,h⟩) fun u s1 ⟨x,H1,I1,J,ex,Y⟩=>thn (hi dz s1 σ H1 _ I1 Y) fun iv Z ⟨y,H2,D,ry,k,v,ey,l,W⟩=>?_);subst ex ey;obtain rfl:u=AI a:=J;have B:=hd Z.heap D.kIn;refine⟨?_,?_⟩
 .obtain⟨o,es,ep,e,hx,_⟩:=B;exact⟨o,e,hx.1⟩
 .obtain⟨w',hw,rw'⟩:=nE.some_of (v:=v) (o:=valueAt vs k) (by rw[<- l];exact rel.val k);exact wpAny_getItem_of (sQ ry) B.mapOf hw ⟨v,H2,D.tok _,rw',W⟩
theorem aCS{X:Cx}{a:Ah}{vs:List (Key×Ab)}{fc:List (Key×V)}(hd:∀ h:A8,X.K.In h->h.DictOf (dE X.prog X.w) a vs)(rel:KV fc vs)(hz:(a==sysModules)=false):OpR X (compareOp .NotIn) (fun x y H Q=>∃ k,x=kV k/\y=.ref a/\Q (.bl (!(gQ fc k).isSome)) H):=by
 intro dz s σ H x y v u Q I z B h;obtain⟨k,rfl,rfl,q⟩:=h;cases B;refine wpAny_notIn_of (sQ z) hz (hd _ I.kIn).mapOf ?_;rw[<- (rel.val k).isSome_eq];exact⟨.bl _,H,I.tok _,rfl,q⟩
section
variable{Q:Ab->Ac->Prop}{b:Bool}
theorem aAZ{x:V}{u t:Ab}{q:Ah}{Z n2:String}(I:Inv X dz σ H s)(B:cW x u)(ty:jA X.K H x t)(hq:H q=some (.tup [.ty Z,.ty n2]))(e:Dr X.K t [.type Z,.type n2]=some b)(h:∀ tk,Q (.bool b) { s with toks:=tk }):
  wpAny (model X.prog X.w) A (call (.builtin "isinstance") [u,.ref q]) Q E s:=by
 obtain⟨_,its,Y,hT⟩:c7 X.prog X.w H s.heap q (.tup [.ty Z,.ty n2]):=I.hok _ _ hq;obtain⟨⟨cls,dd,data,sl⟩,ho,hc,n,hd⟩:=hT.tup;simp only at hc hd;subst hc hd;have hi:its=[.type Z,.type n2]:=by
  cases Y with
  | cons r1 Y=>
   cases Y with
   | cons r2 Y=>
    cases Y;cases r1;cases r2;rfl
 subst hi;cases ty with
 | non=>cases(show u=CN from B);exact BV PySem.W.kitx_none I.kIn B4 ho e (fun z=>nomatch z) h
 | bl y=>cases(show u=Fx y from B);exact BV PySem.W.kitx_bool I.kIn B4 ho e (fun z=>nomatch z) h
 | int i=>obtain⟨t,q⟩:=(show∃ t,u=Cm i t from B);cases q;exact BV PySem.W.kitx_int I.kIn B4 ho e (fun z=>nomatch z) h
 | str y=>obtain⟨t,q⟩:=(show∃ t,u=BK y t from B);cases q;exact BV PySem.W.kitx_str I.kIn B4 ho e (fun z=>nomatch z) h
 | flt y=>obtain⟨t,q⟩:=(show∃ t,u=F0 y t from B);cases q;exact BV PySem.W.kitx_float I.kIn B4 ho e (fun z=>nomatch z) h
 | @lst a xs D=>
  cases(show u=AI a from B);obtain⟨_,_,n,_,h1⟩:=(show c7 X.prog X.w H s.heap a (.lst xs) from I.hok a _ D)
  exact BV D5 I.kIn ⟨_,h1,rfl⟩ ho e (fun z=>nomatch z) h
 | @frz a ob xs D=>
  cases(show u=AI a from B);obtain⟨_,_,_,n,_,h1⟩:=(show c7 X.prog X.w H s.heap a (.frz ob (.lst xs)) from I.hok a _ D)
  exact BV D5 I.kIn ⟨_,h1,rfl⟩ ho e (fun z=>nomatch z) h
 | @tup a xs D=>
  cases(show u=AI a from B);obtain⟨_,_,_,p⟩:=(show c7 X.prog X.w H s.heap a (.tup xs) from I.hok a _ D)
  obtain⟨o,h1,h2,_⟩:=p;exact BV PySem.W.kitx_tuple I.kIn ⟨o,h1,h2.1⟩ ho e (fun z=>nomatch z) h
 | @dK a fc D=>
  cases(show u=AI a from B);obtain⟨_,_,vs,_,p⟩:=(show c7 X.prog X.w H s.heap a (.dK fc) from I.hok a _ D)
  obtain⟨o,es,ep,h1,h2,_⟩:=p;exact BV D6 I.kIn ⟨o,h1,h2.1⟩ ho e (fun z=>nomatch z) h
 | @dT a fc D=>
  cases(show u=AI a from B);obtain⟨_,_,xs,_,o,es,ep,h1,h2,_⟩:=(show c7 X.prog X.w H s.heap a (.dT fc) from I.hok a _ D)
  exact BV D6 I.kIn ⟨o,h1,h2.1⟩ ho e (fun z=>nomatch z) h
 | @ins a C dx fs D cl ha hn ac hm=>
  cases(show u=AI a from B);obtain⟨mA,O,_⟩:=aBC I.hok D;obtain⟨od,J,_⟩:=O.look;exact BV (PySem.W.kitx_own (cl.get _) cl.hd ha hn ac hm) I.kIn J ho e (fun z=>nomatch z) h
inductive jJ(K:Af)(xs:List V)(H:Hp)(Q:VK):Prop
 | mk (x:_) (q:_) (n1:_) (n2:_) (t:_) (b:_) (q0:xs=[x,.ref q]) (q1:H q=some (.tup [.ty n1,.ty n2])) (q2:jA K H x t) (q3:Dr K t [.type n1,.type n2]=some b) (q4:Q (.bl b) H):jJ K xs H Q
def tT(K:Af):List V->Hp->VK->Prop:=fun xs H Q=>jJ K xs H Q
theorem fX:eU X (.builtin "isinstance") (tT X.K):=by
 intro dz s σ H xs z Q I r h;obtain⟨x,q0,n1,n2,t,b,rfl,hq,ty,e,q⟩:=h;obtain⟨u,w',rfl,r1,r2⟩:=aDB r;cases r2;exact aAZ I r1 ty hq e fun tk=>⟨.bl b,H,I.tok _,rfl,q⟩
end
theorem aD5{X:Cx}{K:Af}{o e:Bb}{es:List Bb}{to:TE}{t:TA}{name:Str}{fh fe:Pos}{T id:String}{r:V->List V->Hp->VK->Prop}(pa:PlainAttrs T)(slot:Slot T name id)(O:typeOf (.builtin id)=pure (.type "method_descriptor"))(hm:MtR X id r)(Z:PE X o to)(ha:PA X (e::es) t)(Y:X.K=K:=by rfl)
  (D:attributeBase o name X.env (eval o X.env)=eval o X.env:=by rfl)
  (J:((backTo fe (starEach (e::es) X.env)).all (fun x=>!x.1)&&(backToKw fe (keywordEach [] X.env)).all (fun x=>x.1.isSome)
   && decide ((e::es).length+([]:List Em).length+(if ([]:List Em).isEmpty then 0 else 1)<30))=true:=by rfl)
  (B:(fh.endLine==fe.line)=true:=by rfl) (W:starEach (e::es) X.env=(false,eval e X.env)::starEach es X.env:=by rfl) (z:(backTo fe (starEach es X.env)).any (·.1)=false:=by rfl):
  PE X (.Call (.Attribute o name fh) (e::es) [] fe) (tBM K T r to t):=by
 subst Y;exact vQ pa slot O hm Z ha D J B W z
theorem m5:∀{z:List Str}{B:List Ab},cJ (z.map V.str) B->FU B z
 | [],_,r=>by rw[Dz]at r;cases r;exact .nil
 | s::z,_,r=>by
  rw[Bj]at r;cases r with
  | cons J D=>
   obtain⟨t,e⟩:=J;subst e;exact .cons s t (m5 D)
theorem iD:∀{z:List Ab}{ns:List Str},FU z ns->cJ (ns.map V.str) z
 | _,_,.nil=>.nil
 | _,_,.cons i t r=>.cons ⟨t,rfl⟩ (iD r)
inductive jK(K:Af)(xs:List V)(H:Hp)(Q:VK):Prop
 | mk (p:Ah) (ns:List Str) (q0:xs=[.ref p]) (q1:SqL K H p (ns.map V.str)) (q2:ns.length<64) (q3:∀(l:Ah) (ms:List Str),H l=none->ms.Perm ns->sortedS ms=true->Q (.ref l) (upd H l (.lst (ms.map V.str)))):jK K xs H Q
def tU(K:Af):List V->Hp->VK->Prop:=fun xs H Q=>jK K xs H Q
theorem oE{X:Cx}:eU X (.builtin "sorted") (tU X.K):=by
 intro dz s σ H xs us Q I r h;obtain⟨p,ns,rfl,hx,h64,q⟩:=h;obtain⟨u,rfl,ru⟩:=fY r;cases ru;obtain⟨its,rv,pl,_⟩:=I.list hx;have hi:FU its ns:=m5 rv;have z:=rv.length;rw[Ae]at z;refine sorted_strs pl.isList hi (by omega) fun out B Z D J=>?_;have Y:∀ b o,s.heap.get? b=some o->(sortedAll s.heap its out).get? b=some o:=fun b o e=>sortedAll_old e;obtain⟨e,he⟩:=sortedAll_at s.heap its out;have hn:H (s.heap.objs.size+1)=none:=I.hok.fresh (C6 _);have W:=D.length_eq;have O:cJ (B.map V.str) out.toList:=iD Z;refine⟨.ref (s.heap.objs.size+1),_,I.laid (t':=s.toks) (o:=.lst (B.map V.str)) Y (C6 _) ⟨aH (by rw[Ae];omega),out.toList,e,O,by rw[he]<;>rfl⟩,rfl,q _ B hn D J⟩
def tV(w:AQ)(es:Array (Int×Ab))(t:CS):Prop:=t.led=!w.params.followText "set-order"/\(es.size=0\/t.plain=false)
def i6(prog:Ar)(w:AQ)(h:A8)(a:Ah)(S:Str->Bool)(n:Nat):Prop:=
 ∃ o es ep t,h.get? a=some o/\o.ExactSet/\o.data=.set es ep t/\ElemsOf (BF prog w) es.toList/\(∀ k,S k=true↔∃ e∈es.toList,(BF prog w).is k e.2=true)
  /\es.size<scanBound/\t.fits es.size=true/\es.size=n/\tV w es t
theorem i6.at{prog:Ar}{w:AQ}{h h':A8}{a:Ah}{S:Str->Bool}{n:Nat}(x:i6 prog w h a S n)(e:∀ o,h.get? a=some o->h'.get? a=some o):i6 prog w h' a S n:=by
 obtain⟨o,es,ep,t,h1,r⟩:=x;exact⟨o,es,ep,t,e o h1,r⟩
theorem i6.congr{prog:Ar}{w:AQ}{h:A8}{a:Ah}{S S':Str->Bool}{n z:Nat}(x:i6 prog w h a S n)(e:∀ k,S k=S' k)(D:n=z):i6 prog w h a S' z:=by
 have B:S=S':=funext e;subst B D;exact x
theorem vD(t:CS)(n:Nat):(t.orStandIn n).led=t.led:=by
 unfold SetTable.orStandIn;split<;>rfl
theorem aA0(t:CS)(es:Array (Int×Ab))(h:Int)(x:Ab):(layNew t es h x).2.1.led=t.led:=by
 unfold layNew;split
 .exact vD _ _
 .rfl
theorem vE(t:CS)(es:Array (Int×Ab))(n:Nat)(B:t.plain=false):(relayAll t es n).2.1.led=t.led/\(relayAll t es n).2.1.plain=false:=by
 unfold relayAll;split
 .next t' ord e=>
  dsimp only;split
  .dsimp only;unfold SetTable.relaid SetTable.laid at e;cases z:SetTable.layClean (SetTable.sizeAbove n-1) (es.map (·.1))with
   | none=>rw[z]at e;cases e
   | some D=>
    rw[z]at e;cases e;exact⟨rfl,B⟩
  .exact⟨rfl,rfl⟩
 .exact⟨rfl,rfl⟩
theorem i6.stored{prog:Ar}{w:AQ}{h:A8}{a:Ah}{o:Obj}{es:Array (Int×Ab)}{ep:Nat}{t:CS}(Z:h.get? a=some o)(J:o.ExactSet)(hd:o.data=.set es ep t)
  {z:Array (Int×Ab)} {t':CS} {S':Str->Bool} (D:ElemsOf (BF prog w) z.toList) (B:∀ k,S' k=true↔∃ e∈z.toList,(BF prog w).is k e.2=true) (O:z.size<scanBound) (W:t'.fits z.size=true) (Y:tV w z t'):
  (h.update a (Gz z t')).get? a=some { o with data:=.set z (ep+1) t' }/\i6 prog w (h.update a (Gz z t')) a S' z.size:=by
 obtain⟨hg,_⟩:=SetOf_store (knd:=BF prog w) (S':=S') Z J hd D B O W;exact⟨hg,_,z,ep+1,t',hg,J,rfl,D,B,O,W,rfl,Y⟩
theorem aIx{prog:Ar}{w:AQ}{A:AJ}{E:Ab->Ac->Prop}{s:Ac}{a:Ah}{S:Str->Bool}{n:Nat}{k:Str}{tk:Tok}{Q:Bool->Ac->Prop}(hS:i6 prog w s.heap a S n)(Z:n+1<scanBound)
  (h:∀ h',DE a s.heap h'->i6 prog w h' a (fun k'=>S k'||decide (k'=k)) (if S k then n else n+1)->Q (!S k) { s with heap:=h' }):
  wpAny (model prog w) A (setAddHashed a (.str k tk) ((BF prog w).hash k)) Q E s:=by
 have Y:=strKind_is prog w k tk;obtain⟨o,es,ep,t,ho,hex,hd,hel,hmem,hb,hf,hn,hTab⟩:=hS;have ay:es.size+1<scanBound:=by rw[hn];exact Z
 unfold setAddHashed setAddHashedIn;refine Ba (Aa (C8 ho hd hf ?_));dsimp only;rw[byScan_of (x:=BK k tk) rfl hb hel,Ib rfl];unfold setAddByScan;refine Aa (Aa (Di (Aa (wpAny_setScan_of Y ho hd hf hel ?_))));cases hr:List.findIdx? (fun e=>(BF prog w).is k e.2) es.toList with
 | some j=>
  dsimp only;obtain⟨hj,hpj,_⟩:=List.findIdx?_eq_some_iff_getElem.mp hr;have aa:S k=true:=(hmem k).mpr ⟨es.toList[j],BM hj,hpj⟩;refine Ad (Ad ?_);have q:=h s.heap (Heap.SameBut.refl a s.heap) ⟨o,es,ep,t,ho,hex,hd,hel,fun z=>by
   rw[Ft,decide_eq_true_eq,<- hmem z];exact⟨fun hz=>hz.elim id (fun e=>e▸aa),.inl⟩,hb,hf,by rw[aa];exact hn,hTab⟩
  rw[aa]at q;exact q
 | none=>
  dsimp only;have aa:S k=false:=by
   cases hz:S k with
   | false=>rfl
   | true=>
    obtain⟨e,he,hp⟩:=(hmem k).mp hz;have z:=List.findIdx?_eq_none_iff.mp hr e he;rw[hp]at z;exact Bool.noConfusion z
  have B:=layNew_perm t es ((BF prog w).hash k) (BK k tk);have D:=layNew_fits t es ((BF prog w).hash k) (BK k tk);have J:=aA0 t es ((BF prog w).hash k) (BK k tk);generalize hL:layNew t es ((BF prog w).hash k) (BK k tk)=L at B D J ⊢;obtain⟨es1,t1,wasD,gave⟩:=L;dsimp only at B D J ⊢;rw[B3]at B;have ad:ElemsOf (BF prog w) es1.toList:=(hel.push Y rfl).perm B;have W:=mem_push_iff Y hmem B;have af:es1.size=n+1:=by rw[<- Bh,B.length_eq,Al,Bh,hn];rfl
  have ai:es1.size<scanBound:=by rw[af];exact Z
  have gw:∀(b:Bool) {s₁:Ac} {Q':Unit->Ac->Prop},Q' () s₁->wpAny (model prog w) A (match b with|true=>rule "set.scan.the-table-gave-way"|false=>pure ()) Q' E s₁:=fun b s₁ Q' hq=>by cases b<;>first|exact Ad hq|exact Di hq
  have ah:∀ h',DE a s.heap h'->i6 prog w h' a (fun k'=>S k'||decide (k'=k)) es1.size->Q true { s with heap:=h' }:=fun h' x1 x2=>by
   have q:=h h' x1;rw[aa]at q;rw[af]at x2;exact q x2
  have ag:∀ O:CS,O.led=t.led->O.plain=false->O.fits es1.size=true->
    wpAny (model prog w) A (do
     storeSet a es1 O
     if (!wasD&&O.tooFull)=true then do
       (match (relayAll O es1 (C1 es1.size)).2.2 with|true=>rule "set.scan.the-table-gave-way"|false=>pure ())
       storeSet a (relayAll O es1 (C1 es1.size)).1 (relayAll O es1 (C1 es1.size)).2.1
       pure (some true)
      else pure (some true)) (fun r s'=>wpAny (model prog w) A (match r with|some added=>pure added|none=>setAddHashedIn a (.str k tk) ((BF prog w).hash k) 99999) Q E s') E s:=by
   intro O l2 p2 f2;refine Aa (wpAny_storeSet_of ho hd ?_ (EB ai));obtain⟨ho1,hS1⟩:=i6.stored (prog:=prog) (w:=w) ho hex hd ad W ai f2 ⟨by rw[l2];exact hTab.1,.inr p2⟩;have ao:=BZ s.heap a (Gz es1 O);split
   .have hp:=relayAll_perm O es1 (C1 es1.size);have aj:=relayAll_fits O es1 (C1 es1.size);obtain⟨rl,rp⟩:=vE O es1 (C1 es1.size) p2;generalize relayAll O es1 (C1 es1.size)=R at hp aj rl rp ⊢;obtain⟨es2,t3,g2⟩:=R;dsimp only at hp aj rl rp ⊢;have am:ElemsOf (BF prog w) es2.toList:=ad.perm hp;have ak:∀ z,(S z||decide (z=k))=true↔∃ e∈es2.toList,(BF prog w).is z e.2=true:=fun z=>(W z).trans ⟨fun⟨e,he,q⟩=>⟨e,hp.mem_iff.mpr he,q⟩,fun⟨e,he,q⟩=>⟨e,hp.mem_iff.mp he,q⟩⟩;have ac:es2.size=es1.size:=by rw[<- Bh,hp.length_eq,Bh]
    have an:es2.size<scanBound:=by rw[ac];exact ai
    refine Aa (gw _ (Aa (wpAny_storeSet_of ho1 rfl ?_ (EB an))));obtain⟨_,hS2⟩:=i6.stored (prog:=prog) (w:=w) ho1 hex rfl am ak an aj ⟨by rw[rl,l2];exact hTab.1,.inr rp⟩;rw[ac]at hS2;exact Ad (Ad (ah _ (ao.trans (BZ _ a _)) hS2))
   .exact Ad (Ad (ah _ ao hS1))
  refine Aa (gw _ ?_);split
  .next hpl=>
   rw[hashByValue_scannable 8 (x:=BK k tk) rfl];refine Aa (Ad ?_);exact ag { t1 with plain:=false } J rfl (SetTable.fits_plain_off D)
  .next hpl=>
   refine Aa (Ad ?_);exact ag t1 J (by simpa using hpl) D
theorem aA1{h:A8}{a:Ah}{aP:Array Ab}(x:h.IsTuple a aP)(o:Obj):(h.push o).IsTuple a aP:=by
 obtain⟨u,hu,r⟩:=x;exact⟨u,Ai o hu,r⟩
theorem aD6{prog:Ar}{w:AQ}{A:AJ}{R:Result->Ac->Prop}{I:Ah}{fp Y:List Ah}{G:Array Fz->Array Fz->Prop}{n:Nat}{P:Nat->Ab->Prop}{St:Nat->Ac->Prop}
  (W:WalksS prog w A.in1 I fp Y G n P St) (S:Ah) (aa:¬ S∈fp) (val:Nat->Str) (ae:∀(i:Nat) (v:Ab),P i v->∃ t,v=BK (val i) t) (O:n+1<scanBound):
  ∀(k i:Nat) (s:Ac),n-i=k->i<=n->St i s->i6 prog w s.heap S (fun J=>(gT val i).any fun x=>x==J) (gT val i).length->
   (∀ s':Ac,Moved (S::Y) G s s'->i6 prog w s'.heap S (fun J=>(gT val n).any fun x=>x==J) (gT val n).length->R (Except.ok (Flow.ret CN)) s')->
   codeAny (model prog w) A (Code.builtin "set.update.loop" { pos:=[AI S,AI I] }) R s:=by
 have ad:¬ S∈Y:=fun h=>aa (W.sub S h);have z:∀ b,b∈Y->b∈S::Y:=fun b O=>AY S O;intro k
 induction k with
 | zero=>
  intro i s hk hi D hS hR;have ak:i=n:=by omega
  subst ak;refine Cb PyProof.Rows.F.entry_set_update_loop ?_;rw[Cd CU];refine Aa (W.done s _ _ D fun s' hm=>?_);refine Ad (hR s' (Moved.mono hm z) ?_);exact hS.at fun o ho=>hm.heap S o ad ho
 | succ k ih=>
  intro i s hk hi D hS hR;have ah:i<n:=by omega
  refine Cb PyProof.Rows.F.entry_set_update_loop ?_;rw[Cd CU];refine Aa (W.item i s _ _ ah D fun v s' hP Z hm=>?_);obtain⟨t,rfl⟩:=ae i v hP;have an:i6 prog w s'.heap S (fun J=>(gT val i).any fun x=>x==J) (gT val i).length:=by
   exact hS.at fun o ho=>hm.heap S o ad ho
  have B:(gT val i).length+1<scanBound:=by
   have:=qS val i;omega
  refine Aa (Ba (Ba (Aa ((BF prog w).pyHash (strKind_is prog w (val i) t) ?_))));refine aIx an B fun h' ac ai=>?_;refine Ad ⟨ED CU _,?_⟩;refine ih (i+1) _ (by omega) ah (W.frame (i+1) s' h' _ Z (C6 s'.toks) fun b O o e=>?_) ?_ fun ap af ag=>?_
  .rw[ac.right b fun h=>aa (h▸O)];exact e
  .refine ai.congr (fun J=>?_) ?_
   .show _=((jI _ _).any _)
    rw[aCQ]
   .show _=(jI _ _).length;rw[jW]
  .refine hR ap (Moved.trans W.gtrans (Moved.then_heap (Moved.mono hm z) (C6 s'.toks) fun b o O e=>?_) af) ag;rw[ac.right b fun h=>O (h▸AM)];exact e
theorem aGK{prog:Ar}{w:AQ}{A:AJ}{E:Ab->Ac->Prop}{s:Ac}(a:Ab){Q₁:Ab->Ac->Prop}
  (h:Q₁ (.ref s.heap.objs.size) { s with heap:=s.heap.push { cls:=.type "set",dict:=none,data:=.set #[] 0 (.fresh 0 0 (!w.params.followText "set-order")) } }):
  codeAny (model prog w) A (.call (.builtin "set.__new__") ⟨[.type "set",a],[]⟩) (wants Q₁ E) s:=by
 apply FS;show wpAny (model prog w) A.in1 (checkBuiltinCall "set.__new__" ⟨[.type "set",a],[]⟩ >>= fun _=>again (.builtin "set.__new__" ⟨[.type "set",a],[]⟩)) _ _ s;apply Aa;refine CG (F.newCall_set_1 a) (Ad ⟨ED F.plain_set_new _,?_⟩);apply Cb F.entry_set_new;rw[Cd F.plain_set_new];unfold Builtin.«set.__new__» Builtin.Frozenset.newClass;have z:=sub_set_self;obtain⟨hp,gs,dr,tk,os⟩:=s;dsimp only
 wp_walk
 apply Dk;apply Ad;dsimp only;simp only[newObj];apply Aa;apply wpAny_alloc;exact Ad (Ad h)
theorem zK{prog:Ar}{w:AQ}{A:AJ}{E:Ab->Ac->Prop}{s:Ac}{l:Ah}{aP:Array Ab}{val:Nat->Str}{Q:Ab->Ac->Prop}(hh:A.handled=none)(hl:s.heap.IsList l aP)
  (hi:∀(i:Nat) (v:Ab),aP[i]?=some v->∃ t,v=BK (val i) t) (hb:aP.size+1<scanBound)
  (h:∀(h':A8) (tk:Nat),i6 prog w h' s.heap.objs.size (fun k'=>(gT val aP.size).any fun x=>x==k') (gT val aP.size).length->
   (∀(b:Nat) (o:Obj),b<s.heap.objs.size->s.heap.get? b=some o->h'.get? b=some o)->Q (AI s.heap.objs.size) { s with heap:=h',toks:=tk }):
  wpAny (model prog w) A (call (AW "set") [AI l]) Q E s:=by
 obtain⟨c,tl,hmro⟩:=Ck.mro;have J:=Ck.made;have Y:=Ck.sub;have af:=F.typeCall_set_1 (AI l);refine Dj (FS (Ad ⟨E5 _ (by decide),Cb F.entry_type_call ?_⟩));rw[Around.under_plain (weight_type_call_type "set" [AI l] []) rfl];unfold Builtin.«type.__call__»;dsimp only
 iterate 2 refine Ay (by first|rfl|decide) ?_
 refine Aa (CG af ?_);refine Aa (CG hmro ?_);refine Ay (by first|rfl|decide) ?_;refine Aa (CG J ?_);refine Aa (Ad ?_);refine Aa (Ba (Dj (Dl (aGK (Q₁:=fun obj s₁=>∃ led,led=(!w.params.followText "set-order")/\obj=AI s.heap.objs.size/\s₁={ s with heap:=s.heap.push { cls:=AW "set",data:=Co #[] 0 (Bt 0 0 led) } }) (E:=E) (AI l) ⟨_,rfl,rfl,rfl⟩) fun r s₁ z=>?_)));cases r with
 | error e=>exact z
 | ok fl=>
  cases fl with
  | next=>exact z.elim
  | brk=>exact z.elim
  | cont=>exact z.elim
  | ret v=>
   obtain⟨led,hled,rfl,rfl⟩:=z;have hS:=Aw s.heap (o:={ cls:=AW "set",data:=Co #[] 0 (Bt 0 0 led) }) rfl;have hT:Ed { s with heap:=s.heap.push { cls:=AW "set",data:=Co #[] 0 (Bt 0 0 led) } } (AI s.heap.objs.size) "set":=⟨_,hS,rfl⟩
   have ai:=Ck.init.lookup;have an:=Ck.init.bind (AI s.heap.objs.size);obtain⟨ol,hol,hcl,nl,hdl⟩:=hl;have B:=Ai { cls:=AW "set",data:=Co #[] 0 (Bt 0 0 led) } hol;have W:Heap.IsList (s.heap.push { cls:=AW "set",data:=Co #[] 0 (Bt 0 0 led) }) l aP:=⟨ol,B,hcl,nl,hdl⟩
   refine Aa (Cj hT Y ?_);refine Ay (by first|rfl|decide) ?_;refine Aa (Ba ?_);unfold callSpecial?;refine Aa (ET hT ai ?_);dsimp only;refine Ba ?_;refine Aa (CG an ?_);refine Aa (Dj (Dl (D3 Ck.init.plain F.entry_set_init (R:=fun r s'=>match r with|.ok (.ret v)=>v=.none/\Q (.ref s.heap.objs.size) s'|_=>False) (check_set_init_1 hT ?_)) fun r s₁ z=>?_))
   .unfold Builtin.«set.__init__»;refine Aa (Cy (by first|rfl|decide) (Ad ?_));refine Aa (Aa (Aa (Cn hT (Ay (by first|rfl|decide) (Ad ?_)))));refine Ad ?_;refine Aa ?_;unfold checkCount
    iterate 2 refine Ay (by first|rfl|decide) ?_
    refine Ay (by first|rfl|decide) (Ad ?_);refine Aa (Ad ?_);refine Aa ?_;unfold setUsed setState;refine Aa (Aa (wpAny_load' hS ?_));dsimp only;refine Ay (by first|rfl|decide) (Ad ?_);refine Ad ?_;refine Ay (by first|rfl|decide) ?_;show wpAny _ _ (do let av <- CA "set.__init__" s.heap.objs.size (AI l);ret CN) _ _ _;refine Aa ?_;unfold CA;refine Aa ?_;have O:Ed { s with heap:=s.heap.push { cls:=AW "set",data:=Co #[] 0 (Bt 0 0 led) } } (AI l) "list":=⟨ol,B,hcl⟩
    unfold Builtin.Frozenset.isAnySet;refine Aa (Cj O F.sub_list_set ?_);refine Cj O F.sub_list_frozenset ?_;refine Ay (by first|rfl|decide) ?_;refine Aa (Cn O ?_);refine Ay (by first|rfl|decide) ?_;refine Aa (Fv W ?_);refine Aa (E7 ?_);have ac:l<s.heap.objs.size:=Au hol;have D:(s.heap.push { cls:=AW "set",data:=Co #[] 0 (Bt 0 0 led) }).objs.size=s.heap.objs.size+1:=Ci _ _;have Z:l≠(s.heap.push { cls:=AW "set",data:=Co #[] 0 (Bt 0 0 led) }).objs.size:=by rw[D];exact AF (Bw ac)
    have ag:¬ s.heap.objs.size∈[(s.heap.push { cls:=AW "set",data:=Co #[] 0 (Bt 0 0 led) }).objs.size,l]:=by
     rw[D];simp only[Am,An,or_false,not_or];exact⟨AF (CJ _),De ac⟩
    have aj:A.in1.in1.in1.handled=none:=hh;refine aD6 (Gy (Walks.list aj _ l Z aP)) s.heap.objs.size ag val hi hb (aP.size-0) 0 _ rfl (Bx _) ⟨⟨_,Aw _ rfl,rfl,rfl⟩,Heap.IsList.push W _⟩ ?_ ?_
    .have aa:=Ai { cls:=AW "list_iterator",data:=F8 #[AI l,Cm 0 0] } hS;exact⟨_,#[],0,_,aa,⟨rfl,rfl,rfl⟩,rfl,(fun e he=>by simp at he),(fun k=>by show(false=true)↔_;simp),(by decide),rfl,rfl,hled,.inl rfl⟩
    .rintro⟨h',g',d',tk',os'⟩ hm hS';refine Ad (Ad ⟨rfl,?_⟩);have e1:=hm.gens;have e2:=hm.drawn;have e3:=hm.os;dsimp only at e1 e2 e3;subst e1 e2 e3;refine h h' tk' hS' fun b o hb e=>hm.heap b o ?_ ?_
     .simp only[Am,An,or_false,not_or];rw[D];exact⟨AF hb,AF (Bw hb)⟩
     .exact Ai _ (Ai _ e)
   .cases r with
    | error e=>exact z.elim
    | ok fl=>
     cases fl with
     | next=>exact z.elim
     | brk=>exact z.elim
     | cont=>exact z.elim
     | ret v=>
      obtain⟨rfl,q⟩:=z;refine Ad ?_;refine Ay (by first|rfl|decide) ?_;exact Ad q
theorem zL{prog:Ar}{w:AQ}{A:AJ}{E:Ab->Ac->Prop}{s:Ac}{l:Ah}{aP:Array Ab}{val:Nat->Str}{Q:Ab->Ac->Prop}(hh:A.handled=none)(hl:s.heap.IsTuple l aP)
  (hi:∀(i:Nat) (v:Ab),aP[i]?=some v->∃ t,v=BK (val i) t) (hb:aP.size+1<scanBound)
  (h:∀(h':A8) (tk:Nat),i6 prog w h' s.heap.objs.size (fun k'=>(gT val aP.size).any fun x=>x==k') (gT val aP.size).length->
   (∀(b:Nat) (o:Obj),b<s.heap.objs.size->s.heap.get? b=some o->h'.get? b=some o)->Q (AI s.heap.objs.size) { s with heap:=h',toks:=tk }):
  wpAny (model prog w) A (call (AW "set") [AI l]) Q E s:=by
 obtain⟨c,tl,hmro⟩:=Ck.mro;have J:=Ck.made;have Y:=Ck.sub;have af:=F.typeCall_set_1 (AI l);refine Dj (FS (Ad ⟨E5 _ (by decide),Cb F.entry_type_call ?_⟩));rw[Around.under_plain (weight_type_call_type "set" [AI l] []) rfl];unfold Builtin.«type.__call__»;dsimp only
 iterate 2 refine Ay (by first|rfl|decide) ?_
 refine Aa (CG af ?_);refine Aa (CG hmro ?_);refine Ay (by first|rfl|decide) ?_;refine Aa (CG J ?_);refine Aa (Ad ?_);refine Aa (Ba (Dj (Dl (aGK (Q₁:=fun obj s₁=>∃ led,led=(!w.params.followText "set-order")/\obj=AI s.heap.objs.size/\s₁={ s with heap:=s.heap.push { cls:=AW "set",data:=Co #[] 0 (Bt 0 0 led) } }) (E:=E) (AI l) ⟨_,rfl,rfl,rfl⟩) fun r s₁ z=>?_)));cases r with
 | error e=>exact z
 | ok fl=>
  cases fl with
  | next=>exact z.elim
  | brk=>exact z.elim
  | cont=>exact z.elim
  | ret v=>
   obtain⟨led,hled,rfl,rfl⟩:=z;have hS:=Aw s.heap (o:={ cls:=AW "set",data:=Co #[] 0 (Bt 0 0 led) }) rfl;have hT:Ed { s with heap:=s.heap.push { cls:=AW "set",data:=Co #[] 0 (Bt 0 0 led) } } (AI s.heap.objs.size) "set":=⟨_,hS,rfl⟩
   have ai:=Ck.init.lookup;have an:=Ck.init.bind (AI s.heap.objs.size);obtain⟨ol,hol,hcl,nl,hdl⟩:=hl;have B:=Ai { cls:=AW "set",data:=Co #[] 0 (Bt 0 0 led) } hol;have W:Heap.IsTuple (s.heap.push { cls:=AW "set",data:=Co #[] 0 (Bt 0 0 led) }) l aP:=⟨ol,B,hcl,nl,hdl⟩
   refine Aa (Cj hT Y ?_);refine Ay (by first|rfl|decide) ?_;refine Aa (Ba ?_);unfold callSpecial?;refine Aa (ET hT ai ?_);dsimp only;refine Ba ?_;refine Aa (CG an ?_);refine Aa (Dj (Dl (D3 Ck.init.plain F.entry_set_init (R:=fun r s'=>match r with|.ok (.ret v)=>v=.none/\Q (.ref s.heap.objs.size) s'|_=>False) (check_set_init_1 hT ?_)) fun r s₁ z=>?_))
   .unfold Builtin.«set.__init__»;refine Aa (Cy (by first|rfl|decide) (Ad ?_));refine Aa (Aa (Aa (Cn hT (Ay (by first|rfl|decide) (Ad ?_)))));refine Ad ?_;refine Aa ?_;unfold checkCount
    iterate 2 refine Ay (by first|rfl|decide) ?_
    refine Ay (by first|rfl|decide) (Ad ?_);refine Aa (Ad ?_);refine Aa ?_;unfold setUsed setState;refine Aa (Aa (wpAny_load' hS ?_));dsimp only;refine Ay (by first|rfl|decide) (Ad ?_);refine Ad ?_;refine Ay (by first|rfl|decide) ?_;show wpAny _ _ (do let av <- CA "set.__init__" s.heap.objs.size (AI l);ret CN) _ _ _;refine Aa ?_;unfold CA;refine Aa ?_;have O:Ed { s with heap:=s.heap.push { cls:=AW "set",data:=Co #[] 0 (Bt 0 0 led) } } (AI l) "tuple":=⟨ol,B,hcl⟩
    unfold Builtin.Frozenset.isAnySet;refine Aa (Cj O F.sub_tuple_set ?_);refine Cj O F.sub_tuple_frozenset ?_;refine Ay (by first|rfl|decide) ?_;refine Aa (Cn O ?_);refine Ay (by first|rfl|decide) ?_;refine Aa (wpAny_pyIter_tuple W ?_);refine Aa (E7 ?_);have ac:l<s.heap.objs.size:=Au hol;have D:(s.heap.push { cls:=AW "set",data:=Co #[] 0 (Bt 0 0 led) }).objs.size=s.heap.objs.size+1:=Ci _ _;have Z:l≠(s.heap.push { cls:=AW "set",data:=Co #[] 0 (Bt 0 0 led) }).objs.size:=by rw[D];exact AF (Bw ac)
    have ag:¬ s.heap.objs.size∈[(s.heap.push { cls:=AW "set",data:=Co #[] 0 (Bt 0 0 led) }).objs.size,l]:=by
     rw[D];simp only[Am,An,or_false,not_or];exact⟨AF (CJ _),De ac⟩
    have aj:A.in1.in1.in1.handled=none:=hh;refine aD6 (Gy (Walks.tuple aj _ l Z aP)) s.heap.objs.size ag val hi hb (aP.size-0) 0 _ rfl (Bx _) ⟨⟨_,Aw _ rfl,rfl,rfl⟩,aA1 W _⟩ ?_ ?_
    .have aa:=Ai { cls:=AW "tuple_iterator",data:=F8 #[AI l,Cm 0 0] } hS;exact⟨_,#[],0,_,aa,⟨rfl,rfl,rfl⟩,rfl,(fun e he=>by simp at he),(fun k=>by show(false=true)↔_;simp),(by decide),rfl,rfl,hled,.inl rfl⟩
    .rintro⟨h',g',d',tk',os'⟩ hm hS';refine Ad (Ad ⟨rfl,?_⟩);have e1:=hm.gens;have e2:=hm.drawn;have e3:=hm.os;dsimp only at e1 e2 e3;subst e1 e2 e3;refine h h' tk' hS' fun b o hb e=>hm.heap b o ?_ ?_
     .simp only[Am,An,or_false,not_or];rw[D];exact⟨AF hb,AF (Bw hb)⟩
     .exact Ai _ (Ai _ e)
   .cases r with
    | error e=>exact z.elim
    | ok fl=>
     cases fl with
     | next=>exact z.elim
     | brk=>exact z.elim
     | cont=>exact z.elim
     | ret v=>
      obtain⟨rfl,q⟩:=z;refine Ad ?_;refine Ay (by first|rfl|decide) ?_;exact Ad q
theorem kQ{α:Type}:∀(l:List α) (j:Nat) (y:α),l[j]?=some y->(y::l.eraseIdx j).Perm l
 | [],j,y,h=>by simp at h
 | x::r,0,y,h=>by
  simp at h;subst h;simp
 | x::r,j+1,y,h=>by
  simp at h;rw[List.eraseIdx_cons_succ];exact(List.Perm.swap x y _).trans ((kQ r j y h).cons x)
theorem aFB{M:EI}{A:AJ}{Q:Nat->Ac->Prop}{E:Ab->Ac->Prop}{s:Ac}{src:Source}{n:Nat}(hn:n≠0)(h:∀ i d,i<n->Q i { s with drawn:=d }):wpAny M A (choose src n) Q E s:=
 fun _ _ _=>⟨hn,h _ _ (Nat.mod_lt _ (Nat.pos_of_ne_zero hn))⟩
theorem aA2{α:Type}{M:EI}{A:AJ}{E:Ab->Ac->Prop}:∀(n:Nat) (xs:List α) (s:Ac) (Q:List α->Ac->Prop),xs.length=n->(∀ ys d,ys.Perm xs->Q ys { s with drawn:=d })->wpAny M A (drawOrder n xs) Q E s:=by
 intro n
 induction n with
 | zero=>
  intro xs s Q z h;obtain rfl:xs=[]:=Cg z;exact Ad (h [] s.drawn (Do _))
 | succ n B=>
  intro xs s Q z h;cases xs with
  | nil=>simp at z
  | cons x r=>
   unfold drawOrder;refine Aa (aFB (by simp) fun i d hi=>?_);obtain⟨y,hy⟩:∃ y,(x::r)[i]?=some y:=⟨_,Ag hi⟩
   rw[hy];dsimp only;refine Aa (B _ _ _ (by rw[Cs hi];simp at z ⊢;exact z) fun ys J D=>Ad (h _ _ ((D.cons y).trans (kQ _ i y hy))))
theorem dG:Slot "set_iterator" "__next__" "set_iterator.__next__":=
 .of (owner:="set_iterator") (n:="__next__") (by rw[typeLookup_type,builtinLookup_eq_fast];kernel_rfl) (by decide) (by decide) (by decide) (by first|exact .inl (by decide)|exact .inr (by decide)) (by rw[isSubtype_type];kernel_rfl)
theorem oF:Slot "set_iterator" "__iter__" "set_iterator.__iter__":=
 .of (owner:="set_iterator") (n:="__iter__") (by rw[typeLookup_type,builtinLookup_eq_fast];kernel_rfl) (by decide) (by decide) (by decide) (by first|exact .inl (by decide)|exact .inr (by decide)) (by rw[isSubtype_type];kernel_rfl)
theorem gY:entryFor table "set_iterator.__next__"=some Builtin.«set_iterator.__next__»:=entryFor_of_tree (by kernel_rfl)
theorem vF:entryFor table "set_iterator.__iter__"=some Builtin.«dict_keyiterator.__iter__»:=entryFor_alias (id':="dict_keyiterator.__iter__") (by kernel_rfl) rfl (by decide) (by kernel_rfl)
theorem p4:entryFor table "set.__iter__"=some Builtin.«frozenset.__iter__»:=entryFor_alias (id':="frozenset.__iter__") (by kernel_rfl) rfl (by decide) (by kernel_rfl)
theorem zM:Manifest.owners.lookup (String.ofList ("set_iterator".toList.reverse).reverse)=some Manifest.sig_set_iterator:=by kernel_rfl
theorem iE(a:Ab):argsOk "set_iterator.__next__" ⟨[a],[]⟩:=by
 unfold argsOk;rw[signature?_of (id:="set_iterator.__next__") (n:="__next__".toList.reverse) (o:="set_iterator".toList.reverse) (by kernel_rfl) zM]
 kernel_rfl
theorem xQ(a:Ab):argsOk "set_iterator.__iter__" ⟨[a],[]⟩:=by
 unfold argsOk;rw[signature?_of (id:="set_iterator.__iter__") (n:="__iter__".toList.reverse) (o:="set_iterator".toList.reverse) (by kernel_rfl) zM]
 kernel_rfl
def iN(first:Ab)(i:Nat)(S:Ah)(n ep:Nat):Obj:={ cls:=.type "set_iterator",dict:=none,data:=.fields #[first,.int i 0,.ref S,.int n 0,.int ep 0],slots:=#[] }
section
variable{I S T:Ah}{i m ep:Nat}{o ot:Obj}{t:CS}{fg:Array Ab}{x:Ab}
theorem tW{M:EI}{B:AJ}{z:Ab->Ac->Prop}{Q:Fin->Ac->Prop}{s:Ac}(D:B.handled=none)(h:∀(e:Ab) (h':A8),(∀ b u,s.heap.get? b=some u->h'.get? b=some u)->Ed { s with heap:=h' } e "StopIteration"->z e { s with heap:=h' }):
  wpAny M B (newExc (.type "StopIteration") [] >>= fun e=>raiseNew e) Q z s:=by
 refine Aa ?_;simp only[newExc,newTuple];apply Aa;refine A6 ?_ (by size_fits);apply Aa (m:=firstArgMember _ _);refine CG (a:=CN) (by first|rfl|(simp only[firstArgMember];rfl)) ?_;refine A6 (h:=?_) (by size_fits);simp only[raiseNew];refine Aa (wpAny_handled ?_);rw[D];refine Aa (Ad (wpAny_throw (h (.ref _) _ (fun b u e=>Ai _ (Ai _ e)) ⟨_,Aw _ rfl,rfl⟩)))
theorem aCT(B:s.heap.get? I=some (iN (.ref T) i S es.size ep))(J:s.heap.get? S=some o)(hd:o.data=.set es ep t)(O:t.fits es.size=true)(hT:s.heap.get? T=some ot)(D:ot.data=.seq fg m){p:Nat}{tk:Tok}{Y:Int}(hp:fg[i]?=some (.int p tk))(W:es[p]?=some (Y,x)){Q:Option Ab->Ac->Prop}
  (Z:∀ h',h'.get? I=some (iN (.ref T) (i+1) S es.size ep)->DE I s.heap h'->Q (some x) { s with heap:=h' }):wpAny (model prog w) A (pyNext (.ref I)) Q E s:=by
 have z:s.TypeIs (.ref I) "set_iterator":=⟨_,B,rfl⟩
 unfold pyNext;apply Aa;apply Du;refine B2 (name:=AZ "__next__") z dG (BI dG z gY ?_ (iE _));unfold Builtin.«set_iterator.__next__»;refine Aa (Ad ?_);refine Aa (E8 B rfl ?_);dsimp only;refine Aa (Dq J hd O ?_);rw[Ia (show¬ ((((es.size:Nat):Int) != ((es.size:Nat):Int))=true) by simp)];refine Aa (wpAny_seqItems hT D ?_);dsimp only;rw[show((i:Nat):Int).toNat=i from BA i,hp];dsimp only;unfold setNextDrawn;refine Aa (Aa (C8 J hd O ?_));dsimp only;rw[Ia (show¬ ((ep != ((ep:Nat):Int).toNat)=true) by simp)];rw[show((p:Nat):Int).toNat=p from BA p,W];refine Ad ?_;refine Aa (DQ B rfl (by simp[iN]) (Ad ⟨x,rfl,Ad (Z _ ?_ (BZ ..))⟩));rw[B9 _ B (DO (Ct rfl _))];rfl
theorem aD7(W:A.handled=none)(B:s.heap.get? I=some (iN (.ref T) i S es.size ep))(hS:s.heap.get? S=some o)(hd:o.data=.set es ep t)(hf:t.fits es.size=true)(Z:s.heap.get? T=some ot)(J:ot.data=.seq fg m)(hp:fg[i]?=none){Q:Option Ab->Ac->Prop}
  (O:∀ h',(∀ b u,b≠I->s.heap.get? b=some u->h'.get? b=some u)->Q none { s with heap:=h' }):wpAny (model prog w) A (pyNext (.ref I)) Q E s:=by
 have z:s.TypeIs (.ref I) "set_iterator":=⟨_,B,rfl⟩
 unfold pyNext;apply Aa;apply Du;refine B2 (name:=AZ "__next__") z dG (BI dG z gY ?_ (iE _));unfold Builtin.«set_iterator.__next__»;refine Aa (Ad ?_);refine Aa (E8 B rfl ?_);dsimp only;refine Aa (Dq hS hd hf ?_);rw[Ia (show¬ ((((es.size:Nat):Int) != ((es.size:Nat):Int))=true) by simp)];refine Aa (wpAny_seqItems Z J ?_);dsimp only;rw[show((i:Nat):Int).toNat=i from BA i,hp];dsimp only;refine Aa (DQ B rfl (by simp[iN]) ?_);have D:=B9 (Obj.mapFields (·.setIfInBounds 0 (rawInt 0))) B (DO (Ct rfl _))
 refine Aa (DQ D (Ct rfl _) (by simp[iN]) ?_);refine tW (show A.in1.handled=none from W) fun e h' k Y=>?_;refine Aa (Cj (T:="StopIteration") (b:=true) Y isSubtype_stop ?_);refine Ad (O h' fun b u nb hb=>k b u ?_);exact(BZ _ I _).extBut b u nb ((BZ _ I _).extBut b u nb hb)
theorem aCU{D nx:Nat}(O:s.heap.get? I=some (iN (rawInt D) i S es.size ep))(Z:s.heap.get? S=some o)(hd:o.data=.set es ep t)(hf:t.fits es.size=true)
  (hN:∀(B:AJ) (Y:Ab->Ac->Prop) (W:Option (Ab×Nat)->Ac->Prop),W (some (x,nx)) s->wpAny (model prog w) B (setNext S D i ep) W Y s) {Q:Option Ab->Ac->Prop}
  (hQ:∀ h',h'.get? I=some (iN (rawInt nx) (i+1) S es.size ep)->DE I s.heap h'->Q (some x) { s with heap:=h' }):wpAny (model prog w) A (pyNext (.ref I)) Q E s:=by
 have z:s.TypeIs (.ref I) "set_iterator":=⟨_,O,rfl⟩
 unfold pyNext;apply Aa;apply Du;refine B2 (name:=AZ "__next__") z dG (BI dG z gY ?_ (iE _));unfold Builtin.«set_iterator.__next__»;refine Aa (Ad ?_);refine Aa (E8 O rfl ?_);dsimp only;refine Aa (Dq Z hd hf ?_);rw[Ia (show¬ ((((es.size:Nat):Int) != ((es.size:Nat):Int))=true) by simp)];dsimp only[rawInt];refine Aa ?_;rw[show((i:Nat):Int).toNat=i from BA i,show((D:Nat):Int).toNat=D from BA D,show((ep:Nat):Int).toNat=ep from BA ep];refine hN _ _ _ ?_;dsimp only;refine Aa (DQ O rfl (by simp[iN]) ?_);have J:=B9 (Obj.mapFields (·.setIfInBounds 0 (rawInt nx))) O (DO (Ct rfl _))
 refine Aa (DQ J (Ct rfl _) (by simp[iN]) (Ad ⟨x,rfl,Ad (hQ _ ?_ ((BZ ..).trans (BZ ..)))⟩));exact(B9 _ J (DO (Ct (Ct rfl _) _))).trans rfl
theorem aD8{D:Nat}(Y:A.handled=none)(J:s.heap.get? I=some (iN (rawInt D) i S es.size ep))(hS:s.heap.get? S=some o)(hd:o.data=.set es ep t)(hf:t.fits es.size=true)
  (hN:∀(B:AJ) (E':Ab->Ac->Prop) (O:Option (Ab×Nat)->Ac->Prop),O none s->wpAny (model prog w) B (setNext S D i ep) O E' s) {Q:Option Ab->Ac->Prop}
  (W:∀ h',(∀ b u,b≠I->s.heap.get? b=some u->h'.get? b=some u)->Q none { s with heap:=h' }):wpAny (model prog w) A (pyNext (.ref I)) Q E s:=by
 have z:s.TypeIs (.ref I) "set_iterator":=⟨_,J,rfl⟩
 unfold pyNext;apply Aa;apply Du;refine B2 (name:=AZ "__next__") z dG (BI dG z gY ?_ (iE _));unfold Builtin.«set_iterator.__next__»;refine Aa (Ad ?_);refine Aa (E8 J rfl ?_);dsimp only;refine Aa (Dq hS hd hf ?_);rw[Ia (show¬ ((((es.size:Nat):Int) != ((es.size:Nat):Int))=true) by simp)];dsimp only[rawInt];refine Aa ?_;rw[show((i:Nat):Int).toNat=i from BA i,show((D:Nat):Int).toNat=D from BA D,show((ep:Nat):Int).toNat=ep from BA ep];refine hN _ _ _ ?_;dsimp only;refine Aa (DQ J rfl (by simp[iN]) ?_);refine tW (show A.in1.handled=none from Y) fun e h' k Z=>?_;refine Aa (Cj (T:="StopIteration") (b:=true) Z isSubtype_stop ?_);refine Ad (W h' fun b u nb hb=>k b u ?_);exact(BZ _ I _).extBut b u nb hb
theorem aBO{first:Ab}(B:s.heap.get? I=some (iN first i S es.size ep)){Q:Ab->Ac->Prop}(h:Q (.ref I) s):wpAny (model prog w) A (pyIter (.ref I)) Q E s:=by
 have z:s.TypeIs (.ref I) "set_iterator":=⟨_,B,rfl⟩
 refine wpAny_pyIter_slot z oF (BI oF z vF ?_ (xQ _));exact Ad ⟨_,rfl,"set_iterator",_,z,dG.lookup,h⟩
end
theorem v7{α:Type}(next:Nat->Nat):∀(z k:Nat) (left:List α) (out:Array α),left.length=z->(pickOrder.go next z k left out).toList.Perm (out.toList++left)
 | 0,k,[],out,_=>by
  unfold pickOrder.go;rw[CW]
 | z+1,k,x::r,out,B=>by
  unfold pickOrder.go;have hi:next k%(x::r).length<(x::r).length:=Nat.mod_lt _ (by simp)
  obtain⟨y,hy⟩:∃ y,(x::r)[next k%(x::r).length]?=some y:=⟨_,Ag hi⟩
  rw[hy];dsimp only;refine(v7 next z (k+1) _ _ (by rw[Cs hi];simp at B ⊢;exact B)).trans ?_;rw[B3,A2];exact Bi _ (kQ _ _ y hy)
theorem tX{α:Type}(next:Nat->Nat)(xs:Array α):(pickOrder next xs).toList.Perm xs.toList:=by
 unfold pickOrder;have h:=v7 next xs.size 0 xs.toList #[] (by simp)
 simpa using h
section
variable{I S T:Ah}{m ep:Nat}{o ot:Obj}{t:CS}{fg:Array Ab}
theorem aHp(Z:A.handled=none)(hS:S≠I)(hT:T≠I)(hd:o.data=.set es ep t)(Y:t.fits es.size=true)(D:ot.data=.seq fg m)(hp:∀ i,i<fg.size->∃(p:Nat) (tk:Tok) (z:Int×Ab),fg[i]?=some (.int p tk)/\es[p]?=some z):
  Walks prog w A I [I,S,T] [I] fg.size (fun i v=>∃(p:Nat) (tk:Tok) (z:Int),fg[i]?=some (.int p tk)/\es[p]?=some (z,v)) (fun i h=>h.get? I=some (iN (.ref T) i S es.size ep)/\h.get? S=some o/\h.get? T=some ot) where
 sub:=fun b W=>by simp at W;simp[W]
 frame:=fun _ _ _ st O=>⟨O I (by simp) _ st.1,O S (by simp) _ st.2.1,O T (by simp) _ st.2.2⟩
 item:=fun i s Q E hi st B=>by
  obtain⟨p,tk,⟨z,v⟩,h1,h2⟩:=hp i hi;refine aCT st.1 st.2.1 hd Y st.2.2 D h1 h2 fun h' hI J=>?_;exact B v h' s.toks ⟨p,tk,z,h1,h2⟩ ⟨hI,J.extBut S _ hS st.2.1,J.extBut T _ hT st.2.2⟩ fun b u nb e=>J.extBut b u (by simpa using nb) e
 done:=fun s Q E st B=>aD7 Z st.1 st.2.1 hd Y st.2.2 D (by simp) fun h' k=>B h' s.toks fun b u nb e=>k b u (by simpa using nb) e
 self:=fun i s Q E st B=>aBO st.1 B
theorem aHq(hh:A.handled=none)(hS:S≠I)(hd:o.data=.set es ep t)(hf:t.fits es.size=true)(O:Nat->Nat)(ord:List Ab)
  (hN:∀(i:Nat) (s:Ac),s.heap.get? S=some o->i<=ord.length->∀(B:AJ) (J:Ab->Ac->Prop) (z:Option (Ab×Nat)->Ac->Prop),z ((ord[i]?).map fun v=>(v,O (i+1))) s->wpAny (model prog w) B (setNext S (O i) i ep) z J s):
  Walks prog w A I [I,S] [I] ord.length (fun i v=>ord[i]?=some v) (fun i h=>h.get? I=some (iN (rawInt (O i)) i S es.size ep)/\h.get? S=some o) where
 sub:=fun b Y=>by simp at Y;simp[Y]
 frame:=fun _ _ _ st Z=>⟨Z I (by simp) _ st.1,Z S (by simp) _ st.2⟩
 item:=fun i s Q E hi st D=>by
  obtain⟨v,hv⟩:∃ v,ord[i]?=some v:=⟨_,Ag hi⟩
  refine aCU (x:=v) (nx:=O (i+1)) st.1 st.2 hd hf (fun B J z q=>hN i s st.2 (D4 hi) B J z (by rw[hv];exact q)) fun h' hI W=>?_;exact D v h' s.toks hv ⟨hI,W.extBut S _ hS st.2⟩ fun b u nb e=>W.extBut b u (by simpa using nb) e
 done:=fun s Q E st D=>aD8 hh st.1 st.2 hd hf (fun B J z q=>hN _ s st.2 (Ak _) B J z (by rw[BN (Ak _)];exact q)) fun h' k=>D h' s.toks fun b u nb e=>k b u (by simpa using nb) e
 self:=fun i s Q E st D=>aBO st.1 D
structure aJm(prog:Ar)(w:AQ)(A:AJ)(S:Ah)(el:List Ab)(s s2:Ac)(I:Ah):Prop where
 w:∃(fp:List Ah) (P:Nat->Ab->Prop) (St:Nat->A8->Prop),Walks prog w A I fp [I] el.length P St/\St 0 s2.heap/\I∈fp/\(∀ b∈fp,b<s2.heap.objs.size/\(b=S\/s.heap.objs.size<=b))/\∀ acc,ItemsOf P acc el.length->acc.toList.Perm el
 keep:∀ b u,s.heap.get? b=some u->s2.heap.get? b=some u
 new:s.heap.objs.size<=I
 gens:s2.gens=s.gens
 os:s2.os=s.os
 toks:s2.toks=s.toks
theorem aD9{ord:List Ab}{z:Array Ab}(h:ItemsOf (fun i v=>ord[i]?=some v) z ord.length):z.toList=ord:=by
 obtain⟨hl,h⟩:=h;apply El;intro j;by_cases B:j<z.size
 .have:=h j z[j] (by simp[B]);rw[this];simp[B]
 .rw[BN (by simpa using B),BN (by omega)]
end
section
variable{S:Ah}{ep:Nat}{o:Obj}{t:CS}
theorem zO{ys:List Nat}{n:Nat}(J:ys.Perm (AU n))(hn:n=es.size):∀ i,i<(ys.map fun(i:Nat)=>rawInt i).toArray.size->∃(p:Nat) (tk:Tok) (z:Int×Ab),(ys.map fun(i:Nat)=>rawInt i).toArray[i]?=some (.int p tk)/\es[p]?=some z:=by
 intro i hi;have B:i<ys.length:=by simpa using hi
 have hm:ys[i]∈AU n:=J.mem_iff.mp (BM B);have D:ys[i]<es.size:=by rw[<- hn];exact Cf.mp hm
 exact⟨ys[i],0,es[ys[i]],by simp[B,rawInt],by simp[D]⟩
theorem xR{ys:List Nat}{n:Nat}(Y:ys.Perm (AU n))(hn:n=es.size){B:Array Ab}(h:ItemsOf (fun i v=>∃(p:Nat) (tk:Tok) (z:Int),(ys.map fun(i:Nat)=>rawInt i).toArray[i]?=some (.int p tk)/\es[p]?=some (z,v)) B ys.length):B.toList.Perm (es.toList.map (·.2)):=by
 have e:B.toList=ys.map fun p=>(es.toList.getD p (0,.none)).2:=by
  apply El;intro j;by_cases J:j<ys.length
  .have D:j<B.size:=by rw[h.1];exact J
   obtain⟨p,tk,z,h1,h2⟩:=h.2 j B[j] (by simp[D]);simp[J,rawInt]at h1;obtain⟨h1,_⟩:=h1;have O:ys[j]=p:=by exact_mod_cast h1
   rw[Bs,Ag J,O];have W:es.toList[p]?=some (z,B[j]):=by simpa using h2
   simp[List.getD,h2,W,D]
  .rw[BN (by have:=h.1;simp;omega),BN (by simpa using J)]
 rw[e];refine(Y.map _).trans (List.Perm.of_eq ?_);apply El;intro j;rw[Bs,Bs];by_cases J:j<n
 .rw[List.getElem?_range J];have D:j<es.size:=by omega
  simp[List.getD,D]
 .rw[BN (by simpa using J),BN (by simp;omega)];rfl
theorem aEa(hh:A.handled=none)(am:o.cls=.type "set")(hd:o.data=.set es ep t)(O:t.fits es.size=true)(hb:es.size<scanBound)(ac:tV w es t){E:Ab->Ac->Prop}{s:Ac}{R:Ab->Ac->Prop}(hS:s.heap.get? S=some o)
  (h:∀(I:Ah) (s2:Ac),aJm prog w A S (es.toList.map (·.2)) s s2 I->R (.ref I) s2):wpAny (model prog w) A (pyIter (.ref S)) R E s:=by
 have ah:s.TypeIs (.ref S) "set":=⟨_,hS,am⟩
 have aa:=Au hS;refine wpAny_pyIter_slot ah F.slot_set_iter (BI F.slot_set_iter ah p4 ?_ (F.args_set_iter_1 _));unfold Builtin.«frozenset.__iter__» Builtin.Frozenset.slot0 Builtin.Frozenset.sizeOf;refine Aa (Aa (Ad (Ad ?_)));refine Aa (Aa (Dq hS hd O (Ad ?_)));refine Aa ?_;unfold setDrawn setsByText;refine Aa (C8 hS hd O (Aa (Aa (Dk (Ad (Ad ?_))))));have aB:(es.toList.map (·.2)).length=es.size:=by simp
 have fin:(∀(i:Nat) (s:Ac),s.heap.get? S=some o->i<=es.size->True)->∀(sl:Nat->Nat) (ord:List Ab),sl 0=0->ord.Perm (es.toList.map (·.2))->
   (∀(i:Nat) (s:Ac),s.heap.get? S=some o->i<=ord.length->∀(B:AJ) (E':Ab->Ac->Prop) (Q':Option (Ab×Nat)->Ac->Prop),Q' ((ord[i]?).map fun v=>(v,sl (i+1))) s->wpAny (model prog w) B (setNext S (sl i) i ep) Q' E' s)->
   wpAny (model prog w) A.in1 (do ret (<- newFields "set_iterator" [rawInt 0,rawInt 0,.ref S,rawInt es.size,rawInt (<- setEpoch S)])) (fun fin s'=>∃ v,fin=.done (.ret v)/\∃ T' r,s'.TypeIs v T'/\typeLookup (.type T') "__next__"=pure (some r)/\R v s') E s:=by
  intro _ sl ord h0 D hN;refine Aa (wpAny_setEpoch_of hS hd O ?_);refine Aa (A6 (Ad ⟨_,rfl,"set_iterator",_,⟨_,Aw _ rfl,rfl⟩,dG.lookup,h _ _ ?_⟩));have ao:ord.length=(es.toList.map (·.2)).length:=D.length_eq
  refine⟨⟨[s.heap.objs.size,S],_,_,ao▸aHq hh (AF aa) hd O sl ord hN,⟨by rw[h0];exact Aw _ rfl,Ai _ hS⟩,by simp,?_,fun aw ha=>?_⟩,fun b u e=>Ai _ e,Ak _,rfl,rfl,rfl⟩
  .intro b hb;rw[Ci];simp at hb;rcases hb with rfl|rfl
   .exact⟨CJ _,.inr (Ak _)⟩
   .exact⟨Bw aa,.inl rfl⟩
  .rw[<- ao]at ha;rw[aD9 ha];exact D
 dsimp only;cases Z:(model prog w).w.params.followText "set-order" with
 | true=>
  rw[Ia (by simp)];refine Aa (Ad ?_);refine fin (fun _ _ _ _=>trivial) (fun _=>0) ((pickOrder ((model prog w).w.params.setOrder S ep) es).toList.map (·.2)) rfl ((tX _ es).map _) fun i s1 J hi B E' Q' q=>?_
  unfold setNext setsByText setWalk setsByText;refine Aa (C8 J hd O ?_);refine Aa (Aa (Dk (Ad ?_)));dsimp only;rw[Z,Ib rfl];rw[Ia (show¬ ((ep != ep)=true) by simp)];refine Aa (Aa (C8 J hd O ?_));refine Aa (Aa (Dk (Ad ?_)));dsimp only;rw[Z,Ib rfl];refine Aa (Dk (Ad (Ad ?_)));simpa[Function.comp_def]using q
 | false=>
  by_cases h1:es.size>1
  .have Y:t.plain=false:=ac.2.resolve_left (by omega);refine Cy (Ic (show((!false)&&(!t.plain&&decide (es.size>1)))=true by rw[Y];simp[h1])) ?_;refine Aa (aA2 es.size (AU es.size) s _ (by simp) fun ys d D=>?_);have aj:ys.length=es.size:=by rw[D.length_eq];simp
   refine Aa (FW ?_ (by rw[Ae,aj];exact EB hb));have J:(s.heap.push { cls:=.type "tuple",data:=.seq (ys.map fun(i:Nat)=>rawInt i).toArray }).get? S=some o:=Ai _ hS;refine Aa (wpAny_setEpoch_of J hd O ?_);refine Aa (A6 (Ad ⟨_,rfl,"set_iterator",_,⟨_,Aw _ rfl,rfl⟩,dG.lookup,h _ _ ?_⟩));have W:(s.heap.push { cls:=.type "tuple",data:=.seq (ys.map fun(i:Nat)=>rawInt i).toArray }).objs.size=s.heap.objs.size+1:=Ci _ _;have an:(ys.map fun(i:Nat)=>rawInt i).toArray.size=(es.toList.map (·.2)).length:=by simp[aj]
   have hw:=aHp (prog:=prog) (w:=w) (A:=A) (I:=(s.heap.push { cls:=.type "tuple",data:=.seq (ys.map fun(i:Nat)=>rawInt i).toArray }).objs.size) (S:=S) (T:=s.heap.objs.size) (o:=o) (ot:={ cls:=.type "tuple",data:=.seq (ys.map fun(i:Nat)=>rawInt i).toArray }) hh (by rw[W];exact AF (Bw aa)) (by rw[W];exact AF (CJ _)) hd O rfl (zO D rfl);rw[an]at hw;refine⟨⟨_,_,_,hw,⟨Aw _ rfl,Ai _ J,Ai _ (Aw _ rfl)⟩,by simp,?_,fun aw ha=>?_⟩,fun b u e=>Ai _ (Ai _ e),by dsimp only;rw[W];exact C6 _,rfl,rfl,rfl⟩
   .intro b hb;have h3:b=s.heap.objs.size+1\/b=S\/b=s.heap.objs.size:=by
     rw[W]at hb;simpa using hb
    dsimp only;rw[Ci,W];rcases h3 with rfl|rfl|rfl
    .exact⟨CJ _,.inr (C6 _)⟩
    .exact⟨Bw (Bw aa),.inl rfl⟩
    .exact⟨Bw (CJ _),.inr (Ak _)⟩
   .rw[<- an,Ao,Ae]at ha;exact xR D rfl ha
  .refine Ay (Ie (show¬ (((!false)&&(!t.plain&&decide (es.size>1)))=true) by simp[h1])) ?_;refine Aa (Ad ?_);have aq:(!t.plain&&decide (es.size>1))=false:=by simp[h1]
   have ak:t.led=true:=by
    have z:=ac.1;rw[show w.params.followText "set-order"=false from Z]at z;exact z
   have ax:t.place.size=es.size:=by
    unfold SetTable.fits at O;simp at O;exact O.1
   refine fin (fun _ _ _ _=>trivial) (fun i=>if i=0 then 0 else t.place.getD 0 0+1) (es.toList.map (·.2)) rfl (Do _) fun i s1 J hi B E' Q' q=>?_
   unfold setNext setsByText;refine Aa (C8 J hd O ?_);refine Aa (Aa (Dk (Ad ?_)));dsimp only;rw[Z,Ia (by simp)];refine Ay (Ie (show¬ ((!t.plain&&decide (es.size>1))=true) by rw[aq];simp)) ?_;refine Aa (Ay (Ie (show¬ ((!t.led&&!es.isEmpty)=true) by rw[ak];simp)) (Ad (Ad ?_)));have ag:es.size=0\/es.size=1:=by omega
   rcases ag with hz|hz
   .have ad:es=#[]:=Array.eq_empty_of_size_eq_zero hz;have Y:t.place=#[]:=Array.eq_empty_of_size_eq_zero (by omega);subst ad;have ar:i=0:=by simpa using hi
    subst ar;rw[Y];simpa[Dp,Dp.go]using q
   .obtain⟨e,ad⟩:=Array.size_eq_one_iff.mp hz;obtain⟨j,Y⟩:=Array.size_eq_one_iff.mp (ax.trans hz);subst ad;have au:i=0\/i=1:=by
     have:i<=1:=by simpa using hi
     omega
    rw[Y]at q ⊢;rcases au with rfl|rfl
    .simpa[Dp,Dp.go]using q
    .simpa[Dp,Dp.go]using q
end
section
variable{S:Ah}{ep:Nat}{o:Obj}{t:CS}
theorem zQ(hh:A.handled=none)(B:o.cls=.type "set")(hd:o.data=.set es ep t)(hf:t.fits es.size=true)(hb:es.size<scanBound)(aa:tV w es t){E:Ab->Ac->Prop}{s:Ac}{Q:List Ab->Ac->Prop}(hS:s.heap.get? S=some o)
  (h:∀(ah:List Ab) (h':A8) (d:Ha) (tk:Nat),ah.Perm (es.toList.map (·.2))->(∀ b u,s.heap.get? b=some u->h'.get? b=some u)->s.heap.objs.size<h'.objs.size->Q ah { s with heap:=h',drawn:=d,toks:=tk }):wpAny (model prog w) A (collect (.ref S)) Q E s:=by
 have aj:=Au hS;unfold collect;apply Aa;apply E7;apply Cb F.entry_proto_collect;rw[Cd F.plain_proto_collect];show wpAny _ A.in1 (newList [] >>= fun l=>again (.builtin "list.__iadd__" ⟨[l,.ref S],[]⟩)) _ _ s;apply Aa;refine A6 (Ad ⟨ED Ew _,Cb F.entry_list_iadd ?_⟩);rw[Cd Ew];have O:(s.heap.push { cls:=.type "list",data:=.seq ([]:List Ab).toArray }).get? S=some o:=Ai _ hS;have au:(s.heap.push { cls:=.type "list",data:=.seq ([]:List Ab).toArray }).get? s.heap.objs.size=some { cls:=.type "list",data:=.seq ([]:List Ab).toArray }:=Aw _ rfl;have e1:Builtin.List.listSameRef (.ref s.heap.objs.size) (.ref S)=false:=by
  show(s.heap.objs.size==S)=false;simpa using De aj
 show wpAny _ A.in1 (CL (.ref s.heap.objs.size) (.ref S) (.ref s.heap.objs.size)) _ _ _;unfold CL;refine Aa (Cn (T:="set") ⟨o,O,B⟩ ?_);rw[Ia (by rw[e1];decide)];refine Aa (aEa (A:=A.in1) hh B hd hf hb aa O fun I s2 it=>?_);have J:=it.keep S o O;have ai:=it.keep _ _ au;refine Aa (Ba ?_);unfold Builtin.List.listLengthHint;refine Aa (ET (T:="set") ⟨o,J,B⟩ F.slot_set_len.lookup ?_);generalize hid:("set.__len__":String)=ar
 wp_delta
 rw[show splitId ar=some ("set","__len__") from by subst hid;decide];subst hid;refine Aa (Cj (b:=true) (T:="set") ⟨o,J,B⟩ sub_set_self ?_);refine Ay (by rfl) ?_;refine Cy (by decide) ?_;refine Aa (Cn (T:="set") ⟨o,J,B⟩ ?_);refine Ad ?_;refine Cy (by decide) ?_;refine Aa (Di ?_);obtain⟨fp,P,St,W,st0,hI,hfp,hit⟩:=it.w;have ac:(s.heap.push { cls:=.type "list",data:=.seq ([]:List Ab).toArray }).objs.size=s.heap.objs.size+1:=Ci _ _;have ad:s.heap.objs.size∉fp:=fun hm=>by
  rcases(hfp _ hm).2 with z|z
  .exact absurd z (De aj)
  .dsimp only at z;rw[ac]at z;exact absurd z (Nat.not_succ_le_self _)
 apply Aa;show wpAny _ A.in1 (updateSeq s.heap.objs.size (·.push .none) >>= fun _=>updateSeq s.heap.objs.size (·.pop)) _ _ _
 apply Aa;refine wpAny_updateSeq ai rfl ?_;have Y:=B9 (BO (·.push CN)) ai rfl
 refine wpAny_updateSeq Y rfl ?_;have ao:=B9 (BO (·.pop)) Y rfl
 have Z:∀ b u,b≠s.heap.objs.size->s2.heap.get? b=some u->((s2.heap.update s.heap.objs.size (BO (·.push CN))).update s.heap.objs.size (BO (·.pop))).get? b=some u:=
  fun b u nb e=>(DD _ _ (D7 nb)).trans ((DD _ _ (D7 nb)).trans e)
 have ap:(es.toList.map (·.2)).length<=sizeLine:=by
  rw[Ae,Bh];exact EB hb
 refine Ad ⟨ED F.plain_extend_loop _,codeAny_extend_loopS (Gy W) ap s.heap.objs.size ad _ _ 0 _ _ _ rfl (Bx _) (W.frame 0 _ _ st0 fun b hb u e=>Z b u (fun z=>ad (z▸hb)) e) ao (ItemsOf.nil P) fun s' D c' hm ag af=>?_⟩;show wpAny _ A (load s.heap.objs.size >>= _) _ _ s';apply Aa;refine FX ag (Ad ?_);obtain⟨h',g',d',tk',os'⟩:=s';have g1:=hm.gens;have g2:=hm.os;dsimp only at g1 g2;have g3:=it.gens;have g4:=it.os;rw[g3]at g1;rw[g4]at g2;dsimp only at g1 g2;subst g1 g2;refine h D.toList h' d' tk' (hit D af) (fun b u e=>?_) (Au ag);have ae:=Au e;have nb:b≠s.heap.objs.size:=AF ae;have nI:b≠I:=fun z=>by
  have z2:=it.new;dsimp only at z2;rw[ac,<- z]at z2;exact absurd (Nat.lt_trans ae z2) (B6 _)
 refine hm.heap b u (by simp[nb,nI]) (Z b u nb (it.keep b u (Ai _ e)))
end
theorem iF{α:Type}[DecidableEq α]:∀(L M:List α),L.Nodup->(∀ x∈L,x∈M)->M.length=L.length->M.Perm L
 | [],M,_,_,D=>by
  have:M=[]:=Cg D;rw[this]
 | x::r,M,hn,hm,D=>by
  obtain⟨hx,hr⟩:=CV.mp hn;have B:=hm x (by simp);have O:=iF r (M.erase x) hr (fun y J=>(List.mem_erase_of_ne (show y≠x from fun z=>hx (by rw[<- z];exact J))).mpr (hm y (by simp[J]))) (by rw[List.length_erase_of_mem B,D];simp);exact(List.perm_cons_erase B).trans (O.cons x)
section
variable{S:Ah}
theorem zS(hh:A.handled=none){f:Str->Bool}{n:Nat}(hS:i6 prog w s.heap S f n){D:List Str}(ae:D.Nodup)(O:∀ k,f k=true↔k∈D)(hn:n=D.length)(ak:n<64){Q:Ab->Ac->Prop}
  (h:∀(l:Ah) (h':A8) (d:Ha) (tk e:Nat) (out:Array Ab) (Y:List Str),s.heap.objs.size<=l->(∀ b u,s.heap.get? b=some u->h'.get? b=some u)->h'.get? l=some (seqObj "list" out e)->FU out.toList Y->Y.Perm D->sortedS Y=true->Q (.ref l) { s with heap:=h',drawn:=d,toks:=tk }):
  wpAny (model prog w) A (call (.builtin "sorted") [.ref S]) Q E s:=by
 obtain⟨o,es,ep,t,ho,hex,hd,hel,hm,hb,hf,hsz,hTab⟩:=hS;refine Ec GY Gs Gv (Gx _) ?_;unfold Builtin.«sorted»;apply Aa (m:=checkCount "sorted" 1 1 _);apply Ad;refine Aa (zQ (A:=A.in1) hh hex.1 hd hf hb hTab ho fun z h1 d tk hp J ac=>?_);have Z:∀ v,v∈z->∃ x t,v=.str x t:=fun v hv=>by
  obtain⟨e,he,rfl⟩:=Bk.mp (hp.mem_iff.mp hv);obtain⟨⟨k,J,_⟩,_⟩:=hel e he;obtain⟨t,ht⟩:=EN J;exact⟨k,t,ht⟩
 have hA:=strsAre_map z Z;have ai:z.length=n:=by rw[hp.length_eq,Ae,Bh];exact hsz
 have hM:(z.map strOf).Perm D:=by
  refine((hp.map strOf)).trans (iF D _ ae (fun x hx=>?_) (by rw[Ae,Ae,Bh,hsz,hn]));obtain⟨e,he,J⟩:=(hm x).mp ((O x).mpr hx);obtain⟨t,ht⟩:=EN J;exact Bk.mpr ⟨e.2,Bk.mpr ⟨e,he,rfl⟩,by rw[ht];rfl⟩
 have ad:z.length<=sizeLine:=by rw[Fb];omega
 apply Aa;refine EC ?_ ad;have B:(h1.push (seqObj "list" z.toArray 0)).get? h1.objs.size=some (seqObj "list" z.toArray 0):=Aw _ rfl;refine Aa (Ba (BI slot_list_sort ⟨_,B,rfl⟩ entry_list_sort (list_sort_treeK strKind_oneLt B hA.keysOf (fun v₁ v₂ dR e=>keyKind_strs (by rw[<- e];exact hA)) (by omega) fun ah a1 a2=>⟨_,rfl,?_⟩) (FZ _)));obtain⟨Y,b1,b2,b3⟩:=sorted_out_str hA a1 a2;refine Ad ⟨_,rfl,?_⟩;obtain⟨e,he⟩:=Gi (vs:=z) (out:=(arrOf ah).map (·.2)) B
 have aa:s.heap.objs.size<=h1.objs.size:=D4 ac;refine h _ _ d tk e _ Y aa (fun b u eb=>?_) he b1 (b2.trans hM) b3;have W:=Au (J b u eb);rw[FY (AF W) (by rw[Ci];exact Bw W)];exact Ai _ (J b u eb)
end
section
variable{H':Hp}{h':A8}
theorem Inv.laidD{a:Ah}{o:HO}{t':Nat}{d':Ha}(I:Inv X dz σ H s)(k:∀ b u,s.heap.get? b=some u->h'.get? b=some u)(B:s.heap.objs.size<=a)(new:c7 X.prog X.w (upd H a o) h' a o):
  Inv X dz σ (upd H a o) { s with heap:=h',drawn:=d',toks:=t' }:=by
 have u:Un (frs X.stack) [] H (upd H a o) s.heap h':=Un.laid k B (I.hok.fresh B);exact I.call (g':=s.gens) (d':=d') u (I.hok.laid k B new) I.bare (fun _ z=>nomatch z)
theorem tY(val:Nat->Str):∀ i,(gT val i).Nodup
 | 0=>List.nodup_nil
 | i+1=>by
  show(jI (gT val i) (val i)).Nodup;have z:=tY val i;unfold jI;split
  .exact z
  .next hne=>
   rw[Ej];exact⟨z,by simp,fun x B y D e=>hne (by rw[<- (show y=val i from by simpa using D),<- e];exact B)⟩
def p5(ss:List Str):List Str:=gT (fun i=>ss.getD i "") ss.length
theorem zU(z:List Str)(k:Str):k∈p5 z↔k∈z:=by
 unfold p5;rw[tO];constructor
 .rintro⟨j,hj,e⟩;rw[<- e,Bf,Ag hj];exact BM hj
 .intro B;obtain⟨j,hj,e⟩:=DW.mp B;exact⟨j,hj,by rw[Bf,Ag hj];exact e⟩
theorem m6(z:List Str):(p5 z).Nodup:=tY _ _
def aCV(P:Ar)(w:AQ)(a:Ah)(ss:List Str):HO:=.ext fun h=>i6 P w h a (fun k=>(p5 ss).any fun x=>x==k) (p5 ss).length
theorem zV{D:List Str}{its:List Ab}(J:cJ (D.map V.str) its){i:Nat}{v:Ab}(O:its.toArray[i]?=some v):∃ t,v=BK (D.getD i "") t:=by
 have z:=J.length;rw[Ae]at z;have B:its[i]?=some v:=by simpa using O
 have hi:i<D.length:=by
  rw[z];exact(Bl.mp B).1
 have e:(D.map V.str)[i]?=some (V.str (D.getD i "")):=by
  rw[Bs,Ag hi];simp[hi]
 obtain⟨u,hu,ru⟩:=J.get e;rw[B]at hu;cases hu;exact ru
theorem v8(hc:X.calm=true):eU X (.type "set") (fun xs H Q=>∃(p:Ah) (D:List Str),xs=[.ref p]/\(H p=some (.lst (D.map V.str))\/H p=some (.tup (D.map V.str)))/\D.length<=1000/\∀ a,H a=none->Q (.ref a) (upd H a (aCV X.prog X.w a D))):=by
 intro dz s σ H xs us Q I r h;obtain⟨p,D,rfl,J,h1000,q⟩:=h;obtain⟨u,rfl,ru⟩:=fY r;cases ru;have fin:∀(B:List Ab),B.length=D.length->∀(h':A8) (tk:Nat),i6 X.prog X.w h' s.heap.objs.size (fun k'=>(gT (fun i=>D.getD i "") B.toArray.size).any fun x=>x==k') (gT (fun i=>D.getD i "") B.toArray.size).length->
   (∀(b:Nat) (o:Obj),b<s.heap.objs.size->s.heap.get? b=some o->h'.get? b=some o)->EP X dz σ Q (AI s.heap.objs.size) { s with heap:=h',toks:=tk }:=by
  intro B hl h' tk Z hk;have W:B.toArray.size=D.length:=by rw[Ao,hl]
  rw[W]at Z;have Y:∀ b u,s.heap.get? b=some u->h'.get? b=some u:=fun b u e=>hk b u (Au e) e;have hn:H s.heap.objs.size=none:=I.hok.fresh (Ak _);refine⟨.ref s.heap.objs.size,_,I.laid (t':=tk) (o:=aCV X.prog X.w s.heap.objs.size D) Y (Ak _) ⟨Z,?_,fun h1 h2 f g=>?_⟩,rfl,q _ hn⟩
  .obtain⟨o,_,_,_,e,_⟩:=Z;exact⟨o,e⟩
  .exact f.at g
 rcases J with J|J
 .obtain⟨B,rv,pl,_⟩:=I.list (bB J);have z:=rv.length;rw[Ae]at z;exact zK (val:=fun i=>D.getD i "") (I.ok.hd hc) pl.isList (fun i v O=>zV rv O) (by rw[Ao,<- z];show _<4096;omega) (fin B z.symm)
 .obtain⟨B,rv,pl,_⟩:=I.tuple (aU J);have z:=rv.length;rw[Ae]at z;exact zL (val:=fun i=>D.getD i "") (I.ok.hd hc) pl (fun i v O=>zV rv O) (by rw[Ao,<- z];show _<4096;omega) (fin B z.symm)
theorem oG(hc:X.calm=true):eU X (.builtin "sorted") (fun xs H Q=>∃(p:Ah) (z:List Str),xs=[.ref p]/\H p=some (aCV X.prog X.w p z)/\z.length<64/\∀(l:Ah) (B:List Str),H l=none->B.Perm (p5 z)->sortedS B=true->Q (.ref l) (upd H l (.lst (B.map V.str)))):=by
 intro dz s σ H xs us Q I r h;obtain⟨p,z,rfl,hx,h64,q⟩:=h;obtain⟨u,rfl,ru⟩:=fY r;cases ru;obtain⟨hS,_,_⟩:c7 X.prog X.w H s.heap p (aCV X.prog X.w p z):=I.hok p _ hx;have ac:(p5 z).length<=z.length:=qS (fun i=>z.getD i "") z.length;refine zS (I.ok.hd hc) hS (m6 z) (fun k=>by rw[oB];simp) rfl (by omega) fun l h' d tk e out B D hk Y ha J O=>?_;have W:cJ (B.map V.str) out.toList:=iD ha;have Z:=J.length_eq;exact⟨.ref l,_,I.laidD (t':=tk) (d':=d) (o:=.lst (B.map V.str)) hk D ⟨aH (by rw[Ae];omega),out.toList,e,W,by rw[Y]<;>rfl⟩,rfl,q l B (I.hok.fresh D) J O⟩
theorem oH:∀(p:Str) (l:List Str),risingS p l=true->(∀ x∈l,¬ x.cps.toList<p.cps.toList)/\l.Pairwise fun a b=>¬ b.cps.toList<a.cps.toList
 | p,[],_=>⟨fun x B=>by simp at B,EH⟩
 | p,x::r,h=>by
  have h':(!ltCps x.cps.toList p.cps.toList&&risingS x r)=true:=h;rw[Av,ltCps_eq]at h';have B:¬ x.cps.toList<p.cps.toList:=by simpa using h'.1
  obtain⟨i1,i2⟩:=oH x r h'.2;refine⟨fun y D=>?_,D8.mpr ⟨i1,i2⟩⟩;rcases Am.mp D with rfl|D
  .exact B
  .intro z;have h1:=i1 y D;exact B (List.lt_of_le_of_lt (DV.mp h1) z)
theorem iG:∀(l:List Str),sortedS l=true->l.Pairwise fun a b=>¬ b.cps.toList<a.cps.toList
 | [],_=>EH
 | x::r,h=>D8.mpr (oH x r h)
theorem xS{a b:Str}(h:a.cps.toList=b.cps.toList):a=b:=by
 cases a;cases b;congr;exact Fh.mp h
theorem kS:∀{l m:List Str},l.Perm m->(l.Pairwise fun a b=>¬ b.cps.toList<a.cps.toList)->(m.Pairwise fun a b=>¬ b.cps.toList<a.cps.toList)->l=m
 | [],m,h,_,_=>(E2 h.symm).symm
 | x::r,[],h,_,_=>by simpa using h.length_eq
 | x::r,y::q,h,h1,h2=>by
  obtain⟨a1,a2⟩:=D8.mp h1;obtain⟨b1,b2⟩:=D8.mp h2;have e:x=y:=by
   rcases Am.mp (h.mem_iff.mp (AM (a:=x) (l:=r)))with e|hx
   .exact e
   .rcases Am.mp (h.mem_iff.mpr (AM (a:=y) (l:=q)))with e|hy
    .exact e.symm
    .exact xS (Fk (DV.mp (a1 y hy)) (DV.mp (b1 x hx)))
  subst e;rw[kS ((List.perm_cons x).mp h) a2 b2]
end
def aEb{α:Type}(o:Nat->Nat->Bool):KasT α->α
 | .ret a=>a
 | .ask i j k=>aEb o (k (o i j))
theorem iM.run{α:Type}{n:Nat}{P:α->Prop}(o:Nat->Nat->Bool):∀{t:KasT α},iM n P t->P (aEb o t)
 | .ret a,h=>h
 | .ask i j k,h=>by
  show P (aEb o (k (o i j)));exact iM.run o (h.2.2 (o i j))
theorem iM.wpO{α:Type}{n:Nat}{P:α->Prop}{z:Nat->Nat->(Bool->Ac->Prop)->Ac->Prop}{Q:α->Ac->Prop}{s:Ac}{o:Nat->Nat->Bool}(hc:∀ i j C,i<n->j<n->C (o i j) s->z i j C s):∀{t:KasT α},iM n P t->Q (aEb o t) s->t.kasWp z Q s
 | .ret a,_,q=>by rw[KasT.kasWp.eq_1];exact q
 | .ask i j k,h,q=>by
  rw[KasT.kasWp.eq_2];exact hc i j _ h.1 h.2.1 (iM.wpO hc (h.2.2 _) q)
abbrev P3:=Str×Str×Int
def aEc(x y:P3):Bool:=if x.1==y.1 then(if x.2.1==y.2.1 then(if x.2.2==y.2.2 then false else decide (x.2.2<y.2.2)) else decide (x.2.1.cps.toList<y.2.1.cps.toList)) else decide (x.1.cps.toList<y.1.cps.toList)
inductive aBP(h:A8)(v:Ab)(x:P3):Prop
 | mk (t:_) (u1:_) (u2:_) (u3:_) (q0:v=.ref t) (q1:Ef h t #[.str x.1 u1,.str x.2.1 u2,.int x.2.2 u3]):aBP h v x
def mC(h:A8)(v:Ab)(x:P3):Prop:=aBP h v x
theorem aFC{a b:Int}{t u:Tok}{Q:Bool->Ac->Prop}(h:Q (decide (a<b)) s):wpAny (model prog w) A (oneLt' false (Cm a t) (Cm b u)) Q E s:=by
 rw[oneLt'_eq];show wpAny _ _ (compareOp .Lt (Cm a t) (Cm b u) >>= _) _ _ _;apply Aa;refine lt_int ?_
 wp_walk
 exact h
theorem aBQ{a b:Str}{t u:Tok}{Q:Bool->Ac->Prop}(h:Q (decide (a.cps.toList<b.cps.toList)) s):wpAny (model prog w) A (oneLt' false (BK a t) (BK b u)) Q E s:=by
 rw[oneLt'_eq];show wpAny _ _ (compareOp .Lt (BK a t) (BK b u) >>= _) _ _ _;apply Aa;refine lt_str ?_
 wp_walk
 exact h
theorem ltP{z:Bool}{Y Z:Ab}{x y:P3}{C:Bool->Ac->Prop}(O:mC s.heap Y x)(J:mC s.heap Z y)(h:C (aEc x y) s):wpAny (model prog w) A (keyLt' (tuples' z) Y Z) C E s:=by
 obtain⟨a1,b1,c1⟩:=x;obtain⟨a2,b2,c2⟩:=y;obtain⟨p1,t1,t2,t3,rfl,O⟩:=O;obtain⟨p2,u1,u2,u3,rfl,J⟩:=J;dsimp only at O J;unfold aEc at h;dsimp only at h;show wpAny _ _ (D9 (.ref p1) >>= _) _ _ _;refine Aa (pJ O ?_);refine Aa (pJ J ?_);dsimp only[List.zip_cons_cons,List.zipIdx_cons,List.zip_nil_left];rw[List.zipIdx_nil];have e1:∀{Q:Bool->Ac->Prop} {a b:Int} {t u:Tok},Q (a==b) s->wpAny (model prog w) A (eqBool (.int a t) (.int b u)) Q E s:=fun{Q a b t u} q=>aAT (y:=.int a) (x:=.int b) ⟨t,rfl⟩ ⟨u,rfl⟩ rfl rfl prog w _ _ q;have e2:∀{Q:Bool->Ac->Prop} {a b:Str} {t u:Tok},Q (a==b) s->wpAny (model prog w) A (eqBool (.str a t) (.str b u)) Q E s:=fun{Q a b t u} q=>SeqAt.EqAt.str_str a t b u prog w _ _ q;refine Aa ?_;rw[EG];refine Aa (Aa (e2 ?_));cases hz:(a1==a2)with
 | false=>
  rw[hz]at h;refine Cy (by decide) ?_;refine Aa ?_;show wpAny _ _ (oneLt' (z&&0==0) (BK a1 t1) (BK a2 u1)) _ _ _;cases z
  .exact aBQ (Ad (Ad (Ad h)))
  .exact oneLt_str (Ad (Ad (Ad h)))
 | true=>
  rw[hz,Ib rfl]at h;refine Ay (by decide) (Ad ?_);dsimp only;rw[EG];refine Aa (Aa (e2 ?_));cases B:(b1==b2)with
  | false=>
   rw[B]at h;refine Cy (by decide) ?_;refine Aa ?_;have W:(z&&((0+1:Nat)==0))=false:=by cases z<;>rfl
   show wpAny _ _ (oneLt' (z&&(0+1==0)) (BK b1 t2) (BK b2 u2)) _ _ _;rw[W];exact aBQ (Ad (Ad (Ad h)))
  | true=>
   rw[B,Ib rfl]at h;refine Ay (by decide) (Ad ?_);dsimp only;rw[EG];refine Aa (Aa (e1 ?_));cases D:(c1==c2)with
   | false=>
    rw[D]at h;refine Cy (by decide) ?_;refine Aa ?_;have W:(z&&((0+1+1:Nat)==0))=false:=by cases z<;>rfl
    show wpAny _ _ (oneLt' (z&&(0+1+1==0)) (Cm c1 t3) (Cm c2 u3)) _ _ _;rw[W];exact aFC (Ad (Ad (Ad h)))
   | true=>
    rw[D,Ib rfl]at h;refine Ay (by decide) (Ad ?_);dsimp only;rw[List.forIn_nil];exact Ad (Ad h)
def xT(ps:List P3):List Nat:=(aEb (fun i j=>aEc (ps.getD i ("","",0)) (ps.getD j ("","",0))) (kas_sort ps.length)).toList
theorem v9(ps:List P3)(h:0<ps.length):(xT ps).Perm (AU ps.length):=by
 have:=iM.run (fun i j=>aEc (ps.getD i ("","",0)) (ps.getD j ("","",0))) (v6 h);exact Bc.mp this
theorem aIy{ks:List Ab}{Q:Dv->Ac->Prop}(hk:∀ v∈ks,∃ x,mC s.heap v x)(h:∀ b,Q (tuples' b) s):wpAny (model prog w) A (keyKind' ks.toArray) Q E s:=by
 rw[keyKind'_eq,Array.mapM_eq_mapM_toList];refine Aa ?_;rw[<- bind_pure_comp];refine Aa (tR (R:=fun _ r=>∃ a u,r=some (BK a u)) ks (fun v D=>?_) fun O hl z=>Ad ?_)
 .obtain⟨x,t,u1,u2,u3,rfl,ht⟩:=hk v D;refine⟨some (.str x.1 u1),⟨x.1,u1,rfl⟩,fun Q' q=>?_⟩;rw[kas_first_eq];refine Aa (Cn ht.typeIs ?_);refine Ay (by decide) ?_;refine Aa (pJ ht ?_);exact Ad q
 .have B:(O.toArray.all fun x=>x.isSome)=true:=by
   rw[List.all_toArray,AX];intro r Y;obtain⟨v,_,a,u,rfl⟩:=z r Y;rfl
  refine Cy (by rw[B];rfl) ?_;refine Aa (Di ?_);rw[oneTypeOnly'_eq,Array.mapM_eq_mapM_toList]
  iterate 2 refine Aa ?_
  rw[<- bind_pure_comp];refine Aa (tR (R:=fun _ r=>r=AW "str") _ (fun v D=>?_) fun ts aa Z=>Ad ?_)
  .have J:some v∈O:=by simpa using D
   obtain⟨_,_,a,u,e⟩:=z _ J;cases e;exact⟨_,rfl,fun Q' q=>Cn (EM s a u) q⟩
  .cases W:ts.toArray[0]? with
   | none=>exact Ad (Ad (h _))
   | some t=>exact Ad (Ad (h _))
theorem aIz{b:Bool}{vs:List Ab}{ps:List P3}{Q:Unit×Bp->Ac->Prop}(Z:vs.length=ps.length)(h2:2<=vs.length)(D:vs.length<64)(O:∀ i,i<vs.length->mC s.heap (vs.getD i .none) (ps.getD i ("","",0)))
  (h:∀ st:Bp,(arrOf st).map (·.2)=((xT ps).map fun i=>vs.getD i .none).toArray->failedOf st=none->Q ((),st) s):wpAny (model prog w) A (sortRuns'.run (Et (tuples' b) (vs.toArray.zip vs.toArray) #[] 7 none)) Q E s:=by
 have hz:(vs.toArray.zip vs.toArray).size=vs.length:=by simp
 have B:=kas_runs (prog:=prog) (w:=w) (A:=A) (E:=E) (κ:=tuples' b) (it:=vs.toArray.zip vs.toArray) (n:=vs.length) (s:=s) (Q:=fun u st s'=>s'=s/\Q (u,st) s) (G:=fun p s'=>p.toList=xT ps/\s'=s) h2 D (fun p' J s' Y ha hf W=>?_)
  (iM.wpO (n:=vs.length) (P:=Pm vs.length) (o:=fun i j=>aEc (ps.getD i ("","",0)) (ps.getD j ("","",0))) (fun i j C hi hj hC=>?_) (v6 (by omega)) ⟨by unfold xT;rw[Z],rfl⟩)
 .have e1:kas_st (tuples' b) (vs.toArray.zip vs.toArray) (AU vs.length).toArray=Et (tuples' b) (vs.toArray.zip vs.toArray) #[] 7 none:=by
   unfold kas_st;have:=kas_range (vs.toArray.zip vs.toArray);rw[hz]at this;rw[this]
  rw[e1]at B;exact BH B (fun r s' z=>by
   obtain⟨rfl,q⟩:=z;exact q) fun e s' z=>z
 .obtain⟨hp,rfl⟩:=W;refine⟨rfl,h J ?_ hf⟩;rw[ha];apply Fh.mp;rw[Array.map_map,Array.toList_map,hp];show _=(xT ps).map _;refine DZ fun i _=>?_;show(kas_item (pairsOf vs) i).2=_;rw[GZ]
 .unfold kas_cmp;show wpAny _ _ (keyLt' _ (kas_item (pairsOf vs) i).1 (kas_item (pairsOf vs) j).1) _ _ _;rw[GZ,GZ];exact ltP (O i hi) (O j hj) hC
theorem mC.keep{h h':A8}{v:Ab}{x:P3}(p:mC h v x)(k:∀ b o,h.get? b=some o->o.cls=.type "tuple"->h'.get? b=some o):mC h' v x:=by
 obtain⟨t,u1,u2,u3,e,o,ho,hc,r⟩:=p;exact⟨t,u1,u2,u3,e,o,k t o ho hc,hc,r⟩
theorem aA3{a:Ah}{vs:List Ab}{ps:List P3}{n:Nat}{P:PySem.Fin->Ac->Prop}(gA:s.heap.get? a=some (seqObj "list" vs.toArray n))(hl:vs.length=ps.length)(h2:2<=vs.length)(ac:vs.length<64)(hk:∀ i,i<vs.length->mC s.heap (vs.getD i .none) (ps.getD i ("","",0)))
  (h:∀(h':A8) (e:Nat),(∀ b u,b≠a->s.heap.get? b=some u->h'.get? b=some u)->h'.get? a=some (seqObj "list" ((xT ps).map fun i=>vs.getD i .none).toArray e)->P (.done (.ret .none)) { s with heap:=h' }):
  wpAny (model prog w) A (Builtin.«list.sort» ⟨[.ref a],[]⟩) P E s:=by
 have zz:∀ m,m<=vs.length->m<=sizeLine:=fun m hm=>aH (by omega);rw[list_sort_plain];refine Aa (Fw gA rfl ?_);refine Aa (D0 gA rfl ?_ (by rw[Ao];exact zz _ (Ak _)) (Bx _));have D:=get?_update_seq gA (fun _=>#[]);generalize (if ((#[]:Array Ab).size==vs.toArray.size)=true then n else n+1)=e1 at D;have O:∀ b u,b≠a->s.heap.get? b=some u->(s.heap.update a (BO fun _=>#[])).get? b=some u:=fun b u nb e=>by
  rw[Dh _ _ _ _ nb];exact e
 dsimp only;generalize s.heap.update a (BO fun _=>#[])=h1 at D O ⊢;refine Aa (Fc D rfl ?_);refine Aa (FW ?_ (by simpa using zz _ (Ak _)));refine Aa (EC ?_ (Bx _));refine Ba ?_;have J:((h1.push { cls:=AW "tuple",data:=Ex vs.toArray.toList.toArray }).push { cls:=AW "list",data:=Ex ([]:List Ab).toArray }).get? a=some (seqObj "list" #[] e1):=Ai _ (Ai _ D);have B:∀ b u,b≠a->s.heap.get? b=some u->((h1.push { cls:=AW "tuple",data:=Ex vs.toArray.toList.toArray }).push { cls:=AW "list",data:=Ex ([]:List Ab).toArray }).get? b=some u:=fun b u nb e=>Ai _ (Ai _ (O b u nb e));dsimp only;generalize (h1.push { cls:=AW "tuple",data:=Ex vs.toArray.toList.toArray }).push { cls:=AW "list",data:=Ex ([]:List Ab).toArray }=h3 at J B ⊢;have W:∀ i,i<vs.length->mC h3 (vs.getD i .none) (ps.getD i ("","",0)):=fun i hi=>(hk i hi).keep fun b o e hc=>B b o (fun z=>by
  rw[z,gA]at e;cases e;have ad:(AW "list")=AW "tuple":=hc;injection ad with z2;exact absurd z2 (by decide)) e
 have Y:¬ vs.toArray.size<2:=by simpa using Nat.not_lt.mpr h2
 rw[Ia Y,Ia Y];refine Aa (aIy (fun v hv=>?_) fun b=>?_)
 .obtain⟨i,hi,rfl⟩:=DW.mp hv;have:=W i hi;rw[Bf,Ag hi]at this;exact⟨_,this⟩
 .refine Aa (aIz hl h2 ac W fun st Z hf=>?_);dsimp only;refine Aa (Fc J rfl ?_);have ae:((xT ps).map fun i=>vs.getD i .none).length=vs.length:=by rw[Ae,(v9 ps (by omega)).length_eq,C2,hl]
  refine Aa (D0 J rfl ?_ (Bx _) (by show((arrOf st).map (·.2)).size<=_;rw[Z,Ao,ae];exact AS (zz _ (Ak _))))
  rw[hf];refine Ay (by simp) ?_;obtain⟨e3,gA3⟩:∃ e3,(h3.update a (BO fun _=>(arrOf st).map (·.2))).get? a=some (seqObj "list" ((arrOf st).map (·.2)) e3):=⟨_,get?_update_seq J (fun _=>(arrOf st).map (·.2))⟩
  refine Ad (h _ e3 (fun b u nb e=>?_) (by rw[<- Z];exact gA3));rw[Dh _ _ _ _ nb];exact B b u nb e
theorem zW{p:Ah}{its:List Ab}{Q:List Ab->Ac->Prop}(J:Ef s.heap p its.toArray)(O:its.length<=sizeLine)
  (h:∀ h1:A8,(∀ b u,s.heap.get? b=some u->h1.get? b=some u)->s.heap.objs.size<=h1.objs.size->Q its { s with heap:=h1 }):wpAny (model prog w) A (collect (.ref p)) Q E s:=by
 obtain⟨o,ho,hc,n,hd⟩:=J;unfold collect;apply Aa;apply E7;apply Cb F.entry_proto_collect;rw[Cd F.plain_proto_collect];show wpAny _ A.in1 (newList [] >>= fun l=>again (.builtin "list.__iadd__" ⟨[l,.ref p],[]⟩)) _ _ s;apply Aa;refine A6 (Ad ⟨ED Ew _,Cb F.entry_list_iadd ?_⟩);rw[Cd Ew];have B:(s.heap.push (seqObj "list" #[] 0)).get? p=some o:=Ai _ ho;have z:(s.heap.push (seqObj "list" #[] 0)).get? s.heap.objs.size=some (seqObj "list" #[] 0):=Aw _ rfl;show wpAny _ A.in1 (CL (.ref s.heap.objs.size) (.ref p) (.ref s.heap.objs.size)) _ _ { s with heap:=s.heap.push (seqObj "list" #[] 0) };unfold CL;refine Aa (Cn (T:="tuple") ⟨o,B,hc⟩ ?_);rw[Ib (by simp)];apply Aa;refine Fw B hd ?_;apply Aa;refine Fw z rfl ?_;rw[Ia (by simp)];refine Aa (D0 z rfl ?_ (Bx _) (by show(#[]++its.toArray).size<=sizeLine+1;simp only[Array.size_append,Ao,Cz];omega));apply Ad;have D:=get?_update_seq z (·++its.toArray)
 show wpAny (model prog w) A (load s.heap.objs.size >>= _) Q E _;refine Aa (FX D ?_);show wpAny _ _ (pure ((#[]:Array Ab)++its.toArray).toList) Q E _;rw[show((#[]:Array Ab)++its.toArray).toList=its by simp];refine Ad (h _ (fun b u e=>?_) (D4 (Au D)));rw[Dh _ _ _ _ (AF (Au e))];exact Ai _ e
theorem tZ{p:Ah}{its:List Ab}{Q:Ab->Ac->Prop}(W:Ef s.heap p its.toArray)(J:its.length<64)
  (h:∀(h1:A8),(∀ b u,s.heap.get? b=some u->h1.get? b=some u)->s.heap.objs.size<=h1.objs.size->wpAny (model prog w) A.in1.in1 (Builtin.«list.sort» ⟨[.ref h1.objs.size],[]⟩) (fun fin s'=>fin=.done (.ret .none)/\Q (.ref h1.objs.size) s') E { s with heap:=h1.push (seqObj "list" its.toArray 0) }):
  wpAny (model prog w) A (call (.builtin "sorted") [.ref p]) Q E s:=by
 have D:its.length<=sizeLine:=aH (by omega);refine Ec GY Gs Gv (Gx _) ?_;unfold Builtin.«sorted»;apply Aa (m:=checkCount "sorted" 1 1 _);apply Ad;refine Aa (zW W D fun h1 O Y=>?_);apply Aa;refine EC ?_ D;have B:(h1.push (seqObj "list" its.toArray 0)).get? h1.objs.size=some (seqObj "list" its.toArray 0):=Aw _ rfl;refine Aa (Ba (BI slot_list_sort ⟨_,B,rfl⟩ entry_list_sort (BH (h h1 O Y) (fun fin s' z=>⟨.none,z.1,?_⟩) fun _ _ e=>e) (FZ _)));exact Ad ⟨_,rfl,z.2⟩
inductive iU(xs:List V)(H:Hp)(Q:VK):Prop
 | mk (p:Ah) (ns:List Str) (q0:xs=[.ref p]) (q1:H p=some (.tup (ns.map V.str))) (q2:ns.length<64) (q3:∀(l:Ah) (ms:List Str),H l=none->ms.Perm ns->sortedS ms=true->Q (.ref l) (upd H l (.lst (ms.map V.str)))):iU xs H Q
def p8:List V->Hp->VK->Prop:=fun xs H Q=>iU xs H Q
theorem vG:eU X (.builtin "sorted") p8:=by
 intro dz s σ H xs us Q I r h;obtain⟨p,ns,rfl,hx,h64,q⟩:=h;obtain⟨u,rfl,ru⟩:=fY r;cases ru;obtain⟨its,rv,ht,_⟩:=I.tuple (aU hx);have hi:FU its ns:=m5 rv;have B:=rv.length;rw[Ae]at B;refine tZ ht (by omega) fun h1 O W=>?_;have J:(h1.push (seqObj "list" its.toArray 0)).get? h1.objs.size=some (seqObj "list" its.toArray 0):=Aw _ rfl;refine list_sort_treeK strKind_oneLt J hi.keysOf (fun v₁ v₂ dR e=>keyKind_strs (by rw[<- e];exact hi)) (by omega) fun D a1 a2=>⟨rfl,?_⟩
 obtain⟨ms,b1,b2,b3⟩:=sorted_out_str hi a1 a2;obtain⟨e,he⟩:=Gi (vs:=its) (out:=(arrOf D).map (·.2)) J
 have Z:=b2.length_eq;refine⟨.ref h1.objs.size,_,I.laid (t':=s.toks) (o:=.lst (ms.map V.str)) (fun b u Y=>?_) W ⟨aH (by rw[Ae];omega),((arrOf D).map (·.2)).toList,e,iD b1,by rw[he]<;>rfl⟩,rfl,q _ ms (I.hok.fresh W) b2 b3⟩
 have z:=Au (O b u Y);rw[FY (AF z) (by rw[Ci];exact Bw z)];exact Ai _ (O b u Y)
inductive aBR(H:Hp)(v:V)(x:P3):Prop
 | mk (t:_) (q0:v=.ref t) (q1:H t=some (.tup [.str x.1,.str x.2.1,.int x.2.2])):aBR H v x
def wA(H:Hp)(v:V)(x:P3):Prop:=aBR H v x
theorem wA.real{dz:List (Ah×Obj)}{σ:St}{H:Hp}{s:Ac}{v:V}{u:Ab}{x:P3}(I:Inv X dz σ H s)(h:wA H v x)(r:cW v u):mC s.heap u x:=by
 obtain⟨t,rfl,ht⟩:=h;cases r;obtain⟨_,its,z,hT⟩:c7 X.prog X.w H s.heap t (.tup [.str x.1,.str x.2.1,.int x.2.2]):=I.hok _ _ ht;cases z with
 | cons D z=>
  cases z with
  | cons B z=>
   cases z with
   | cons J z=>
    cases z;obtain⟨u1,e1⟩:=D;obtain⟨u2,e2⟩:=B;obtain⟨u3,e3⟩:=J;subst e1 e2 e3;exact⟨t,u1,u2,u3,rfl,hT⟩
theorem wB{vs:List V}{its:List Ab}(r:cJ vs its):∀(q:List Nat),(∀ i∈q,i<vs.length)->cJ (q.map fun i=>vs.getD i .non) (q.map fun i=>its.getD i .none)
 | [],_=>.nil
 | i::q,h=>by
  have hi:=h i (by simp);obtain⟨u,hu,ru⟩:=r.get (Ag hi);refine .cons ?_ (wB r q fun j z=>h j (by simp[z]));show cW (vs.getD i .non) (its.getD i .none);rw[Bf,Bf,Ag hi,hu];exact ru
def aGL(R:List P3):Prop:=R.Pairwise fun a b=>a.1.cps.toList<b.1.cps.toList
section
variable{n:Nat}{π:Nat->Nat}
abbrev Kp(π:Nat->Nat)(p:Array Nat)(j:Nat):Nat:=π (p.getD j 0)
abbrev ord(π:Nat->Nat):Nat->Nat->Bool:=fun i j=>decide (π i<π j)
variable(hn:0<n)(hπ:∀ i j,i<n->j<n->π i=π j->i=j)
include hn hπ
def KF(π:Nat->Nat)(p:Array Nat)(k:Nat):Prop:=∀ j,1<=j->j<k->Kp π p j<Kp π p (j-1)
omit hn hπ in
omit hn hπ in
end
abbrev K3:=Int×Int×Str
abbrev k0:K3:=(0,0,"")
inductive aEd(h:A8)(v:Ab)(k:K3):Prop
 | mk (t:_) (u1:_) (u2:_) (u3:_) (q0:v=.ref t) (q1:Ef h t #[.int k.1 u1,.int k.2.1 u2,.str k.2.2 u3]):aEd h v k
def aJM(h:A8)(v:Ab)(k:K3):Prop:=aEd h v k
inductive aBS(H:Hp)(v:Ab)(k:K3):Prop
 | mk (t:_) (q0:v=.ref t) (q1:H t=some (.tup [.int k.1,.int k.2.1,.str k.2.2])):aBS H v k
def aIA(H:Hp)(v:Ab)(k:K3):Prop:=aBS H v k
structure KsX(KR:V->K3->Prop)(H:Hp)(xd:List V)(ks:List Ab)(kk:List K3):Prop where
 len:ks.length=xd.length/\kk.length=xd.length
 key:∀ i,i<xd.length->aIA H (ks.getD i .none) (kk.getD i k0)
 kr:∀ i,i<xd.length->KR (xd.getD i .non) (kk.getD i k0)
section
variable{a:Ah}{fc:List (Key×V)}{k:Key}{u r:Ab}
end
section
variable{o f:Bb}{fh fe:Pos}{td ty tx:TE}
end
section
variable{o:Bb}{fh fe:Pos}{td:TE}
end
section
variable{v d:Ah}{vs:List (Key×Ab)}
end
section
variable{ta:TA}
end
inductive Fm:V->Str->Prop
 | str (z:Str) (h:z.length<=sizeLine):Fm (.str z) z
 | int (i:Int) (h:i.natAbs.log2<1920):Fm (.int i) (toString i)
abbrev TJ:=Str->St->Hp->VK->Prop
structure PJ(X:Cx)(es:List Bb)(t:TJ):Prop where
 run:∀(dz:List (Ah×Obj)) (s:Ac) (σ:St) (H:Hp) (Q:VK) (acc:Str),Inv X dz σ H s->t acc σ H Q->wpAny (model X.prog X.w) X.A (joinParts acc (evalEach es X.env)) (EP X dz σ Q) X.xe s
inductive J0(acc:Str)(σ:St)(H:Hp)(Q:VK):Prop
 | mk (h:acc.length<=sizeLine) (q:Q (.str acc) H):J0 acc σ H Q
inductive JC(z:Str)(t:TJ)(acc:Str)(σ:St)(H:Hp)(Q:VK):Prop
 | mk (h:(acc++z).length<=sizeLine) (q:t (acc++z) σ H Q):JC z t acc σ H Q
inductive JF(t:TJ)(acc:Str)(σ:St)(x:V)(H:Hp)(Q:VK):Prop
 | mk (z:Str) (f:Fm x z) (h:(acc++z).length<=sizeLine) (q:t (acc++z) σ H Q):JF t acc σ x H Q
section
variable{es:List Bb}{t:TJ}
end
open PySem PySem.Spec PyProof.Rows PySem.Builtin PySem.Builtin.Str
inductive aFD(x:V)(xs:List V)(H:Hp)(Q:VK):Prop
 | mk (z y:PySem.Str) (h0:x=.str z) (h1:xs=[.str y]) (hy:(y.length==0)=false) (hz:z.length+2<=sizeLine) (q:∀ L,H L=none->Q (.ref L) (upd H L (.lst ((Txt.split z y).map V.str)))):aFD x xs H Q
open PySem PySem.Spec PyProof.Rows PySem.NumText
inductive aIB(xs:List V)(H:Hp)(Q:VK):Prop
 | mk (x:V) (z:Str) (h0:xs=[x]) (f:Fm x z) (q:Q (.str z) H):aIB xs H Q
inductive aIC(xs:List V)(H:Hp)(Q:VK):Prop
 | mk (z:Str) (n:Int) (h0:xs=[.str z]) (hn:PySem.intText? z=some n) (hl:z.length<=640) (q:Q (.int n) H):aIC xs H Q
section
variable{K:Type}[DecidableEq K]{knd:HeapKind prog w K}
end
open PySem PySem.SetTable
inductive aEe(t:CS):Probe->Nat->Prop
 | here {p:Probe} {n:Nat}:t.slot p.j=.empty->aEe t p n
 | step {p:Probe} {n:Nat}:aEe t (t.advance p) n->aEe t p (n+1)
def aJB(t:CS)(i perturb:Nat):Probe:={ j:=i,more:=runEnd t.mask i-i,i:=i,perturb:=perturb,dummy:=none }
def orb(m:Nat):Nat->Nat->Nat
 | 0,i=>i
 | k+1,i=>orb m k ((i*5+1)%m)
structure aID(t:CS)(n:Nat):Prop where
 size:t.place.size=n
 nod:t.dummies=#[]
 mask:(t.mask=7/\n<=4)\/(t.mask=31/\n<=18)
inductive aEf(owner:Array (Option Nat)):Nat->Nat->Nat->Prop
 | here {i p n:Nat}:(owner.getD i (some 0)).isNone=true->aEf owner i p (n+1)
 | step {i p n:Nat}:aEf owner (SetTable.leap 31 i p).1 (SetTable.leap 31 i p).2 n->aEf owner i p (n+1)
structure aJN(owner:Array (Option Nat))(k:Nat):Prop where
 size:owner.size=32
 perm:((AU 32).filterMap fun j=>owner.getD j none).Perm (AU k)
inductive aGM(prog:Ar)(w:AQ)(h:A8)(ks:List (List Str))(v:Ab):Prop
 | mk (b:_) (k:_) (q0:v=.ref b) (q1:IsTupleKey (strKind prog w) h k b) (q2:k∈ks):aGM prog w h ks v
def ElT(prog:Ar)(w:AQ)(h:A8)(ks:List (List Str))(v:Ab):Prop:=aGM prog w h ks v
structure aJO(prog:Ar)(w:AQ)(h:A8)(a:Ah)(rs:List Ah)(ks:List (List Str))(o:Obj)(es:Array (Int×Ab))(ep:Nat)(t:CS):Prop where
 at_:h.get? a=some o
 ex:o.ExactSet
 data:o.data=.set es ep t
 perm:(es.toList.map (·.2)).Perm (rs.map AI)
 els:∀ e∈es.toList,ElT prog w h ks e.2
 tab:aID t es.size
 led:tV w es t
abbrev P2:=Str×Str
inductive aBT(h:A8)(v:Ab)(x:P2):Prop
 | mk (t:_) (u1:_) (u2:_) (q0:v=.ref t) (q1:Ef h t #[.str x.1 u1,.str x.2 u2]):aBT h v x
def aJC(h:A8)(v:Ab)(x:P2):Prop:=aBT h v x
def aEg(H:Hp)(r:Ah):P2:=match H r with
 | some (.tup [.str x,.str y])=>(x,y)
 | _=>("","")
def Pairs(H:Hp)(rs:List Ah):Prop:=∀ r∈rs,H r=some (.tup [.str (aEg H r).1,.str (aEg H r).2])
section
variable{h:A8}{a:Ah}
end
theorem aBU:∀{z:List Ah}{its:List Ab},cJ (z.map V.ref) its->its=z.map AI
 | [],_,.nil=>rfl
 | r::z,_,.cons e q=>by
  rw[aBU q];cases e;rfl
section
variable{d I:Ah}{od:Obj}{es:Array FM}{ep i:Nat}
end
section
variable{st:Bb}{ts:TE}{p2:Pos}
end
structure Fly(P:Ar)(w:AQ)(outer:List Env)(H H':Hp)(s:Ac)(x:Ah)(C:Ab)(s':Ac):Prop where
 os:s'.os=s.os
 bare:Eo s'.gens
 ex:∃(B:A8) (a0:Ab),Heap.FlyingW B outer x C a0 s'.heap/\HOk P w H' B/\(∀ b o,s.heap.get? b=some o->H b=none->b∉frs outer->B.get? b=some o)/\∀ b o,s.heap.get? b=some o->b∉frs outer->∃ o',B.get? b=some o'
 frf:∀ b∈frs outer,H b=none
 slot:∀ b o,s.heap.get? b=some o->H b=none->b∈frs outer->∃ sl,s'.heap.get? b=some { o with slots:=sl }
 free:∀ b o,s.heap.get? b=some o->H b=none->H' b=none
 tups:∀ b xs,H b=some (.tup xs)->H' b=some (.tup xs)
 frzs:∀ b o u,H b=some (.frz o u)->H' b=some (.frz o u)
 tbls:∀ b ps,H b=some (.tbl ps)->∃ more,H' b=some (.tbl (ps++more))
def CXr(P:Ar)(w:AQ):CXT:=fun outer H s E e s'=>∃(x:Ah) (C:Ab) (H':Hp),e=.ref x/\Fly P w outer H H' s x C s'/\E C none H'
theorem Fly.un{P:Ar}{w:AQ}{outer:List Env}{H H':Hp}{s s':Ac}{x:Ah}{C:Ab}(h:Fly P w outer H H' s x C s'):Un (frs outer) [] H H' s.heap s'.heap:=by
 obtain⟨B,a0,fl,hok,hk,ht⟩:=h.ex;refine⟨fun b o e n z _=>fl.1 b o (hk b o e n z),fun b o e n z _=>h.slot b o e n z,fun b o e n _=>h.free b o e n,fun b o e _=>?_,h.tups,h.frzs,h.tbls⟩;by_cases hm:b∈frs outer
 .obtain⟨sl,e1⟩:=h.slot b o e (h.frf b hm) hm;exact⟨_,e1⟩
 .obtain⟨o1,e1⟩:=ht b o e hm;exact⟨o1,fl.1 b o1 e1⟩
theorem Fly.hok{P:Ar}{w:AQ}{outer:List Env}{H H':Hp}{s s':Ac}{x:Ah}{C:Ab}(h:Fly P w outer H H' s x C s'):HOk P w H' s'.heap:=by
 obtain⟨B,a0,fl,hok,hk,ht⟩:=h.ex;exact hok.kept fl.1
section
variable{N:List Str}{E:XK}
theorem aEh{dz:List (Ah×Obj)}{σ:St}{H1:Hp}{O:Ac}{h':A8}{e C:Ah}{args:List Ab}(I:Inv (i3 (CXr P w) P w K mg base N qual scope f cd A outer s H E) dz σ H1 O)
  (hx:Heap.MadeExcOf O.heap h' e (.ref C) args) (hE:E (.ref C) none H1):(i3 (CXr P w) P w K mg base N qual scope f cd A outer s H E).xe (.ref e) { O with heap:=h' }:=by
 have Z:∀ env∈(envOfC qual scope s.heap.objs.size f cd::outer),∀ b,env.frame=some b->b∈frs (envOfC qual scope s.heap.objs.size f cd::outer):=fun env J b D=>Cc.mpr ⟨env,J,D⟩;have Y:O.heap.FunFrames base (envOfC qual scope s.heap.objs.size f cd::outer):=I.stack;have ac:∀ b∈frs (envOfC qual scope s.heap.objs.size f cd::outer),H1 b=none:=I.stkFree;show wpAny _ _ (leaving _ _) _ _ _;refine wpAny_leaves_madeW (base:=hideAll O.heap (frs (envOfC qual scope s.heap.objs.size f cd::outer))) (h:=O.heap) (L:=s.heap.objs.size) I.ok.frames rfl (fun b o q=>of_hideAll _ q) (funFrames_hide Y Z) hx fun aa t x1 x2 x3 x4=>?_;have hL:∀ b,b∈frs (envOfC qual scope s.heap.objs.size f cd::outer)->b=s.heap.objs.size\/b∈frs outer:=fun b D=>by
  obtain⟨env,J,W⟩:=Cc.mp D;rcases Am.mp J with rfl|J
  .exact .inl (Cp.inj W).symm
  .exact .inr (Cc.mpr ⟨env,J,W⟩)
 have B:∀ b o,s.heap.get? b=some o->H b=none->b∉frs outer->(hideAll O.heap (frs (envOfC qual scope s.heap.objs.size f cd::outer))).get? b=some o:=fun b o q n nf=>
  G8 _ (I.base.keep b o q n nf (by simp[i3])) fun hm=>by
   rcases hL b hm with z|z
   .rw[z]at q;exact absurd (Au q) (B6 _)
   .exact nf z
 have slot:∀ b o,s.heap.get? b=some o->H b=none->b∈frs outer->∃ sl,aa.get? b=some { o with slots:=sl }:=fun b o q n W=>by
  obtain⟨sl,e1⟩:=I.base.slot b o q n W (by simp[i3]);have hm:b∈frs (envOfC qual scope s.heap.objs.size f cd::outer):=by
   obtain⟨env,J,W⟩:=Cc.mp W;exact Cc.mpr ⟨env,.tail _ J,W⟩
  obtain⟨_,o2,e2,hd⟩:=Y.mem hm;rw[e1]at e2;cases e2;obtain⟨sl2,e3⟩:=x4 b _ (hx.keeps b _ e1) hd;exact⟨sl2,e3⟩
 refine⟨e,.ref C,H1,rfl,⟨I.os,I.bare,⟨_,_,x1,fun a o q=>(I.hok a o q).stay (fun b u D e=>G8 _ e fun hm=>?_) (fun _ q=>q) fun _ _ q=>q,B,fun b o q nf=>?_⟩,I.ok.frf,slot,fun b o q n=>I.base.free b o q n (by simp[i3]),I.base.tups,I.base.frzs,I.base.tbls⟩,hE⟩
 .have hn:=ac b hm;rcases D with rfl|D
  .rw[q]at hn;cases hn
  .rw[D]at hn;cases hn
 .obtain⟨o1,e1⟩:=I.base.there b o q (by simp[i3]);refine⟨o1,G8 _ e1 fun hm=>?_⟩;rcases hL b hm with z|z
  .rw[z]at q;exact absurd (Au q) (B6 _)
  .exact nf z
end
structure aBV(h:A8)(C:Ah)(bmB:List Ab)(newId:String)(tl:List Ab)(N':Ah)(nm q:Str)(bs:List Ab)(hdct:Bool)(sn:List Str)(sub:List Ab)(ab:Bool)(col:Option Bool)(dd:Option Ah)(k0 k1 k2 k3 k5:Option Ab)(mN:Str->Option Ab):Prop where
 ob:h.get? C=some (excClassObj nm q C N' bs tl hdct sn sub ab col dd k0 k1 k2 k3 k5 newId)
 ns:h.Ns N' mN
 ni:mN "__init__"=none
 tl:OwnTail h bmB tl
theorem aBV.keeps{h h':A8}{C:Ah}{B:List Ab}{z:String}{tl:List Ab}{D:Ah}{nm q:Str}{bs:List Ab}{hdct:Bool}{sn:List Str}{sub:List Ab}{ab:Bool}{col:Option Bool}{dd:Option Ah}{k0 k1 k2 k3 k5:Option Ab}{mN:Str->Option Ab}
  (x:aBV h C B z tl D nm q bs hdct sn sub ab col dd k0 k1 k2 k3 k5 mN) (k:∀ b o,h.get? b=some o->h'.get? b=some o):aBV h' C B z tl D nm q bs hdct sn sub ab col dd k0 k1 k2 k3 k5 mN:=⟨k _ _ x.ob,x.ns.keeps k,x.ni,x.tl.keeps k⟩
theorem aHr{K:Af}{h:A8}{C:Ah}{J:List Ab}{z:String}(X:K.In h)(B:excIn K C J z=true):
  ∃ tl N' nm q bs hdct sn sub ab col dd k0 k1 k2 k3 k5 mN,aBV h C J z tl N' nm q bs hdct sn sub ab col dd k0 k1 k2 k3 k5 mN:=by
 unfold excIn at B;split at B
 .rename_i d1 cl D lk;split at B
  .rename_i c1 aa j0 Z j2 j3 O j5 Y es;simp only[Av,beq_iff_eq,Bool.not_eq_true']at B;obtain⟨⟨⟨⟨⟨z1,z2⟩,z3⟩,z4⟩,z5⟩,z6⟩:=B;subst z1 z2;have W:D=#[j0,Z,j2,j3,some (.builtin O),j5]:=Fh.mp es;cases cl;simp only at Y z3 z5 z6;subst Y z3 W;exact⟨_,_,_,_,_,_,_,_,_,_,_,_,_,_,_,_,_,X _ _ lk,.of_isNs (isNs_of_in X z5),nsMap_none_of_in X z5 z6,tail_of_in X z4⟩
  .cases B
 .cases B
section
variable{N:List Str}{E:XK}
theorem aEi{x:Str}{C:Ah}{B z J:String}{W:List Ab}{np fe pos:Pos}{Y:Bb}{es:List Bb}{t:TA}(FB:ExcBaseFacts B z J W)(hg:Gl (i3 (CXr P w) P w K mg base N qual scope f cd A outer s H E) x)(hm:mg x=some (.ref C))(hq:excIn K C W z=true)(ha:PA (i3 (CXr P w) P w K mg base N qual scope f cd A outer s H E) (Y::es) t)
  (he:starEach (Y::es) (i3 (CXr P w) P w K mg base N qual scope f cd A outer s H E).env=(false,eval Y (i3 (CXr P w) P w K mg base N qual scope f cd A outer s H E).env)::starEach es (i3 (CXr P w) P w K mg base N qual scope f cd A outer s H E).env:=by rfl)
  (Z:(backTo fe (starEach es (i3 (CXr P w) P w K mg base N qual scope f cd A outer s H E).env)).any (·.1)=false:=by rfl) (hd:(x==("__debug__":Str))=false:=by decide):
  PS (i3 (CXr P w) P w K mg base N qual scope f cd A outer s H E) (.Raise (some (.Call (.Name x np) (Y::es) [] fe)) none pos) (fun D σ H1=>t σ H1 fun vs H2=>vs.length<=sizeLine/\E (.ref C) none H2):=by
 constructor;intro dz s1 σ H1 D I h;obtain⟨tl,N',nm,q,bs,hdct,sn,sub,ab,col,dd,k0,k1,k2,k3,k5,mN,hO⟩:=aHr (C:=C) I.ok.mod.kin hq;have o1:=hO.keeps I.bk;refine wpAny_Raise_call_subT (C:=C) (nm:=nm) (q:=q) (N:=N') (bs:=bs) (bm:=tl) (hdct:=hdct) (sn:=sn) (sub:=sub) (ab:=ab) (col:=col) (dd:=dd) (k0:=k0) (k1:=k1) (k2:=k2) (k3:=k3) (k5:=k5)
  FB (mN:=mN) (o1.tl.hasType FB.hasBase) (I.ok.hd rfl) ?_ o1.ni ?_
 .rw[he];show(false||(backTo fe (starEach es (i3 (CXr P w) P w K mg base N qual scope f cd A outer s H E).env)).any (·.1))=false
  rw[Z];rfl
 .refine BH ((cV (v:=.ref C) hg hm rfl hd).run dz s1 σ H1 (fun v H'=>v=.ref C/\H'=H1) I ⟨rfl,rfl⟩) (fun u s2 hu=>?_) fun _ _ y=>y;obtain⟨v,H2,I2,rv,rfl,rfl⟩:=hu;cases rv;refine⟨rfl,?_⟩;have O:=ha fe dz s2 σ H2 _ I2 h;rw[he]at O ⊢;refine EJ (BH O (fun us s3 hu=>?_) fun _ _ y=>y);obtain⟨vs,H3,I3,r3,hl,hE⟩:=hu;have o3:=hO.keeps I3.bk;exact⟨rfl,by rw[<- r3.length];exact hl,o3.ob,o3.ns,o3.tl,fun h' e hx=>aEh I3 hx hE⟩
theorem Fun.okR{x qual:Str}{st:BQ}{f:Ah}{fd:AC}{N ps:List Str}{k:Nat}{sp:Sp}(F:Fun K x qual st f fd)(S:bM N ps (aM st))(len:∀ vs H Q E,sp vs H Q E->vs.length=ps.length)
  (B:∀(z:Ab) (A:AJ) (outer:List Env) (s:Ac) (H:Hp) (vs:List V) (Q:VK) (E:XK),cY k (A.deeper (envOfC qual (aM st) s.heap.objs.size f z))->sp vs H Q E->
   ∃ t,PSs (i3 (CXr P w) P w K mg base N qual (aM st) f z A outer s H E) (d9 st) t/\t { nx:=fun _ H'=>Q .non H',rt:=Q } (start N vs) H):cN P w K mg base (CXr P w) (k+1) f fd ps sp:=by
 obtain⟨oc,od,kV,doc,pm,an,z,ct,osl,rfl,lk,hcd⟩:=F.ex;exact aGC lk hcd S len fun A outer s H vs Q E J D=>B z A outer s H vs Q E J D
end
theorem Fly.lands{P:Ar}{w:AQ}{M:EI}{A:AJ}{env:Env}{outer:List Env}{L:Ah}{base:A8}{H H':Hp}{s z:Ac}{x:Ah}{C:Ab}{Q E:Ab->Ac->Prop}{R:Ac->Prop}(F:Fly P w (env::outer) H H' s x C z)
  (W:s.heap.FunFrames base (env::outer)) (Y:A.frames=some (env::outer)) (hf:env.frame=some L) (k:∀ J,Fly P w (env::outer) H H' s x C { z with heap:=J }->R { z with heap:=J }):
  wpAny M A (noteFrame (.ref x) env) (fun _ Z=>wpAny M A (setFlight (.ref x) none) (fun _ s4=>R s4) E Z) E z:=by
 obtain⟨B,a0,fl,hokB,hkB,htB⟩:=F.ex;refine wpAny_looks_onW Y hf fl fun h4 D u4=>?_;refine wpAny_landsW (s:={ z with heap:=h4 }) D fun J O u5=>k J ?_;refine⟨F.os,F.bare,⟨B,a0,O,hokB,hkB,htB⟩,F.frf,fun b o q n hm=>?_,F.free,F.tups,F.frzs,F.tbls⟩;obtain⟨sl,e1⟩:=F.slot b o q n hm;obtain⟨_,o2,e2,hd⟩:=W.mem hm;rw[q]at e2;cases e2;obtain⟨sl2,e3⟩:=(u4.trans u5) b _ e1 hd;exact⟨sl2,e3⟩
theorem Inv.caught{X:Cx}{dz:List (Ah×Obj)}{σ:St}{H H':Hp}{s s':Ac}{x:Ah}{C:Ab}(I:Inv X dz σ H s)(F:Fly X.prog X.w X.stack H H' s x C s'):Inv X dz σ H' s':=
 I.call' (ch:=[]) F.os F.un F.hok F.bare (fun b z=>absurd z (by simp))
theorem Fly.obj{P:Ar}{w:AQ}{outer:List Env}{H H':Hp}{s s':Ac}{x:Ah}{C:Ab}(F:Fly P w outer H H' s x C s'):∃ ob vs,s'.heap.get? x=some ob/\ob.cls=C/\ob.data=.fields vs:=by
 obtain⟨B,a0,fl,_⟩:=F.ex;obtain⟨_,_,_,oe,vs,_,_,_,he,hc,hd,_⟩:=fl;exact⟨oe,vs,he,hc.1,hd⟩
def aFE:Bool->BG->Array BG->Nat->Nat->Nat->StateT Bp Sem (Option Nat):=sortPriv% PySem.Builtin.gallop
def aEj:Array BG->Array BG->StateT Bp Sem (Array BG):=sortPriv% PySem.Builtin.mergeLo
def aEk:Array BG->Array BG->StateT Bp Sem (Array BG):=sortPriv% PySem.Builtin.mergeHi
section
variable{κ:Dv}{it:Array BG}
def m7(prog:Ar)(w:AQ)(A:AJ)(s:Ac)(κ:Dv)(it:Array BG):Prop:=
 ∀ x y,x∈it.toList->y∈it.toList->∀ C:Bool->Ac->Prop,(∀ b,C b s)->wpAny (model prog w) A (keyLt' κ x.1 y.1) C (fun _ _=>False) s
theorem fQ{arr:Array BG}{i:Nat}{p:BG}{st:Bp}{Q:BG->Bp->Prop}(hi:arr[i]?=some p)(h:Q p st):wpS (model prog w) A E s (elem' arr i) Q st:=by
 rw[elem'_eq,hi];exact AE h
variable(hc:m7 prog w A s κ it)
include hc
theorem t4{x y:BG}{st:Bp}{Q:Option Bool->Bp->Prop}(D:kindOf st=κ)(z:x∈it.toList)(B:y∈it.toList)(h:∀ b,Q (some b) st):wpS (model prog w) A E s (lt' x y) Q st:=by
 rw[lt'_eq];refine Ap (Eg ?_);rw[D];refine Ap (E6 (Du (BH (hc x y z B (fun b s'=>s'=s) fun _=>rfl) (fun b s' e=>⟨e,?_⟩) fun _ _ e=>e.elim)));exact AE (h b)
theorem gU{left:Bool}{key:BG}{arr:Array BG}{base n J:Nat}{st:Bp}{Q:Option Nat->Bp->Prop}(O:key∈it.toList)(Z:∀ i,i<n->∃ p,arr[base+i]?=some p/\p∈it.toList)(hh:J<n)(hk:kindOf st=κ)
  (h:∀ k,k<=n->Q (some k) st):wpS (model prog w) A E s (aFE left key arr base n J) Q st:=by
 have W:∀(i:Nat) (Q':Option Bool->Bp->Prop),i<n->(∀ b,Q' (some b) st)->wpS (model prog w) A E s (do
   let x <- elem' arr (base+i)
   if left=true then lt' x key else do
    let r <- lt' key x
    pure (r.map fun b=>!b)) Q' st:=fun i Q' hi q=>by
  obtain⟨p,e,hp⟩:=Z i hi;refine Ap (fQ e ?_);split
  .exact t4 hc hk hp O q
  .exact Ap (t4 hc hk O hp fun b=>AE (q _))
 refine Ap (W J _ hh fun b=>?_);dsimp only;split <;>
 .refine Ap (CQ (BS (I:=fun _ c B=>B=st/\c.1=none) (Q:=fun c B=>B=st/\c.1=none) ?_ (fun c B z=>z) ⟨rfl,rfl⟩) ?_)
  .rintro x ⟨r,lo,ac⟩ B _ _ ⟨rfl,z⟩;cases z;dsimp only;split
   .exact AE ⟨rfl,rfl⟩
   .refine Ap (W _ _ (by omega) fun b=>?_);dsimp only;split<;>exact AE ⟨rfl,rfl⟩
  .rintro⟨r,lo,ac⟩ B ⟨rfl,z⟩;cases z;dsimp only;refine Ap (CQ (BS (I:=fun _ c D=>D=B/\c.1=none/\c.2.2<=n) (Q:=fun c D=>D=B/\c.1=none/\c.2.2<=n) ?_ (fun c B z=>z) ⟨rfl,rfl,?_⟩) ?_)
   .rintro x ⟨r,lo,hi⟩ D _ _ ⟨rfl,z,Y⟩;cases z;dsimp only at Y ⊢;split
    .exact AE ⟨rfl,rfl,Y⟩
    .refine Ap (W _ _ (by omega) fun b=>?_);dsimp only;split
     .exact AE ⟨rfl,rfl,Y⟩
     .exact AE ⟨rfl,rfl,by dsimp only;omega⟩
   .dsimp only;omega
   .rintro⟨r,lo,hi⟩ D ⟨rfl,z,Y⟩;cases z;exact AE (h _ Y)
end
theorem pr3{α β γ:Type}{P:α×β×γ->Prop}(h:∀ a b c,P (a,b,c)):∀ x,P x:=fun⟨a,b,c⟩=>h a b c
def Pl(a b out:Array BG)(ia ib:Nat):Prop:=(out.toList++(a.toList.drop ia++b.toList.drop ib)).Perm (a.toList++b.toList)
section
variable{a b out:Array BG}{ia ib k:Nat}
theorem wC{c:Array BG}{i:Nat}{p:BG}(e:c[i]?=some p):c.toList.drop i=p::c.toList.drop (i+1):=by
 have z:c.toList[i]?=some p:=by rw[CZ];exact e
 obtain⟨h1,h2⟩:=Bl.mp z;rw[<- h2];exact List.drop_eq_getElem_cons h1
theorem fH{c:Array BG}{i j:Nat}:(c.extract i j).toList=(c.toList.drop i).take (j-i):=by simp
theorem qT{c:Array BG}{i:Nat}:(c.extract i c.size).toList=c.toList.drop i:=by
 rw[fH,AV];simp
theorem Pl.pushA{p:BG}(h:Pl a b out ia ib)(e:a[ia]?=some p):Pl a b (out.push p) (ia+1) ib:=by
 unfold Pl at h ⊢;rw[wC e]at h;rw[B3,A2];exact h
theorem Pl.pushB{p:BG}(h:Pl a b out ia ib)(e:b[ib]?=some p):Pl a b (out.push p) ia (ib+1):=by
 unfold Pl at h ⊢;rw[wC e]at h;rw[B3,A2];exact(Bi _ (List.perm_middle (l₁:=a.toList.drop ia) (a:=p)).symm).trans h
theorem Pl.runA(h:Pl a b out ia ib):Pl a b (out++a.extract ia (ia+k)) (ia+k) ib:=by
 unfold Pl at h ⊢;rw[A3,fH,Dt,A2,<- A2 (CY _ _),<- EL,DL];exact h
theorem Pl.runB(h:Pl a b out ia ib):Pl a b (out++b.extract ib (ib+k)) ia (ib+k):=by
 unfold Pl at h ⊢;refine Da ?_ h;rw[A3,fH,Dt,A2];refine Bi _ ?_;refine(D1 _ _ _).trans (Bi _ ?_);rw[<- EL,DL]
theorem Pl.fin(h:Pl a b out ia ib):(out++a.extract ia a.size++b.extract ib b.size).Perm (a++b):=by
 rw[Bc,A3,A3,A3,qT,qT,A2];exact h
theorem Pl.fin2(h:Pl a b out ia ib):(out++b.extract ib b.size++a.extract ia a.size).Perm (a++b):=by
 rw[Bc,A3,A3,A3,qT,qT,A2];exact(Bi _ Cu).trans h
theorem Pl.start{p:BG}(e:b[0]?=some p):Pl a b #[p] 0 1:=by
 have h:Pl a b #[] 0 0:=Do _;exact h.pushB e
end
theorem bQ{M:EI}{A:AJ}{E:Ab->Ac->Prop}{s:Ac}{σ α:Type}{c:Prop}[Decidable c]{z B:StateT σ Sem α}{Q:α->σ->Prop}{st:σ}(h1:c->wpS M A E s z Q st)(h2:¬ c->wpS M A E s B Q st):wpS M A E s (if c then z else B) Q st:=by
 split
 .exact h1 ‹_›
 .exact h2 ‹_›
structure Sg(st st':Bp):Prop where
 kind:kindOf st'=kindOf st
 arr:arrOf st'=arrOf st
 pend:pendingOf st'=pendingOf st
 fail:failedOf st'=failedOf st
theorem Sg.refl(st:Bp):Sg st st:=⟨rfl,rfl,rfl,rfl⟩
theorem hJ{i j:Nat}(h:¬ (i==j)=true):i≠j:=fun z=>h (by rw[z];exact beq_self_eq_true _)
structure GL(a b:Array BG)(x:Nat)(out:Array BG)(ia ib:Nat):Prop where
 pl:Pl a b out ia ib
 la:ia+1<a.size
 lb:ib<b.size
 on:x<=ia+ib
section
variable{κ:Dv}{it:Array BG}(hc:m7 prog w A s κ it)
include hc
theorem zX{a b:Array BG}{st:Bp}{Q:Array BG->Bp->Prop}(ha:1<=a.size)(hb:1<=b.size)(iA:∀ p∈a.toList,p∈it.toList)(iB:∀ p∈b.toList,p∈it.toList)(hk:kindOf st=κ)
  (h:∀ out B,out.Perm (a++b)->Sg st B->Q out B):wpS (model prog w) A E s (aEj a b) Q st:=by
 have gA:∀ i,i<a.size->∃ p,a[i]?=some p/\p∈it.toList:=fun i hi=>⟨_,BL hi,iA _ (by simp)⟩
 have gB:∀ i,i<b.size->∃ p,b[i]?=some p/\p∈it.toList:=fun i hi=>⟨_,BL hi,iB _ (by simp)⟩
 refine Ap (E6 (Di ⟨rfl,?_⟩));obtain⟨p0,e0,_⟩:=gB 0 hb;refine Ap (fQ e0 ?_);refine bQ (fun _=>AE (h _ _ (Pl.start e0).fin (Sg.refl _))) fun n1=>?_;have ar:1≠b.size:=fun z=>n1 (by rw[<- z];rfl);refine bQ (fun _=>AE (h _ _ (Pl.start e0).fin2 (Sg.refl _))) fun n2=>?_;have aw:1≠a.size:=fun z=>n2 (by rw[<- z];rfl);refine Ap (Eg ?_);dsimp only;have O:∀(i:Nat) (Q':BG->Bp->Prop) (B:Bp),i<a.size->(∀ p,a[i]?=some p->p∈it.toList->Q' p B)->wpS (model prog w) A E s (elem' a i) Q' B:=fun i Q' B hi q=>by
  obtain⟨p,e,hp⟩:=gA i hi;exact fQ e (q p e hp)
 have W:∀(i:Nat) (Q':BG->Bp->Prop) (B:Bp),i<b.size->(∀ p,b[i]?=some p->p∈it.toList->Q' p B)->wpS (model prog w) A E s (elem' b i) Q' B:=fun i Q' B hi q=>by
  obtain⟨p,e,hp⟩:=gB i hi;exact fQ e (q p e hp)
 refine Ap (CQ (BS (I:=fun x c B=>c.1=none/\GL a b x c.2.1 c.2.2.1 c.2.2.2.1/\Sg st B) (Q:=fun c B=>∃ r,c.1=some r/\r.Perm (a++b)/\Sg st B) ?_ (fun c B z=>?_) ⟨rfl,⟨Pl.start e0,by dsimp only;omega,by dsimp only;omega,by dsimp only;omega⟩,Sg.refl _⟩) ?_)
 .refine fun x=>pr3 fun r out=>pr3 fun ia ib mg B _ hx=>?_;rintro⟨z,g,sg⟩;cases z;dsimp only at g ⊢;refine Ap (CQ (BS (I:=fun y c B=>c.1=none/\GL a b (x+y) c.2.1 c.2.2.1 c.2.2.2.1/\Sg st B) (Q:=fun c B=>Sg st B/\((∃ r,c.1=some r/\r.Perm (a++b))\/(c.1=none/\GL a b (x+1) c.2.1 c.2.2.1 c.2.2.2.1))) ?_ (fun c B z=>?_) ⟨rfl,g,sg⟩) ?_)
  .refine fun y=>pr3 fun r out=>pr3 fun ia ib=>Prod.rec fun ac bc B _ hy=>?_;rintro⟨z,g,sg⟩;cases z;obtain⟨hP,h1,h2,h3⟩:=g;dsimp only at hP h1 h2 h3 ⊢;refine Ap (W _ _ _ h2 fun p ep hp=>Ap (O _ _ _ (by omega) fun q eq hq=>Ap (t4 hc (sg.kind.trans hk) hp hq fun bw=>?_)));refine bQ (fun _=>?_) fun _=>?_
   .refine Ap (W _ _ _ h2 fun p' D _=>?_);refine bQ (fun _=>AE ⟨sg,.inl ⟨_,rfl,(hP.pushB D).fin⟩⟩) fun n=>?_;have n':ib+1≠b.size:=fun z=>n (by rw[z];exact beq_self_eq_true _);exact bQ (fun _=>AE ⟨sg,.inr ⟨rfl,hP.pushB D,h1,by dsimp only;omega,by dsimp only;omega⟩⟩) fun _=>AE ⟨rfl,⟨hP.pushB D,h1,by dsimp only;omega,by dsimp only;omega⟩,sg⟩
   .refine Ap (O _ _ _ (by omega) fun p' D _=>?_);refine bQ (fun _=>AE ⟨sg,.inl ⟨_,rfl,(hP.pushA D).fin2⟩⟩) fun n=>?_;have n':ia+1+1≠a.size:=fun z=>n (by rw[z];exact beq_self_eq_true _);exact bQ (fun _=>AE ⟨sg,.inr ⟨rfl,hP.pushA D,by dsimp only;omega,h2,by dsimp only;omega⟩⟩) fun _=>AE ⟨rfl,⟨hP.pushA D,by dsimp only;omega,h2,by dsimp only;omega⟩,sg⟩
  .obtain⟨z1,⟨hP,h1,h2,h3⟩,sg⟩:=z;exact⟨sg,.inr ⟨z1,hP,h1,h2,by omega⟩⟩
  .rintro⟨r,out,ia,ib,ac,bc⟩ B ⟨sg,⟨r',z,hr⟩|⟨z,g⟩⟩
   .cases z;exact AE ⟨_,rfl,hr,sg⟩
   .cases z;dsimp only at g ⊢;refine Ap (E6 (Di ⟨rfl,?_⟩));refine Ap (CQ (BS (I:=fun y c B=>c.1=none/\GL a b (x+1) c.2.1 c.2.2.1 c.2.2.2.1/\Sg st B) (Q:=fun c B=>Sg st B/\((∃ r,c.1=some r/\r.Perm (a++b))\/(c.1=none/\GL a b (x+1) c.2.1 c.2.2.1 c.2.2.2.1))) ?_ (fun c B z=>⟨z.2.2,.inr ⟨z.1,z.2.1⟩⟩) ⟨rfl,g,sg⟩) ?_)
    .refine fun y=>pr3 fun r out=>pr3 fun ia ib=>pr3 fun mg ac bc B _ hy=>?_;rintro⟨z,g,sg⟩;cases z;obtain⟨hP,h1,h2,h3⟩:=g;dsimp only at hP h1 h2 h3 ⊢;refine bQ (fun _=>Ap (Cw ?_)) fun _=>Ap (Cw ?_)
     all_goals
      refine Ap (W _ _ _ h2 fun p ep hp=>Ap (gU hc hp (fun i hi=>gA _ (by omega)) (by omega) (sg.kind.trans hk) fun k av=>?_));dsimp only;refine bQ (fun kp=>bQ (fun _=>AE ⟨⟨sg.1,sg.2,sg.3,sg.4⟩,.inl ⟨_,rfl,(hP.runA (k:=k)).fin2⟩⟩) fun na=>bQ (fun _=>AE ⟨⟨sg.1,sg.2,sg.3,sg.4⟩,.inl ⟨_,rfl,(hP.runA (k:=k)).fin⟩⟩) fun nb=>?_) fun _=>?_
      all_goals
       first|(have e1:=hJ na;have e2:=hJ nb;have Y:=hP.runA (k:=k);have ak:ia+k+1<a.size:=by omega)|(have Y:=hP;have ak:=h1)
       refine Ap (W _ _ _ h2 fun p' D _=>bQ (fun _=>AE ⟨⟨sg.1,sg.2,sg.3,sg.4⟩,.inl ⟨_,rfl,(Y.pushB D).fin⟩⟩) fun n=>?_);have n':=hJ n;have Z:=Y.pushB D;refine Ap (O _ _ _ (by omega) fun q eq hq=>Ap (gU hc hq (fun i hi=>gB _ (by omega)) (by omega) (sg.kind.trans hk) fun k2 au=>?_));dsimp only;refine bQ (fun a0=>bQ (fun _=>AE ⟨⟨sg.1,sg.2,sg.3,sg.4⟩,.inl ⟨_,rfl,(Z.runB (k:=k2)).fin⟩⟩) fun nc=>?_) fun _=>?_
       all_goals
        first|(have e3:=hJ nc;have J:=Z.runB (k:=k2))|have J:=Z
        refine Ap (O _ _ _ (by omega) fun q' ae _=>bQ (fun _=>AE ⟨⟨sg.1,sg.2,sg.3,sg.4⟩,.inl ⟨_,rfl,(J.pushA ae).fin2⟩⟩) fun nd=>?_);have e4:=hJ nd;exact bQ (fun _=>AE ⟨⟨sg.1,sg.2,sg.3,sg.4⟩,.inr ⟨rfl,J.pushA ae,by dsimp only;omega,by dsimp only;omega,by dsimp only;omega⟩⟩) fun _=>AE ⟨rfl,⟨J.pushA ae,by dsimp only;omega,by dsimp only;omega,by dsimp only;omega⟩,sg.1,sg.2,sg.3,sg.4⟩
    .rintro⟨r,out,ia,ib,mg,ac,bc⟩ B ⟨sg,⟨r',z,hr⟩|⟨z,g⟩⟩
     .cases z;exact AE ⟨_,rfl,hr,sg⟩
     .cases z;exact Ap (Cw (AE ⟨rfl,g,sg.1,sg.2,sg.3,sg.4⟩))
 .obtain⟨z1,⟨hP,h1,h2,h3⟩,sg⟩:=z;exfalso;omega
 .rintro⟨r,out,ia,ib,mg⟩ B ⟨r',z,hr,sg⟩;cases z;exact AE (h _ _ hr sg)
end
def Ph(a b out:Array BG)(na nb:Nat):Prop:=(out.toList++(a.toList.take na++b.toList.take nb)).Perm (a.toList++b.toList)
section
variable{a b out:Array BG}{na nb k:Nat}
theorem wD{c:Array BG}{i:Nat}{p:BG}(h:1<=i)(e:c[i-1]?=some p):c.toList.take i=c.toList.take (i-1)++[p]:=by
 obtain⟨j,rfl⟩:∃ j,i=j+1:=⟨i-1,by omega⟩
 rw[Nat.add_sub_cancel]at e ⊢;rw[List.take_succ,CZ,e];rfl
theorem zY{c:Array BG}{i j:Nat}(h:i<=j):c.toList.take j=c.toList.take i++(c.extract i j).toList:=by
 rw[fH];obtain⟨d,rfl⟩:∃ d,j=i+d:=⟨j-i,by omega⟩
 rw[Dt];exact List.take_add
theorem Ph.pushA{p:BG}(h:Ph a b out na nb)(h1:1<=na)(e:a[na-1]?=some p):Ph a b (out.push p) (na-1) nb:=by
 unfold Ph at h ⊢;refine Da ?_ h;rw[wD h1 e,B3,A2,A2];exact Bi _ (D1 _ _ _)
theorem Ph.pushB{p:BG}(h:Ph a b out na nb)(h1:1<=nb)(e:b[nb-1]?=some p):Ph a b (out.push p) na (nb-1):=by
 unfold Ph at h ⊢;refine Da ?_ h;rw[wD h1 e,B3,A2,<- A2 (CY na _)];exact Bi _ Cu
theorem Ph.runA(h:Ph a b out na nb)(h1:k<=na):Ph a b (out++(a.extract k na).reverse) k nb:=by
 unfold Ph at h ⊢;refine Da ?_ h;rw[zY h1,A3,DT,A2,A2];exact Bi _ ((CH _ (Ei _)).trans (D1 _ _ _))
theorem Ph.runB(h:Ph a b out na nb)(h1:k<=nb):Ph a b (out++(b.extract k nb).reverse) na k:=by
 unfold Ph at h ⊢;refine Da ?_ h;rw[zY h1,A3,DT,A2,<- A2 (CY na _)];exact Bi _ ((CH _ (Ei _)).trans Cu)
theorem Ph.fin(h:Ph a b out na nb):(a.extract 0 na++b.extract 0 nb++out.reverse).Perm (a++b):=by
 rw[Bc,A3,A3,A3,fH,fH,DT];exact(Cu.trans (CH _ (Ei _))).trans h
theorem Ph.fin2(h:Ph a b out na nb):(b.extract 0 nb++a.extract 0 na++out.reverse).Perm (a++b):=by
 rw[Bc,A3,A3,A3,fH,fH,DT];exact((Cu.trans (CH _ (Ei _))).trans (Bi _ Cu)).trans h
theorem Ph.start{p:BG}(h:1<=a.size)(e:a[a.size-1]?=some p):Ph a b #[p] (a.size-1) b.size:=by
 have z:Ph a b #[] a.size b.size:=by
  unfold Ph;rw[AV (by simp),AV (by simp)];exact Do _
 exact z.pushA h e
end
structure GH(a b:Array BG)(x:Nat)(out:Array BG)(na nb:Nat):Prop where
 pl:Ph a b out na nb
 la:1<=na
 lb:2<=nb
 ua:na<=a.size
 ub:nb<=b.size
 on:x+na+nb<=a.size+b.size
section
variable{κ:Dv}{it:Array BG}(hc:m7 prog w A s κ it)
include hc
theorem zZ{a b:Array BG}{st:Bp}{Q:Array BG->Bp->Prop}(ha:1<=a.size)(hb:1<=b.size)(iA:∀ p∈a.toList,p∈it.toList)(iB:∀ p∈b.toList,p∈it.toList)(hk:kindOf st=κ)
  (h:∀ out B,out.Perm (a++b)->Sg st B->Q out B):wpS (model prog w) A E s (aEk a b) Q st:=by
 have gA:∀ i,i<a.size->∃ p,a[i]?=some p/\p∈it.toList:=fun i hi=>⟨_,BL hi,iA _ (by simp)⟩
 have gB:∀ i,i<b.size->∃ p,b[i]?=some p/\p∈it.toList:=fun i hi=>⟨_,BL hi,iB _ (by simp)⟩
 refine Ap (E6 (Di ⟨rfl,?_⟩));obtain⟨p0,e0,_⟩:=gA (a.size-1) (by omega);refine Ap (fQ e0 ?_);refine bQ (fun _=>AE (h _ _ (Ph.start ha e0).fin (Sg.refl _))) fun n1=>?_;have au:=hJ n1;refine bQ (fun _=>AE (h _ _ (Ph.start ha e0).fin2 (Sg.refl _))) fun n2=>?_;have aw:=hJ n2;refine Ap (Eg ?_);dsimp only;have W:∀(i:Nat) (Q':BG->Bp->Prop) (B:Bp),i<a.size->(∀ p,a[i]?=some p->p∈it.toList->Q' p B)->wpS (model prog w) A E s (elem' a i) Q' B:=fun i Q' B hi q=>by
  obtain⟨p,e,hp⟩:=gA i hi;exact fQ e (q p e hp)
 have Z:∀(i:Nat) (Q':BG->Bp->Prop) (B:Bp),i<b.size->(∀ p,b[i]?=some p->p∈it.toList->Q' p B)->wpS (model prog w) A E s (elem' b i) Q' B:=fun i Q' B hi q=>by
  obtain⟨p,e,hp⟩:=gB i hi;exact fQ e (q p e hp)
 refine Ap (CQ (BS (I:=fun x c B=>c.1=none/\GH a b x c.2.2.2.1 c.2.1 c.2.2.1/\Sg st B) (Q:=fun c B=>∃ r,c.1=some r/\r.Perm (a++b)/\Sg st B) ?_ (fun c B z=>?_) ⟨rfl,⟨Ph.start ha e0,by dsimp only;omega,by dsimp only;omega,by dsimp only;omega,by dsimp only;omega,by dsimp only;omega⟩,Sg.refl _⟩) ?_)
 .refine fun x=>pr3 fun r na=>pr3 fun nb out mg B _ hx=>?_;rintro⟨z,g,sg⟩;cases z;dsimp only at g ⊢;refine Ap (CQ (BS (I:=fun y c B=>c.1=none/\GH a b (x+y) c.2.2.2.1 c.2.1 c.2.2.1/\Sg st B) (Q:=fun c B=>Sg st B/\((∃ r,c.1=some r/\r.Perm (a++b))\/(c.1=none/\GH a b (x+1) c.2.2.2.1 c.2.1 c.2.2.1))) ?_ (fun c B z=>?_) ⟨rfl,g,sg⟩) ?_)
  .refine fun y=>pr3 fun r na=>pr3 fun nb out=>Prod.rec fun ac bc B _ hy=>?_;rintro⟨z,g,sg⟩;cases z;obtain⟨hP,h1,h2,h3,h4,h5⟩:=g;dsimp only at hP h1 h2 h3 h4 h5 ⊢;refine Ap (Z _ _ _ (by omega) fun p ep hp=>Ap (W _ _ _ (by omega) fun q eq hq=>Ap (t4 hc (sg.kind.trans hk) hp hq fun bw=>?_)));refine bQ (fun _=>?_) fun _=>?_
   .refine Ap (W _ _ _ (by omega) fun p' D _=>?_);refine bQ (fun _=>AE ⟨sg,.inl ⟨_,rfl,(hP.pushA h1 D).fin⟩⟩) fun n=>?_;have n':=hJ n;exact bQ (fun _=>AE ⟨sg,.inr ⟨rfl,hP.pushA h1 D,by dsimp only;omega,h2,by dsimp only;omega,h4,by dsimp only;omega⟩⟩) fun _=>AE ⟨rfl,⟨hP.pushA h1 D,by dsimp only;omega,h2,by dsimp only;omega,h4,by dsimp only;omega⟩,sg⟩
   .refine Ap (Z _ _ _ (by omega) fun p' D _=>?_);refine bQ (fun _=>AE ⟨sg,.inl ⟨_,rfl,(hP.pushB (by omega) D).fin2⟩⟩) fun n=>?_;have n':=hJ n;exact bQ (fun _=>AE ⟨sg,.inr ⟨rfl,hP.pushB (by omega) D,h1,by dsimp only;omega,h3,by dsimp only;omega,by dsimp only;omega⟩⟩) fun _=>AE ⟨rfl,⟨hP.pushB (by omega) D,h1,by dsimp only;omega,h3,by dsimp only;omega,by dsimp only;omega⟩,sg⟩
  .obtain⟨z1,⟨hP,h1,h2,h3,h4,h5⟩,sg⟩:=z;exact⟨sg,.inr ⟨z1,hP,h1,h2,h3,h4,by omega⟩⟩
  .rintro⟨r,na,nb,out,ac,bc⟩ B ⟨sg,⟨r',z,hr⟩|⟨z,g⟩⟩
   .cases z;exact AE ⟨_,rfl,hr,sg⟩
   .cases z;dsimp only at g ⊢;refine Ap (E6 (Di ⟨rfl,?_⟩));refine Ap (CQ (BS (I:=fun y c B=>c.1=none/\GH a b (x+1) c.2.2.2.1 c.2.1 c.2.2.1/\Sg st B) (Q:=fun c B=>Sg st B/\((∃ r,c.1=some r/\r.Perm (a++b))\/(c.1=none/\GH a b (x+1) c.2.2.2.1 c.2.1 c.2.2.1))) ?_ (fun c B z=>⟨z.2.2,.inr ⟨z.1,z.2.1⟩⟩) ⟨rfl,g,sg⟩) ?_)
    .refine fun y=>pr3 fun r na=>pr3 fun nb out=>pr3 fun mg ac bc B _ hy=>?_;rintro⟨z,g,sg⟩;cases z;obtain⟨hP,h1,h2,h3,h4,h5⟩:=g;dsimp only at hP h1 h2 h3 h4 h5 ⊢;refine bQ (fun _=>Ap (Cw ?_)) fun _=>Ap (Cw ?_)
     all_goals
      refine Ap (Z _ _ _ (by omega) fun p ep hp=>Ap (gU hc hp (fun i hi=>gA _ (by omega)) (by omega) (sg.kind.trans hk) fun k ah=>?_));dsimp only;refine bQ (fun kp=>bQ (fun _=>AE ⟨⟨sg.1,sg.2,sg.3,sg.4⟩,.inl ⟨_,rfl,(hP.runA ah).fin⟩⟩) fun na=>?_) fun kz=>?_
      all_goals
       first|(have e1:=hJ na;have aa:=hP.runA ah;have Y:1<=k:=by omega)|(have aa:=hP;have Y:=h1)
       refine Ap (Z _ _ _ (by omega) fun p' D _=>bQ (fun _=>AE ⟨⟨sg.1,sg.2,sg.3,sg.4⟩,.inl ⟨_,rfl,(aa.pushB (by omega) D).fin2⟩⟩) fun n=>?_);have n':=hJ n;have O:=aa.pushB (by omega) D;refine Ap (W _ _ _ (by omega) fun q eq hq=>Ap (gU hc hq (fun i hi=>gB _ (by omega)) (by omega) (sg.kind.trans hk) fun k2 ad=>?_));dsimp only;refine bQ (fun aR=>bQ (fun _=>AE ⟨⟨sg.1,sg.2,sg.3,sg.4⟩,.inl ⟨_,rfl,(O.runB ad).fin2⟩⟩) fun nc=>bQ (fun _=>AE ⟨⟨sg.1,sg.2,sg.3,sg.4⟩,.inl ⟨_,rfl,(O.runB ad).fin⟩⟩) fun nd=>?_) fun _=>?_
       all_goals
        first|(have e3:=hJ nc;have av:=hJ nd;have J:=O.runB ad)|have J:=O
        refine Ap (W _ _ _ (by omega) fun q' ag _=>bQ (fun _=>AE ⟨⟨sg.1,sg.2,sg.3,sg.4⟩,.inl ⟨_,rfl,(J.pushA Y ag).fin⟩⟩) fun nd=>?_);have e4:=hJ nd;exact bQ (fun _=>AE ⟨⟨sg.1,sg.2,sg.3,sg.4⟩,.inr ⟨rfl,J.pushA Y ag,by dsimp only;omega,by dsimp only;omega,by dsimp only;omega,by dsimp only;omega,by dsimp only;omega⟩⟩) fun _=>AE ⟨rfl,⟨J.pushA Y ag,by dsimp only;omega,by dsimp only;omega,by dsimp only;omega,by dsimp only;omega,by dsimp only;omega⟩,sg.1,sg.2,sg.3,sg.4⟩
    .rintro⟨r,na,nb,out,mg,ac,bc⟩ B ⟨sg,⟨r',z,hr⟩|⟨z,g⟩⟩
     .cases z;exact AE ⟨_,rfl,hr,sg⟩
     .cases z;exact Ap (Cw (AE ⟨rfl,g,sg.1,sg.2,sg.3,sg.4⟩))
 .obtain⟨z1,⟨hP,h1,h2,h3,h4,h5⟩,sg⟩:=z;exfalso;omega
 .rintro⟨r,na,nb,out,mg⟩ B ⟨r',z,hr,sg⟩;cases z;exact AE (h _ _ hr sg)
end
structure Sm(st st':Bp):Prop where
 kind:kindOf st'=kindOf st
 arr:(arrOf st').Perm (arrOf st)
 pend:pendingOf st'=pendingOf st
 fail:failedOf st'=failedOf st
theorem Sm.refl(st:Bp):Sm st st:=⟨rfl,C7 _,rfl,rfl⟩
theorem Sm.trans{st B z:Bp}(a:Sm st B)(b:Sm B z):Sm st z:=⟨b.1.trans a.1,b.2.trans a.2,b.3.trans a.3,b.4.trans a.4⟩
theorem Sm.rev(st:Bp)(i j k:Nat):Sm st (setArr st (mirror (arrOf st) i j k)):=⟨rfl,mirror_perm _ _ _ _,rfl,rfl⟩
theorem Sm.bub(st:Bp)(i j:Nat):Sm st (setArr st (bubble (arrOf st) i j)):=⟨rfl,bubble_perm _ _ _,rfl,rfl⟩
structure GS(κ:Dv)(it:Array BG)(st:Bp):Prop where
 kind:kindOf st=κ
 perm:(arrOf st).Perm it
 fail:failedOf st=none
theorem GS.on{κ:Dv}{it:Array BG}{st z:Bp}(g:GS κ it st)(m:Sm st z):GS κ it z:=⟨m.1.trans g.1,m.2.trans g.2,m.4.trans g.3⟩
section
variable{κ:Dv}{it:Array BG}
theorem GS.get{st:Bp}(g:GS κ it st){i:Nat}(hi:i<it.size):∃ p,(arrOf st)[i]?=some p/\p∈it.toList:=by
 have z:i<(arrOf st).size:=by rw[g.perm.size_eq];exact hi
 exact⟨_,BL z,(Bc.mp g.perm).mem_iff.mp (by simp)⟩
theorem oI{st:Bp}{i j:Nat}{Q:Unit->Bp->Prop}(h:∀ z,Sm st z->Q () z):wpS (model prog w) A E s (reverseSlice' i j) Q st:=by
 rw[reverseSlice'_eq];exact Cw (h _ (Sm.rev _ _ _ _))
theorem aEl{st:Bp}{i j:Nat}{Q:Unit->Bp->Prop}(h:∀ z,Sm st z->Q () z):wpS (model prog w) A E s (moveDown' i j) Q st:=by
 rw[moveDown'_eq];exact Cw (h _ (Sm.bub _ _ _))
variable(hc:m7 prog w A s κ it)
include hc
theorem jL{st:Bp}{i j:Nat}{Q:Option Bool->Bp->Prop}(g:GS κ it st)(hi:i<it.size)(z:j<it.size)(h:∀ b,Q (some b) st):wpS (model prog w) A E s (ltAt' i j) Q st:=by
 obtain⟨p,e1,hp⟩:=g.get hi;obtain⟨q,e2,hq⟩:=g.get z;rw[ltAt'_eq];exact Ap (Eg (Ap (fQ e1 (Ap (fQ e2 (t4 hc g.kind hp hq h))))))
theorem aCW{lo D:Nat}{st:Bp}{Q:Option Nat->Bp->Prop}(g:GS κ it st)(h1:1<=D)(hz:lo+D<=it.size)(h:∀ n B,1<=n->n<=D->Sm st B->Q (some n) B):wpS (model prog w) A E s (countRun' lo D) Q st:=by
 have W:∀(n0:Nat) (J:Bp) (Q':Option (Option Nat)×Nat->Bp->Prop),GS κ it J->1<=n0->n0<=D->(∀ n,n0<=n->n<=D->Q' (none,n) J)->wpS (model prog w) A E s (forIn [n0:D] (none,n0) fun _ c=>do
   let r <- ltAt' (lo+c.2) (lo+c.2-1)
   match r with
   | some b=>if b=true then pure (ForInStep.done (none,c.2)) else pure (CK (none,c.2+1))
   | _=>pure (ForInStep.done (some none,c.2))) Q' J:=fun n0 J Q' g0 ar ac q=>by
  refine CQ (BS (I:=fun x c B=>B=J/\c=(none,x)) (Q:=fun c B=>B=J/\∃ n,c=(none,n)/\n0<=n/\n<=D) ?_ (fun c B z=>⟨z.1,_,z.2,by omega,by omega⟩) ⟨rfl,rfl⟩) fun c B z=>?_
  .rintro x c B ah ao ⟨rfl,rfl⟩;refine Ap (jL hc g0 (by dsimp only;omega) (by dsimp only;omega) fun b=>?_);refine bQ (fun _=>AE ⟨rfl,_,rfl,ah,by omega⟩) fun _=>AE ⟨rfl,rfl⟩
  .obtain⟨rfl,n,rfl,z1,Z⟩:=z;exact q n z1 Z
 rw[countRun'_eq];refine Ap (W 1 st _ g (Ak _) h1 fun n ac ai=>?_);dsimp only;refine bQ (fun _=>AE (h n st ac ai (Sm.refl _))) fun ne=>?_;have aw:=hJ ne;refine bQ (fun _=>Ap (jL hc g (by omega) (by omega) fun b=>bQ (fun _=>AE (h n st ac ai (Sm.refl _))) fun _=>Ap (oI fun aq m1=>?_))) fun _=>?_
 all_goals
  first|(have g1:=g.on m1;have ag:=m1)|(have g1:=g;have ag:=Sm.refl st)
  refine Ap (E6 (Di ⟨rfl,?_⟩));refine Ap (CQ (BS (I:=fun x c B=>c.1=none/\c.2.1=x/\Sm st B) (Q:=fun c B=>c.1=none/\1<=c.2.1/\c.2.1<=D/\Sm st B) ?_ (fun c B z=>⟨z.1,by have:=z.2.1;omega,by have:=z.2.1;omega,z.2.2⟩) ⟨rfl,rfl,ag⟩) ?_)
  .rintro x ⟨r,n',q⟩ B ah ao ⟨z1,Z,Y⟩;dsimp only at z1 Z ⊢;subst z1 Z;refine Ap (jL hc (g.on Y) (by omega) (by omega) fun b=>?_);refine bQ (fun _=>bQ (fun _=>Ap (oI fun ak m3=>AE ⟨rfl,rfl,Y.trans m3⟩)) fun _=>AE ⟨rfl,rfl,Y⟩) fun _=>?_;refine Ap (jL hc (g.on Y) (by omega) (by omega) fun b=>?_);exact bQ (fun _=>AE ⟨rfl,by dsimp only;omega,by dsimp only;omega,Y⟩) fun _=>AE ⟨rfl,rfl,Y⟩
  .rintro⟨r,n',q⟩ B ⟨z1,Z,z3,Y⟩;dsimp only at z1 Z z3 ⊢;subst z1;refine bQ (fun _=>Ap (oI fun ak m3=>Ap (oI fun O m4=>?_))) fun _=>Ap (oI fun O m4=>?_)
   .exact Ap (W n' O _ (g.on ((Y.trans m3).trans m4)) Z z3 fun ae a1 a2=>AE (h ae O (by omega) a2 ((Y.trans m3).trans m4)))
   .exact Ap (W n' O _ (g.on (Y.trans m4)) Z z3 fun ae a1 a2=>AE (h ae O (by omega) a2 (Y.trans m4)))
theorem aA4{lo n ok:Nat}{st:Bp}{Q:Bool->Bp->Prop}(g:GS κ it st)(hz:lo+n<=it.size)(h:∀ B,Sm st B->Q true B):wpS (model prog w) A E s (binarySort' lo n ok) Q st:=by
 rw[binarySort'_eq];refine Ap (CQ (BS (I:=fun x c B=>c.1=none/\Sm st B) (Q:=fun c B=>c.1=none/\Sm st B) ?_ (fun c B z=>z) ⟨rfl,Sm.refl _⟩) ?_)
 .rintro k ⟨r,u⟩ B Z ac ⟨J,m⟩;dsimp only at J ⊢;subst J;refine Ap (CQ (BS (I:=fun x c D=>c.1=none/\c.2.2<=k/\D=B) (Q:=fun c D=>c.1=none/\D=B) ?_ (fun c B z=>⟨z.1,z.2.2⟩) ⟨rfl,Ak _,rfl⟩) ?_)
  .rintro x ⟨r,l,q⟩ D _ hx ⟨J,O,rfl⟩;dsimp only at J O ⊢;subst J;refine bQ (fun _=>AE ⟨rfl,rfl⟩) fun aa=>?_;refine Ap (jL hc (g.on m) (by omega) (by omega) fun b=>?_);exact bQ (fun _=>AE ⟨rfl,by dsimp only;omega,rfl⟩) fun _=>AE ⟨rfl,by dsimp only;omega,rfl⟩
  .rintro⟨r,l,q⟩ D ⟨J,rfl⟩;dsimp only at J ⊢;subst J;exact Ap (aEl fun W Y=>AE ⟨rfl,m.trans Y⟩)
 .rintro⟨r,u⟩ B ⟨J,m⟩;dsimp only at J ⊢;subst J;exact AE (h B m)
end
def gW:List (Nat×Nat×Nat)->Nat->Nat->Prop
 | [],a,b=>a=b
 | r::l,a,b=>r.1=a/\1<=r.2.1/\gW l (a+r.2.1) b
theorem gW.le:∀{l:List (Nat×Nat×Nat)}{a b:Nat},gW l a b->a<=b
 | [],a,b,h=>EF h
 | r::l,a,b,h=>by have:=gW.le h.2.2;omega
theorem gW.snoc{n x:Nat}(hn:1<=n):∀{l:List (Nat×Nat×Nat)}{a b:Nat},gW l a b->gW (l++[(b,n,x)]) a (b+n)
 | [],a,b,h=>⟨(show a=b from h).symm,hn,by show a+n=b+n;rw[show a=b from h]⟩
 | r::l,a,b,h=>⟨h.1,h.2.1,gW.snoc hn h.2.2⟩
theorem gW.mod{f:Nat×Nat×Nat->Nat×Nat×Nat}(z:∀ r,(f r).1=r.1/\(f r).2.1=r.2.1):∀{l:List (Nat×Nat×Nat)}{a b:Nat} (i:Nat),gW l a b->gW (l.modify i f) a b
 | [],a,b,i,h=>by rw[List.modify_nil];exact h
 | r::l,a,b,0,h=>by
  rw[List.modify_zero_cons];exact⟨(z r).1.trans h.1,by rw[(z r).2];exact h.2.1,by rw[(z r).2];exact h.2.2⟩
 | r::l,a,b,i+1,h=>by
  rw[List.modify_succ_cons];exact⟨h.1,h.2.1,gW.mod z i h.2.2⟩
theorem gW.two{sa na J D nb pv:Nat}:∀{l:List (Nat×Nat×Nat)}{a b:Nat} (i:Nat),gW l a b->l[i]?=some (sa,na,J)->l[i+1]?=some (D,nb,pv)->sa+na=D/\1<=na/\1<=nb/\D+nb<=b/\gW ((l.set i (sa,na+nb,J)).eraseIdx (i+1)) a b
 | [],a,b,i,h,z,B=>by simp at z
 | [r],a,b,0,h,z,B=>by simp at B
 | r::O::l,a,b,0,h,z,B=>by
  simp at z B;subst z B;obtain⟨h1,h2,h3,h4,h5⟩:=h;dsimp only at h1 h2 h3 h4 h5;have:=h5.le;refine⟨by omega,h2,h4,by omega,h1,by dsimp only;omega,?_⟩;dsimp only;rw[<- Nat.add_assoc];exact h5
 | r::l,a,b,i+1,h,z,B=>by
  obtain⟨x1,x2,x3,x4,x5⟩:=gW.two i h.2.2 (by simpa using z) (by simpa using B);exact⟨x1,x2,x3,x4,h.1,h.2.1,x5⟩
theorem aBW:∀(l:List BG) (j k:Nat) (c:Array BG),((l.zipIdx j).foldl (fun a q=>a.setIfInBounds (k+q.2) q.1) c).toList=c.toList.take (k+j)++(l++c.toList.drop (k+j+l.length))\/c.size<k+j+l.length
 | [],j,k,c=>.inl (by simp)
 | p::l,j,k,c=>by
  by_cases hz:c.size<k+j+(p::l).length
  .exact .inr hz
  .refine .inl ?_;rw[List.zipIdx_cons,DY];have z:k+j<c.toList.length:=by simp at hz ⊢;omega
   rcases aBW l (j+1) k (c.setIfInBounds (k+j) p)with e|e
   .rw[e,Array.toList_setIfInBounds];have B:(c.toList.set (k+j) p).take (k+(j+1))=c.toList.take (k+j)++[p]:=by
     rw[<- Nat.add_assoc,List.take_succ,DA z,List.take_set_of_le (Ak _)];rfl
    have D:(c.toList.set (k+j) p).drop (k+(j+1)+l.length)=c.toList.drop (k+j+(p::l).length):=by
     rw[List.drop_set_of_lt (by omega),Ax];congr 1;omega
    rw[B,D,A2];rfl
   .exfalso;simp at e hz;omega
theorem aEm{c x:Array BG}{sa n:Nat}(z:x.toList.Perm ((c.toList.drop sa).take n))(hz:sa+n<=c.size):(x.toList.zipIdx.foldl (fun a q=>a.setIfInBounds (sa+q.2) q.1) c).Perm c:=by
 have B:x.toList.length=n:=by
  rw[z.length_eq];simp;omega
 rcases aBW x.toList 0 sa c with e|e
 .rw[Bc,e];rw[Nat.add_zero,B];have D:c.toList=c.toList.take sa++((c.toList.drop sa).take n++c.toList.drop (sa+n)):=by
   rw[<- EL,DL,DL]
  refine Da (Bi _ (CH _ z)) ?_;rw[<- D]
 .rw[B]at e;omega
section
variable{κ:Dv}{it:Array BG}
theorem aFF{M:EI}{σ:Type}{a:σ}{Q:PUnit->σ->Prop}{st:σ}(h:Q ⟨⟩ a):wpS M A E s (set a:StateT σ Sem PUnit) Q st:=by
 unfold wpS;rw[StateT.run_set];exact Ad ⟨rfl,h⟩
variable(hc:m7 prog w A s κ it)
include hc
theorem pX{i lo:Nat}{st:Bp}{Q:Bool->Bp->Prop}(g:GS κ it st)(hs:gW (pendingOf st).toList 0 lo)(au:lo<=it.size)(hi:i+1<(pendingOf st).size)(h:∀ z,GS κ it z->gW (pendingOf z).toList 0 lo->(pendingOf z).size+1=(pendingOf st).size->Q true z):
  wpS (model prog w) A E s (mergeAt' i) Q st:=by
 obtain⟨⟨sa,na,pw⟩,ea⟩:∃ r,(pendingOf st)[i]?=some r:=⟨_,BL (by omega)⟩
 obtain⟨⟨sb,nb,pv⟩,eb⟩:∃ r,(pendingOf st)[i+1]?=some r:=⟨_,BL hi⟩
 have ae:(pendingOf st).toList[i]?=some (sa,na,pw):=by rw[CZ];exact ea
 have ac:(pendingOf st).toList[i+1]?=some (sb,nb,pv):=by rw[CZ];exact eb
 obtain⟨x1,x2,x3,x4,x5⟩:=gW.two i hs ae ac;have D:(((pendingOf st).setIfInBounds i (sa,na+nb,pw)).eraseIdxIfInBounds (i+1)).toList=((pendingOf st).toList.set i (sa,na+nb,pw)).eraseIdx (i+1):=by simp
 have af:(((pendingOf st).setIfInBounds i (sa,na+nb,pw)).eraseIdxIfInBounds (i+1)).size+1=(pendingOf st).size:=by
  rw[<- Bh,D,Cs (by rw[Dm,Bh];exact hi),Dm,Bh];omega
 have hz:(arrOf st).size=it.size:=g.perm.size_eq;refine Ap (Eg ?_);rw[ea,eb];dsimp only;refine Ap (aFF ?_);have gt:∀ j,j<it.size->∃ p,(arrOf st)[j]?=some p/\p∈it.toList:=fun j hj=>g.get hj;have fin:∀(z:Bp),Sg (setPending st (((pendingOf st).setIfInBounds i (sa,na+nb,pw)).eraseIdxIfInBounds (i+1))) z->∀ c:Array BG,c.Perm (arrOf st)->Q true (setArr z c):=fun z sg c hp=>
  h _ ⟨sg.kind.trans g.kind,hp.trans g.perm,sg.fail.trans g.fail⟩ (by show gW (pendingOf z).toList 0 lo;rw[sg.pend];show gW (((pendingOf st).setIfInBounds i (sa,na+nb,pw)).eraseIdxIfInBounds (i+1)).toList 0 lo;rw[D];exact x5) (by show(pendingOf z).size+1=_;rw[sg.pend];exact af)
 have B:Q true (setPending st (((pendingOf st).setIfInBounds i (sa,na+nb,pw)).eraseIdxIfInBounds (i+1))):=fin _ (Sg.refl _) _ (C7 _);obtain⟨p1,e1,i1⟩:=gt sb (by omega);refine Ap (fQ e1 (Ap (gU hc i1 (fun j hj=>gt _ (by omega)) (by omega) g.kind fun k hk=>?_)));dsimp only;refine bQ (fun _=>AE B) fun n0=>?_;have am:=hJ n0;obtain⟨p2,e2,i2⟩:=gt (sa+k+(na-k)-1) (by omega);refine Ap (fQ e2 (Ap (gU hc i2 (fun j hj=>gt _ (by omega)) (by omega) g.kind fun Z an=>?_)));dsimp only;refine bQ (fun _=>AE B) fun n1=>?_;have aj:=hJ n1;have O:∀ q∈((arrOf st).extract (sa+k) sb).toList,q∈it.toList:=fun q J=>by
  rw[fH]at J;exact(Bc.mp g.perm).mem_iff.mp (C5 (CB J))
 have Y:∀ q∈((arrOf st).extract sb (sb+Z)).toList,q∈it.toList:=fun q J=>by
  rw[fH]at J;exact(Bc.mp g.perm).mem_iff.mp (C5 (CB J))
 have sX:1<=((arrOf st).extract (sa+k) sb).size:=by rw[Array.size_extract];omega
 have sY:1<=((arrOf st).extract sb (sb+Z)).size:=by rw[Array.size_extract];omega
 have fin2:∀(out:Array BG) (z:Bp),out.Perm ((arrOf st).extract (sa+k) sb++(arrOf st).extract sb (sb+Z))->Sg (setPending st (((pendingOf st).setIfInBounds i (sa,na+nb,pw)).eraseIdxIfInBounds (i+1))) z->
   Q (failedOf (setArr z (out.toList.zipIdx.foldl (fun a q=>a.setIfInBounds (sa+k+q.2) q.1) (arrOf z)))).isNone (setArr z (out.toList.zipIdx.foldl (fun a q=>a.setIfInBounds (sa+k+q.2) q.1) (arrOf z))):=fun out z W sg=>by
  have hf:(failedOf (setArr z (out.toList.zipIdx.foldl (fun a q=>a.setIfInBounds (sa+k+q.2) q.1) (arrOf z)))).isNone=true:=by
   show(failedOf z).isNone=true;rw[sg.fail.trans g.fail];rfl
  rw[hf];refine fin z sg _ ?_;rw[sg.arr];refine aEm (n:=na-k+Z) ?_ (by show _<=(arrOf st).size;omega);refine(Bc.mp W).trans ?_;rw[A3,fH,fH];have e3:(arrOf st).toList.drop sb=((arrOf st).toList.drop (sa+k)).drop (na-k):=by
   rw[EL];congr 1;omega
  rw[e3,show sb-(sa+k)=na-k by omega,Dt,<- List.take_add]
 refine bQ (fun _=>Ap (zX hc sX sY O Y g.kind fun out z W sg=>?_)) fun _=>Ap (zZ hc sX sY O Y g.kind fun out z W sg=>?_)
 .exact Ap (Cw (Ap (Eg (AE (fin2 out z W sg)))))
 .exact Ap (Cw (Ap (Eg (AE (fin2 out z W sg)))))
end
section
variable{κ:Dv}{it:Array BG}
structure SR(κ:Dv)(it:Array BG)(lo:Nat)(st:Bp):Prop where
 gs:GS κ it st
 le:lo<=it.size
 sg:gW (pendingOf st).toList 0 lo
variable(hc:m7 prog w A s κ it)
include hc
theorem aEn{st:Bp}{Q:Unit->Bp->Prop}(g:GS κ it st)(hp:pendingOf st=#[])(h:∀ B,(arrOf B).Perm it->failedOf B=none->Q () B):wpS (model prog w) A E s sortRuns' Q st:=by
 rw[sortRuns'_eq];refine Ap (Eg ?_);dsimp only;have hz:(arrOf st).size=it.size:=g.perm.size_eq;rw[hz];generalize minRun' it.size it.size 0=mr;refine Ap (CQ (BS (I:=fun x c B=>c.1=none/\SR κ it c.2 B) (Q:=fun c B=>c.1=none/\∃ lo,SR κ it lo B) ?_ (fun c B z=>⟨z.1,_,z.2⟩) ⟨rfl,g,Bx _,?_⟩) ?_)
 .rintro x ⟨r,lo⟩ B _ _ ⟨J,O,D,Z⟩;dsimp only at J D Z ⊢;subst J;refine bQ (fun _=>AE ⟨rfl,lo,O,D,Z⟩) fun hl=>?_;refine Ap (aCW hc O (by omega) (by omega) fun n aq au aw m1=>?_);dsimp only;refine bQ (fun hm=>Ap (E6 (Di ⟨rfl,Ap (aA4 hc (O.on m1) (by omega) fun am m2=>bQ (fun z=>nomatch z) fun _=>?_)⟩))) fun hm=>?_
  all_goals
   first|(have mm:=m1.trans m2;have ez:1<=min (it.size-lo) mr/\lo+min (it.size-lo) mr<=it.size:=by omega)|(have mm:=m1;have ez:1<=n/\lo+n<=it.size:=by omega)
   have gg:=O.on mm;have Y:=Z;rw[<- mm.pend]at Y;refine Ap (Eg ?_);split
   .rename_i s1 n1 _ aj;refine Ap (CQ (BS (I:=fun x c B=>c.1=none/\SR κ it lo B) (Q:=fun c B=>c.1=none/\SR κ it lo B) ?_ (fun c B z=>z) ⟨rfl,gg,D,Y⟩) ?_)
    .rintro x ⟨r,u⟩ aa _ _ ⟨J,g3,_,W⟩;dsimp only at J ⊢;subst J;refine Ap (Eg ?_);split
     .rename_i a1 a2 ai ac;refine bQ (fun _=>AE ⟨rfl,g3,D,W⟩) fun _=>?_;have h2:(pendingOf aa).size>1:=by
       by_cases h2:(pendingOf aa).size>1
       .exact h2
       .rw[Ia h2]at ac;cases ac
      refine Ap (pX hc g3 W D (by omega) fun ao g4 ag _=>?_);exact bQ (fun z=>nomatch z) fun _=>AE ⟨rfl,g4,D,ag⟩
     .exact AE ⟨rfl,g3,D,W⟩
    .rintro⟨r,u⟩ aa ⟨J,g3,_,W⟩;dsimp only at J ⊢;subst J;refine Ap (Cw (Ap (Cw (AE ⟨rfl,⟨g3.kind,g3.perm,g3.fail⟩,ez.2,?_⟩))));show gW (((pendingOf aa).modify _ _).push _).toList 0 _;rw[B3,Array.toList_modify];refine gW.snoc ez.1 (gW.mod ?_ _ W);exact fun _=>⟨rfl,rfl⟩
   .refine Ap (Cw (AE ⟨rfl,⟨gg.kind,gg.perm,gg.fail⟩,ez.2,?_⟩));show gW ((pendingOf _).push _).toList 0 _;rw[B3];exact Y.snoc ez.1
 .show gW (pendingOf st).toList 0 0;rw[hp];rfl
 .rintro⟨r,lo⟩ B ⟨J,lo',O,D,Z⟩;dsimp only at J ⊢;subst J;refine Ap (CQ (BS (I:=fun x c B=>c.1=none/\SR κ it lo' B) (Q:=fun c B=>c.1=none/\SR κ it lo' B) ?_ (fun c B z=>z) ⟨rfl,O,D,Z⟩) ?_)
  .rintro x ⟨r,u⟩ B _ _ ⟨J,O,D,Z⟩;dsimp only at J ⊢;subst J;refine Ap (Eg ?_);refine bQ (fun _=>AE ⟨rfl,O,D,Z⟩) fun h2=>?_;have ap:¬ (pendingOf B).size<=1:=h2;have hi:∀ b:Bool,(if b=true then(pendingOf B).size-2-1 else(pendingOf B).size-2)+1<(pendingOf B).size:=fun b=>by
    cases b<;>simp<;>omega
   refine Ap (pX hc O Z D (hi _) fun am g2 Y _=>?_);exact AE ⟨rfl,g2,D,Y⟩
  .rintro⟨r,u⟩ B ⟨J,O,D,Z⟩;dsimp only at J ⊢;subst J;exact AE (h _ O.perm O.fail)
theorem aEo{Q:Unit×Bp->Ac->Prop}(h:∀ st:Bp,(arrOf st).Perm it->failedOf st=none->Q ((),st) s):wpAny (model prog w) A (sortRuns'.run (Et κ it #[] 7 none)) Q E s:=by
 refine BH (aEn (E:=E) hc (st:=Et κ it #[] 7 none) (Q:=fun u st=>Q (u,st) s) ⟨rfl,C7 _,rfl⟩ rfl h) (fun r s' z=>?_) fun _ _ z=>z;obtain⟨rfl,q⟩:=z;exact q
end
def aHs(c:Ah)(qual:Str):HO:=.ext fun h=>h.CodeRec (.ref c) qual
structure aJD(T:Ah)(pos:Pos)(qual:Str)(H:Hp):Prop where
 ex:∃ ps,H T=some (.tbl ps)/\TriplesOk ps.toList/\(codeAmong pos ps.toList=none\/∃ c,codeAmong pos ps.toList=some (.ref c)/\H c=some (aHs c qual))
def aJE(T:Ah)(H H':Hp):Prop:=∀ b o,b≠T->H b=some o->H' b=some o
structure aIE(ps fs:List Str)(sc:Dw):Prop where
 kind:sc.kind=.function
 co:sc.isCoroutine=false
 gen:sc.isGenerator=false
 nd:ps.Nodup
 par:∀ x∈ps,sc.names.lookup x=some .local
 fr:∀ x∈fs,sc.names.lookup x=some .free
 nocell:∀ y∈sc.names,y.2≠.cell
inductive aBX(h:A8)(v:Ab):Prop
 | mk (t:_) (a:_) (b:_) (u1:_) (u2:_) (q0:v=.ref t) (q1:Ef h t #[.int a u1,.int b u2]):aBX h v
def aJF(h:A8)(v:Ab):Prop:=aBX h v
inductive aBY(H:Hp)(v:Ab):Prop
 | mk (t:_) (a:_) (b:_) (q0:v=.ref t) (q1:H t=some (.tup [.int a,.int b])):aBY H v
def aJG(H:Hp)(v:Ab):Prop:=aBY H v
section
variable{ta:TA}
end
section
variable{tg:Bb}
end
inductive aA5(H:Hp):V->Prop
 | str (z:Str):aA5 H (.str z)
 | non:aA5 H .non
 | int (i:Int):aA5 H (.int i)
 | bl (b:Bool):aA5 H (.bl b)
 | lst {a:Ah} {xs:List V} (e:H a=some (.lst xs)):aA5 H (.ref a)
 | tup {a:Ah} {xs:List V} (e:H a=some (.tup xs)):aA5 H (.ref a)
inductive Thg(H:Hp):V->Option (List V)->Prop
 | lst {a:Ah} {xs:List V} (e:H a=some (.lst xs)) (h:∀ v∈xs,aA5 H v):Thg H (.ref a) (some xs)
 | tup {a:Ah} {xs:List V} (e:H a=some (.tup xs)):Thg H (.ref a) none
 | dct {a:Ah} {fc:List (Key×V)} (e:H a=some (.dK fc)):Thg H (.ref a) none
 | non:Thg H .non none
 | str (z:Str):Thg H (.str z) none
 | bl (b:Bool):Thg H (.bl b) none
inductive RpV(H:Hp):V->Str->Prop
 | non:RpV H .non "None"
 | bl (b:Bool):RpV H (.bl b) (if b then "True" else "False")
 | str (z:Str) (h:(reprText z).length<=sizeLine):RpV H (.str z) (reprText z)
 | ref {a:Ah} {m:Bool} {d:Aj} (r:RdV m H (.ref a) d) (h1:d.showable=true) (h2:d.depth<=20) (h3:d.shown.length<=sizeLine):RpV H (.ref a) d.shown
def OkS:Nat->Aj->Prop
 | 0,d=>(∃ z,d=.str z)\/∃ i,d=.int i
 | n+1,d=>(∃ z,d=.str z)\/(∃ i,d=.int i)\/∃ ds,d=.tuple ds/\∀ e∈ds,OkS n e
open Classical in
open Classical in
open Classical in
inductive aIF(X:Cx)(dz:List (Ah×Obj))(σ:St)(E':XK)(x:Ab)(s':Ac):Prop
 | mk (H1:_) (s1:_) (q0:Inv X dz σ H1 s1) (q1:CXr X.prog X.w X.stack H1 s1 E' x s'):aIF X dz σ E' x s'
def XP(X:Cx)(dz:List (Ah×Obj))(σ:St)(E':XK)(x:Ab)(s':Ac):Prop:=aIF X dz σ E' x s'
structure PX(X:Cx)(e:Bb)(te:XK->TE):Prop where
 run:∀(E':XK) (dz:List (Ah×Obj)) (s:Ac) (σ:St) (H:Hp) (Q:VK),Inv X dz σ H s->te E' σ H Q->wpAny (model X.prog X.w) X.A (eval e X.env) (EP X dz σ Q) (XP X dz σ E') s
structure PXs(X:Cx)(b:List BQ)(tb:XK->TS):Prop where
 run:∀(E':XK) (dz:List (Ah×Obj)) (s:Ac) (σ:St) (H:Hp) (D:nJ),Inv X dz σ H s->tb E' D σ H->wpAny (model X.prog X.w) X.A (execs b X.env) (SP X dz D) (XP X dz σ E') s
section
variable{k:Nat}{fd:AC}{ps:List Str}{sp:Sp}{x:Str}{p:Pos}{es:List Bb}{t:TA}{te:XK->TE}
theorem aFG{dz:List (Ah×Obj)}{σ:St}{H:Hp}{s:Ac}{Q:VK}{J:XK}{z:List Ab}{vs:List V}(F:cN X.prog X.w X.K X.mg X.base (CXr X.prog X.w) k f fd ps sp)(W:cY k X.A)(Y:dX X.K fd ps [])
  (I:Inv X dz σ H s) (r:cJ vs z) (h:sp vs H Q J):wpAny (model X.prog X.w) X.A (call (.ref f) z) (EP X dz σ Q) (XP X dz σ J) s:=by
 have O:z.length=ps.length:=by rw[<- r.length];exact F.len _ _ _ _ h
 have B:=Y s z I.kIn (by rw[CW];exact O);rw[CW]at B;refine Dj (Dl (F.run X.A X.stack s H ⟨z,[]⟩ z vs Q J W I.env0 B r h) fun r s' D=>?_);cases r with
 | error e=>exact⟨H,s,I,D⟩
 | ok Z=>
  cases Z with
  | ret u=>exact I.after D
  | next=>exact Ca D
  | brk=>exact Ca D
  | cont=>exact Ca D
theorem aFH(F:cN X.prog X.w X.K X.mg X.base (CXr X.prog X.w) k f fd ps sp)(W:cY k X.A)(hg:Gl X x)(hm:X.mg x=some (.ref f))(hk:Az X.K (.ref f)=true)(Y:dX X.K fd ps [])
  (ha:PA X.nox (e::es) t) (D:(x==("__debug__":Str))=false:=by decide) (Z:starEach (e::es) X.env=(false,eval e X.env)::starEach es X.env:=by rfl) (B:(backTo pos (starEach es X.env)).any (·.1)=false:=by rfl):
  PX X (.Call (.Name x p) (e::es) [] pos) (fun J=>fun σ H Q=>t σ H fun vs H1=>sp vs H1 Q J):=by
 constructor;intro J dz s σ H Q I h;refine DG (qP I hg hm ?_ D);refine EO (h₀:=X.base) I.ok.mod.kin hk (BH (ha pos dz s σ H _ (I.wish _) h) (fun us s1 ⟨vs,H1,O,r,q⟩=>⟨O.kIn,?_⟩) fun _ _ z=>Ca z) Z B;exact aFG F W Y O.unwish r q
theorem aFI{i:Nat}{fm:Pos}(hN:X.N.Nodup)(hi:X.N[i]?=some x)(hx:Loc X.env.scope x)(Y:PX X e te)(B:swapsWith e (some (.Name x fm)) pos.line X.env=pure false:=by rfl)(hf:X.fn x=true\/X.env.scope.names.lookup x=some .local:=by first|exact .inl rfl|exact .inr rfl|assumption):
  PXs X [.Assign [.Name x fm] e pos] (fun z D σ H=>te z σ H fun v H1=>D.nx (σ.set i (some v)) H1):=by
 constructor;intro z dz s σ H D I h;refine FE (wpAny_Assign_Name (thn (Y.run z dz s σ H _ I h) fun v s1 ⟨y,H1,Z,J,W⟩=>?_) B);exact nH Z hN hi hx J (fun s2 O=>Dy ⟨_,H1,O,W⟩) hf
end
abbrev Cx.hand(X:Cx)(v:Ab):Cx:={ X with A:=X.A.mark (some v),calm:=false,xe:=fun _ _=>False }
section
variable{v:Ab}
theorem Inv.hand(I:Inv X dz σ H s)(v:Ab):Inv (X.hand v) dz σ H s:=
 have ok:=I.ok
 ⟨⟨ok.mod,ok.kind,ok.glob,ok.blt,ok.above,ok.inj,ok.has,ok.cab,(fun z=>by cases z),ok.frames,ok.stk,ok.exf,ok.bs,ok.bsz,ok.noex,ok.exfs,ok.funs,ok.frf⟩,I.os,I.bare,I.base,I.loc,I.cell,I.free,I.freeC,I.pin,I.hok,I.len⟩
theorem Inv.unhand(I:Inv (X.hand v) dz σ H s)(ok:X.Ok):Inv X dz σ H s:=⟨ok,I.os,I.bare,I.base,I.loc,I.cell,I.free,I.freeC,I.pin,I.hok,I.len⟩
theorem lO{M:EI}{A:AJ}{E:Ab->Ac->Prop}{i:Nat}{x:Str}{pos:Pos}{Q:Unit->Ac->Prop}(I:Inv X dz σ H s)(hN:X.N.Nodup)(hi:X.N[i]?=some x)(hk:X.env.scope.names.lookup x=some .local)
  (h:∀ s',Inv X dz (σ.set i none) H s'->Q () s'):wpAny M A (do bindName X.env x .none;unbindBehindTheSuite X.env x pos) Q E s:=by
 obtain⟨m,hn,hl⟩:=id I.loc;have J:(X.env.scope.kind==.class||(X.env.scope.kind==.module&&X.env.locals != X.env.globals))=false:=by rw[I.ok.kind];rfl
 have aa:i<σ.length:=by rw[I.len];exact(Bl.mp hi).1
 have cne:=I.cne;refine wpAny_nameGoes_keeps hk hn J fun h' v Y B=>?_;obtain⟨oL,_,_,hoL,_⟩:=id hn;refine h _ ⟨I.ok,I.os,I.bare,⟨fun b o e n Z O=>?_,fun b o e n Z O=>?_,I.base.free,fun b o e O=>?_,I.base.tups,I.base.frzs,I.base.tbls⟩,⟨_,Y,fun j y v' D W e3=>?_⟩,fun y c e=>?_,I.free,I.freeC,fun p hp=>?_,fun b ob e=>?_,by simpa using I.len⟩
 .exact(B.2 b (AF (AR (Au e) I.ok.above))).trans (I.base.keep b o e n Z O)
 .obtain⟨sl,D⟩:=I.base.slot b o e n Z O;exact⟨sl,(B.2 b (AF (AR (Au e) I.ok.above))).trans D⟩
 .obtain⟨o',D⟩:=I.base.there b o e O;exact⟨o',(B.2 b (AF (AR (Au e) I.ok.above))).trans D⟩
 .by_cases hj:j=i
  .subst hj;rw[DA aa]at W;cases W
  .rw[EK (D7 hj)]at W;obtain⟨u',r',q⟩:=hl j y v' D W e3;refine⟨u',r',?_⟩;rcases q with⟨k,e⟩|⟨k,c,e,z⟩
   .refine .inl ⟨k,?_⟩;have:y≠x:=fun e=>hj (rL hN D (e▸hi));simp[this,e]
   .exact .inr ⟨k,c,e,z.sameBut B (cne y c e)⟩
 .obtain⟨w',z⟩:=I.cell y c e;exact⟨w',z.sameBut B (cne y c e)⟩
 .obtain⟨e,n,ne,nf,d⟩:=I.pin p hp;exact⟨(B.2 p.1 ne).trans e,n,ne,nf,d⟩
 .refine(I.hok b ob e).stay (fun c w' hc q=>(B.2 c ?_).trans q) (fun _ q=>q) fun _ _ q=>q;rintro rfl;rcases hc with rfl|hc
  .rw[I.free]at e;cases e
  .rw[I.free]at hc;cases hc
end
def mE(y:Ah)(C:Ab):HO:=.ext fun h=>∃ ob vs,h.get? y=some ob/\ob.cls=C/\ob.data=.fields vs
theorem Fly.again{P:Ar}{w:AQ}{M:EI}{A:AJ}{env:Env}{outer:List Env}{base:A8}{H H':Hp}{s D:Ac}{x:Ah}{C:Ab}{E:Ab->Ac->Prop}{R:Ac->Prop}(F:Fly P w (env::outer) H H' s x C D)
  (O:s.heap.FunFrames base (env::outer)) (k:∀ z,Fly P w (env::outer) H H' s x C { D with heap:=z }->R { D with heap:=z }):
  wpAny M A (setFlight (.ref x) none) (fun _ Y=>R Y) E D:=by
 obtain⟨B,a0,fl,hokB,hkB,htB⟩:=F.ex;refine lands_againW fl fun z J W=>k z ?_;refine⟨F.os,F.bare,⟨B,a0,J,hokB,hkB,htB⟩,F.frf,fun b o q n hm=>?_,F.free,F.tups,F.frzs,F.tbls⟩;obtain⟨sl,e1⟩:=F.slot b o q n hm;obtain⟨_,o2,e2,hd⟩:=O.mem hm;rw[q]at e2;cases e2;obtain⟨sl2,e3⟩:=W b _ e1 hd;exact⟨sl2,e3⟩
theorem aA6{P:Ar}{w:AQ}{H:Hp}{h:A8}{a:Ah}{o:HO}(x:c7 P w H h a o):∃ ob,h.get? a=some ob:=by
 cases o with
 | lst xs=>obtain⟨_,_,_,_,e⟩:=x;exact⟨_,e⟩
 | tup xs=>obtain⟨_,_,_,_,e,_⟩:=x;exact⟨_,e⟩
 | dK fc=>obtain⟨_,_,_,_,o,_,_,e,_⟩:=x;exact⟨_,e⟩
 | dT fc=>obtain⟨_,_,_,_,o,_,_,e,_⟩:=x;exact⟨_,e⟩
 | set S n=>obtain⟨o,_,_,_,e,_⟩:=x;exact⟨_,e⟩
 | ins C dx fs=>obtain⟨_,_,_,e,_⟩:=x;exact⟨_,e⟩
 | own y=>exact x
 | xd fs=>obtain⟨_,⟨_,_,_,e,_⟩,_⟩:=x;exact⟨_,e⟩
 | rng lo hi=>obtain⟨_,_,_,e⟩:=x;exact⟨_,e⟩
 | frz ob u=>exact⟨_,x.1⟩
 | tbl ps=>exact⟨_,x⟩
 | met f y=>exact⟨_,x⟩
 | ext φ=>exact x.2.1
theorem Fly.track{X:Cx}{dz:List (Ah×Obj)}{σ:St}{H H':Hp}{s s':Ac}{x:Ah}{C:Ab}(I:Inv X dz σ H s)(ac:X.stack=X.env::X.outer)(ad:X.env.frame=some X.env.locals)(ae:X.ex=[])(F:Fly X.prog X.w X.stack H H' s x C s'):
  H' x=none/\Inv X dz σ (upd H' x (mE x C)) s':=by
 have D:=I.caught F;obtain⟨ob,vs,ho,hc,hd⟩:=F.obj;obtain⟨B,a0,fl,hokB,hkB,htB⟩:=F.ex;have hB:B.get? x=none:=fl.2.1;have hn:H' x=none:=by
  cases q:H' x with
  | none=>rfl
  | some o=>
   obtain⟨o',e⟩:=aA6 (hokB x o q);rw[hB]at e;cases e
 have O:∀ b∈frs X.stack,b≠x:=fun b J z=>by
  obtain⟨_,o,e,h⟩:=fl.2.2.1.mem J;rw[z,ho]at e;cases e;exact h vs hd
 have W:X.env.locals∈frs X.stack:=by rw[ac];exact Cc.mpr ⟨_,AM,ad⟩
 have Z:∀ b o,s.heap.get? b=some o->b≠x:=fun b o e z=>by
  by_cases J:b∈frs X.stack
  .exact O b J z
  .obtain⟨o',e'⟩:=htB b o e J;rw[z,hB]at e';cases e'
 have Y:∀ b o,X.s₀.heap.get? b=some o->b≠x:=fun b o e=>by
  obtain⟨o',e'⟩:=I.base.there b o e (by rw[ae];simp);exact Z b o' e'
 have nD:∀ b u,H' b=some u->b≠x:=fun b u e=>bG e hn;refine⟨hn,⟨D.ok,D.os,D.bare,⟨D.base.keep,D.base.slot,fun b o e n hx=>?_,D.base.there,fun b xs e=>?_,fun b o u e=>?_,fun b ps e=>?_⟩,D.loc,D.cell,?_,fun y c e=>?_,fun p hp=>?_,fun b o e=>?_,D.len⟩⟩
 .rw[bD (Y b o e)];exact D.base.free b o e n hx
 .have q:=D.base.tups b xs e;rw[bD (nD b _ q)];exact q
 .have q:=D.base.frzs b o u e;rw[bD (nD b _ q)];exact q
 .obtain⟨more,q⟩:=D.base.tbls b ps e;exact⟨more,by rw[bD (nD b _ q)];exact q⟩
 .rw[bD (O _ W)];exact D.free
 .obtain⟨v,o,e2,h2⟩:=D.cell y c e;rw[bD fun z=>by rw[z,ho]at e2;cases e2;rw[hd]at h2;cases h2];exact D.freeC y c e
 .obtain⟨e,n,ne,nf,d⟩:=D.pin p hp;refine⟨e,?_,ne,nf,d⟩;rw[bD (Z _ _ (I.pin p hp).1)];exact n
 .by_cases J:b=x
  .subst J;rw[aF]at e;cases e;exact⟨⟨ob,vs,ho,hc,hd⟩,⟨ob,ho⟩,fun h1 h2 ⟨o1,v1,e1,c1,d1⟩ k=>⟨o1,v1,k _ e1,c1,d1⟩⟩
  .rw[bD J]at e;exact(D.hok b o e).stay (fun c v _ q=>q) (fun c q=>by rw[bD (nD c _ q)];exact q) fun c xs q=>by rw[bD (nD c _ q)];exact q
def unE(ie:Nat)(D:nJ):nJ:={ nx:=fun σ H=>D.nx (σ.set ie none) H,rt:=D.rt,bk:=fun σ H=>D.bk (σ.set ie none) H,ct:=fun σ H=>D.ct (σ.set ie none) H }
theorem aEp{X:Cx}{W:List BQ}{tb:XK->TS}{ie:Nat}{dn n:Str}{C0:Ah}{b₀:BQ}{B:List BQ}{th:TS}{np Y pos:Pos}
  (J:X.stack=X.env::X.outer) (ac:X.env.frame=some X.env.locals) (ai:X.ex=[]) (hb:PXs X W tb) (hg:Gl X dn) (hm:X.mg dn=some (.ref C0)) (hN:X.N.Nodup) (O:X.N[ie]?=some n) (hn:X.env.scope.names.lookup n=some .local)
  (hh:∀ v,PSs (X.hand v) (b₀::B) th) (hd:(dn==("__debug__":Str))=false:=by decide):
  PS X (.Try W [.ExceptHandler (some (.Name dn np)) (some n) (b₀::B) Y] [] [] pos) (fun D σ H=>tb (fun C _ H'=>exmOne X.K C (.ref C0)=some true/\∀ y,H' y=none->th (unE ie D) (σ.set ie (some (.ref y))) (upd H' y (mE y C))) D σ H):=by
 constructor;intro dz s σ H D I h;refine wpAny_Try_except (BH (hb.run _ dz s σ H D I h) (fun f s1 r=>?_) fun e s1 z=>?_)
 .cases f with
  | next=>exact Dy r
  | _=>exact r
 .obtain⟨H1,s0,I1,x,C,H',rfl,F,hx,hy⟩:=z;have aa:s0.heap.FunFrames X.base (X.env::X.outer):=J▸I1.stack;have F':Fly X.prog X.w (X.env::X.outer) H1 H' s0 x C s1:=J▸F;refine F'.lands (Q:=X.xe) (R:=fun s4=>wpAny (model X.prog X.w) X.A (handleBy (.ref x) X.env [.ExceptHandler (some (.Name dn np)) (some n) (b₀::B) Y]) _ _ s4) aa (J▸I1.ok.frames) ac fun h5 F5=>?_;have I5:=I1.caught (s':={ s1 with heap:=h5 }) (by rw[J];exact F5);refine wpAny_handleBy_cons (codeAny_handlers_test ?_) (by intro q;cases q);refine qP (X:=X.hand (.ref x)) (I5.hand _) hg hm ?_ hd;obtain⟨ob,vs,ho,hc,hd5⟩:=F5.obj;have LT:Looks (model X.prog X.w) h5 (typeOf (.ref x)) C:=by
   rw[<- hc];unfold typeOf;exact(Looks.ld ho).andThen .now
  refine(exm_one (M:=model X.prog X.w) I5.kIn LT hx).at ?_;refine codeAny_handlers_suite_as ?_;refine F5.again (R:=fun s4=>_) aa fun h6 F6=>?_;obtain⟨hnx,I6⟩:=Fly.track (s':={ s1 with heap:=h6 }) I1 J ac ai (by rw[J];exact F6);refine nH (X:=X.hand (.ref x)) (I6.hand _) hN O (.inl hn) (v:=.ref x) rfl (fun s7 I7=>?_) (.inr hn);refine BH ((hh (.ref x)).run dz s7 _ _ (unE ie D) I7 (hy x hnx)) (fun f s8 r=>?_) fun _ _ z=>Ca z;cases f with
  | next=>
   obtain⟨σ',H'',I8,q⟩:=r;exact lO (I8.unhand I.ok) hN O hn fun s9 Z=>⟨_,_,Z,q⟩
  | brk=>
   obtain⟨σ',H'',I8,q⟩:=r;exact lO (I8.unhand I.ok) hN O hn fun s9 Z=>⟨_,_,Z,q⟩
  | cont=>
   obtain⟨σ',H'',I8,q⟩:=r;exact lO (I8.unhand I.ok) hN O hn fun s9 Z=>⟨_,_,Z,q⟩
  | ret u=>
   obtain⟨v,σ',H'',I8,rr,q⟩:=r;exact lO (I8.unhand I.ok) hN O hn fun s9 Z=>⟨v,_,_,Z,rr,q⟩
open PySem PySem.Spec PyProof.Rows PySem.W Builtin Builtin.ObjectAttr PySem.Calls Builtin.Getset_descriptor
structure xU(K:Af)(D:Ah):Prop where
 ga:findIn K (.ref D) "__getattribute__"=some (some (.builtin "BaseException.__getattribute__"))
 gn:findIn K (.ref D) "__getattr__"=some none
 mb:mroIn K D (.type "BaseException")=some true
 hd:hasDictIn K D=true
 ha:findIn K (.ref D) "__class__"=some (some (.builtin "object.__class__"))
 hm:mroIn K D (.type "object")=some true
 hn:specialIn K (.builtin "object.__class__") "__get__"=some (some (.builtin "getset_descriptor.__get__"))
 ht:takesIn K (.builtin "object.__class__")=some true
def t9(y:Ah)(C:Ab)(h:A8):Prop:=∃ ob vs,h.get? y=some ob/\ob.cls=C/\ob.data=.fields vs
theorem t9.ty{y:Ah}{C:Ab}{h:A8}{M:EI}(x:t9 y C h):Looks M h (typeOf (.ref y)) C:=by
 obtain⟨ob,vs,ho,hc,_⟩:=x;rw[<- hc];unfold typeOf;exact(Looks.ld ho).andThen .now
theorem aEq{K:Af}{M:EI}{h:A8}{D y:Ah}(k:xU K D)(X:K.In h):Looks M h (Builtin.ObjectAttr.find (.ref y) (.ref D) "__class__") (.bind (.builtin "getset_descriptor.__get__") (.builtin "object.__class__")):=by
 have a1:=Gu (M:=M) X k.ha;have a2:Looks M h (Builtin.ObjectAttr.getOf (some (.builtin "object.__class__"))) (some (.builtin "getset_descriptor.__get__")):=looks_specialIn X k.hn;have a3:=looks_takesIn (M:=M) X k.ht;exact a1.andThen (a2.andThen (Looks.andThen (a:=some (.builtin "getset_descriptor.__get__",.builtin "object.__class__")) (a3.andThen .now) (Looks.tag .now)))
theorem aFJ{prog:Ar}{w:AQ}{A:AJ}{s:Ac}{K:Af}{D y:Ah}{z:Ab}{R:Result->Ac->Prop}(k:xU K D)(X:K.In s.heap)(p:t9 y (.ref D) s.heap)(q:R (.ok (.ret (.ref D))) s):
  codeAny (model prog w) A (.call (.builtin "getset_descriptor.__get__") ⟨[.builtin "object.__class__",.ref y,z],[]⟩) R s:=by
 obtain⟨hp,g,d,t,os⟩:=s;have J:=p.ty (M:=model prog w);have B:=GX (M:=model prog w) X k.hm;refine D3 KF.slot_gs.plain KF.entry_gs (KF.slot_gs.check _ _ _ _ _ _ _ _ KF.type_class (KF.args_gs _ _ _) (?_));unfold Builtin.«getset_descriptor.__get__» descrGet;rw[dga_obj];refine Aa (Ad ?_);unfold descrGetter descrCheckInstance descrNameAndClass isInstance;simp only[KF.owner_class]
 repeat lk
 refine⟨E5 _ (by decide),Cb KF.entry_class (?_)⟩;unfold Builtin.«object.__class__» shownTypeOf
 repeat lk
 exact q
theorem aCX{prog:Ar}{w:AQ}{A:AJ}{E:Ab->Ac->Prop}{z:A8}{g:Array Fz}{d:Ha}{t:Nat}{os:OsState}{K:Af}{D y:Ah}{tk:Tok}{Q:Fin->Ac->Prop}(k:xU K D)(X:K.In z)(p:t9 y (.ref D) z)(q:Q (.done (.ret (.ref D))) ⟨z,g,d,t,os⟩):
  wpAny (model prog w) A (Builtin.«object.__getattribute__» ⟨[.ref y,.str "__class__" tk],[]⟩) Q E ⟨z,g,d,t,os⟩:=by
 have B:=p.ty (M:=model prog w);have J:=aEq (M:=model prog w) (y:=y) k X;unfold Builtin.«object.__getattribute__»;refine Aa (Ad (Aa (Ad (Aa (B.at (Aa (J.at ?_)))))));show wpAny _ _ (holding [.builtin "object.__class__"] (call (.builtin "getset_descriptor.__get__") [.builtin "object.__class__",.ref y,.ref D]) >>= ret) _ _ _;exact Aa (Ba (Dj (aFJ (s:=⟨z,g,d,t,os⟩) k X p (Ad q))))
theorem aCY{M:EI}{A:AJ}{E:Ab->Ac->Prop}{B:A8}{g:Array Fz}{d:Ha}{t:Nat}{os:OsState}{K:Af}{D y:Ah}{z:Ab}{Q:Unit->Ac->Prop}(k:xU K D)(X:K.In B)(p:t9 y (.ref D) B)(q:Q () ⟨B,g,d,t,os⟩):
  wpAny M A (checkBuiltinCall "BaseException.__getattribute__" ⟨[.ref y,z],[]⟩) Q E ⟨B,g,d,t,os⟩:=by
 have O:=p.ty (M:=M);have W:=GX (M:=M) X k.mb;have J:builtinKind "BaseException.__getattribute__"=some .slot:=by decide
 have Y:splitId "BaseException.__getattribute__"=some ("BaseException","__getattribute__"):=by decide
 have Z:=F.args_bexc_ga (.ref y) z;simp only[checkBuiltinCall,J,Y];refine Aa (Aa (O.at (W.at ?_)))
 repeat wp_step
 exact q
theorem aCZ{prog:Ar}{w:AQ}{A:AJ}{E:Ab->Ac->Prop}{s:Ac}{K:Af}{D y:Ah}{Q:Option Ab->Ac->Prop}(k:xU K D)(X:K.In s.heap)(p:t9 y (.ref D) s.heap)(q:Q (some (.ref D)) { s with toks:=s.toks+1 }):
  wpAny (model prog w) A (getAttr? (.ref y) "__class__") Q E s:=by
 obtain⟨hp,g,d,t,os⟩:=s;have J:=p.ty (M:=model prog w);have B:=Gu (M:=model prog w) X k.ga;have W:=Gu (M:=model prog w) X k.gn;have Y:=GX (M:=model prog w) X k.mb;have O:=F.excAttr_ValueError.ga.bind (.ref y);unfold getAttr? getAttrBy? getAttrBy;refine Aa (wpAny_mkText (Aa (Du (Ba (Aa (J.at (Aa (B.at ?_))))))));show wpAny _ _ (if (onTheHeap (.ref D)&&DN "BaseException.__getattribute__"==DN "object.__getattribute__")=true then _ else getAttrByItsOwn _ _ _ _ _ _) _ _ _;have z:(DN "BaseException.__getattribute__"==DN "object.__getattribute__")=false:=by decide
 rw[Ia (by rw[z,Bg];exact AG)];unfold getAttrByItsOwn hookBefore;refine Aa ?_;show wpAny _ _ (typeLookup (.ref D) "__getattr__") _ _ _;refine W.at ?_;refine Aa (Du (Ba ?_));show wpAny _ _ (boundAndCalled _ _ _) _ _ _;unfold boundAndCalled;rw[O];refine Aa (Ad ?_);refine Dj (D3 F.excAttr_ValueError.ga.plain F.entry_bexc_ga (aCY k X p (aCX k X p ?_)));exact Ad (Ad q)
theorem z0{K:Af}{y D:Ah}(k:xU K D):KitX K (.ref y) (.ref D) (t9 y (.ref D)):=by
 have hc:∃ o cd,K.lookup D=some o/\o.data=.cls cd:=by
  obtain⟨cdD,hcD,_⟩:=any_some k.hd;unfold clsIn at hcD;split at hcD
  .rename_i c' d' O Z B;exact⟨_,O,B,rfl⟩
  .cases hcD
 obtain⟨o,cd,B,hd⟩:=hc;refine⟨fun M h _ p=>p.ty,fun M h X _ A Q E s kp q=>?_,fun h Y dd W n sl X J=>DF.mpr fun q=>?_,fun X p q=>aCZ k X p q⟩
 .have e:=kp _ _ (X _ _ B);obtain⟨oc,od,oda,osl⟩:=o;dsimp only at hd;subst hd;unfold isType loadHead;exact Aa (wpAny_loadPart e (Ad q))
 .have e:D=Y:=AI.inj (beq_iff_eq.mp q);subst e;have z:=(X _ _ B).symm.trans J;cases z;cases hd
inductive jM(K:Af)(xs:List V)(H:Hp)(Q:VK):Prop
 | mk (y D:Ah) (v:V) (c:Ab) (b:Bool) (q0:xs=[.ref y,v]) (q1:(∀ u,cW v u->u=c)) (q2:H y=some (mE y (.ref D))) (q3:xU K D) (q4:kitOne K (.ref D) c=some b) (q5:Q (.bl b) H):jM K xs H Q
def uA(K:Af):List V->Hp->VK->Prop:=fun xs H Q=>jM K xs H Q
theorem oJ:eU X (.builtin "isinstance") (uA X.K):=by
 intro dz s σ H xs O Q I r h;obtain⟨y,D,v,c,b,rfl,hv,hy,k,e,q⟩:=h;cases r with
 | cons J r=>
 cases r with
 | cons B r=>
 cases r;cases(show _=AI y from J);cases hv _ B;obtain⟨p,_⟩:c7 X.prog X.w H s.heap y (mE y (.ref D)):=I.hok _ _ hy;exact kia_one (z0 k) I.kIn p e (fun z=>nomatch z) fun tk=>⟨.bl b,H,I.tok tk,rfl,q⟩
inductive iV(K:Af)(xs:List V)(H:Hp)(Q:VK):Prop
 | mk (y D tp:Ah) (cs:List Ah) (b:Bool) (q0:xs=[.ref y,.ref tp]) (q1:H tp=some (.tup (cs.map V.ref))) (q2:H y=some (mE y (.ref D))) (q3:xU K D) (q4:kitAny K (.ref D) (cs.map AI)=some b) (q5:Q (.bl b) H):iV K xs H Q
def qL(K:Af):List V->Hp->VK->Prop:=fun xs H Q=>iV K xs H Q
theorem mG:eU X (.builtin "isinstance") (qL X.K):=by
 intro dz s σ H xs O Q I r h;obtain⟨y,D,tp,cs,b,rfl,ht,hy,k,e,q⟩:=h;cases r with
 | cons J r=>
 cases r with
 | cons B r=>
 cases r;cases(show _=AI y from J);cases(show _=AI tp from B);obtain⟨p,_⟩:c7 X.prog X.w H s.heap y (mE y (.ref D)):=I.hok _ _ hy;obtain⟨_,its,rv,hT⟩:c7 X.prog X.w H s.heap tp (.tup (cs.map V.ref)):=I.hok _ _ ht;obtain⟨⟨cls,dd,data,sl⟩,ho,hc,n,hd⟩:=hT.tup;simp only at hc hd;subst hc hd;obtain rfl:=aBU rv;exact kia_tup (z0 k) I.kIn p ho e (fun z=>nomatch z) fun tk=>⟨.bl b,H,I.tok tk,rfl,q⟩
section
variable{H':Hp}{L:List (Ah×Obj)}{b:Ah}{o:Obj}
variable{h h':A8}{fs:List Ah}
end
section
variable{N:List Str}{E:XK}
structure aJH(cl:List (Str×Ah))(L:List (Ah×Obj))(fs:List Str)(zs:List V):Prop where
 pr:FI (fun(x:Str) (v:V)=>∃ b o u,cl.lookup x=some b/\L.lookup b=some o/\o.data=.cell (some u)/\cW v u) fs zs
 all:∀ x b,cl.lookup x=some b->∃ o u,L.lookup b=some o/\o.data=.cell u
 inj:∀ x y b,cl.lookup x=some b->cl.lookup y=some b->x=y
end
section
variable{k:Nat}{x:Str}{p:Pos}
end
inductive Thn(H:Hp):V->Prop
 | non:Thn H .non
 | bl (b:Bool):Thn H (.bl b)
 | int (i:Int):Thn H (.int i)
 | str (z:Str):Thn H (.str z)
 | lst {a:Ah} {xs:List V} (e:H a=some (.lst xs)):Thn H (.ref a)
 | tup {a:Ah} {xs:List V} (e:H a=some (.tup xs)):Thn H (.ref a)
 | dct {a:Ah} {fc:List (Key×V)} (e:H a=some (.dK fc)):Thn H (.ref a)
theorem uD(b:Str)(u:Tok)(l:Ah)(cd:Option Ah)(es:Array FM)(ep:Nat)(z:Array (Option Ab)):
  Meets (Builtin.«str.__eq__» ⟨[.str b u,.ref l],[]⟩) (fun _ R s=>s.heap.get? l=some { cls:=.type "dict",dict:=cd,data:=.dict es ep,slots:=z }/\R (.ok (.ret .notImplemented)) s):=
 .of_wp fun prog w A R s h=>by
  obtain⟨hp,g,d,tk,os⟩:=s;obtain⟨hl,h⟩:=h
  wp_walk using EU hl,FX hl
  exact⟨_,rfl,h⟩
theorem uE(b:Str)(u:Tok)(l:Ah)(cd:Option Ah)(es:Array FM)(ep:Nat)(z:Array (Option Ab)):
  Meets (Builtin.«dict.__eq__» ⟨[.ref l,.str b u],[]⟩) (fun _ R s=>s.heap.get? l=some { cls:=.type "dict",dict:=cd,data:=.dict es ep,slots:=z }/\R (.ok (.ret .notImplemented)) s):=
 .of_wp fun prog w A R s h=>by
  obtain⟨hp,g,d,tk,os⟩:=s;obtain⟨hl,h⟩:=h;have f1:=F.sub_str_dict
  wp_walk using EU hl
  exact⟨_,rfl,h⟩
theorem aEr{a:Ah}{vs:List Ab}{n:Nat}{P:PySem.Fin->Ac->Prop}(W:s.heap.get? a=some (seqObj "list" vs.toArray n))(hK:∀(B D:Ab) (dR:List Ab),vs=B::D::dR->∀(s':Ac) (Q:Dv->Ac->Prop),(∀ b u,b≠a->s.heap.get? b=some u->s'.heap.get? b=some u)->(∀ κ,m7 prog w A s' κ (pairsOf vs)->Q κ s')->wpAny (model prog w) A (keyKind' vs.toArray) Q E s')(hz:vs.length<=sizeLine)
  (h:∀ out:List Ab,out.Perm vs->P (.done (.ret .none)) { s with heap:=sortedHeap s.heap a vs out.toArray }):wpAny (model prog w) A (Builtin.«list.sort» ⟨[.ref a],[]⟩) P E s:=by
 rw[list_sort_plain];have ha:a<s.heap.objs.size:=Au W;refine Aa (Fw W rfl (Aa (D0 W rfl ?_)));obtain⟨Z,ho1⟩:∃ Z,(s.heap.update a (BO fun _=>#[])).get? a=some (seqObj "list" #[] Z):=⟨_,get?_update_seq W (fun _=>#[])⟩
 refine Aa (Fc ho1 rfl (Aa (FW (Aa (EC (Ba ?_))))));have n1:a≠((s.heap.update a (BO fun _=>#[])).push (seqObj "tuple" vs.toArray 0)).objs.size:=by rw[size_push',DP];exact AF (Bw ha)
 have n2:a≠(s.heap.update a (BO fun _=>#[])).objs.size:=by rw[DP];exact AF ha
 have z:(((s.heap.update a (BO fun _=>#[])).push (seqObj "tuple" vs.toArray 0)).push (seqObj "list" #[] 0)).get? a=some (seqObj "list" #[] Z):=by
  rw[En _ _ _ n1,En _ _ _ n2];exact ho1
 show wpAny (model prog w) A _ P E { s with heap:=((s.heap.update a (BO fun _=>#[])).push (seqObj "tuple" vs.toArray 0)).push (seqObj "list" #[] 0) };dsimp only;have fin:∀ st:Bp,(arrOf st).Perm (pairsOf vs)->P (.done (.ret .none)) { s with heap:=sortedHeap s.heap a vs ((arrOf st).map (·.2)) }:=fun st J=>by
  have Y:((arrOf st).map (·.2)).toList.Perm vs:=by
   rw[Array.toList_map];have:=(Bc.mp J).map (·.2)
   rw[pairsOf_toList,List.map_snd_zip (Ak _)]at this;exact this
  have:=h _ Y
  rwa [Array.toArray_toList]at this
 have le:∀ st:Bp,(arrOf st).Perm (pairsOf vs)->((arrOf st).map (·.2)).size<=sizeLine+1:=fun st J=>by
  rw[Array.size_map,J.size_eq,pairsOf_size];omega
 by_cases h2:vs.toArray.size<2
 .rw[Ib h2,Ib h2];refine Aa (Ad ?_);rw[StateT.run_pure];refine Aa (Ad ?_);dsimp only;refine Aa (Fc z rfl (Aa (D0 z rfl ?_ (hsz2:=le (Et general' (vs.toArray.zip vs.toArray) #[] 7 none) (C7 _)))));simp only[bne_self_eq_false,Ea,if_false];exact Ad (fin (Et general' (vs.toArray.zip vs.toArray) #[] 7 none) (C7 _))
 .rw[Ia h2,Ia h2];obtain⟨B,D,dR,rfl⟩:∃ B D dR,vs=B::D::dR:=by
   match vs,h2 with
   | [],h2=>simp at h2
   | [_],h2=>simp at h2
   | B::D::dR,_=>exact⟨B,D,dR,rfl⟩
  refine Aa (hK B D dR rfl _ _ (fun b u nb e=>?_) fun κ hc=>Aa (aEo hc fun st J hf=>?_))
  .have O:=Au e;rw[En _ _ _ (by rw[size_push',DP];exact AF (Bw O)),En _ _ _ (by rw[DP];exact AF O),Dh _ _ _ _ nb];exact e
  .dsimp only;refine Aa (Fc z rfl (Aa (D0 z rfl ?_ (hsz2:=le st J))));rw[hf];simp only[bne_self_eq_false,Ea,if_false];exact Ad (fin st J)
section
variable{T:String}{r d:Ah}{n:Nat}{P:Nat->Ab->Prop}{OK:A8->Prop}
end
def aJn(P:Ar)(w:AQ)(h:A8)(q:Ah)(kv:Key×Ab):Prop:=∃ o key n,h.get? q=some o/\o.cls=.type "tuple"/\o.data=.seq #[key,kv.2] n/\(dE P w).is kv.1 key=true
open PySem.W in
section
variable{d:Ah}{fc:List (Key×V)}
end
section
variable{tg:Bb}
end
inductive aGN(h:A8)(v:Ab)(z:Str):Prop
 | mk (t:_) (u:_) (a:_) (b:_) (q0:v=.ref t) (q1:Ef h t #[.str z u,a,b]):aGN h v z
def NmT(h:A8)(v:Ab)(z:Str):Prop:=aGN h v z
inductive oK(K:Af)(x:V)(y:V)(H:Hp)(Q:VK):Prop
 | mk (p:_) (q:_) (xs:_) (q0:x=.ref p) (q1:y=.ref q) (q2:SqL K H p xs) (q3:SqL K H q []) (q4:Q (.bl (decide (0<xs.length))) H):oK K x y H Q
def aA7(K:Af):V->V->Hp->VK->Prop:=fun x y H Q=>oK K x y H Q
theorem aEs(B:X.A.units<cLine):OpR X (compareOp .NotEq) (aA7 X.K):=by
 intro dz s σ H x y v u Q I D J h;obtain⟨p,q,xs,rfl,rfl,h1,h2,hq⟩:=h;cases xs with
 | nil=>exact aDX B dz s σ H _ _ v u Q I D J ⟨p,q,[],[],rfl,rfl,h1,h2,rfl,rfl,hq⟩
 | cons z r=>
  cases D;cases J;obtain⟨us,r1,p1,_⟩:=I.list h1;obtain⟨ws,r2,p2,_⟩:=I.list h2;have O:=r1.length;have l2:=r2.length;refine SeqAt.RcNeAt.lists_lengths p1.isList p2.isList (by simp at O l2 ⊢;omega) B X.prog X.w _ _ ?_;rw[Ic (show 0<(z::r).length by simp)]at hq;exact⟨.bl _,H,I,rfl,hq⟩
section
variable{es:List Bb}{t:TA}
def aIG(t:TA):TE:=fun σ H Q=>t σ H fun xs H1=>xs.length<=sizeLine/\∀ D,H1 D=none->D≠sysModules->Q (.ref D) (upd H1 D (.lst xs))
theorem lP(h:PA X es t):PE X (.List es pos) (aIG t):=by
 constructor;intro dz s σ H Q I O;refine wpAny_List_spliced (thn (h pos dz s σ H _ I O) fun W B ⟨xs,H1,D,r,z,q⟩=>⟨by rw[<- r.length];exact z,?_⟩);have Y:H1 B.heap.objs.size=none:=D.hok.fresh (Ak _);have J:=D.big;refine⟨.ref B.heap.objs.size,upd H1 B.heap.objs.size (.lst xs),D.laid (t':=B.toks) (fun b u e=>Ai _ e) (Ak _) ?_,rfl,q _ Y fun e=>?_⟩
 .exact⟨z,W,0,r,Aw _ rfl⟩
 .rw[e]at J;exact absurd J (B6 _)
end
inductive oM(K:Af)(x:V)(y:V)(H:Hp)(Q:VK):Prop
 | mk (p:_) (q:_) (xs:_) (q0:x=.ref p) (q1:y=.ref q) (q2:SqL K H p xs) (q3:SqL K H q []) (q4:Q (.bl (decide (xs=[]))) H):oM K x y H Q
def aA8(K:Af):V->V->Hp->VK->Prop:=fun x y H Q=>oM K x y H Q
theorem aEt(B:X.A.units<cLine):OpR X (compareOp .Eq) (aA8 X.K):=by
 intro dz s σ H x y v u Q I D J h;obtain⟨p,q,xs,rfl,rfl,h1,h2,hq⟩:=h;cases xs with
 | nil=>exact xN B dz s σ H _ _ v u Q I D J ⟨p,q,[],[],rfl,rfl,h1,h2,rfl,rfl,hq⟩
 | cons z r=>
  cases D;cases J;obtain⟨us,r1,p1,_⟩:=I.list h1;obtain⟨ws,r2,p2,_⟩:=I.list h2;have O:=r1.length;have l2:=r2.length;refine SeqAt.eq_list_lengthsAt p1.isList p2.isList (by simp at O l2 ⊢;omega) B ?_;rw[Ie (show¬ (z::r)=[] by simp)]at hq;exact⟨.bl _,H,I,rfl,hq⟩
theorem aA9{p:Ah}{its:List Ab}{Q:Ab->Ac->Prop}(Y:s.heap.IsList p its.toArray)(W:its.length<64)
  (h:∀(h1:A8),(∀ b u,s.heap.get? b=some u->h1.get? b=some u)->s.heap.objs.size<=h1.objs.size->wpAny (model prog w) A.in1.in1 (Builtin.«list.sort» ⟨[.ref h1.objs.size],[]⟩) (fun fin s'=>fin=.done (.ret .none)/\Q (.ref h1.objs.size) s') E { s with heap:=h1.push (seqObj "list" its.toArray 0) }):
  wpAny (model prog w) A (call (.builtin "sorted") [.ref p]) Q E s:=by
 have O:its.length<=sizeLine:=aH (by omega);refine Ec GY Gs Gv (Gx _) ?_;unfold Builtin.«sorted»;apply Aa (m:=checkCount "sorted" 1 1 _);apply Ad;refine Aa (collect_list Y ?_ O);have D:∀ b u,s.heap.get? b=some u->((s.heap.push (seqObj "list" #[] 0)).update s.heap.objs.size (BO (·++its.toArray))).get? b=some u:=fun b u e=>by
  rw[Dh _ _ _ _ (AF (Au e))];exact Ai _ e
 have J:s.heap.objs.size<=((s.heap.push (seqObj "list" #[] 0)).update s.heap.objs.size (BO (·++its.toArray))).objs.size:=by
  rw[DP,Ci];exact C6 _
 have h':=h _ D J;generalize (s.heap.push (seqObj "list" #[] 0)).update s.heap.objs.size (BO (·++its.toArray))=h1 at h' D J ⊢
 apply Aa;refine EC ?_ O;have B:(h1.push (seqObj "list" its.toArray 0)).get? h1.objs.size=some (seqObj "list" its.toArray 0):=Aw _ rfl;refine Aa (Ba (BI slot_list_sort ⟨_,B,rfl⟩ entry_list_sort (BH h' (fun fin s' z=>⟨.none,z.1,?_⟩) fun _ _ e=>e) (FZ _)));exact Ad ⟨_,rfl,z.2⟩
def iO(ps:List P3):List Nat:=if 2<=ps.length then xT ps else AU ps.length
theorem jX(ps:List P3):(iO ps).Perm (AU ps.length):=by
 unfold iO;split
 .exact v9 ps (by omega)
 .exact .refl _
def aFK(d:Aj):Str:=match d with
 | .str y=>y
 | d=>d.shown
inductive iW(xs:List V)(H:Hp)(Q:VK):Prop
 | mk (p:Ah) (vs:List V) (ps:List P3) (q0:xs=[.ref p]) (q1:(H p=some (.tup vs)\/H p=some (.lst vs))) (q2:vs.length=ps.length) (q3:vs.length<64) (q4:(∀ i,i<vs.length->wA H (vs.getD i .non) (ps.getD i ("","",0)))) (q5:∀(l:Ah),H l=none->Q (.ref l) (upd H l (.lst ((iO ps).map fun i=>vs.getD i .non)))):iW xs H Q
def qO:List V->Hp->VK->Prop:=fun xs H Q=>iW xs H Q
theorem mJ:eU X (.builtin "sorted") qO:=by
 intro dz s σ H xs us Q I r h;obtain⟨p,vs,ps,rfl,hx,hl,h64,hk,q⟩:=h;obtain⟨u,rfl,ru⟩:=fY r;cases ru;have key:∀ z:List Ab,cJ vs z->∀(h1:A8),(∀ b u,s.heap.get? b=some u->h1.get? b=some u)->s.heap.objs.size<=h1.objs.size->wpAny (model X.prog X.w) X.A.in1.in1 (Builtin.«list.sort» ⟨[.ref h1.objs.size],[]⟩) (fun fin s'=>fin=.done (.ret .none)/\EP X dz σ Q (.ref h1.objs.size) s') X.xe { s with heap:=h1.push (seqObj "list" z.toArray 0) }:=fun z D h1 ac hg=>by
  have B:=D.length;have W:(h1.push (seqObj "list" z.toArray 0)).get? h1.objs.size=some (seqObj "list" z.toArray 0):=Aw _ rfl;have ad:∀ b u,s.heap.get? b=some u->(h1.push (seqObj "list" z.toArray 0)).get? b=some u:=fun b u e=>Ai _ (ac b u e);have Z:=jX ps;have am:(iO ps).length=ps.length:=by rw[Z.length_eq,C2]
  have fin:∀(h':A8) (e:Nat),(∀ b u,b≠h1.objs.size->(h1.push (seqObj "list" z.toArray 0)).get? b=some u->h'.get? b=some u)->h'.get? h1.objs.size=some (seqObj "list" ((iO ps).map fun i=>z.getD i .none).toArray e)->EP X dz σ Q (.ref h1.objs.size) { s with heap:=h',toks:=s.toks }:=fun h' e O he=>by
   refine⟨.ref h1.objs.size,_,I.laid (t':=s.toks) (o:=.lst ((iO ps).map fun i=>vs.getD i .non)) (fun b u Y=>O b u (AF (Au (ac b u Y))) (ad b u Y)) hg ⟨aH (by rw[Ae];omega),(iO ps).map fun i=>z.getD i .none,e,wB D _ (fun i hi=>?_),by rw[he]<;>rfl⟩,rfl,q _ (I.hok.fresh hg)⟩;have:=Z.mem_iff.mp hi;rw[Cf]at this;omega
  by_cases h2:2<=ps.length
  .have ek:iO ps=xT ps:=Ib h2;rw[ek]at fin;refine aA3 (ps:=ps) W (by omega) (by omega) (by omega) (fun i hi=>?_) fun h' e O he=>⟨rfl,fin h' e O he⟩
   have J:i<vs.length:=by omega
   obtain⟨u,hu,ru⟩:=D.get (Ag J);have:=hk i J;rw[Bf,Ag J]at this;rw[Bf,hu];exact(wA.real I this ru).keep fun b o Y _=>ad b o Y
  .have ek:iO ps=AU ps.length:=Ia h2;rw[ek]at fin;refine aEr W (fun v1 v2 dR e=>by rw[e]at B;simp at B;omega) (aH (by omega)) fun out hp=>⟨rfl,?_⟩
   have an:=hp.length_eq;obtain⟨e,he⟩:=Gi (vs:=z) (out:=out.toArray) W;refine fin _ e (fun b u nb Y=>?_) ?_
   .have ah:=Au Y;rw[FY nb ah];exact Y
   .have:out=(AU ps.length).map fun i=>z.getD i .none:=by
     have af:z.length<2:=by omega
     have ai:ps.length=z.length:=by omega
     rw[ai];cases z with
     | nil=>exact E2 hp
     | cons v0 t=>cases t with
      | nil=>rw[List.perm_singleton.mp hp];rfl
      | cons _ _=>simp only[Ax]at af;omega
    rw[<- this];exact he
 rcases hx with hx|hx
 .obtain⟨z,D,ht,_⟩:=I.tuple (aU hx);have B:=D.length;exact tZ ht (by omega) (key z D)
 .obtain⟨z,D,pl,_⟩:=I.list (bB hx);have B:=D.length;exact aA9 pl.isList (by omega) (key z D)
inductive kU(K:Af)(xs:List V)(H:Hp)(Q:VK):Prop
 | mk (p:_) (ys:_) (q0:xs=[.ref p]) (q1:(SqL K H p ys\/SqT K H p ys)) (q2:∀ l,H l=none->l≠sysModules->Q (.ref l) (upd H l (.lst ys))):kU K xs H Q
def oO(K:Af):List V->Hp->VK->Prop:=fun xs H Q=>kU K xs H Q
theorem m8:eU X (.type "list") (oO X.K):=by
 intro dz s σ H xs W Q I r h;obtain⟨p,ys,rfl,J,q⟩:=h;obtain⟨u,rfl,rx⟩:=fY r;cases rx;have fin:∀(z:List Ab),cJ ys z->ys.length<=sizeLine->∀(h':A8) (B:Nat),(∀ b o',s.heap.get? b=some o'->h'.get? b=some o')->
   h'.get? s.heap.objs.size=some { cls:=.type "list",dict:=none,data:=.seq z.toArray B,slots:=#[] }->EP X dz σ Q (.ref s.heap.objs.size) { s with heap:=h' }:=fun z D hz h' B kp e=>
  ⟨.ref s.heap.objs.size,_,I.laid (t':=s.toks) kp (Ak _) (show c7 X.prog X.w _ h' _ (.lst ys) from⟨hz,z,B,D,e⟩),rfl,q _ (I.hok.fresh (Ak _)) (De I.big)⟩
 rcases J with J|J
 .obtain⟨z,D,pl,hz⟩:=I.list J;have O:=D.length;obtain⟨o,ho,hc,n,hd⟩:=pl.isList;exact Fi p (.inl rfl) ho hc hd (fun h' B kp e=>fin z D hz h' B kp e) (by simp only[Ao]<;>omega)
 .obtain⟨z,D,pl,hz⟩:=I.tuple J;have O:=D.length;obtain⟨o,ho,hc,n,hd⟩:=pl;exact Fi p (.inr rfl) ho hc hd (fun h' B kp e=>fin z D hz h' B kp e) (by simp only[Ao]<;>omega)
theorem aBa{K:Af}{a:Ah}{xs:List V}{g:TG}{Z:TT}{te:TE}{Y:St}{H₀:Hp}{Q:VK}(z:Nat->List V->St->Hp->Prop)(h0:z 0 [] Y H₀)(hn:xs.length<=sizeLine)(B:∀ i ys σ H,z i ys σ H->ys.length<=i)
  (O:∀ i ys σ H,z i ys σ H->SqL K H a xs)
  (hs:∀ i x ys σ H,xs[i]?=some x->z i ys σ H->g x σ H fun J H2=>Z J H2 fun b W=>if b=true then te J W fun v H4=>z (i+1) (ys++[v]) J H4 else z (i+1) ys J W)
  (hd:∀ ys σ H,z xs.length ys σ H->∀ D,H D=none->D≠sysModules->Q (.ref D) (upd H D (.lst ys))):nZ (Itl K a) g Z te Y H₀ Q:=
 zD xs.length z h0 hn B (fun i ys σ H h p=>⟨xs,xs[i],O i ys σ H p,by simp[h]⟩) (fun ys σ H p=>⟨xs,O _ ys σ H p,Ak _⟩) (fun i ys σ H v H' hi p y=>by
  obtain⟨e,y⟩:=y;subst e;exact hs i v ys σ _ (y xs (O i ys σ _ p)) p) hd
theorem PI.or{tg it:Bb}{B z:TI}(h1:PI X tg it B)(h2:PI X tg it z):PI X tg it (fun σ H R=>B σ H R\/z σ H R):=⟨fun dz s σ H R I h=>h.elim (h1.run dz s σ H R I) (h2.run dz s σ H R I)⟩
inductive mK(xs:List V)(H:Hp)(Q:VK):Prop
 | mk (m:Bool) (x:V) (d:Aj) (z:Str) (q0:xs=[x]) (q1:RdV m H x d) (q2:d.showable=true) (q3:d.depth<=16) (q4:d.shown.length<=sizeLine) (q5:z=aFK d) (q6:Q (.str z) H):mK xs H Q
def z8:List V->Hp->VK->Prop:=fun xs H Q=>mK xs H Q
theorem wE{k:Nat}(B:cY k X.A):eU X (.type "str") z8:=by
 intro dz s σ H xs W Q I r h;obtain⟨m,x,d,z,rfl,hx,hs,hd,hz,e,q⟩:=h;subst e;obtain⟨u,rfl,ru⟩:=fY r;cases hx with
 | non=>cases ru;exact P.str_of_none ⟨.str _,H,I.tok _,⟨_,rfl⟩,q⟩
 | bl b=>cases ru;exact P.str_of_bool ⟨.str _,H,I.tok _,⟨_,by cases b<;>rfl⟩,q⟩
 | int i=>obtain⟨t,rfl⟩:=ru;exact P.str_of_int (Ig hs) ⟨.str _,H,I.tok _,⟨_,rfl⟩,q⟩
 | str z _=>obtain⟨t,rfl⟩:=ru;exact P.str_of_str ⟨.str z,H,I,⟨_,rfl⟩,q⟩
 | @lst a xs ds hm e D O=>
  obtain⟨as,hrd,h2⟩:=RdV.reads I (.lst hm e D O) rfl;cases ru;exact Gr hrd hs (fun _=>h2) B.gd (by have:=B.un;omega) (fun b o e=>e) (fun h' u tk J=>⟨.str (PyData.list ds).shown,H,I.kept (t':=tk) J,⟨u,rfl⟩,q⟩) hz
 | @tup a xs ds e D O=>
  obtain⟨as,hrd,h2⟩:=RdV.reads I (.tup e D O) rfl;cases ru;exact Gr hrd hs (fun _=>h2) B.gd (by have:=B.un;omega) (fun b o e=>e) (fun h' u tk J=>⟨.str (C4 ds).shown,H,I.kept (t':=tk) J,⟨u,rfl⟩,q⟩) hz
 | @dct a ks D e=>
  obtain⟨as,hrd,h2⟩:=RdV.reads (m:=true) I (.dct D e) rfl;cases ru;exact Gr hrd hs (fun _=>h2) B.gd (by have:=B.un;omega) (fun b o e=>e) (fun h' u tk J=>⟨.str (PyData.dict (diD ks)).shown,H,I.kept (t':=tk) J,⟨u,rfl⟩,q⟩) hz
inductive kX(xs:List V)(H:Hp)(Q:VK):Prop
 | mk (m:Bool) (x:V) (d:Aj) (q0:xs=[x]) (q1:RdV m H x d) (q2:d.showable=true) (q3:d.depth<=16) (q4:d.shown.length<=sizeLine) (q5:Q (.str d.shown) H):kX xs H Q
def xV:List V->Hp->VK->Prop:=fun xs H Q=>kX xs H Q
theorem iP{k:Nat}(J:cY k X.A):eU X (.builtin "repr") xV:=by
 intro dz s σ H xs D Q I r h;obtain⟨m,x,d,rfl,hx,hs,hd,hz,q⟩:=h;cases hx with
 | non=>obtain⟨u,rfl,ru⟩:=fY r;cases ru;exact P.repr_of_none ⟨.str _,H,I.tok _,⟨_,rfl⟩,q⟩
 | bl b=>obtain⟨u,rfl,ru⟩:=fY r;cases ru;exact P.repr_of_bool ⟨.str _,H,I.tok _,⟨_,by cases b<;>rfl⟩,q⟩
 | int i=>obtain⟨u,rfl,t,rfl⟩:=fY r;exact P.repr_of_int (Ig hs) ⟨.str _,H,I.tok _,⟨_,rfl⟩,q⟩
 | str z _=>obtain⟨u,rfl,t,rfl⟩:=fY r;exact P.repr_of_str ⟨.str _,H,I.tok _,⟨_,rfl⟩,q⟩ hz
 | lst hm e B O=>exact pI J dz s σ H _ D Q I r ⟨_,_,_,rfl,.lst hm e B O,hs,by omega,hz,q⟩
 | tup e B O=>exact pI J dz s σ H _ D Q I r ⟨_,m,_,rfl,.tup e B O,hs,by omega,hz,q⟩
 | dct B e=>exact pI J dz s σ H _ D Q I r ⟨_,m,_,rfl,.dct B e,hs,by omega,hz,q⟩
inductive mM(x:V)(y:V)(H:Hp)(Q:VK):Prop
 | mk (z:_) (q0:y=.str z) (q1:Thn H x) (q2:Q (.bl (decide (x=y))) H):mM x y H Q
def z9:V->V->Hp->VK->Prop:=fun x y H Q=>mM x y H Q
theorem wF{k:Nat}(Y:cY k X.A):OpR X (compareOp .Eq) z9:=by
 intro dz s σ H x y v u Q I J W h;have O:X.A.units<cLine:=by have:=Y.un;omega
 obtain⟨z,rfl,ht,D⟩:=h;have B:aG8 x (.str z)=true->wpAny (model X.prog X.w) X.A (compareOp .Eq v u) (EP X dz σ Q) X.xe s:=fun e=>cQ dz s σ H _ _ v u Q I J W ⟨e,D⟩;obtain⟨t,rfl⟩:=id W;cases ht with
 | non=>exact B rfl
 | bl b=>exact B rfl
 | int i=>exact B rfl
 | str Z=>exact B rfl
 | lst e=>
  cases J;obtain⟨us,r1,p1,_⟩:=I.list (bB e);exact SeqAt.RcAt.list_str _ _ p1.isList O X.prog X.w _ _ ⟨.bl false,H,I,rfl,D⟩
 | tup e=>
  cases J;obtain⟨its,r,p,_⟩:=I.tuple (aU e);exact SeqAt.RcAt.tuple_str _ _ p O X.prog X.w _ _ ⟨.bl false,H,I,rfl,D⟩
 | @dct a fc e=>
  cases J;obtain⟨_,_,vs,r,⟨cls,dd,data,sl⟩,es,ep,ho,hx,hdt,_⟩:=I.hok a _ e;obtain⟨hc,_⟩:=hx;simp only at hc hdt;subst hc hdt;exact(SeqAt.rc_eq_decline_or (k:=false) ⟨_,ho,rfl⟩ (EM s z t) (by decide) F.sub_str_dict F.slot_dict_eq F.slot_str_eq
   (fun _ D=>Fn F.slot_dict_eq ⟨_,ho,rfl⟩ F.entry_dict_eq (F.args_dict_eq_2 _ _) (uE z t a dd es ep sl) ⟨ho,D⟩)
   (fun _ D=>Fn F.slot_str_eq (EM s z t) F.entry_str_eq (F.args_str_eq_2 _ _) (uD z t a dd es ep sl) ⟨ho,D⟩)
   (fun _ D=>CG (rfl:isSame (.ref a) (.str z t)=pure false) D) (.inr O) ⟨.bl false,H,I,rfl,D⟩)
theorem RdV.thn{m:Bool}{H:Hp}{x:V}{d:Aj}(h:RdV m H x d):Thn H x:=by
 cases h with
 | non=>exact .non
 | bl b=>exact .bl b
 | int i=>exact .int i
 | str z _=>exact .str z
 | lst _ e=>exact .lst e
 | tup e=>exact .tup e
 | dct _ e=>exact .dct e
end L2
namespace K04
open PySem L2
theorem nW{a b:Str}{X Y:Prop}(n:a≠b)(h:Y):if decide (V.str a=V.str b)=true then X else Y:=c8 (fun g=>absurd (V.str.inj (Ig g)) n) fun _=>h
theorem yW{a:Str}{X Y:Prop}(h:X):if decide (V.str a=V.str a)=true then X else Y:=c8 (fun _=>h) fun g=>absurd (Ic rfl) g
theorem zZ0:([]:List V).length<=sizeLine:=aH (show 0<=1000000 by decide)
theorem zZ1{z:V}:[z].length<=sizeLine:=aH (show 1<=1000000 by decide)
theorem zZ2{z a1:V}:[z,a1].length<=sizeLine:=aH (show 2<=1000000 by decide)
theorem zZ3{z a1 a2:V}:[z,a1,a2].length<=sizeLine:=aH (show 3<=1000000 by decide)
theorem zZ4{z a1 a2 a3:V}:[z,a1,a2,a3].length<=sizeLine:=aH (show 4<=1000000 by decide)
theorem zZ5{z a1 a2 a3 a4:V}:[z,a1,a2,a3,a4].length<=sizeLine:=aH (show 5<=1000000 by decide)
theorem zZ6{z a1 a2 a3 a4 a5:V}:[z,a1,a2,a3,a4,a5].length<=sizeLine:=aH (show 6<=1000000 by decide)
theorem zZ8{z a1 a2 a3 a4 a5 a6 a7:V}:[z,a1,a2,a3,a4,a5,a6,a7].length<=sizeLine:=aH (show 8<=1000000 by decide)
theorem zZ9{z a1 a2 a3 a4 a5 a6 a7 a8:V}:[z,a1,a2,a3,a4,a5,a6,a7,a8].length<=sizeLine:=aH (show 9<=1000000 by decide)
theorem aJo{z a1 a2 a3 a4 a5 a6 a7 a8 a9:V}:[z,a1,a2,a3,a4,a5,a6,a7,a8,a9].length<=sizeLine:=aH (show 10<=1000000 by decide)
theorem aJp{B a1 a2 a3 a4 a5 a6 a7 a8 a9 a10 z:V}:[B,a1,a2,a3,a4,a5,a6,a7,a8,a9,a10,z].length<=sizeLine:=aH (show 12<=1000000 by decide)
theorem aJq{D a1 a2 a3 a4 a5 a6 a7 a8 a9 a10 B z:V}:[D,a1,a2,a3,a4,a5,a6,a7,a8,a9,a10,B,z].length<=sizeLine:=aH (show 13<=1000000 by decide)
theorem aJr{W a1 a2 a3 a4 a5 a6 a7 a8 a9 a10 O D B z J:V}:[W,a1,a2,a3,a4,a5,a6,a7,a8,a9,a10,O,D,B,z,J].length<=sizeLine:=aH (show 16<=1000000 by decide)
def Cl(P:Ar)(w:AQ)(K:Af)(mg:Str->Option Ab)(base:A8)(k:Nat)(n:Str)(ps:List Str)(sp:Sp):Prop:=∃ f fd,cN P w K mg base CX0 k f fd ps sp/\mg n=some (.ref f)/\Az K (.ref f)=true/\dX K fd ps []
theorem aX{X:Cx}{k:Nat}{ps:List Str}{sp:Sp}{x:Str}{p pos:Pos}{e:Bb}{es:List Bb}{t:TA}(c:Cl X.prog X.w X.K X.mg X.base k x ps sp)(D:cY k X.A)(ha:PA X (e::es) t)(J:Gl X x:=by rfl)(z:(x==("__debug__":Str))=false:=by decide)(O:starEach (e::es) X.env=(false,eval e X.env)::starEach es X.env:=by rfl)(B:(backTo pos (starEach es X.env)).any (·.1)=false:=by rfl):PE X (.Call (.Name x p) (e::es) [] pos) (aGB sp [] E0 t):=by
 obtain⟨f,fd,F,hm,hk,hb⟩:=c;exact dP F D J hm hk hb .nil f6 ha z O B
def top(i:Nat):BQ:=PySem.Challenge.pw_dykelengths_k04_rows_bent.main.body.getD i (.Pass ⟨0,0,0,0⟩)
abbrev qU:BQ:=top 17
abbrev pK:BQ:=top 27
abbrev uF:BQ:=top 28
abbrev qV:BQ:=top 29
abbrev xW:BQ:=top 30
abbrev lQ:BQ:=top 31
abbrev lR:BQ:=top 32
abbrev lS:BQ:=top 33
abbrev pL:BQ:=top 34
abbrev xX:BQ:=top 35
abbrev pM:BQ:=top 36
abbrev pN:BQ:=top 37
abbrev iI:BQ:=top 38
abbrev iJ:BQ:=top 39
abbrev pO:BQ:=top 40
abbrev lT:BQ:=top 41
abbrev jN:BQ:=top 42
abbrev pP:BQ:=top 43
abbrev aBb:BQ:=top 45
abbrev kY:BQ:=top 46
abbrev uG:BQ:=top 47
abbrev xY:BQ:=top 48
abbrev aHt:BQ:=top 50
abbrev aBZ:BQ:=top 51
abbrev xZ:BQ:=top 52
abbrev aBc:BQ:=top 53
abbrev x8:BQ:=top 54
abbrev aB0:BQ:=top 56
abbrev x9:BQ:=top 57
abbrev qW:BQ:=top 72
abbrev qX:BQ:=top 73
abbrev aBd:BQ:=top 59
abbrev kZ:BQ:=top 60
abbrev yA:BQ:=top 61
abbrev uH:BQ:=top 62
abbrev uI:BQ:=top 63
abbrev uJ:BQ:=top 64
abbrev yB:BQ:=top 65
abbrev wG:BQ:=top 66
abbrev aHu:BQ:=top 67
abbrev aHv:BQ:=top 68
abbrev aBe:BQ:=top 69
abbrev aB1:BQ:=top 70
abbrev aB2:BQ:=top 71
abbrev aBf:BQ:=top 74
abbrev yC:BQ:=top 75
abbrev vH:BQ:=top 76
def bV(z:Str):Bool:=decide (1<=z.length/\z.length<=8)&&z.cps.toList.all fun c=>decide (97<=c/\c<=122)
def isL(c:Nat):Bool:=decide (97<=c/\c<=122)
def hV(i:Nat):Nat:=97+i%26
theorem yD(i:Nat):isL (hV i)=true:=by
 unfold isL hV;exact Ic (by omega)
abbrev abc:Str:=AZ "abcdefghijklmnopqrstuvwxyz"
theorem aEu:abc.cps.toList=DU 97 26:=by decide
theorem aEv{i:Int}(z:0<=i)(h1:i<26):atI abc.cps.toList i=some (hV i.toNat):=by
 obtain⟨j,rfl⟩:∃ j:Nat,i=j:=⟨i.toNat,by omega⟩
 unfold atI ixN;rw[aEu,Ib z,Ib (by simpa using h1)];simp only[BA,Option.bind_some];rw[List.getElem?_range' (by omega)];unfold hV;congr 1;omega
theorem aFL:abc.length=26:=by decide
def mk(l:List Nat):Str:=⟨l.toArray⟩
theorem aHw{a b:List Nat}(h:mk a=mk b):a=b:=by
 have:=congrArg (fun z:Str=>z.cps.toList) h;simpa[mk]using this
theorem gX(l:List Nat):(mk l).length=l.length:=by
 show l.toArray.size=_;simp
theorem aBg(a b:List Nat):mk a++mk b=mk (a++b):=by
 show(⟨a.toArray++b.toArray⟩:Str)=_;simp[mk]
theorem aEw(z:Str):mk z.cps.toList=z:=by
 cases z;simp[mk]
def aAa(t k:Nat):List Nat:=[hV (t+7*k),hV (t+k/26)]
def bij:Nat->Nat->List Nat
 | 0,_=>[]
 | f+1,n=>if n=0 then[] else bij f ((n-1)/2)++[n%2]
def bin(t n:Nat):List Nat:=(bij 6 n).map fun d=>hV (t+9*d)
theorem aFM:∀ t<26,((AU 44).map (aAa t)).Nodup:=by decide
theorem aHx:∀ t<26,((AU 44).map fun k=>bin t (k+1)).Nodup:=by decide
theorem aFN:∀ k<44,1<=(bij 6 (k+1)).length/\(bij 6 (k+1)).length<=8:=by decide
def bF(one:Bool)(b:List Nat)(sp t k:Nat):List Nat:=if one then bin t (k+1) else b.take sp++aAa t k++b.drop sp
theorem aHy{α:Type}{f:Nat->α}{n m:Nat}(h:((AU n).map f).Nodup)(hm:m<=n):((AU m).map f).Nodup:=by
 obtain⟨d,rfl⟩:∃ d,n=m+d:=⟨n-m,by omega⟩
 rw[List.range_add,A0]at h;exact(Ej.mp h).1
theorem aEx{α β:Type}{f:α->β}(B:∀ a b,f a=f b->a=b){l:List α}(h:l.Nodup):(l.map f).Nodup:=by
 rw[List.nodup_iff_pairwise_ne]at h ⊢;exact Fe.mpr (h.imp fun z e=>z (B _ _ e))
theorem aFO{one:Bool}{b:List Nat}{sp t m:Nat}(ht:t<26)(hm:m<=44):((AU m).map fun k=>mk (bF one b sp t k)).Nodup:=by
 refine aHy (n:=44) ?_ hm;have e:((AU 44).map fun k=>mk (bF one b sp t k))=((AU 44).map (bF one b sp t)).map mk:=by rw[B7];rfl
 rw[e];refine aEx (fun _ _ h=>aHw h) ?_;cases one with
 | true=>exact aHx t ht
 | false=>
  have z:(AU 44).map (bF false b sp t)=((AU 44).map (aAa t)).map fun q=>b.take sp++q++b.drop sp:=by rw[B7];rfl
  rw[z];refine aEx (fun x y h=>?_) (aFM t ht);exact List.append_cancel_left (List.append_cancel_right h)
theorem aAb{l:List Nat}(h1:1<=l.length)(z:l.length<=8)(ha:∀ c∈l,isL c=true):bV (mk l)=true:=by
 unfold bV;rw[gX,Ic ⟨h1,z⟩,AK];have e:(mk l).cps.toList=l:=by simp[mk]
 rw[e,AX];exact ha
theorem f9{z:Str}(h:bV z=true):1<=z.length/\z.length<=8:=by
 unfold bV at h;rw[Av]at h;exact Ig h.1
theorem aC0{one:Bool}{b:List Nat}{sp t k:Nat}(B:k<44)(J:b.length<=6)(ha:∀ c∈b,isL c=true):bV (mk (bF one b sp t k))=true:=by
 cases one with
 | true=>
  have h:=aFN k B;refine aAb (by show 1<=(bin t (k+1)).length;unfold bin;rw[Ae];omega) (by show(bin t (k+1)).length<=8;unfold bin;rw[Ae];omega) (fun c hc=>?_);have z:c∈bin t (k+1):=hc;unfold bin at z;obtain⟨d,_,rfl⟩:=Bk.mp z;exact yD _
 | false=>
  have D:(bF false b sp t k).length=b.length+2:=by
   show(b.take sp++aAa t k++b.drop sp).length=_;rw[Al,Al,AN,BE];show min sp b.length+2+(b.length-sp)=_;omega
  refine aAb (by omega) (by omega) (fun c hc=>?_);have z:c∈b.take sp++aAa t k++b.drop sp:=hc;rcases Bo.mp z with h|h
  .rcases Bo.mp h with h|h
   .exact ha c (CB h)
   .unfold aAa at h;simp only[Am,An,or_false]at h;rcases h with rfl|rfl
    .exact yD _
    .exact yD _
  .exact ha c (C5 h)
theorem aEy{α:Type}{x:α}:∀{l:List α}{j:Nat},l.Nodup->x∉l->(l.set j x).Nodup
 | [],_,_,_=>by simp
 | y::r,0,h,B=>by
  rw[List.set_cons_zero,CV]at *;exact⟨fun z=>B (AY _ z),h.2⟩
 | y::r,j+1,h,B=>by
  rw[List.set_cons_succ];rw[CV]at *;refine⟨fun z=>?_,aEy h.2 fun z=>B (AY _ z)⟩;rcases Ee z with z|z
  .exact h.1 z
  .exact B (z▸AM)
def mQ:List Str:=["as","with","part","field","none","done","write","back","join"]
theorem aBh:∀ z∈mQ,bV z=true:=by decide
theorem iK:∀ ns:List Str,(ns.map V.str).all g9=true
 | []=>rfl
 | _::r=>by simpa[g9]using iK r
theorem aFP(z:Str):∀ ns:List Str,inV (.str z) (ns.map V.str)=decide (z∈ns):=by
 intro ns;unfold inV;rw[List.any_map];rw[BY,Eu,decide_eq_true_iff];constructor
 .rintro⟨y,hy,e⟩;have:y=z:=by simpa[eqV]using e
  exact this▸hy
 .intro h;exact⟨z,h,by simp[eqV]⟩
abbrev gI:Key:=AL ("cells":Str)
abbrev kAt:Key:=AL ("at":Str)
abbrev iX:Key:=AL ("left":Str)
def hW(c:Ah)(a l:Int):List (Key×V):=[(gI,.ref c),(kAt,.int a),(iX,.int l)]
theorem aHz:¬ (gI=kAt):=by decide
theorem aHA:¬ (gI=iX):=by decide
theorem aFQ:¬ (kAt=iX):=by decide
theorem aJs:¬ (iX=kAt):=fun e=>aFQ e.symm
theorem aC1(c:Ah)(a l:Int):gQ (hW c a l) gI=some (.ref c):=by
 unfold hW;rw[jF rfl]
theorem aHB(c:Ah)(a l:Int):gQ (hW c a l) kAt=some (.int a):=by
 unfold hW;rw[dO aHz,jF rfl]
theorem aEz(c:Ah)(a l:Int):gQ (hW c a l) iX=some (.int l):=by
 unfold hW;rw[dO aHA,dO aFQ,jF rfl]
theorem aHC(c:Ah)(a l z:Int):gR (hW c a l) kAt (.int z)=hW c z l:=by
 unfold gR hW;rw[Ib (by rw[Eu];exact⟨(kAt,.int a),by simp,Ic rfl⟩)];simp only[Bj,Dz,Ia aHz,Ia aJs,Ib]
theorem aEA(c:Ah)(a l z:Int):gR (hW c a l) iX (.int z)=hW c a z:=by
 unfold gR hW;rw[Ib (by rw[Eu];exact⟨(iX,.int l),by simp,Ic rfl⟩)];simp only[Bj,Dz,Ia aHA,Ia aFQ,Ib]
theorem aHD{H:Hp}{p c:Ah}{a l:Int}(h:H p=some (.dK (hW c a l))):nS H p (.str "left") (some (.int l)):=by
 have:=nS.k (k:=iX) h;rw[aEz]at this;exact this
theorem aJt{H:Hp}{p c:Ah}{a l:Int}(h:H p=some (.dK (hW c a l))):nS H p (.str "at") (some (.int a)):=by
 have:=nS.k (k:=kAt) h;rw[aHB]at this;exact this
theorem aJu{H:Hp}{p c:Ah}{a l:Int}(h:H p=some (.dK (hW c a l))):nS H p (.str "cells") (some (.ref c)):=by
 have:=nS.k (k:=gI) h;rw[aC1]at this;exact this
theorem aIH{H:Hp}{p c:Ah}{a l:Int}(z:Int)(h:H p=some (.dK (hW c a l))):yY H p (.str "left") (.int z) (upd H p (.dK (hW c a z))):=by
 have:=yY.k (k:=iX) (v:=.int z) h (pB (by show 3<=1000;decide));rw[aEA]at this;exact this
theorem aJv{H:Hp}{p c:Ah}{a l:Int}(z:Int)(h:H p=some (.dK (hW c a l))):yY H p (.str "at") (.int z) (upd H p (.dK (hW c z l))):=by
 have:=yY.k (k:=kAt) (v:=.int z) h (pB (by show 3<=1000;decide));rw[aHC]at this;exact this
structure cR(H:Hp)(p c:Ah)(ns:List Int)(a:Int):Prop where
 ob:∃ l,0<=l/\H p=some (.dK (hW c a l))
 ce:H c=some (.lst (ns.map V.int))
 ge:0<=a
 sm:ns.length<=63
theorem cR.same{H H':Hp}{p c:Ah}{ns:List Int}{a:Int}(x:cR H p c ns a)(h:aV H H'):cR H' p c ns a:=by
 obtain⟨⟨l,hl,e⟩,ce,ge,sm⟩:=x;exact⟨⟨l,hl,h _ _ e⟩,h _ _ ce,ge,sm⟩
theorem cR.ne{H:Hp}{p c:Ah}{ns:List Int}{a:Int}(x:cR H p c ns a):c≠p:=by
 obtain⟨⟨l,hl,e⟩,ce,_,_⟩:=x;exact aDq ce e (by intro z;cases z)
inductive aB3(K:Af)(vs:List V)(H:Hp)(Q:VK)(u3_:XK):Prop
 | mk (a:Ah) (ns:List Int) (q0:vs=[.ref a]) (q1:SqL K H a (ns.map V.int)) (q2:ns.length<=63) (q3:∀ p c H',cR H' p c ns 0->aV H H'->H p=none->Q (.ref p) H'):aB3 K vs H Q u3_
def aGO(K:Af):Sp:=fun vs H Q u3_=>aB3 K vs H Q u3_
inductive aAc(vs:List V)(H:Hp)(Q:VK)(u3_:XK):Prop
 | mk (p c:Ah) (ns:List Int) (a m:Int) (q0:vs=[.ref p,.int m]) (q1:cR H p c ns a) (q2:a<=1000000) (q3:0<m) (q4:m<2^512) (q5:∀ r a' H',0<=r->r<m->a<=a'->a'<=a+1->cR H' p c ns a'->bC p H H'->Q (.int r) H'):aAc vs H Q u3_
def gJ:Sp:=fun vs H Q u3_=>aAc vs H Q u3_
variable{P:Ar}{w:AQ}{K:Af}{mg:Str->Option Ab}{base:A8}
theorem aII:bM ["_law_script"] ["_law_script"] (aM aHt):=⟨rfl,rfl,rfl,by decide,rfl,by decide,by decide⟩
theorem aIJ(ns:List Int)(h:ns.length<=63):d8 (ns.map V.int) none (some 63)=ns.map V.int:=by
 have e:HT.sIx (ns.map V.int).length (ns.map V.int).length (some 63)=(ns.map V.int).length:=by
  have:=HT.sIx_nat (ns.map V.int).length (ns.map V.int).length 63;rw[Ae]at this ⊢;refine Eq.trans this ?_;omega
 unfold d8;rw[e,HT.sIx_none,DB,F3,B0]
theorem aHE{f:Ah}{fd:AC}(F:Fun K "_law_pen" "_law_pen" aHt f fd)(B:mg "list"=none):cN P w K mg base CX0 1 f fd ["_law_script"] (aGO K):=by
 refine F.ok aII (fun vs H Q E h=>?_) (fun aa A outer s H vs Q E hr h=>?_)
 .obtain⟨a,ns,rfl,_⟩:=h;rfl
 .obtain⟨a,ns,rfl,hS,hn,k⟩:=h;refine⟨_,aJ (aO (nV (fZ aN (cH gH (by rfl) B (by kernel_rfl) (gF (bK nP (pv 0) cC (bY aE)) aA)) (fZ aN aE (fZ aN aE nU))) rfl rfl (by simp) (by decide))),?_⟩;intro p Y;refine⟨_,rfl,_,rfl,_,_,rfl,(aI Y).seq hS,fun q Z=>?_⟩;rw[aIJ ns hn];refine⟨q,_,rfl,.inl (bB aF),fun c hc=>?_⟩;have O:q≠p:=(bG aF Z).symm;have J:c≠p:=(bG (show upd (upd H p (HO.dK [])) q (.lst (ns.map V.int)) p=some (HO.dK []) by rw[bD O.symm,aF]) hc).symm;refine⟨by rw[bD J.symm,bD O.symm,aF],[(gI,.ref c),(kAt,.int 0),(iX,.int 0)],rfl,by show 3<=15;decide,?_⟩;have em:i4 [] [(gI,V.ref c),(kAt,.int 0),(iX,.int 0)]=hW c 0 0:=by
   have e1:gR ([]:List (Key×V)) gI (.ref c)=[(gI,.ref c)]:=by rw[sP _ rZ];rfl
   have e2:gR [(gI,V.ref c)] kAt (.int 0)=[(gI,.ref c),(kAt,.int 0)]:=by rw[sP _ (by rw[dO aHz,rZ])];rfl
   have e3:gR [(gI,V.ref c),(kAt,.int 0)] iX (.int 0)=[(gI,.ref c),(kAt,.int 0),(iX,.int 0)]:=by rw[sP _ (by rw[dO aHA,dO aFQ,rZ])];rfl
   show gR (gR (gR [] gI (.ref c)) kAt (.int 0)) iX (.int 0)=_;rw[e1,e2,e3];rfl
  rw[em];refine k p c _ ⟨⟨0,CP _,aF⟩,by rw[bD J,aF],CP _,hn⟩ (fun b o e=>?_) Y;have z:b≠p:=bG e Y;have D:b≠q:=bG (show upd H p (HO.dK []) b=some o by rw[bD z];exact e) Z;have W:b≠c:=bG (show upd (upd H p (HO.dK [])) q (.lst (ns.map V.int)) b=some o by rw[bD D,bD z];exact e) hc;rw[bD z,bD W,bD D,bD z];exact e
theorem k9:bM ["_law_pen_here","_law_many","_law_found","_law_at","_law_cells","_law_cell","_law_one","_law_two"] ["_law_pen_here","_law_many"] (aM aBZ):=⟨rfl,rfl,rfl,by decide,rfl,by decide,by decide⟩
theorem aIK{c a b:Int}(hc:0<=c)(h:0<=a)(h2:a<=b):0<=c*a*a/\c*a*a<=c*b*b:=by
 have h1:0<=c*a:=FJ hc h;have z:c*a<=c*b:=Int.mul_le_mul_of_nonneg_left h2 hc;exact⟨FJ h1 h,Int.mul_le_mul z h2 h (FJ hc (Int.le_trans h h2))⟩
theorem aJw(x:Int){a:Int}(h:0<=a)(h2:a<=1000000):Int.natAbs (x%(2147483629:Int)+(1213:Int)*a*a+(3:Int))<2^64:=by
 obtain⟨b1,b2⟩:=aIK (c:=(1213:Int)) (a:=a) (b:=1000000) (by decide) h h2;have z:=CC x (show(2147483629:Int)≠0 by decide);have B:=Cv x (show 0<(2147483629:Int) by decide);omega
theorem aJx{x:Int}:-(2^64)<x%(2147483543:Int)/\x%(2147483543:Int)<2^64:=by
 have z:=CC x (show(2147483543:Int)≠0 by decide);have B:=Cv x (show 0<(2147483543:Int) by decide);omega
theorem aFR{f:Ah}{fd:AC}(F:Fun K "_law_take" "_law_take" aBZ f fd)(aa:mg "len"=none)(D:mg "abs"=none):cN P w K mg base CX0 1 f fd ["_law_pen_here","_law_many"] gJ:=by
 refine F.ok k9 (fun vs H Q E h=>?_) (fun ah A outer s H vs Q E hr h=>?_)
 .obtain⟨p,c,ns,a,m,rfl,_⟩:=h;rfl
 .obtain⟨p,c,ns,a,m,rfl,hp,ha,hm,hm2,k⟩:=h;have Z:=vW hr;have ai:(A.deeper (DH "_law_take" (aM aBZ) s.heap.objs.size f ah)).units<cLine:=by omega
  refine⟨_,aG (bX (aW yQ (nT Z (pv 0) aN Ih) aE (aY _))
    (aG (bE (i:=2) k9.nd rfl (AA rfl) (aQ gE (nT Z (pv 0) aN Ih) (pv 1)))
    (aG (xK Z (pv 0) aN (aQ tH (nT Z (pv 0) aN Ih) (pv 1)) rfl)
    (aJ (aO (pv 2))))) aT)
   (aG (bE (i:=3) k9.nd rfl (AA rfl) (nT Z (pv 0) aN Ih))
   (aG (xK Z (pv 0) aN (aQ cT (pv 3) aE) rfl)
   (aG (bE (i:=4) k9.nd rfl (AA rfl) (nT Z (pv 0) aN Ih))
   (aG (bE (i:=5) k9.nd rfl (AA rfl) (aQ cT (aQ cT (aQ jV (aQ jV aE (pv 3)) (pv 3)) (aQ jV aE (pv 3))) aE))
   (aG (gS <| bX (aW (aDX ai) (pv 4) (dN aA) (aY _))
    (aJ (bE (i:=5) k9.nd rfl (AA rfl) (bJ c4 (pv 4) (aQ gE (pv 3) (aK aS (by rfl) aa Aq (gF (pv 4) aA))) Ih))) aT)
   (aG (gS <| bX (kE (aW yP (pv 3) (aK aS (by rfl) aa Aq (gF (pv 4) aA)) (aY _))
     (jQ (aW aIi (aK rQ (by rfl) D (by kernel_rfl) (gF (pv 5) aA)) (aQ dM aE aE) (aY _)))).pt
    (aG (xK Z (pv 0) aN (aQ tH (aK rQ (by rfl) D (by kernel_rfl) (gF (pv 5) aA)) (pv 1)) rfl)
    (aJ (aO (aQ gE (aK rQ (by rfl) D (by kernel_rfl) (gF (pv 5) aA)) (pv 1))))) aT)
   (aG (bE (i:=6) k9.nd rfl (AA rfl) (aQ gE (aQ dM (aQ cT (aQ cT (aQ gE (pv 5) aE) (aQ jV aE (pv 3))) aE) aE) aE))
   (aG (bE (i:=7) k9.nd rfl (AA rfl) (aQ gE (aQ dM (aQ cT (aQ cT (pv 6) (aQ jV (aQ jV aE (pv 3)) (pv 3))) aE) aE) aE))
   (aJ (aO (aQ gE (aQ tH (aQ gE (aQ jV (pv 7) (aQ cT (aQ gE (pv 6) aE) aE)) aE) aE) (pv 1)))))))))))),?_⟩
  obtain⟨⟨l,hl0,hob⟩,hce,hge,hsm⟩:=id hp;have ac:=hp.ne;refine⟨_,rfl,p,_,rfl,aHD hob,_,_,rfl,rfl,_,rfl,c8 (fun h0=>?_) (fun h0=>?_)⟩
  .exact⟨_,rfl,p,_,rfl,aHD hob,_,rfl,_,_,rfl,rfl,hm,_,rfl,p,_,rfl,aHD hob,_,rfl,_,_,rfl,rfl,v3.of hm hm2,_,rfl,p,_,rfl,aIH _ hob,_,rfl,k (l%m) a _ (CC _ (by omega)) (Cv _ hm) (CP _) (by omega) ⟨⟨l/m,Int.ediv_nonneg hl0 (by omega),aF⟩,by rw[bD ac];exact hce,hge,hsm⟩ (bC.refl p H).upd⟩
  .refine⟨_,rfl,p,_,rfl,aJt hob,_,rfl,_,_,rfl,rfl,_,rfl,p,_,rfl,aJv _ hob,_,rfl,p,_,rfl,aJu aF,_,rfl,_,_,rfl,rfl,.inl (by decide),_,rfl,_,_,rfl,rfl,.inr (by omega),_,rfl,_,_,rfl,rfl,.inl (by decide),_,_,rfl,rfl,_,_,rfl,rfl,?_⟩;have J:bC p H (upd H p (.dK (hW c (a+1) l))):=(bC.refl p H).upd;have W:(upd H p (.dK (hW c (a+1) l))) c=some (.lst (ns.map V.int)):=by rw[bD ac];exact hce
   refine⟨fun σ' H'=>∃ B:Int,σ'=[some (.ref p),some (.int m),none,some (.int a),some (.ref c),some (.int B),none,none]/\bC p H H'/\H' p=some (.dK (hW c (a+1) l))/\H' c=some (.lst (ns.map V.int)),?_,?_⟩
   .refine⟨_,rfl,Bx _,fun q hq=>?_⟩;have Y:=aI (o:=.lst []) hq;refine⟨c,q,ns.map V.int,[],rfl,rfl,bB (Y _ _ W),bB aF,v4 ns,rfl,_,rfl,c8 (fun ae=>?_) (fun ae=>?_)⟩
    .have am:0<ns.length:=by
      cases ns with
      | nil=>exact absurd ae (by simp[tJ])
      | cons x r=>simp
     have ak:(a%(ns.length:Int)).toNat<ns.length:=by
      have h1:=Cv a (show(0:Int)<ns.length by omega);have h2:=CC a (show(ns.length:Int)≠0 by omega);omega
     have aj:atI (ns.map V.int) (a%(ns.length:Int))=some (.int (ns[(a%(ns.length:Int)).toNat])):=by
      have h2:=CC a (show(ns.length:Int)≠0 by omega);have e:=cB (xs:=ns.map V.int) (j:=(a%(ns.length:Int)).toNat) (v:=.int (ns[(a%(ns.length:Int)).toNat])) (by rw[Bs,Ag ak];rfl);rw[Int.toNat_of_nonneg h2]at e;exact e
     have ag:atI (ns.map V.int) (a%((ns.map V.int).length:Int))=some (.int (ns[(a%(ns.length:Int)).toNat])):=by
      rw[Ae];exact aj
     exact⟨_,rfl,_,rfl,_,rfl,c,_,rfl,.inl (bB (Y _ _ W)),_,_,rfl,rfl,(by rw[Ae];omega),c,_,_,_,rfl,rfl,bB (Y _ _ W),ag,_,rfl,J.same Y,Y _ _ aF,Y _ _ W⟩
    .exact⟨_,rfl,J.same Y,Y _ _ aF,Y _ _ W⟩
   .rintro σ' H' ⟨B,rfl,kp,O,z⟩;refine⟨fun σ' H'=>∃ B:Int,σ'=[some (.ref p),some (.int m),none,some (.int a),some (.ref c),some (.int B),none,none]/\bC p H H'/\H' p=some (.dK (hW c (a+1) l))/\H' c=some (.lst (ns.map V.int)),?_,?_⟩
    .refine⟨_,rfl,_,rfl,c,_,rfl,.inl (bB z),_,_,rfl,rfl,_,rfl,c8 (fun h1=>?_) (fun h1=>?_)⟩
     .refine⟨_,rfl,_,rfl,_,_,rfl,rfl,⟨by decide,by decide,by decide⟩,_,_,rfl,rfl,_,rfl,c8 (fun h2=>?_) (fun h2=>?_)⟩
      .refine⟨_,rfl,_,rfl,_,rfl,_,_,rfl,rfl,v3.of hm hm2,_,rfl,p,_,rfl,aIH _ O,_,rfl,_,rfl,_,rfl,_,_,rfl,rfl,hm,?_⟩;have ad:0<=(if B<0 then -B else B):=by split<;>omega
       exact k _ (a+1) _ (CC _ (by omega)) (Cv _ hm) (by omega) (CP _) ⟨⟨_,Int.ediv_nonneg ad (by omega),aF⟩,by rw[bD ac];exact z,by omega,hsm⟩ kp.upd
      .exact⟨B,rfl,kp,O,z⟩
     .exact cM ⟨B,rfl,kp,O,z⟩
    .rintro σ' H' ⟨B,rfl,kp,O,z⟩;refine⟨_,rfl,_,_,rfl,rfl,(by show(0:Int)<_;decide),_,rfl,_,_,rfl,rfl,.inl (by decide),_,_,rfl,rfl,_,_,rfl,rfl,_,_,rfl,rfl,⟨by decide,by decide,?_⟩,_,_,rfl,rfl,(by show(0:Int)<_;decide),?_⟩
     .have e1:=CC B (show(2147483587:Int)≠0 by decide);have e2:=Cv B (show 0<(2147483587:Int) by decide);show Int.natAbs (B%(2147483587:Int)+(45007:Int)*a+(11:Int))<2^64;omega
     .exact⟨_,rfl,_,rfl,_,_,rfl,rfl,.inl (by decide),_,rfl,_,_,rfl,rfl,.inr (by omega),_,_,rfl,rfl,_,_,rfl,rfl,_,_,rfl,rfl,⟨by decide,by decide,aJw _ hge ha⟩,_,_,rfl,rfl,(by show(0:Int)<_;decide),_,rfl,_,rfl,_,_,rfl,rfl,(by show(0:Int)<_;decide),_,_,rfl,rfl,_,_,rfl,rfl,.inl aJx,_,_,rfl,rfl,(by show(0:Int)<_;decide),_,_,rfl,rfl,v3.of (by decide) (by decide),_,rfl,_,_,rfl,rfl,hm,k _ (a+1) _ (CC _ (by omega)) (Cv _ hm) (by omega) (CP _) ⟨⟨l,hl0,O⟩,z,by omega,hsm⟩ kp⟩
structure Nms(ws:List Str):Prop where
 nd:ws.Nodup
 ok:∀ w∈ws,bV w=true
theorem Nms.take{z:List Str}(h:Nms z)(n:Nat):Nms (z.take n):=⟨h.nd.sublist (List.take_sublist n z),fun w hw=>h.ok w (CB hw)⟩
inductive wH(vs:List V)(H:Hp)(Q:VK)(u3_:XK):Prop
 | mk (p c:Ah) (ns:List Int) (a:Int) (m:Nat) (q0:vs=[.ref p,.int m]) (q1:cR H p c ns a) (q2:a<=900000) (q3:m<=44) (q4:∀ l ws a' H',H l=none->H' l=some (.lst (ws.map V.str))->ws.length=m->Nms ws->a<=a'->a'<=a+30->cR H' p c ns a'->bC p H H'->Q (.ref l) H'):wH vs H Q u3_
def aB4:Sp:=fun vs H Q u3_=>wH vs H Q u3_
theorem iQ(l:List Nat):∀(m s:Nat),(DU s m).filterMap (fun j=>l.toArray[j]?)=(l.drop s).take m
 | 0,s=>by simp
 | m+1,s=>by
  rw[List.range'_succ,Dg];have z:=iQ l m (s+1);by_cases h:s<l.length
  .have e:l.toArray[s]?=some l[s]:=by simp[h]
   rw[e];dsimp only;rw[z,List.drop_eq_getElem_cons h,List.take_succ_cons]
  .have e:l.toArray[s]?=none:=by simp;omega
   rw[e];dsimp only;rw[z,DC (by omega),DC (by omega)];simp
theorem aFS:∀ n:Nat,n<7->∀ s:Nat,s<7->s<=n->CM none (some (s:Int)) 1 n=DU 0 s:=by decide
theorem aC2:∀ n:Nat,n<7->∀ s:Nat,s<7->s<=n->CM (some (s:Int)) none 1 n=DU s (n-s):=by decide
theorem aIL{b:List Nat}{s:Nat}(B:b.length<=6)(z:s<=b.length):Cr (mk b) none (some (s:Int))=mk (b.take s):=by
 unfold Cr;rw[gX,aFS _ (by omega) _ (by omega) z];split
 .next h=>
  simp at h;rw[h,B0]
 .have e:=iQ b s 0;rw[DB]at e;exact congrArg mk e
theorem aFT{b:List Nat}{s:Nat}(D:b.length<=6)(z:s<=b.length):Cr (mk b) (some (s:Int)) none=mk (b.drop s):=by
 unfold Cr;rw[gX,aC2 _ (by omega) _ (by omega) z];split
 .next h=>
  simp at h;have:s=0\/b.length=0:=by omega
  rcases this with rfl|B
  .rfl
  .rw[List.length_eq_zero_iff.mp B];simp
 .have e:=iQ b (b.length-s) s;rw[show(b.drop s).take (b.length-s)=b.drop s from AV (by rw[BE];exact Ak _)]at e;exact congrArg mk e
theorem aC3(bs:List Nat):∀ z:Array Nat,(bs.map fun c=>mk [c]).foldl (fun(z:Array Nat) (p:Str)=>z++(AZ "").cps++p.cps) z=z++bs.toArray:=by
 have D:(AZ "").cps=#[]:=by decide
 induction bs with
 | nil=>intro z;simp
 | cons x r B=>
  intro z;rw[Bj,DY,B,D];simp[mk]
theorem aFU(bs:List Nat):Txt.join "" (bs.map fun c=>mk [c])=mk bs:=by
 show Builtin.Str.glued _ _=_;unfold Builtin.Str.glued;cases bs with
 | nil=>rfl
 | cons x r=>
  have:=aC3 r #[x];simp only[Bj,List.headD_cons,List.drop_succ_cons,DB];show(⟨Gq _ _ _⟩:Str)=_;rw[show(mk [x]).cps=#[x] from rfl];rw[this];simp[mk]
theorem yE(x:Nat){j:Int}(B:j=(x:Int)%26):atI abc.cps.toList j=some (hV x):=by
 have z:0<=j:=by omega
 have h1:j<26:=by omega
 rw[aEv z h1];unfold hV;congr 1;omega
theorem aEB(f n:Nat)(h:n≠0):bij (f+1) n=bij f ((n-1)/2)++[n%2]:=by
 show(if n=0 then[] else _)=_;rw[Ia h]
theorem eY:bM ["_law_pen_here","_law_many","_law_letters","_law_way","_law_turn","_law_k","_law_base","_law_spot","_law_found","_law_word","_law_rest","_law_terms"] ["_law_pen_here","_law_many"] (aM xZ):=⟨rfl,rfl,rfl,by decide,rfl,by decide,by decide⟩
theorem aFV{z:List Str}(h:∀ w∈z,w.length=1):(z.map (·.length)).sum=z.length:=by
 induction z with
 | nil=>rfl
 | cons x r B=>
  rw[Bj,FQ,B fun w hw=>h w (AY _ hw),h x AM,Ax];omega
theorem aEC{f:Ah}{fd:AC}(F:Fun K "_law_names" "_law_names" xZ f fd)(bn:mg "len"=none)(aj:mg "range"=none)(bN:mg "min"=none)
  (GT:Cl P w K mg base 1 "_law_take" ["_law_pen_here","_law_many"] gJ):
  cN P w K mg base CX0 2 f fd ["_law_pen_here","_law_many"] aB4:=by
 refine F.ok eY (fun vs H Q E h=>?_) (fun dg A outer s H vs Q E hr h=>?_)
 .obtain⟨p,c,ns,a,m,rfl,_⟩:=h;rfl
 .obtain⟨p,c,ns,a,m,rfl,hp,ha,hm,k⟩:=h;refine⟨_,aG (bE (i:=2) eY.nd rfl (FO rfl) aN)
   (aG (bE (i:=3) eY.nd rfl (AA rfl) (aX GT hr (aD (pv 0) (aD aE aA))))
   (aG (bE (i:=4) eY.nd rfl (AA rfl) (aX GT hr (aD (pv 0) (aD aE aA))))
   (aG (bE (i:=6) eY.nd rfl (AA rfl) (vQ PySem.F.plainAttrs_str PySem.F.slot_str_join PySem.F.type_str_join aFy aN (aD (fM (N:=["_law_k","_law_letters","_law_pen_here"]) (src:=[none,some 2,some 0]) (osc:=aM xZ) (oN:=["_law_pen_here","_law_many","_law_letters","_law_way","_law_turn","_law_k","_law_base","_law_spot","_law_found","_law_word","_law_rest","_law_terms"]) ⟨by rfl,by decide,by decide,by decide,rfl,by rfl⟩
      (fU rfl aj (aD (bJ c4 (dN (aD (aX GT hr (aD (pv 0) (aD aE aA))) (aD aE (aD aE aA)))) (pv 3) Ih) aA))
      fun cl s H fp dz C=>⟨bS (i:=0) (show(["_law_k","_law_letters","_law_pen_here"]:List Str).Nodup by decide) rfl (AA rfl),dY,bJ rT (pv 1) (aX GT hr (aD (pv 2) (aD aE aA))) Ih⟩) aA)))
   (aG (bE (i:=7) eY.nd rfl (AA rfl) (aX GT hr (aD (pv 0) (aD (aQ cT (aK fV (by rfl) bn Aq (aD (pv 6) aA)) aE) aA))))
   (aG (bE (i:=8) eY.nd rfl (AA rfl) (dN aA))
   (aG (oY CI rfl (fU rfl aj (aD (pv 1) aA)) (bS (i:=5) eY.nd rfl (AA rfl))
    (aG (bE (i:=9) eY.nd rfl (AA rfl) (aQ gP (bJ rT (pv 2) (aQ gE (aQ cT (pv 4) (aQ jV aE (pv 5))) aE) Ih) (bJ rT (pv 2) (aQ gE (aQ cT (pv 4) (aQ aBy (pv 5) aE)) aE) Ih)))
    (aG (bE (i:=9) eY.nd rfl (AA rfl) (aQ gP (aQ gP (bK xM (pv 6) cC (bY (pv 7))) (pv 9)) (bK xM (pv 6) (bY (pv 7)) cC)))
    (aG (gS <| bX (aW cQ (pv 3) aE (aY _))
     (aG (bE (i:=9) eY.nd rfl (AA rfl) aN)
     (aG (bE (i:=10) eY.nd rfl (AA rfl) (aQ cT (pv 5) aE))
     (aJ (aDy CI (aW yQ (pv 10) aE (aY _))
      (aG (bE (i:=9) eY.nd rfl (AA rfl) (aQ gP (bJ rT (pv 2) (aQ gE (aQ cT (pv 4) (aQ jV aE (aQ gE (pv 10) aE))) aE) Ih) (pv 9)))
      (aJ (bE (i:=10) eY.nd rfl (AA rfl) (aQ aBy (aQ gO (pv 10) aE) aE)))))))) aT)
    (aJ (qQ (vQ Ce Dd Dc lM (pv 8) (aD (pv 9) aA))))))))
   (aG (bE (i:=11) eY.nd rfl (AA rfl) (dN (aD aN (aD aN (aD aN (aD aN (aD aN (aD aN (aD aN (aD aN (aD aN aA)))))))))))
   (aG (gS <| bX (aW cQ (aX GT hr (aD (pv 0) (aD aE aA))) aE (aY _))
    (aJ (oY CI rfl (fU rfl aj (aD (aK (vL rfl) (by rfl) bN (by kernel_rfl) (aD (pv 1) (aD aE aA))) aA)) (bS (i:=5) eY.nd rfl (AA rfl))
     (aJ (bX (PW.pt (kE (aW cQ (aX GT hr (aD (pv 0) (aD aE aA))) aE (aY _)) (jQ (aW nR (bJ c4 (pv 11) (pv 5) Ih) (pv 8) (by with_unfolding_all rfl)))))
      (aJ (jR (bJ c4 (pv 11) (pv 5) Ih) (aAL (pv 8) (pv 5) rV))) aT)))) aT)
   (aJ (aO (pv 8))))))))))),?_⟩
  have e0:(AZ "").length=0:=by decide
  have zA:abc.length<=sizeLine:=aH (by rw[aFL];decide);refine⟨_,rfl,p,c,ns,a,_,rfl,hp,by omega,by decide,by decide,fun B a1 H1 w0 w1 l1 u1 cb b2=>?_⟩;refine⟨_,rfl,p,c,ns,a1,_,rfl,cb,by omega,by decide,by decide,fun tt a2 H2 t0 t1 l2 u2 cw cf=>?_⟩;obtain⟨t,rfl⟩:∃ t:Nat,tt=t:=⟨tt.toNat,by omega⟩
  refine⟨rfl,_,rfl,p,c,ns,a2,_,rfl,cw,by omega,by decide,by decide,fun r3 a3 H3 dl df l3 u3 b9 b5=>?_⟩;refine⟨zZ3,fun q hq=>?_⟩;have sq:=aI (o:=.lst [V.int r3,.int 0,.int 6]) hq;obtain⟨v,hv,am⟩:=pF (xs:=[V.int r3,.int 0,.int 6]) (i:=B) w0 (by show B<3;omega);obtain⟨n,rfl,hn0,hn6⟩:∃ n:Int,v=.int n/\0<=n/\n<=6:=by
   simp only[Am,An,or_false]at hv;rcases hv with rfl|rfl|rfl
   .exact⟨_,rfl,by omega,by omega⟩
   .exact⟨_,rfl,by omega,by omega⟩
   .exact⟨_,rfl,by omega,by omega⟩
  refine⟨_,rfl,q,_,B,_,rfl,rfl,bB aF,am,n,rfl,by omega,by omega,?_⟩;have kq:bC p H (upd H3 q (.lst [V.int r3,.int 0,.int 6])):=((b2.trans cf).trans b5).same sq;have bA:=b9.same sq;generalize upd H3 q (.lst [V.int r3,.int 0,.int 6])=H4 at kq bA ⊢;refine iL (fun i ys σ' H'=>∃(a':Int) (bs:List Nat) (o:Option V),σ'=[o,some (.str abc),some (.ref p)]/\cR H' p c ns a'/\bC p H H'/\a3<=a'/\a'<=a3+i/\ys=(bs.map fun c=>mk [c]).map V.str/\bs.length=i/\(∀ c∈bs,isL c=true))
   ⟨a3,[],none,rfl,bA,kq,by omega,by omega,rfl,rfl,fun w hw=>by simp at hw⟩ (aH (by omega)) (fun i ys σ H p=>by obtain⟨_,bs,_,_,_,_,_,_,rfl,e,_⟩:=p;rw[Ae,Ae,e];exact Ak _) ?_ ?_
  .rintro i' ys σ' H5 dV ⟨a',bs,o,rfl,bc,aB,d1,dw,rfl,hl,hb⟩;dsimp only[cF];refine cG ?_;refine⟨_,rfl,_,rfl,p,c,ns,a',_,rfl,bc,by omega,by decide,by decide,fun r6 a6 H6 bj bq l6 u6 ar aq=>?_⟩;refine⟨_,r6,hV r6.toNat,rfl,rfl,zA,aEv bj bq,a6,bs++[hV r6.toNat],_,rfl,ar,aB.trans aq,by omega,by omega,by rw[A0,A0];rfl,by rw[Al,hl];rfl,fun c hc=>?_⟩;rcases Bo.mp hc with z|z
   .exact hb c z
   .rw[A7.mp z];exact yD _
  .rintro ys σ' H5 ⟨a4,b,o,rfl,bc,aB,l4,u4,rfl,d0,hb⟩ D hD;have ba:b.length<=6:=by omega
   refine⟨_,D,b.map (fun c=>mk [c]),rfl,rfl,bB aF,by
    rw[aFV (fun w hw=>by obtain⟨x,_,rfl⟩:=Bk.mp hw;rfl),Ae,e0];omega,?_⟩
   rw[aFU];have ar:=bc.same (aI (o:=.lst ((b.map fun c=>mk [c]).map V.str)) hD);have aq:bC p H _:=aB.same (aI (o:=.lst ((b.map fun c=>mk [c]).map V.str)) hD);generalize upd H5 D (.lst ((b.map fun c=>mk [c]).map V.str))=H6 at ar aq ⊢;refine⟨_,rfl,_,rfl,mk b,rfl,aH (by rw[gX];omega),_,_,rfl,rfl,p,c,ns,a4,_,rfl,ar,by omega,by omega,by rw[gX];omega,fun ss a5 H7 s0 s1 l5 u5 bf cn=>?_⟩;rw[gX]at s1;obtain⟨sp,rfl⟩:∃ sp:Nat,ss=sp:=⟨ss.toNat,by omega⟩
   refine⟨Bx _,fun L hL=>?_⟩;have bu:=aq.trans cn;have ap:L≠p:=by
    obtain⟨l,_,z⟩:=bf.ob;exact(bG z hL).symm
   have ci:L≠c:=(bG bf.ce hL).symm;have bL:H L=none:=by
    cases e:H L with
    | none=>rfl
    | some x=>exact absurd (bu L x e ap) (by rw[hL];simp)
   refine⟨_,rfl,m,rfl,by omega,by omega,i9 (n:=(m:Int).toNat) (fun i σ H'=>Ex3 fun o5 o9 O=>σ=[some (.ref p),some (.int m),some (.str abc),some (.int B),some (.int t),o5,some (.str (mk b)),some (.int sp),some (.ref L),o9,O,none]/\H'=upd H7 L (.lst (((AU i).map fun k=>mk (bF (decide (B=1)) b sp t k)).map V.str))) ⟨_,_,_,rfl,rfl⟩ ?_ ?_⟩
   .rintro i σ H' hi ⟨o5,o9,O,rfl,rfl⟩;dsimp only[cF];have c1:i<44:=by omega
    refine⟨_,rfl,_,rfl,_,rfl,_,_,rfl,rfl,.inl ⟨by decide,by decide⟩,_,_,rfl,rfl,_,_,rfl,rfl,(by show(0:Int)<26;decide),_,_,hV (t+7*i),rfl,rfl,zA,yE _ (by omega),_,rfl,_,rfl,_,rfl,_,_,rfl,rfl,⟨by decide,by decide⟩,_,_,rfl,rfl,_,_,rfl,rfl,(by show(0:Int)<26;decide),_,_,hV (t+i/26),rfl,rfl,zA,yE _ (by omega),_,_,rfl,rfl,aH (by show 1+1<=1000000;decide),?_⟩;have zB:(mk b).length<=sizeLine:=aH (by rw[gX];omega);have a0:∀{x y},(Cr (mk b) x y).length<=6:=fun{x y}=>AD (EE _ x y) (by rw[gX];omega);have h2:((⟨#[hV (t+7*i)]⟩:Str)++⟨#[hV (t+i/26)]⟩).length=2:=rfl;refine⟨_,rfl,_,rfl,_,rfl,mk b,rfl,zB,_,rfl,_,_,rfl,rfl,aH (by have:=a0 (x:=none) (y:=some (sp:Int));omega),_,rfl,_,rfl,_,rfl,mk b,rfl,zB,_,_,rfl,rfl,aH (by have:=a0 (x:=none) (y:=some (sp:Int));have:=a0 (x:=some (sp:Int)) (y:=none);rw[BU];omega),?_⟩;have ew:(Cr (mk b) none (some (sp:Int))++((⟨#[hV (t+7*i)]⟩:Str)++⟨#[hV (t+i/26)]⟩))++Cr (mk b) (some (sp:Int)) none=mk (b.take sp++aAa t i++b.drop sp):=by
     rw[aIL ba (by omega),aFT ba (by omega)];rw[show((⟨#[hV (t+7*i)]⟩:Str)++⟨#[hV (t+i/26)]⟩)=mk (aAa t i) from rfl,aBg,aBg]
    rw[ew];refine⟨fun σ' H'=>∃ O,σ'=[some (.ref p),some (.int m),some (.str abc),some (.int B),some (.int t),some (.int (0+i)),some (.str (mk b)),some (.int sp),some (.ref L),some (.str (mk (bF (decide (B=1)) b sp t i))),O,none]/\H'=upd H7 L (.lst (((AU i).map fun k=>mk (bF (decide (B=1)) b sp t k)).map V.str)),?_,?_⟩
    .refine⟨_,rfl,rfl,_,rfl,c8 (fun g=>?_) (fun g=>?_)⟩
     .have g':B=1:=V.int.inj (Ig g);subst g';refine⟨_,rfl,_,_,rfl,rfl,fun mm σ' H'=>∃(r f:Nat) (Y:List Nat) (rv:Int) (wv:Str),mm=r/\rv=(r:Int)/\wv=mk (Y.map fun d=>hV (t+9*d))/\σ'=[some (.ref p),some (.int m),some (.str abc),some (.int 1),some (.int t),some (.int (0+i)),some (.str (mk b)),some (.int sp),some (.ref L),some (.str wv),some (.int rv),none]/\H'=upd H7 L (.lst (((AU i).map fun k=>mk (bF (decide ((1:Int)=1)) b sp t k)).map V.str))/\bij f r++Y=bij 6 (i+1)/\r<2^f/\Y.length+f<=6,⟨i+1,i+1,6,[],_,_,rfl,(by show 0+(i:Int)+1=((i+1:Nat):Int);omega),(by show AZ ""=mk [];decide),rfl,rfl,by simp,by omega,by simp⟩,?_⟩;rintro mm σ' H' ⟨r,f,Y,rv,wv,rfl,rfl,rfl,rfl,rfl,ak,bO,dv⟩;refine⟨_,rfl,_,_,rfl,rfl,_,rfl,c8 (fun g2=>?_) (fun g2=>?_)⟩
      .have cc:(0:Int)<mm:=Ig g2;refine⟨_,fun dt di h=>h,?_⟩;obtain⟨f',rfl⟩:∃ f',f=f'+1:=by
        cases f with
        | zero=>exact absurd bO (by omega)
        | succ x=>exact⟨x,rfl⟩
       have e2:mk [hV (t+9*(mm%2))]++mk (Y.map fun d=>hV (t+9*d))=mk (((mm%2)::Y).map fun d=>hV (t+9*d)):=by rw[aBg];rfl
       refine⟨_,rfl,_,rfl,_,rfl,_,_,rfl,rfl,(by show(0:Int)<2;decide),_,_,rfl,rfl,.inl ⟨by decide,by decide⟩,_,_,rfl,rfl,_,_,rfl,rfl,(by show(0:Int)<26;decide),_,_,hV (t+9*(mm%2)),rfl,rfl,zA,yE _ (by omega),_,rfl,_,_,rfl,rfl,aH (by rw[gX,Ae];show 1+_<=_;omega),_,rfl,_,_,rfl,rfl,_,_,rfl,rfl,⟨by decide,by decide⟩,(mm-1)/2,by omega,(mm-1)/2,f',(mm%2)::Y,_,_,rfl,?_,e2,rfl,rfl,?_,?_,?_⟩
       .show((mm:Int)-1)/2=_;omega
       .rw[<- ak,aEB f' mm (by omega)];simp
       .rw[Nat.pow_succ]at bO;omega
       .rw[Ax];omega
      .have cc:¬ (0:Int)<mm:=fun z=>g2 (Ic z);have hz:mm=0:=by omega
       subst hz;have e3:bij f 0=[]:=by cases f<;>rfl
       rw[e3,List.nil_append]at ak;have e4:bF (decide ((1:Int)=1)) b sp t i=Y.map fun d=>hV (t+9*d):=by
        rw[ak];rfl
       exact⟨some (V.int ((0:Nat):Int)),by rw[e4],rfl⟩
     .have g':¬ B=1:=fun z=>g (Ic (by rw[z]));rw[Ie g'];exact⟨_,rfl,rfl⟩
    .rintro σ' H' ⟨O,rfl,rfl⟩;refine⟨_,rfl,.inl ⟨rfl,_,bB aF⟩,_,rfl,L,_,_,rfl,rfl,aF,by rw[Ae,Ae,C2];exact pB (by omega),_,_,_,rfl,?_⟩;rw[aFo,Fq,A0,A0];rfl
   .rintro σ H' ⟨o5,o9,O,rfl,rfl⟩;have S8:=aI (o:=.lst (((AU (m:Int).toNat).map fun k=>mk (bF (decide (B=1)) b sp t k)).map V.str)) hL;have an:=bf.same S8;have bb:=bu.same S8;have ao:upd H7 L (.lst (((AU (m:Int).toNat).map fun k=>mk (bF (decide (B=1)) b sp t k)).map V.str)) L=_:=aF;have hN:Nms ((AU (m:Int).toNat).map fun k=>mk (bF (decide (B=1)) b sp t k)):=by
     refine⟨aFO (by omega) (by omega),fun w hw=>?_⟩;obtain⟨k',hk',rfl⟩:=Bk.mp hw;have:=Cf.mp hk';exact aC0 (by omega) ba hb
    have aR:((AU (m:Int).toNat).map fun k=>mk (bF (decide (B=1)) b sp t k)).length=m:=by rw[Ae,C2];omega
    generalize ((AU (m:Int).toNat).map fun k=>mk (bF (decide (B=1)) b sp t k))=ws at an bb ao hN aR ⊢;generalize upd H7 L (.lst (ws.map V.str))=H8 at an bb ao ⊢;refine⟨zZ9,fun T hT=>?_⟩;have S9:=aI (o:=.lst (mQ.map V.str)) hT;have bH:upd H8 T (.lst (mQ.map V.str)) T=some (.lst (mQ.map V.str)):=aF;have bx:=an.same S9;have av:=bb.same S9;have bh:=S9 _ _ ao;have cq:T≠L:=(bG ao hT).symm;have bz:T≠p:=by
     obtain⟨l,_,z⟩:=an.ob;exact(bG z hT).symm
    have eT:upd H8 T (.lst [V.str "as",.str "with",.str "part",.str "field",.str "none",.str "done",.str "write",.str "back",.str "join"])=upd H8 T (.lst (mQ.map V.str)):=rfl;rw[eT];generalize upd H8 T (.lst (mQ.map V.str))=H9 at bx av bh bH ⊢;refine⟨fun σ' H'=>∃(o5:Option V) (vs:List Str) (a6:Int),σ'=[some (.ref p),some (.int m),some (.str abc),some (.int B),some (.int t),o5,some (.str (mk b)),some (.int sp),some (.ref L),o9,O,some (.ref T)]/\H' L=some (.lst (vs.map V.str))/\vs.length=m/\Nms vs/\cR H' p c ns a6/\a<=a6/\a6<=a+30/\bC p H H',?_,?_⟩
    .refine⟨_,rfl,p,c,ns,a5,_,rfl,bx,by omega,by decide,by decide,fun r6 a6 dh bj bq l6 u6 aw ae=>?_⟩;have au:=ae _ _ bh ap;have bi:=ae _ _ bH bz;have ax:=av.trans ae;refine⟨rfl,_,rfl,c8 (fun g=>?_) (fun g=>?_)⟩
     .refine⟨_,rfl,_,_,rfl,?_⟩;obtain⟨n9,hn9,n90,n91,n92⟩:∃ n9:Int,(if (9:Int)<m then(9:Int) else m)=n9/\0<=n9/\n9<=9/\n9<=m:=by
       refine⟨_,rfl,?_⟩;split<;>omega
      rw[hn9];refine⟨n9,rfl,by omega,by omega,i9 (n:=n9.toNat) (fun i σ H'=>Ex3 fun(o5:Option V) (vs:List Str) (a7:Int)=>Aw6 (σ=[some (.ref p),some (.int m),some (.str abc),some (.int B),some (.int t),o5,some (.str (mk b)),some (.int sp),some (.ref L),o9,O,some (.ref T)]) (H' L=some (.lst (vs.map V.str))) (H' T=some (.lst (mQ.map V.str))) (vs.length=m) (Nms vs) (Aw3 (cR H' p c ns a7) (a6<=a7) (a7<=a6+i/\bC p H H'))) ⟨_,ws,a6,rfl,au,bi,aR,hN,aw,by omega,by simp,ax⟩ ?_ ?_⟩
      .rintro i σ H' hi ⟨br,vs,a7,rfl,ah,bg,Z,W,af,ck,b8,kv⟩;dsimp only[cF];refine⟨_,rfl,p,c,ns,a7,_,rfl,af,by omega,by decide,by decide,fun r8 a8 d3 du dy l8 u8 ai ag=>?_⟩;have aa:=ag _ _ ah ap;have J:=ag _ _ bg bz;have az:=kv.trans ag;refine⟨rfl,_,rfl,c8 (fun g2=>?_) (fun g2=>?_)⟩
       .obtain⟨term,hterm⟩:∃ x,mQ[i]?=some x:=⟨_,Ag (show i<9 by omega)⟩
        have b6:ixN (mQ.map V.str).length (0+(i:Int))=some i:=by
         unfold ixN;rw[Ae,Ib (by omega),Ib (by show 0+(i:Int)<9;omega)];congr 1;omega
        have am:atI (mQ.map V.str) (0+(i:Int))=some (V.str term):=by
         unfold atI;rw[b6];simp[hterm]
        have bp:ixN (vs.map V.str).length (0+(i:Int))=some i:=by
         unfold ixN;rw[Ae,Ib (by omega),Ib (by omega)];congr 1;omega
        refine⟨_,rfl,_,rfl,T,_,_,_,rfl,rfl,bB J,am,_,rfl,L,_,rfl,.inl (bB aa),rfl,iK vs,_,rfl,?_⟩;rw[Ib rfl,aFP];refine c8 (fun g3=>?_) (fun g3=>?_)
        .have cv:term∉vs:=by simpa using g3
         refine⟨_,rfl,_,rfl,T,_,_,_,rfl,rfl,bB J,am,_,rfl,_,rfl,L,_,_,i,rfl,rfl,aa,bp,_,vs.set i term,a8,rfl,by rw[aF,<- List.map_set],by rw[bD cq];exact J,by rw[Dm,Z],⟨aEy W.nd cv,fun w hw=>?_⟩,?_,by omega,by omega,?_⟩
         .rcases Ee hw with z|z
          .exact W.ok w z
          .rw[z];exact aBh term (AH hterm)
         .obtain⟨⟨l,hl,e⟩,ce,ge,sm⟩:=ai;exact⟨⟨l,hl,by rw[bD ap.symm];exact e⟩,by rw[bD ci.symm];exact ce,ge,sm⟩
         .intro x o e ne;have nx:x≠L:=bG e bL;rw[bD nx];exact az x o e ne
        .exact⟨_,vs,a8,rfl,aa,J,Z,W,ai,by omega,by omega,az⟩
       .exact⟨_,vs,a8,rfl,aa,J,Z,W,ai,by omega,by omega,az⟩
      .rintro σ H' ⟨br,vs,a7,rfl,ah,bg,Z,W,af,ck,b8,kv⟩;exact⟨_,vs,a7,rfl,ah,Z,W,af,by omega,by omega,kv⟩
     .exact⟨_,ws,a6,rfl,au,aR,hN,aw,by omega,by omega,ax⟩
    .rintro σ' H' ⟨br,vs,a6,rfl,ah,Z,W,af,b4,b7,kv⟩;exact⟨_,rfl,k L vs a6 H' bL ah Z W b4 b7 af kv⟩
structure OkD(b k:Nat)(d:Aj):Prop where
 sh:d.showable=true
 dp:d.depth<=k
 len:d.shown.length<=b
theorem OkD.mono{b B k z:Nat}{d:Aj}(h:OkD b k d)(D:b<=B)(J:k<=z):OkD B z d:=⟨h.sh,AD h.dp J,AD h.len D⟩
theorem aED{b k:Nat}:∀{ds:List Aj},(∀ d∈ds,OkD b k d)->PyData.showableAll ds=true/\PyData.depthAll ds<=k/\((ds.map A4).map (·.length)).sum<=ds.length*b
 | [],_=>⟨rfl,Bx _,by simp⟩
 | d::r,h=>by
  obtain⟨h1,h2,h3⟩:=aED (ds:=r) fun x z=>h x (AY _ z);obtain⟨g1,g2,g3⟩:=h d AM;refine⟨?_,?_,?_⟩
  .unfold PyData.showableAll;rw[g1,h1];rfl
  .unfold PyData.depthAll;exact Nat.max_le.mpr ⟨g2,h2⟩
  .rw[Bj,Bj,FQ,Ax,F2];omega
theorem OkD.tuple{b k n:Nat}{ds:List Aj}(h:∀ d∈ds,OkD b k d)(hn:ds.length<=n):OkD (n*(b+2)+3) (k+1) (.tuple ds):=by
 obtain⟨h1,h2,h3⟩:=aED h;refine⟨?_,?_,?_⟩
 .unfold Ez;exact h1
 .unfold E4;omega
 .unfold A4;rw[CF];unfold tupleText;have z:=Er (AZ ", ") (ds.map A4);have D:(AZ ", ").length=2:=by decide
  have J:(AZ "(").length=1:=by decide
  have B:∀ c:Bool,(AZ (if c=true then ",)" else ")")).length<=2:=by decide
  have O:=B ((ds.map A4).length==1);rw[D,Ae]at z;rw[BU,BU,J];have:ds.length*b+ds.length*2<=n*(b+2):=by
   rw[<- Gp];exact ER _ hn
  omega
theorem OkD.list{b k n:Nat}{ds:List Aj}(h:∀ d∈ds,OkD b k d)(hn:ds.length<=n):OkD (n*(b+2)+3) (k+1) (.list ds):=by
 obtain⟨h1,h2,h3⟩:=aED h;refine⟨?_,?_,?_⟩
 .unfold Ez;exact h1
 .unfold E4;omega
 .unfold A4;rw[CF,listText_eq_join];have z:=Er (AZ ", ") (ds.map A4);have D:(AZ ", ").length=2:=by decide
  have J:(AZ "[").length=1:=by decide
  have B:(AZ "]").length=1:=by decide
  rw[D,Ae]at z;rw[BU,BU,J,B];have:ds.length*b+ds.length*2<=n*(b+2):=by
   rw[<- Gp];exact ER _ hn
  omega
theorem aB5{i:Int}(z:0<=i)(h1:i<10^60):(AZ (toString i)).length<=60:=by
 obtain⟨n,rfl⟩:∃ n:Nat,i=n:=⟨i.toNat,by omega⟩
 rw[PySem.ofString_length];show(Int.repr (n:Int)).length<=60;have e:Int.repr (n:Int)=Nat.repr n:=rfl;rw[e];exact(Nat.length_repr_le_iff (by decide)).mpr (by omega)
theorem OkD.int{i:Int}(z:0<=i)(h1:i<10^60):OkD 102 0 (.int i):=by
 refine⟨?_,by unfold E4;exact Ak _,?_⟩
 .unfold Ez;refine Ic ?_;have h2:i.natAbs<2^200:=by
   have:(10:Int)^60<((2^200:Nat):Int):=by decide
   omega
  by_cases hz:i.natAbs=0
  .rw[hz];decide
  .have:=(Nat.log2_lt hz).mpr h2;omega
 .unfold A4;have:=aB5 z h1;omega
theorem aAd{z:Str}(h:bV z=true):A1 z=true:=by
 unfold bV at h;rw[Av,AX]at h;unfold A1;rw[Bz];intro c hc;have:=Ig (h.2 c (by simpa using hc));exact Ic (by omega)
def tyN:Aj->String
 | .none=>"NoneType"
 | .bool _=>"bool"
 | .int _=>"int"
 | .str _=>"str"
 | .list _=>"list"
 | .tuple _=>"tuple"
 | .dict _=>"dict"
def kC:Aj->Bool|.str _=>true|_=>false
def dQ:Aj->Bool|.tuple _=>true|_=>false
def isInt:Aj->Bool|.int _=>true|.bool _=>true|_=>false
def yF:Aj->Bool|.bool _=>true|_=>false
def aZ:Aj->Bool|.str z=>bV z|_=>false
def cO(lo hi:Int):Aj->Bool|.int i=>decide (lo<=i/\i<=hi)|_=>false
def cZ:Aj->Bool
 | .tuple [l,h,a]=>aZ l&&aZ h&&cO 1 10000000 a
 | _=>false
theorem oP{K:Af}(d:Aj):Bu K (.type (tyN d)) (.type "str")=some (kC d):=by
 cases d<;>dsimp only[tyN,kC]<;>first|exact kK|exact tN (by decide) (by decide) (by decide)
theorem fF{K:Af}(d:Aj):Bu K (.type (tyN d)) (.type "tuple")=some (dQ d):=by
 cases d<;>dsimp only[tyN,dQ]<;>first|exact kK|exact tN (by decide) (by decide) (by decide)
theorem aB6{K:Af}(d:Aj):Bu K (.type (tyN d)) (.type "int")=some (isInt d):=by
 cases d<;>dsimp only[tyN,isInt]<;>first|exact kK|exact tN (by decide) (by decide) (by decide)
theorem aEE{K:Af}(d:Aj):Bu K (.type (tyN d)) (.type "bool")=some (yF d):=by
 cases d<;>dsimp only[tyN,yF]<;>first|exact kK|exact tN (by decide) (by decide) (by decide)
theorem eV{K:Af}{m:Bool}{H:Hp}{x:V}{d:Aj}(h:RdV m H x d):jA K H x (.type (tyN d)):=by
 cases h with
 | non=>exact .non
 | bl b=>exact .bl b
 | int i=>exact .int i
 | str z _=>exact .str z
 | lst _ e _ _=>exact .lst e
 | tup e _ _=>exact .tup e
 | dct _ e=>exact .dK e
inductive uK(K:Af)(vs:List V)(H:Hp)(Q:VK)(u3_:XK):Prop
 | mk (x:_) (q0:vs=[x]) (q1:((∃ z,x=V.str z/\z.length<=1000000/\∀ H',aV H H'->Q (.bl (bV z)) H')\/(∃ t,jA K H x t/\Bu K t (.type "str")=some false/\Q (.bl false) H))):uK K vs H Q u3_
def aAe(K:Af):Sp:=fun vs H Q u3_=>uK K vs H Q u3_
inductive aAf(vs:List V)(H:Hp)(Q:VK)(u3_:XK):Prop
 | mk (m:Bool) (x:V) (d:Aj) (q0:vs=[x]) (q1:RdV m H x d) (q2:∀ H',aV H H'->Q (.bl (aZ d)) H'):aAf vs H Q u3_
def fS:Sp:=fun vs H Q u3_=>aAf vs H Q u3_
inductive aAg(vs:List V)(H:Hp)(Q:VK)(u3_:XK):Prop
 | mk (m:Bool) (x:V) (d:Aj) (q0:vs=[x]) (q1:RdV m H x d) (q2:Q (.bl (isInt d&&!yF d)) H):aAg vs H Q u3_
def aEF:Sp:=fun vs H Q u3_=>aAg vs H Q u3_
inductive wI(vs:List V)(H:Hp)(Q:VK)(u3_:XK):Prop
 | mk (m:Bool) (x:V) (d:Aj) (lo hi:Int) (q0:vs=[x,.int lo,.int hi]) (q1:RdV m H x d) (q2:Q (.bl (cO lo hi d)) H):wI vs H Q u3_
def gZ:Sp:=fun vs H Q u3_=>wI vs H Q u3_
inductive aAh(vs:List V)(H:Hp)(Q:VK)(u3_:XK):Prop
 | mk (m:Bool) (x:V) (d:Aj) (q0:vs=[x]) (q1:RdV m H x d) (q2:∀ H',aV H H'->Q (.bl (cZ d)) H'):aAh vs H Q u3_
def pQ:Sp:=fun vs H Q u3_=>aAh vs H Q u3_
structure Txt(K:Af)(mg:Str->Option Ab):Prop where
 isi:mg "isinstance"=none
 str:mg "str"=none
 len:mg "len"=none
 al:mg "all"=none
 int:mg "int"=none
 bool:mg "bool"=none
 tuple:mg "tuple"=none
 set:mg "set"=none
 longest:∃ t,mg "LONGEST"=some (.int 8 t)
 lastDay:∃ t,mg "LAST_DAY"=some (.int 9999 t)
 fewest:∃ t,mg "FEWEST_LANDS"=some (.int 2 t)
 most:∃ t,mg "MOST_LANDS"=some (.int 6 t)
 acres:∃ t,mg "MOST_PART_ACRES"=some (.int 10000000 t)
 inches:∃ t,mg "MOST_INCHES"=some (.int 10000000 t)
 pence:∃ t,mg "MOST_PENCE"=some (.int 1000000000 t)
 spades:∃ t,mg "MOST_SPADES"=some (.int 1000000 t)
theorem aHF(K:Af):Bu K (.type "str") (.type "str")=some true:=by
 unfold Bu;rw[Ib (by rfl)]
theorem scN:bM ["thing"] ["thing"] (aM qU):=⟨rfl,rfl,rfl,by decide,rfl,by decide,by decide⟩
theorem aEG(a b:Nat):(!decide (([b]:List Nat)<[a]))=decide (a<=b):=by
 have:([b]:List Nat)<[a]↔b<a:=by
  constructor
  .intro h;cases h with
   | rel h=>exact h
   | cons h=>cases h
  .intro h;exact List.Lex.rel h
 by_cases h:b<a
 .rw[Ic (this.mpr h),Ie (by omega)];rfl
 .rw[Ie (fun z=>h (this.mp z)),Ic (by omega)];rfl
theorem aC4{f:Ah}{fd:AC}(F:Fun K "is_name" "is_name" qU f fd)(T:Txt K mg):cN P w K mg base CX0 1 f fd ["thing"] (aAe K):=by
 refine F.ok scN (fun vs H Q E h=>?_) (fun ad A outer s H vs Q E hr h=>?_)
 .obtain⟨x,rfl,_⟩:=h;rfl
 .obtain⟨x,rfl,hx⟩:=h;obtain⟨tl,hlong⟩:=T.longest;refine⟨_,aG (bX (dZ (cX (cE (aK bZ (by rfl) T.isi (by kernel_rfl) (gF (pv 0) (gF (cK (v:=.ty "str") (by rfl) T.str (by kernel_rfl) rfl) aA)))))
    (dU (cX (rP j8 j8 aE (aK fV (by rfl) T.len Aq (gF (pv 0) aA)) (cV (v:=.int 8) (by rfl) hlong ⟨_,rfl⟩))))).pt (aJ (aO eQ)) aT)
   (aJ (aO (aK (jG rfl) (by rfl) T.al (by kernel_rfl) (gF (fM (N:=["sign"]) (src:=[none]) (osc:=aM qU) (oN:=["thing"]) ⟨by rfl,by decide,by decide,by decide,rfl,by rfl⟩ (aDT (pv 0))
    fun cl s H fp dz C=>⟨bS (i:=0) (show(["sign"]:List Str).Nodup by decide) rfl (AA rfl),dY,nM vZ vZ aN (pv 0) aN⟩) aA)))),?_⟩
  rcases hx with⟨z,rfl,hz,k⟩|⟨t,ty,e,k⟩
  .refine⟨_,rfl,_,"str",_,true,rfl,jA.str z,aHF K,true,rfl,cM ?_⟩;refine⟨_,rfl,z,rfl,aH hz,_,_,rfl,rfl,_,rfl,?_⟩;have J:¬ (1<=z.length/\z.length<=8)->Q (.bl false) H:=fun h=>by
    have:=k H (aV.refl H);unfold bV at this;rw[Ie h]at this;exact this
   refine c8 (fun h1=>?_) (fun h1=>?_)
   .have Y:=Ig h1;refine⟨_,_,rfl,rfl,_,rfl,?_⟩;by_cases h8:(z.length:Int)<=8
    .rw[Ic h8];refine cM ?_;refine⟨_,rfl,z,rfl,?_⟩;refine zE (fun i ys σ H'=>H'=H/\ys=((z.cps.toList.take i).map fun c=>V.bl (decide (97<=c/\c<=122)))/\σ.length=1) ⟨rfl,rfl,rfl⟩ (aH hz) (fun i ys σ H' p=>by rw[p.2.1,Ae,AN];omega) ?_ ?_
     .rintro i c ys σ H' hc ⟨rfl,rfl,hσ⟩;obtain⟨o,rfl⟩:∃ o,σ=[o]:=by
       match σ,hσ with
       | [o],_=>exact⟨o,rfl⟩
      dsimp only[cF];refine cG ?_;refine⟨_,rfl,_,_,rfl,rfl,_,rfl,?_⟩;have B:∀ b:Bool,b=decide (97<=c/\c<=122)->(H'=H'/\(List.map (fun c=>V.bl (decide (97<=c/\c<=122))) (CY i z.cps.toList))++[V.bl b]=(z.cps.toList.take (i+1)).map (fun c=>V.bl (decide (97<=c/\c<=122)))/\([o].set 0 (some (V.str ⟨#[c]⟩))).length=1):=fun b hb=>by
       refine⟨rfl,?_,rfl⟩;rw[Be,A0,hb];have:z.cps.toList[i]?=some c:=by simpa using hc
       rw[this];rfl
      have e1:(!decide ((⟨#[c]⟩:Str).cps.toList<("a":Str).cps.toList))=decide (97<=c):=aEG 97 c;have e2:(!decide (("z":Str).cps.toList<(⟨#[c]⟩:Str).cps.toList))=decide (c<=122):=aEG c 122;rw[e1];refine c8 (fun O=>?_) (fun O=>?_)
      .have Z:=Ig O;refine⟨_,_,rfl,rfl,?_⟩;rw[e2];refine B _ ?_;rw[decide_eq_decide];omega
      .have Z:¬ 97<=c:=fun z=>O (Ic z);refine B false ?_;rw[Ie (by omega)]
     .rintro ys σ H' ⟨rfl,rfl,hσ⟩ D hD;have W:CY z.cps.size z.cps.toList=z.cps.toList:=by rw[<- Bh];exact B0
      rw[W];refine⟨D,z.cps.toList.map fun c=>decide (97<=c/\c<=122),rfl,bB (by rw[aF,B7];rfl),?_⟩;have:=k _ (aI (o:=.lst (List.map (fun c=>V.bl (decide (97<=c/\c<=122))) z.cps.toList)) hD);unfold bV at this;rw[Ic (by omega),AK]at this;rw[C9];exact this
    .rw[Ie h8];exact cG (J (by omega))
   .have Y:¬ (1:Int)<=z.length:=fun z=>h1 (Ic z);exact⟨false,rfl,cG (J (by omega))⟩
  .refine⟨_,rfl,_,"str",t,false,rfl,ty,e,false,rfl,cG ?_⟩;refine cG ?_;exact k
theorem aFW{f:Ah}{fd:AC}{k:Nat}{ps:List Str}{sp D:Sp}(G:cN P w K mg base CX0 k f fd ps sp)(h:∀ vs H Q E,D vs H Q E->sp vs H Q E):cN P w K mg base CX0 k f fd ps D:=
 ⟨fun vs H Q E z=>G.len vs H Q E (h vs H Q E z),fun A outer s H B O vs Q E W J Y r z=>G.run A outer s H B O vs Q E W J Y r (h vs H Q E z)⟩
theorem aC5(vs:List V)(H:Hp)(Q:VK)(E:XK)(h:fS vs H Q E):aAe K vs H Q E:=by
 obtain⟨m,x,d,rfl,hx,k⟩:=h;refine⟨x,rfl,?_⟩;have ty:=eV (K:=K) hx;have B:=oP (K:=K) d;cases hx with
 | str z hz=>exact .inl ⟨z,rfl,by omega,k⟩
 | non=>exact .inr ⟨_,ty,B,k H (aV.refl H)⟩
 | bl b=>exact .inr ⟨_,ty,B,k H (aV.refl H)⟩
 | int i=>exact .inr ⟨_,ty,B,k H (aV.refl H)⟩
 | lst _ _ _ _=>exact .inr ⟨_,ty,B,k H (aV.refl H)⟩
 | tup _ _ _=>exact .inr ⟨_,ty,B,k H (aV.refl H)⟩
 | dct _ _=>exact .inr ⟨_,ty,B,k H (aV.refl H)⟩
theorem aHG:bM ["thing"] ["thing"] (aM pK):=⟨rfl,rfl,rfl,by decide,rfl,by decide,by decide⟩
theorem aFX{f:Ah}{fd:AC}(F:Fun K "is_number" "is_number" pK f fd)(T:Txt K mg):cN P w K mg base CX0 1 f fd ["thing"] aEF:=by
 refine F.ok aHG (fun vs H Q E h=>?_) (fun z A outer s H vs Q E D h=>?_)
 .obtain⟨m,x,d,rfl,_⟩:=h;rfl
 .obtain⟨m,x,d,rfl,hx,k⟩:=h;refine⟨_,aJ (aO (c6 (aK bZ (by rfl) T.isi (by kernel_rfl) (aD (pv 0) (aD (cK (v:=.ty "int") (by rfl) T.int (by kernel_rfl) rfl) aA)))
   (dL (aDw (aK bZ (by rfl) T.isi (by kernel_rfl) (aD (pv 0) (aD (cK (v:=.ty "bool") (by rfl) T.bool (by kernel_rfl) rfl) aA))))))),?_⟩
  refine⟨_,rfl,_,"int",_,_,rfl,eV hx,aB6 d,_,rfl,c8 (fun g=>?_) (fun g=>?_)⟩
  .rw[g,AK]at k;exact⟨_,rfl,_,"bool",_,_,rfl,eV hx,aEE d,_,rfl,k⟩
  .have B:isInt d=false:=by simpa using g
   rw[B]at k;exact k
theorem aC6:bM ["thing","least","most"] ["thing","least","most"] (aM uF):=⟨rfl,rfl,rfl,by decide,rfl,by decide,by decide⟩
theorem aBi{f:Ah}{fd:AC}(F:Fun K "is_whole" "is_whole" uF f fd)(W:Cl P w K mg base 1 "is_number" ["thing"] aEF):cN P w K mg base CX0 2 f fd ["thing","least","most"] gZ:=by
 refine F.ok aC6 (fun vs H Q E h=>?_) (fun O A outer s H vs Q E Z h=>?_)
 .obtain⟨m,x,d,lo,hi,rfl,_⟩:=h;rfl
 .obtain⟨m,x,d,lo,hi,rfl,hx,k⟩:=h;refine⟨_,aJ (aO (c6 (aX W Z (aD (pv 0) aA)) (dL (nM j8 j8 (pv 1) (pv 0) (pv 2))))),_,rfl,m,x,d,rfl,hx,_,rfl,c8 (fun g=>?_) (fun g=>?_)⟩
  .obtain⟨i,rfl⟩:∃ i,d=.int i:=by
    cases d with
    | int i=>exact⟨i,rfl⟩
    | _=>simp[isInt,yF]at g
   cases hx;refine⟨_,rfl,_,rfl,_,_,rfl,rfl,?_⟩;have D:Q (.bl (decide (lo<=i/\i<=hi))) H:=k;refine⟨_,rfl,c8 (fun J=>?_) (fun J=>?_)⟩
   .have B:lo<=i:=Ig J;refine⟨_,rfl,_,_,rfl,rfl,?_⟩;show Q (.bl (decide (i<=hi))) H;rw[decide_eq_decide.mpr (show i<=hi↔lo<=i/\i<=hi from⟨fun z=>⟨B,z⟩,fun z=>z.2⟩)];exact D
   .have B:¬ lo<=i:=fun z=>J (Ic z);rw[Ie (fun z=>B z.1)]at D;exact D
  .have Y:(isInt d&&!yF d)=false:=by simpa using g
   have e:cO lo hi d=false:=by
    cases d with
    | int i=>simp[isInt,yF]at Y
    | _=>rfl
   rw[e]at k;exact k
inductive aAi(vs:List V)(H:Hp)(Q:VK)(u3_:XK):Prop
 | mk (m:Bool) (x:V) (d:Aj) (q0:vs=[x]) (q1:RdV m H x d) (q2:Q (.bl (cO 0 9999999 d)) H):aAi vs H Q u3_
def aBj:Sp:=fun vs H Q u3_=>aAi vs H Q u3_
theorem yG:bM ["thing","land","house","acres"] ["thing"] (aM xW):=⟨rfl,rfl,rfl,by decide,rfl,by decide,by decide⟩
theorem aFY{f:Ah}{fd:AC}(F:Fun K "is_part" "is_part" xW f fd)(T:Txt K mg)
  (Y:Cl P w K mg base 1 "is_name" ["thing"] fS)
  (GW:Cl P w K mg base 2 "is_whole" ["thing","least","most"] gZ):
  cN P w K mg base CX0 3 f fd ["thing"] pQ:=by
 refine F.ok yG (fun vs H Q E h=>?_) (fun af A outer s H vs Q E hr h=>?_)
 .obtain⟨m,x,d,rfl,_⟩:=h;rfl
 .obtain⟨m,x,d,rfl,hx,k⟩:=h;have D:cY 1 _:=hr.mono (by decide);obtain⟨ta,hacres⟩:=T.acres;refine⟨_,aG (bX (PW.pt (dZ (cX (cE (aK bZ (by rfl) T.isi (by kernel_rfl) (aD (pv 0) (aD (cK (v:=.ty "tuple") (by rfl) T.tuple (by kernel_rfl) rfl) aA)))))
    (dU (aW rO (aK aS (by rfl) T.len Aq (aD (pv 0) aA)) aE (aY _))))) (aJ (aO eQ)) aT)
   (aG (jR (pv 0) (oW rfl (dB (bS (i:=1) yG.nd rfl (AA rfl)) (dB (bS (i:=2) yG.nd rfl (AA rfl)) (dB (bS (i:=3) yG.nd rfl (AA rfl)) lK)))))
   (aJ (aO (c6 (aX Y D (aD (pv 1) aA)) (c6 (aX Y D (aD (pv 2) aA)) (dL (aX GW hr (aD (pv 3) (aD aE (aD (cV (v:=.int 10000000) (by rfl) hacres ⟨_,rfl⟩) aA)))))))))),?_⟩
  refine⟨_,rfl,_,"tuple",_,_,rfl,eV hx,fF d,_,rfl,?_⟩;cases hd:dQ d with
  | false=>
   have e:cZ d=false:=by
    cases d with
    | tuple ds=>simp[dQ]at hd
    | _=>rfl
   rw[e]at k;exact k H (aV.refl H)
  | true=>
   obtain⟨ds,rfl⟩:∃ ds,d=.tuple ds:=by
    cases d with
    | tuple z=>exact⟨z,rfl⟩
    | _=>simp[dQ]at hd
   cases hx with
   | @tup a xs _ e hl r=>
    have ad:=r.len;refine cM ?_;refine⟨_,rfl,a,xs,rfl,.inr (aU e),rfl,_,rfl,?_⟩;by_cases W:xs.length=3
    .rw[Ic (show V.int (xs.length:Int)=V.int 3 by rw[W];rfl)];refine cM ?_
     match xs,ds,W,r with
     | [x1,x2,x3],[d1,d2,d3],_,.cons r1 (.cons r2 (.cons r3 .nil))=>
      refine⟨_,rfl,a,_,rfl,aU e,rfl,_,_,rfl,_,_,rfl,_,_,rfl,rfl,?_⟩;have Z:∀ H',aV H H'->Q (.bl (aZ d1&&aZ d2&&cO 1 10000000 d3)) H':=k;refine⟨_,rfl,m,x1,d1,rfl,r1,fun H1 J=>⟨_,rfl,?_⟩⟩;have k1:=Z H1 J;refine c8 (fun g=>?_) (fun g=>?_)
      .refine⟨_,rfl,m,x2,d2,rfl,r2.same J,fun H2 s2=>⟨_,rfl,?_⟩⟩;have B:=Z H2 (J.trans s2);rw[g,AK]at B;refine c8 (fun O=>?_) (fun O=>?_)
       .rw[O,AK]at B;exact⟨_,rfl,m,x3,d3,1,10000000,rfl,(r3.same J).same s2,B⟩
       .rw[(by simpa using O:aZ d2=false)]at B;exact B
      .rw[(by simpa using g:aZ d1=false)]at k1;exact k1
    .rw[Ie (show¬ V.int (xs.length:Int)=V.int 3 from fun z=>W (by injection z with z;omega))];refine cG ?_;have e2:cZ (.tuple ds)=false:=by
      match ds,(show ds.length≠3 by omega)with
      | [],_=>rfl
      | [_],_=>rfl
      | [_,_],_=>rfl
      | [_,_,_],z=>exact absurd rfl z
      | _::_::_::_::_,_=>rfl
     rw[e2]at k;exact k H (aV.refl H)
theorem aHH:bM ["thing"] ["thing"] (aM xX):=⟨rfl,rfl,rfl,by decide,rfl,by decide,by decide⟩
theorem aFZ{f:Ah}{fd:AC}(F:Fun K "is_inch" "is_inch" xX f fd)(T:Txt K mg)
  (B:Cl P w K mg base 2 "is_whole" ["thing","least","most"] gZ):
  cN P w K mg base CX0 3 f fd ["thing"] aBj:=by
 refine F.ok aHH (fun vs H Q E h=>?_) (fun z A outer s H vs Q E D h=>?_)
 .obtain⟨m,x,d,rfl,_⟩:=h;rfl
 .obtain⟨m,x,d,rfl,hx,k⟩:=h;obtain⟨ti,hin⟩:=T.inches;exact⟨_,aJ (aO (aX B D (aD (pv 0) (aD aE (aD (aQ gO (cV (v:=.int 10000000) (by rfl) hin ⟨_,rfl⟩) aE) aA))))),_,rfl,_,_,rfl,rfl,m,x,d,0,9999999,rfl,hx,k⟩
def hX:Aj->Bool
 | .tuple ds=>ds.all aZ
 | _=>false
def hZ:Aj->Bool
 | .tuple ds=>ds.all cZ
 | _=>false
inductive aAj(vs:List V)(H:Hp)(Q:VK)(u3_:XK):Prop
 | mk (m:Bool) (x:V) (d:Aj) (q0:vs=[x]) (q1:RdV m H x d) (q2:∀ H',aV H H'->Q (.bl (hX d)) H'):aAj vs H Q u3_
def uL:Sp:=fun vs H Q u3_=>aAj vs H Q u3_
inductive aAk(vs:List V)(H:Hp)(Q:VK)(u3_:XK):Prop
 | mk (m:Bool) (x:V) (d:Aj) (q0:vs=[x]) (q1:RdV m H x d) (q2:∀ H',aV H H'->Q (.bl (hZ d)) H'):aAk vs H Q u3_
def aBk:Sp:=fun vs H Q u3_=>aAk vs H Q u3_
theorem aHI:bM ["thing"] ["thing"] (aM lR):=⟨rfl,rfl,rfl,by decide,rfl,by decide,by decide⟩
theorem aF8{f:Ah}{fd:AC}(F:Fun K "all_names" "all_names" lR f fd)(T:Txt K mg)
  (Z:Cl P w K mg base 1 "is_name" ["thing"] fS):
  cN P w K mg base CX0 2 f fd ["thing"] uL:=by
 refine F.ok aHI (fun vs H Q E h=>?_) (fun O A outer s H vs Q E hr h=>?_)
 .obtain⟨m,x,d,rfl,_⟩:=h;rfl
 .obtain⟨m,x,d,rfl,hx,k⟩:=h;refine⟨_,aJ (aO (c6 (aK bZ (by rfl) T.isi (by kernel_rfl) (aD (pv 0) (aD (cK (v:=.ty "tuple") (by rfl) T.tuple (by kernel_rfl) rfl) aA)))
   (dL (aK (jG rfl) (by rfl) T.al (by kernel_rfl) (aD (fM (N:=["name"]) (src:=[none]) (osc:=aM lR) (oN:=["thing"]) ⟨by rfl,by decide,by decide,by decide,rfl,by rfl⟩ (jT (pv 0))
     fun cl s H fp dz C=>⟨bS (i:=0) (show(["name"]:List Str).Nodup by decide) rfl (AA rfl),dY,aX Z hr (aD (pv 0) aA)⟩) aA))))),?_⟩
  refine⟨_,rfl,_,"tuple",_,_,rfl,eV hx,fF d,_,rfl,?_⟩;cases hd:dQ d with
  | false=>
   have e:hX d=false:=by
    cases d with
    | tuple ds=>simp[dQ]at hd
    | _=>rfl
   rw[e]at k;exact k H (aV.refl H)
  | true=>
   obtain⟨ds,rfl⟩:∃ ds,d=.tuple ds:=by
    cases d with
    | tuple z=>exact⟨z,rfl⟩
    | _=>simp[dQ]at hd
   cases hx with
   | @tup a xs _ e hl r=>
    have J:=r.len;have k':∀ H',aV H H'->Q (.bl (ds.all aZ)) H':=k;refine cG ?_;refine⟨_,rfl,a,rfl,⟨xs,aU e⟩,?_⟩;refine jH (xs:=xs) (fun i ys σ H'=>aV H H'/\ys=((ds.take i).map fun d=>V.bl (aZ d))/\∃ o,σ=[o]) ⟨aV.refl H,rfl,none,rfl⟩ (aH (by omega)) (fun i ys σ H' p=>by rw[p.2.1,Ae,AN];omega) (fun i ys σ H' p=>aU (p.1 _ _ e)) ?_ ?_
    .rintro i y ys σ H' W ⟨S,rfl,o,rfl⟩;dsimp only[cF];obtain⟨d',hd',r'⟩:=r.at W;refine cG ?_;refine⟨_,rfl,m,y,d',rfl,r'.same S,fun H2 s2=>⟨S.trans s2,?_,_,rfl⟩⟩;rw[Be,hd',A0];rfl
    .rintro ys σ H1 ⟨S,rfl,o,rfl⟩ D Y;have B:CY xs.length ds=ds:=AV (by omega);rw[B];have S1:=S.trans (aI (o:=.lst (ds.map fun d=>V.bl (aZ d))) Y);refine⟨D,ds.map aZ,rfl,bB (by rw[aF,B7];rfl),?_⟩;rw[C9];exact k' _ S1
theorem aHJ:bM ["thing"] ["thing"] (aM lQ):=⟨rfl,rfl,rfl,by decide,rfl,by decide,by decide⟩
theorem aF9{f:Ah}{fd:AC}(F:Fun K "all_parts" "all_parts" lQ f fd)(T:Txt K mg)
  (Z:Cl P w K mg base 3 "is_part" ["thing"] pQ):
  cN P w K mg base CX0 4 f fd ["thing"] aBk:=by
 refine F.ok aHJ (fun vs H Q E h=>?_) (fun O A outer s H vs Q E hr h=>?_)
 .obtain⟨m,x,d,rfl,_⟩:=h;rfl
 .obtain⟨m,x,d,rfl,hx,k⟩:=h;refine⟨_,aJ (aO (c6 (aK bZ (by rfl) T.isi (by kernel_rfl) (aD (pv 0) (aD (cK (v:=.ty "tuple") (by rfl) T.tuple (by kernel_rfl) rfl) aA)))
   (dL (aK (jG rfl) (by rfl) T.al (by kernel_rfl) (aD (fM (N:=["part"]) (src:=[none]) (osc:=aM lQ) (oN:=["thing"]) ⟨by rfl,by decide,by decide,by decide,rfl,by rfl⟩ (jT (pv 0))
     fun cl s H fp dz C=>⟨bS (i:=0) (show(["part"]:List Str).Nodup by decide) rfl (AA rfl),dY,aX Z hr (aD (pv 0) aA)⟩) aA))))),?_⟩
  refine⟨_,rfl,_,"tuple",_,_,rfl,eV hx,fF d,_,rfl,?_⟩;cases hd:dQ d with
  | false=>
   have e:hZ d=false:=by
    cases d with
    | tuple ds=>simp[dQ]at hd
    | _=>rfl
   rw[e]at k;exact k H (aV.refl H)
  | true=>
   obtain⟨ds,rfl⟩:∃ ds,d=.tuple ds:=by
    cases d with
    | tuple z=>exact⟨z,rfl⟩
    | _=>simp[dQ]at hd
   cases hx with
   | @tup a xs _ e hl r=>
    have J:=r.len;have k':∀ H',aV H H'->Q (.bl (ds.all cZ)) H':=k;refine cG ?_;refine⟨_,rfl,a,rfl,⟨xs,aU e⟩,?_⟩;refine jH (xs:=xs) (fun i ys σ H'=>aV H H'/\ys=((ds.take i).map fun d=>V.bl (cZ d))/\∃ o,σ=[o]) ⟨aV.refl H,rfl,none,rfl⟩ (aH (by omega)) (fun i ys σ H' p=>by rw[p.2.1,Ae,AN];omega) (fun i ys σ H' p=>aU (p.1 _ _ e)) ?_ ?_
    .rintro i y ys σ H' W ⟨S,rfl,o,rfl⟩;dsimp only[cF];obtain⟨d',hd',r'⟩:=r.at W;refine cG ?_;refine⟨_,rfl,m,y,d',rfl,r'.same S,fun H2 s2=>⟨S.trans s2,?_,_,rfl⟩⟩;rw[Be,hd',A0];rfl
    .rintro ys σ H1 ⟨S,rfl,o,rfl⟩ D Y;have B:CY xs.length ds=ds:=AV (by omega);rw[B];have S1:=S.trans (aI (o:=.lst (ds.map fun d=>V.bl (cZ d))) Y);refine⟨D,ds.map cZ,rfl,bB (by rw[aF,B7];rfl),?_⟩;rw[C9];exact k' _ S1
inductive aAl(D:List Aj->Bool)(vs:List V)(H:Hp)(Q:VK)(u3_:XK):Prop
 | mk (m:Bool) (x:V) (ds:List Aj) (q0:vs=[x]) (q1:RdV m H x (.tuple ds)) (q2:∀ H',aV H H'->Q (.bl (D ds)) H'):aAl D vs H Q u3_
def fG(D:List Aj->Bool):Sp:=fun vs H Q u3_=>aAl D vs H Q u3_
def iR:List Aj->Bool
 | [d1,d2]=>aZ d1&&cO 0 10000000 d2
 | _=>false
theorem pY{ds:List Aj}(h:ds.length≠2):iR ds=false:=by
 match ds,h with
 | [],_=>rfl
 | [_],_=>rfl
 | [_,_],z=>exact absurd rfl z
 | _::_::_::_,_=>rfl
def lA:List Aj->Bool
 | [d1,d2,d3]=>aZ d1&&cO 0 9999999 d2&&aZ d3
 | _=>false
theorem aAm{ds:List Aj}(h:ds.length≠3):lA ds=false:=by
 match ds,h with
 | [],_=>rfl
 | [_],_=>rfl
 | [_,_],_=>rfl
 | [_,_,_],z=>exact absurd rfl z
 | _::_::_::_::_,_=>rfl
def lD:List Aj->Bool
 | [d1]=>aZ d1
 | _=>false
theorem aC7{ds:List Aj}(h:ds.length≠1):lD ds=false:=by
 match ds,h with
 | [],_=>rfl
 | [_],z=>exact absurd rfl z
 | _::_::_,_=>rfl
def gK:List Aj->Bool
 | [d1,d2,d3,d4]=>aZ d1&&cO 0 9999999 d2&&cO 0 1000000000 d3&&cO 0 1000000 d4
 | _=>false
theorem uM{ds:List Aj}(h:ds.length≠4):gK ds=false:=by
 match ds,h with
 | [],_=>rfl
 | [_],_=>rfl
 | [_,_],_=>rfl
 | [_,_,_],_=>rfl
 | [_,_,_,_],z=>exact absurd rfl z
 | _::_::_::_::_::_,_=>rfl
theorem aBl:bM ["rest"] ["rest"] (aM iJ):=⟨rfl,rfl,rfl,by decide,rfl,by decide,by decide⟩
theorem aAn{f:Ah}{fd:AC}(F:Fun K "fits_measure" "fits_measure" iJ f fd)(T:Txt K mg)
  (GN:Cl P w K mg base 1 "is_name" ["thing"] fS)
  (GW:Cl P w K mg base 2 "is_whole" ["thing","least","most"] gZ):
  cN P w K mg base CX0 6 f fd ["rest"] (fG iR):=by
 refine F.ok aBl (fun vs H Q E h=>?_) (fun ac A outer s H vs Q E J h=>?_)
 .obtain⟨m,x,d,rfl,_⟩:=h;rfl
 .obtain⟨m,x,ds,rfl,hx,k⟩:=h;have O:cY 1 _:=J.mono (by decide);have D:cY 2 _:=J.mono (by decide);have af:cY 3 _:=J.mono (by decide);obtain⟨tinches,hinches⟩:=T.inches;refine⟨_,aJ (aO (c6 (dF cQ (aK aS (by rfl) T.len Aq (aD (pv 0) aA)) aE (aY _)) (c6 (aX GN O (aD (bJ cA (pv 0) aE Ih) aA)) (dL (aX GW D (aD (bJ cA (pv 0) aE Ih) (aD aE (aD (cV (v:=.int 10000000) (by rfl) hinches ⟨_,rfl⟩) aA)))))))),?_⟩;cases hx with
  | @tup a xs _ e hl r=>
   have aa:=r.len;refine⟨_,rfl,a,xs,rfl,.inr (aU e),rfl,_,rfl,?_⟩;by_cases hn:xs.length=2
   .rw[Ic (show V.int (xs.length:Int)=V.int 2 by rw[hn];rfl)];refine cG ?_
    match xs,ds,hn,r with
    | [x1,x2],[d1,d2],_,.cons r1 (.cons r2 (.nil))=>
     have Y:∀ H',aV H H'->Q (.bl (aZ d1&&cO 0 10000000 d2)) H':=k;have W:=aV.refl H;refine⟨_,rfl,a,_,0,_,rfl,rfl,aU (W _ _ e),rfl,m,x1,d1,rfl,(r1.same W),fun H1 z1=>⟨_,rfl,?_⟩⟩;have B:=W.trans z1;cases Z:(aZ d1)with
     | false=>
      have q:=Y H1 B;rw[Z]at q;simp only[BR]at q;refine cM ?_;exact q
     | true=>
      refine cG ?_;have q:=Y H1 B;rw[Z,AK]at q;exact⟨_,rfl,a,_,1,_,rfl,rfl,aU (B _ _ e),rfl,m,x2,d2,0,10000000,rfl,(r2.same B),q⟩
   .rw[Ie (show¬ V.int (xs.length:Int)=V.int 2 from fun z=>hn (by injection z with z;omega))];refine cM ?_;rw[pY (by omega)]at k;exact k H (aV.refl H)
theorem aGa:bM ["rest"] ["rest"] (aM pP):=⟨rfl,rfl,rfl,by decide,rfl,by decide,by decide⟩
theorem aEH{f:Ah}{fd:AC}(F:Fun K "fits_view" "fits_view" pP f fd)(T:Txt K mg)
  (GN:Cl P w K mg base 1 "is_name" ["thing"] fS)
  (GI:Cl P w K mg base 3 "is_inch" ["thing"] aBj):
  cN P w K mg base CX0 6 f fd ["rest"] (fG lA):=by
 refine F.ok aGa (fun vs H Q E h=>?_) (fun ae A outer s H vs Q E O h=>?_)
 .obtain⟨m,x,d,rfl,_⟩:=h;rfl
 .obtain⟨m,x,ds,rfl,hx,k⟩:=h;have D:cY 1 _:=O.mono (by decide);have ah:cY 2 _:=O.mono (by decide);have Y:cY 3 _:=O.mono (by decide);refine⟨_,aJ (aO (c6 (dF cQ (aK aS (by rfl) T.len Aq (aD (pv 0) aA)) aE (aY _)) (c6 (aX GN D (aD (bJ cA (pv 0) aE Ih) aA)) (c6 (aX GI Y (aD (bJ cA (pv 0) aE Ih) aA)) (dL (aX GN D (aD (bJ cA (pv 0) aE Ih) aA))))))),?_⟩;cases hx with
  | @tup a xs _ e hl r=>
   have ad:=r.len;refine⟨_,rfl,a,xs,rfl,.inr (aU e),rfl,_,rfl,?_⟩;by_cases hn:xs.length=3
   .rw[Ic (show V.int (xs.length:Int)=V.int 3 by rw[hn];rfl)];refine cG ?_
    match xs,ds,hn,r with
    | [x1,x2,x3],[d1,d2,d3],_,.cons r1 (.cons r2 (.cons r3 (.nil)))=>
     have J:∀ H',aV H H'->Q (.bl (aZ d1&&cO 0 9999999 d2&&aZ d3)) H':=k;have Z:=aV.refl H;refine⟨_,rfl,a,_,0,_,rfl,rfl,aU (Z _ _ e),rfl,m,x1,d1,rfl,(r1.same Z),fun H1 z1=>⟨_,rfl,?_⟩⟩;have B:=Z.trans z1;cases W:(aZ d1)with
     | false=>
      have q:=J H1 B;rw[W]at q;simp only[BR]at q;refine cM ?_;exact q
     | true=>
      refine cG ?_;refine⟨_,rfl,a,_,1,_,rfl,rfl,aU (B _ _ e),rfl,m,x2,d2,rfl,(r2.same B),_,rfl,?_⟩;cases g1:(cO 0 9999999 d2)with
      | false=>
       have q:=J H1 B;rw[W,AK,g1]at q;simp only[BR]at q;refine cM ?_;exact q
      | true=>
       refine cG ?_;refine⟨_,rfl,a,_,2,_,rfl,rfl,aU (B _ _ e),rfl,m,x3,d3,rfl,(r3.same B),fun H3 z3=>?_⟩;have q:=J H3 (B.trans z3);rw[W,AK,g1,AK]at q;exact q
   .rw[Ie (show¬ V.int (xs.length:Int)=V.int 3 from fun z=>hn (by injection z with z;omega))];refine cM ?_;rw[aAm (by omega)]at k;exact k H (aV.refl H)
theorem aEI:bM ["rest"] ["rest"] (aM lT):=⟨rfl,rfl,rfl,by decide,rfl,by decide,by decide⟩
theorem aC8{f:Ah}{fd:AC}(F:Fun K "fits_alone" "fits_alone" lT f fd)(T:Txt K mg)
  (Z:Cl P w K mg base 1 "is_name" ["thing"] fS):
  cN P w K mg base CX0 6 f fd ["rest"] (fG lD):=by
 refine F.ok aEI (fun vs H Q E h=>?_) (fun W A outer s H vs Q E B h=>?_)
 .obtain⟨m,x,d,rfl,_⟩:=h;rfl
 .obtain⟨m,x,ds,rfl,hx,k⟩:=h;have D:cY 1 _:=B.mono (by decide);have Y:cY 2 _:=B.mono (by decide);have ad:cY 3 _:=B.mono (by decide);refine⟨_,aJ (aO (c6 (dF cQ (aK aS (by rfl) T.len Aq (aD (pv 0) aA)) aE (aY _)) (dL (aX Z D (aD (bJ cA (pv 0) aE Ih) aA))))),?_⟩;cases hx with
  | @tup a xs _ e hl r=>
   have O:=r.len;refine⟨_,rfl,a,xs,rfl,.inr (aU e),rfl,_,rfl,?_⟩;by_cases hn:xs.length=1
   .rw[Ic (show V.int (xs.length:Int)=V.int 1 by rw[hn];rfl)];refine cG ?_
    match xs,ds,hn,r with
    | [x1],[d1],_,.cons r1 (.nil)=>
     have k':∀ H',aV H H'->Q (.bl (aZ d1)) H':=k;have J:=aV.refl H;refine⟨_,rfl,a,_,0,_,rfl,rfl,aU (J _ _ e),rfl,m,x1,d1,rfl,(r1.same J),fun H1 z1=>?_⟩;have q:=k' H1 (J.trans z1);exact q
   .rw[Ie (show¬ V.int (xs.length:Int)=V.int 1 from fun z=>hn (by injection z with z;omega))];refine cM ?_;rw[aC7 (by omega)]at k;exact k H (aV.refl H)
theorem aC9:bM ["rest"] ["rest"] (aM jN):=⟨rfl,rfl,rfl,by decide,rfl,by decide,by decide⟩
theorem aBm{f:Ah}{fd:AC}(F:Fun K "fits_breach" "fits_breach" jN f fd)(T:Txt K mg)
  (GN:Cl P w K mg base 1 "is_name" ["thing"] fS)
  (GW:Cl P w K mg base 2 "is_whole" ["thing","least","most"] gZ)
  (GI:Cl P w K mg base 3 "is_inch" ["thing"] aBj):
  cN P w K mg base CX0 6 f fd ["rest"] (fG gK):=by
 refine F.ok aC9 (fun vs H Q E h=>?_) (fun ag A outer s H vs Q E W h=>?_)
 .obtain⟨m,x,d,rfl,_⟩:=h;rfl
 .obtain⟨m,x,ds,rfl,hx,k⟩:=h;have Z:cY 1 _:=W.mono (by decide);have D:cY 2 _:=W.mono (by decide);have aa:cY 3 _:=W.mono (by decide);obtain⟨tpence,hpence⟩:=T.pence;obtain⟨tspades,hspades⟩:=T.spades;refine⟨_,aG (bX (PW.pt (dZ (aW rO (aK aS (by rfl) T.len Aq (aD (pv 0) aA)) aE (aY _)) (dZ (cX (cE (aX GN Z (aD (bJ cA (pv 0) aE Ih) aA)))) (dU (cX (cE (aX GI aa (aD (bJ cA (pv 0) aE Ih) aA)))))))) (aJ (aO eQ)) aT) (aJ (aO (c6 (aX GW D (aD (bJ cA (pv 0) aE Ih) (aD aE (aD (cV (v:=.int 1000000000) (by rfl) hpence ⟨_,rfl⟩) aA)))) (dL (aX GW D (aD (bJ cA (pv 0) aE Ih) (aD aE (aD (cV (v:=.int 1000000) (by rfl) hspades ⟨_,rfl⟩) aA)))))))),?_⟩;cases hx with
  | @tup a xs _ e hl r=>
   have ae:=r.len;refine⟨_,rfl,a,xs,rfl,.inr (aU e),rfl,_,rfl,?_⟩;by_cases hn:xs.length=4
   .rw[Ic (show V.int (xs.length:Int)=V.int 4 by rw[hn];rfl)];refine cM ?_
    match xs,ds,hn,r with
    | [x1,x2,x3,x4],[d1,d2,d3,d4],_,.cons r1 (.cons r2 (.cons r3 (.cons r4 (.nil))))=>
     have J:∀ H',aV H H'->Q (.bl (aZ d1&&cO 0 9999999 d2&&cO 0 1000000000 d3&&cO 0 1000000 d4)) H':=k;have s0:=aV.refl H;refine⟨_,rfl,a,_,0,_,rfl,rfl,aU (s0 _ _ e),rfl,m,x1,d1,rfl,(r1.same s0),fun H1 z1=>⟨_,rfl,?_⟩⟩;have B:=s0.trans z1;cases O:(aZ d1)with
     | false=>
      have q:=J H1 B;rw[O]at q;simp only[BR]at q;refine cG ?_;exact q
     | true=>
      refine cM ?_;refine⟨_,rfl,a,_,1,_,rfl,rfl,aU (B _ _ e),rfl,m,x2,d2,rfl,(r2.same B),_,rfl,?_⟩;cases Y:(cO 0 9999999 d2)with
      | false=>
       have q:=J H1 B;rw[O,AK,Y]at q;simp only[BR]at q;refine cG ?_;exact q
      | true=>
       refine cM ?_;refine⟨_,rfl,a,_,2,_,rfl,rfl,aU (B _ _ e),rfl,m,x3,d3,0,1000000000,rfl,(r3.same B),_,rfl,?_⟩;cases g2:(cO 0 1000000000 d3)with
       | false=>
        have q:=J H1 B;rw[O,AK,Y,AK,g2]at q;simp only[BR]at q;refine cM ?_;exact q
       | true=>
        refine cG ?_;have q:=J H1 B;rw[O,AK,Y,AK,g2,AK]at q;exact⟨_,rfl,a,_,3,_,rfl,rfl,aU (B _ _ e),rfl,m,x4,d4,0,1000000,rfl,(r4.same B),q⟩
   .rw[Ie (show¬ V.int (xs.length:Int)=V.int 4 from fun z=>hn (by injection z with z;omega))];refine cG ?_;rw[uM (by omega)]at k;exact k H (aV.refl H)
def fT(ds:List Aj):Bool:=decide (ds.length=2)&&ds.all aZ
def lE:List Aj->Bool
 | [.str a,.str b]=>bV a&&bV b&&!decide (a=b)
 | _=>false
theorem oQ{ds:List Aj}(h:¬ (ds.length=2/\ds.all aZ=true)):lE ds=false:=by
 unfold lE;split
 .rename_i a b;have:¬ (bV a=true/\bV b=true):=fun z=>h ⟨rfl,by simp[aZ,z.1,z.2]⟩;cases ha:bV a<;>cases B:bV b<;>simp_all
 .rfl
theorem aHK{ds:List Aj}(h:ds.length=2)(g:ds.all aZ=true):∃ a b,ds=[.str a,.str b]/\bV a=true/\bV b=true:=by
 match ds,h with
 | [d1,d2],_=>
  simp only[Cq,List.all_nil,Bool.and_true,Av]at g;obtain⟨g1,g2⟩:=g;obtain⟨a,rfl,ha⟩:∃ a,d1=.str a/\bV a=true:=by
   cases d1 with
   | str a=>exact⟨a,rfl,g1⟩
   | _=>simp[aZ]at g1
  obtain⟨b,rfl,hb⟩:∃ b,d2=.str b/\bV b=true:=by
   cases d2 with
   | str a=>exact⟨a,rfl,g2⟩
   | _=>simp[aZ]at g2
  exact⟨a,b,rfl,ha,hb⟩
theorem aBn:bM ["rest"] ["rest"] (aM iI):=⟨rfl,rfl,rfl,by decide,rfl,by decide,by decide⟩
theorem aAo{f:Ah}{fd:AC}(F:Fun K "fits_forfeit" "fits_forfeit" iI f fd)(T:Txt K mg)
  (Y:Cl P w K mg base 2 "all_names" ["thing"] uL):
  cN P w K mg base CX0 6 f fd ["rest"] (fG fT):=by
 refine F.ok aBn (fun vs H Q E h=>?_) (fun O A outer s H vs Q E W h=>?_)
 .obtain⟨m,x,d,rfl,_⟩:=h;rfl
 .obtain⟨m,x,ds,rfl,hx,k⟩:=h;have B:cY 2 _:=W.mono (by decide);refine⟨_,aJ (aO (c6 (dF cQ (aK aS (by rfl) T.len Aq (aD (pv 0) aA)) aE (aY _)) (dL (aX Y B (aD (pv 0) aA))))),?_⟩;have D:=hx;cases hx with
  | @tup a xs _ e Z r=>
   have J:=r.len;refine⟨_,rfl,a,xs,rfl,.inr (aU e),rfl,_,rfl,?_⟩;unfold fT at k;by_cases hn:xs.length=2
   .rw[Ic (show V.int (xs.length:Int)=V.int 2 by rw[hn];rfl)];refine cG ?_;rw[Ic (show ds.length=2 by omega),AK]at k;exact⟨_,rfl,m,_,_,rfl,D,k⟩
   .rw[Ie (show¬ V.int (xs.length:Int)=V.int 2 from fun z=>hn (by injection z with z;omega))];refine cM ?_;rw[Ie (show¬ ds.length=2 by omega)]at k;exact k H (aV.refl H)
theorem aGb:bM ["rest"] ["rest"] (aM pO):=⟨rfl,rfl,rfl,by decide,rfl,by decide,by decide⟩
theorem aEJ{f:Ah}{fd:AC}(F:Fun K "fits_mend" "fits_mend" pO f fd)(T:Txt K mg)
  (GA:Cl P w K mg base 2 "all_names" ["thing"] uL):
  cN P w K mg base CX0 6 f fd ["rest"] (fG lE):=by
 refine F.ok aGb (fun vs H Q E h=>?_) (fun W A outer s H vs Q E Z h=>?_)
 .obtain⟨m,x,d,rfl,_⟩:=h;rfl
 .obtain⟨m,x,ds,rfl,hx,k⟩:=h;have D:cY 2 _:=Z.mono (by decide);refine⟨_,aJ (aO (c6 (dF cQ (aK aS (by rfl) T.len Aq (aD (pv 0) aA)) aE (aY _)) (c6 (aX GA D (aD (pv 0) aA)) (dL (dF rO (bJ cA (pv 0) aE Ih) (bJ cA (pv 0) aE Ih) (aY _)))))),?_⟩;have J:=hx;cases hx with
  | @tup a xs _ e hl r=>
   have O:=r.len;refine⟨_,rfl,a,xs,rfl,.inr (aU e),rfl,_,rfl,?_⟩;by_cases hn:xs.length=2
   .rw[Ic (show V.int (xs.length:Int)=V.int 2 by rw[hn];rfl)];refine cG ?_;refine⟨_,rfl,m,_,_,rfl,J,fun H1 B=>⟨_,rfl,?_⟩⟩;show if ds.all aZ=true then _ else _
    refine c8 (fun g=>?_) (fun g=>?_)
    .obtain⟨z1,z2,rfl,h1,h2⟩:=aHK (by omega) g;cases r with
     | cons Y r=>
      cases r with
      | cons r2 r=>
       cases r;cases Y;cases r2;refine⟨_,rfl,a,_,0,_,rfl,rfl,aU (B _ _ e),rfl,_,rfl,a,_,1,_,rfl,rfl,aU (B _ _ e),rfl,rfl,?_⟩;have q:=k H1 B;have ef:lE [.str z1,.str z2]=!decide (V.str z1=V.str z2):=by
        show(bV z1&&bV z2&&!decide (z1=z2))=_;rw[h1,h2];by_cases hz:z1=z2
        .subst hz;simp
        .rw[Ie hz,Ie (fun e=>hz (by injection e))];rfl
       rw[ef]at q;exact q
    .rw[oQ fun z=>g z.2]at k;exact k H1 B
   .rw[Ie (show¬ V.int (xs.length:Int)=V.int 2 from fun z=>hn (by injection z with z;omega))];refine cM ?_;rw[oQ fun z=>hn (by omega)]at k;exact k H (aV.refl H)
def eI(ss:List Str):Bool:=decide (ss.Pairwise fun a b=>a.cps.toList<b.cps.toList)
def i7:Aj->Str|.str z=>z|_=>AZ ""
def lF:Aj->Str
 | .tuple (.str z::_)=>z
 | _=>AZ ""
def lG:Aj->Bool
 | .tuple ds=>ds.all cZ&&decide (2<=ds.length/\ds.length<=6)&&eI (ds.map lF)
 | _=>false
def iY:Aj->Bool
 | .tuple ds=>ds.all aZ&&decide (2<=ds.length/\ds.length<=6)&&eI (ds.map i7)
 | _=>false
inductive uN(vs:List V)(H:Hp)(Q:VK)(u3_:XK):Prop
 | mk (a:Ah) (ss:List Str) (q0:vs=[.ref a]) (q1:(H a=some (.lst (ss.map V.str))\/H a=some (.tup (ss.map V.str)))) (q2:ss.length<=6) (q3:∀ H',aV H H'->Q (.bl (eI ss)) H'):uN vs H Q u3_
def uO:Sp:=fun vs H Q u3_=>uN vs H Q u3_
inductive aAp(vs:List V)(H:Hp)(Q:VK)(u3_:XK):Prop
 | mk (m:Bool) (x:V) (d:Aj) (q0:vs=[x]) (q1:RdV m H x d) (q2:∀ H',aV H H'->Q (.bl (lG d)) H'):aAp vs H Q u3_
def aEK:Sp:=fun vs H Q u3_=>aAp vs H Q u3_
inductive aAq(vs:List V)(H:Hp)(Q:VK)(u3_:XK):Prop
 | mk (m:Bool) (x:V) (d:Aj) (q0:vs=[x]) (q1:RdV m H x d) (q2:∀ H',aV H H'->Q (.bl (iY d)) H'):aAq vs H Q u3_
def aEL:Sp:=fun vs H Q u3_=>aAq vs H Q u3_
theorem jY{m:Bool}{H:Hp}:∀{xs:List V}{ds:List Aj},c9 m H xs ds->ds.all aZ=true->xs=(ds.map i7).map V.str
 | _,_,.nil,_=>rfl
 | _,_,.cons (d:=d) r B,h=>by
  rw[Cq,Av]at h;have D:=jY B h.2;cases d with
  | str z=>
   cases r;rw[D];rfl
  | _=>simp[aZ]at h
theorem aHL:bM ["thing"] ["thing"] (aM pL):=⟨rfl,rfl,rfl,by decide,rfl,by decide,by decide⟩
theorem aGc{f:Ah}{fd:AC}(F:Fun K "are_lands" "are_lands" pL f fd)(T:Txt K mg)
  (GA:Cl P w K mg base 2 "all_names" ["thing"] uL)
  (GR:Cl P w K mg base 1 "is_rising" ["things"] uO):
  cN P w K mg base CX0 5 f fd ["thing"] aEL:=by
 refine F.ok aHL (fun vs H Q E h=>?_) (fun ag A outer s H vs Q E hr h=>?_)
 .obtain⟨m,x,d,rfl,_⟩:=h;rfl
 .obtain⟨m,x,d,rfl,hx,k⟩:=h;have aa:cY 1 _:=hr.mono (by decide);have W:cY 2 _:=hr.mono (by decide);obtain⟨tf,hfew⟩:=T.fewest;obtain⟨tm,hmost⟩:=T.most;refine⟨_,aJ (aO (c6 (aX GA W (aD (pv 0) aA)) (c6 (nM j8 j8 (cV (v:=.int 2) (by rfl) hfew ⟨_,rfl⟩) (aK aS (by rfl) T.len Aq (aD (pv 0) aA)) (cV (v:=.int 6) (by rfl) hmost ⟨_,rfl⟩)) (dL (aX GR aa (aD (pv 0) aA)))))),_,rfl,m,x,d,rfl,hx,fun H1 D=>⟨_,rfl,?_⟩⟩;refine c8 (fun g=>?_) (fun g=>?_)
  .obtain⟨ds,rfl⟩:∃ ds,d=.tuple ds:=by
    cases d with
    | tuple z=>exact⟨z,rfl⟩
    | _=>simp[hX]at g
   have J:ds.all aZ=true:=g;cases hx with
   | @tup a xs _ e hl r=>
    have af:=r.len;have k':∀ H',aV H H'->Q (.bl (decide (2<=ds.length/\ds.length<=6)&&eI (ds.map i7))) H':=fun H' s'=>by
     have q:Q (.bl (ds.all aZ&&decide (2<=ds.length/\ds.length<=6)&&eI (ds.map i7))) H':=k H' s';rw[J,AK]at q;exact q
    have B:¬ (2<=ds.length/\ds.length<=6)->Q (.bl false) H1:=fun h=>by
     have q:=k' H1 D;rw[Ie h]at q;exact q
    refine⟨_,rfl,a,xs,rfl,.inr (aU (D _ _ e)),_,_,rfl,rfl,_,rfl,c8 (fun Y=>?_) (fun Y=>?_)⟩
    .have ac:(2:Int)<=xs.length:=Ig Y;refine⟨_,_,rfl,rfl,_,rfl,c8 (fun O=>?_) (fun O=>?_)⟩
     .have Z:(xs.length:Int)<=6:=Ig O;refine⟨_,rfl,a,ds.map i7,rfl,.inr ?_,by rw[Ae];omega,fun H2 s2=>?_⟩
      .rw[<- jY r J];exact D _ _ e
      .have q:=k' H2 (D.trans s2);rw[Ic (by omega),AK]at q;exact q
     .have Z:¬ (xs.length:Int)<=6:=fun z=>O (Ic z);exact B (by omega)
    .have ac:¬ (2:Int)<=xs.length:=fun z=>Y (Ic z);refine⟨_,rfl,cM ?_⟩;exact B (by omega)
  .have J:hX d=false:=by simpa using g
   have e:iY d=false:=by
    cases d with
    | tuple ds=>
     have z:ds.all aZ=false:=J;show(ds.all aZ&&decide (2<=ds.length/\ds.length<=6)&&eI (ds.map i7))=false;rw[z];rfl
    | _=>rfl
   rw[e]at k;exact k H1 D
theorem aHM:bM ["thing"] ["thing"] (aM lS):=⟨rfl,rfl,rfl,by decide,rfl,by decide,by decide⟩
theorem wJ{m:Bool}{H:Hp}{x:V}{d:Aj}(r:RdV m H x d)(h:cZ d=true):∃ a xs,x=.ref a/\H a=some (.tup xs)/\atI xs 0=some (V.str (lF d)):=by
 cases d with
 | tuple ds=>
  cases r with
  | @tup a xs _ e _ r=>
   cases r with
   | nil=>simp[cZ]at h
   | @cons W B _ _ J O=>
    have hn:aZ B=true:=by
     unfold cZ at h;split at h
     .rename_i D;cases D;simp only[Av]at h;exact h.1.1
     .cases h
    cases B with
    | str z=>
     cases J;refine⟨a,_,rfl,e,?_⟩;unfold atI ixN;rw[Ib (by decide),Ib (by rw[Ax];omega)];rfl
    | _=>simp[aZ]at hn
 | _=>simp[cZ]at h
theorem aGd{f:Ah}{fd:AC}(F:Fun K "are_parts" "are_parts" lS f fd)(T:Txt K mg)
  (GA:Cl P w K mg base 4 "all_parts" ["thing"] aBk)
  (GR:Cl P w K mg base 1 "is_rising" ["things"] uO):
  cN P w K mg base CX0 5 f fd ["thing"] aEK:=by
 refine F.ok aHM (fun vs H Q E h=>?_) (fun ah A outer s H vs Q E hr h=>?_)
 .obtain⟨m,x,d,rfl,_⟩:=h;rfl
 .obtain⟨m,x,d,rfl,hx,k⟩:=h;have Y:cY 1 _:=hr.mono (by decide);obtain⟨tf,hfew⟩:=T.fewest;obtain⟨tm,hmost⟩:=T.most;refine⟨_,aG (bX (PW.pt (dZ (cX (cE (aX GA hr (aD (pv 0) aA)))) (dU (cX (rP j8 j8 (cV (v:=.int 2) (by rfl) hfew ⟨_,rfl⟩) (aK aS (by rfl) T.len Aq (aD (pv 0) aA)) (cV (v:=.int 6) (by rfl) hmost ⟨_,rfl⟩)))))) (aJ (aO eQ)) aT)
   (aJ (aO (aX GR Y (aD (fM (N:=["part"]) (src:=[none]) (osc:=aM lS) (oN:=["thing"]) ⟨by rfl,by decide,by decide,by decide,rfl,by rfl⟩ (jT (pv 0))
     fun cl s H fp dz C=>⟨bS (i:=0) (show(["part"]:List Str).Nodup by decide) rfl (AA rfl),dY,bJ (r:=aDH K) cA (pv 0) aE Ih⟩) aA)))),?_⟩
  refine⟨_,rfl,m,x,d,rfl,hx,fun H1 B=>⟨_,rfl,?_⟩⟩;cases g:hZ d with
  | false=>
   refine cG ?_;have e:lG d=false:=by
    cases d with
    | tuple ds=>
     have z:ds.all cZ=false:=g;show(ds.all cZ&&decide (2<=ds.length/\ds.length<=6)&&eI (ds.map lF))=false;rw[z];rfl
    | _=>rfl
   rw[e]at k;exact k H1 B
  | true=>
   refine cM ?_;obtain⟨ds,rfl⟩:∃ ds,d=.tuple ds:=by
    cases d with
    | tuple z=>exact⟨z,rfl⟩
    | _=>simp[hZ]at g
   have g':ds.all cZ=true:=g;cases hx with
   | @tup a xs _ e hl r=>
    have af:=r.len;have k':∀ H',aV H H'->Q (.bl (decide (2<=ds.length/\ds.length<=6)&&eI (ds.map lF))) H':=fun H' s'=>by
     have q:Q (.bl (ds.all cZ&&decide (2<=ds.length/\ds.length<=6)&&eI (ds.map lF))) H':=k H' s';rw[g',AK]at q;exact q
    have J:¬ (2<=ds.length/\ds.length<=6)->Q (.bl false) H1:=fun h=>by
     have q:=k' H1 B;rw[Ie h]at q;exact q
    refine⟨_,rfl,a,xs,rfl,.inr (aU (B _ _ e)),_,_,rfl,rfl,_,rfl,c8 (fun O=>?_) (fun O=>?_)⟩
    .have Z:(2:Int)<=xs.length:=Ig O;refine⟨_,_,rfl,rfl,_,rfl,?_⟩;by_cases g2:(xs.length:Int)<=6
     .rw[Ic g2];refine cM ?_;refine⟨_,rfl,a,rfl,⟨xs,aU (B _ _ e)⟩,?_⟩;refine jH (xs:=xs) (fun i ys σ H'=>aV H1 H'/\ys=((ds.take i).map fun d=>V.str (lF d))/\∃ o,σ=[o]) ⟨aV.refl H1,rfl,none,rfl⟩ (aH (by omega)) (fun i ys σ H' p=>by rw[p.2.1,Ae,AN];omega) (fun i ys σ H' p=>aU (p.1 _ _ (B _ _ e))) ?_ ?_
      .rintro i y ys σ H' hy ⟨S,rfl,o,rfl⟩;dsimp only[cF];obtain⟨d',hd',r'⟩:=r.at hy;obtain⟨b,zs,rfl,hb,hat⟩:=wJ ((r'.same B).same S) (AX.mp g' d' (AH hd'));refine cG ?_;refine⟨_,rfl,b,zs,0,_,rfl,rfl,aU hb,hat,S,?_,_,rfl⟩;rw[Be,hd',A0];rfl
      .rintro ys σ H2 ⟨S,rfl,o,rfl⟩ D hD;have W:CY xs.length ds=ds:=AV (by omega);rw[W];have S1:=S.trans (aI (o:=.lst (ds.map fun d=>V.str (lF d))) hD);refine⟨D,ds.map lF,rfl,.inl (by rw[aF,B7];rfl),by rw[Ae];omega,fun H3 s3=>?_⟩;have q:=k' H3 ((B.trans S1).trans s3);rw[Ic (by omega),AK]at q;exact q
     .rw[Ie g2];refine cG ?_;exact J (by omega)
    .have Z:¬ (2:Int)<=xs.length:=fun z=>O (Ic z);refine⟨_,rfl,cG ?_⟩;exact J (by omega)
def aAr:List Aj->Bool
 | [d1,d2]=>aZ d1&&lG d2
 | _=>false
def wK:List Aj->Bool
 | [d1,d2]=>iY d1&&aZ d2
 | _=>false
theorem uP{ds:List Aj}(h:ds.length≠2):aAr ds=false:=by
 match ds,h with
 | [],_=>rfl
 | [_],_=>rfl
 | [_,_],z=>exact absurd rfl z
 | _::_::_::_,_=>rfl
theorem uQ{ds:List Aj}(h:ds.length≠2):wK ds=false:=by
 match ds,h with
 | [],_=>rfl
 | [_],_=>rfl
 | [_,_],z=>exact absurd rfl z
 | _::_::_::_,_=>rfl
theorem aGe:bM ["rest"] ["rest"] (aM pM):=⟨rfl,rfl,rfl,by decide,rfl,by decide,by decide⟩
theorem aEM{f:Ah}{fd:AC}(F:Fun K "fits_part" "fits_part" pM f fd)(T:Txt K mg)
  (Z:Cl P w K mg base 1 "is_name" ["thing"] fS)
  (GA:Cl P w K mg base 5 "are_parts" ["thing"] aEK):
  cN P w K mg base CX0 6 f fd ["rest"] (fG aAr):=by
 refine F.ok aGe (fun vs H Q E h=>?_) (fun Y A outer s H vs Q E O h=>?_)
 .obtain⟨m,x,d,rfl,_⟩:=h;rfl
 .obtain⟨m,x,ds,rfl,hx,k⟩:=h;have D:cY 1 _:=O.mono (by decide);refine⟨_,aJ (aO (c6 (dF cQ (aK aS (by rfl) T.len Aq (aD (pv 0) aA)) aE (aY _)) (c6 (aX Z D (aD (bJ cA (pv 0) aE Ih) aA)) (dL (aX GA O (aD (bJ cA (pv 0) aE Ih) aA)))))),?_⟩;cases hx with
  | @tup a xs _ e hl r=>
   have W:=r.len;refine⟨_,rfl,a,xs,rfl,.inr (aU e),rfl,_,rfl,?_⟩;by_cases hn:xs.length=2
   .rw[Ic (show V.int (xs.length:Int)=V.int 2 by rw[hn];rfl)];refine cG ?_
    match xs,ds,hn,r with
    | [x1,x2],[d1,d2],_,.cons r1 (.cons r2 .nil)=>
     have J:∀ H',aV H H'->Q (.bl (aZ d1&&lG d2)) H':=k;refine⟨_,rfl,a,_,0,_,rfl,rfl,aU e,rfl,m,x1,d1,rfl,r1,fun H1 B=>⟨_,rfl,?_⟩⟩;refine c8 (fun g=>?_) (fun g=>?_)
     .refine⟨_,rfl,a,_,1,_,rfl,rfl,aU (B _ _ e),rfl,m,x2,d2,rfl,r2.same B,fun H2 s2=>?_⟩;have q:=J H2 (B.trans s2);rw[g,AK]at q;exact q
     .have q:=J H1 B;rw[(by simpa using g:aZ d1=false)]at q;exact q
   .rw[Ie (show¬ V.int (xs.length:Int)=V.int 2 from fun z=>hn (by injection z with z;omega))];refine cM ?_;rw[uP (by omega)]at k;exact k H (aV.refl H)
theorem aGf:bM ["rest"] ["rest"] (aM pN):=⟨rfl,rfl,rfl,by decide,rfl,by decide,by decide⟩
theorem aEN{f:Ah}{fd:AC}(F:Fun K "fits_join" "fits_join" pN f fd)(T:Txt K mg)
  (Z:Cl P w K mg base 1 "is_name" ["thing"] fS)
  (GA:Cl P w K mg base 5 "are_lands" ["thing"] aEL):
  cN P w K mg base CX0 6 f fd ["rest"] (fG wK):=by
 refine F.ok aGf (fun vs H Q E h=>?_) (fun Y A outer s H vs Q E O h=>?_)
 .obtain⟨m,x,d,rfl,_⟩:=h;rfl
 .obtain⟨m,x,ds,rfl,hx,k⟩:=h;have D:cY 1 _:=O.mono (by decide);refine⟨_,aJ (aO (c6 (dF cQ (aK aS (by rfl) T.len Aq (aD (pv 0) aA)) aE (aY _)) (c6 (aX GA O (aD (bJ cA (pv 0) aE Ih) aA)) (dL (aX Z D (aD (bJ cA (pv 0) aE Ih) aA)))))),?_⟩;cases hx with
  | @tup a xs _ e hl r=>
   have W:=r.len;refine⟨_,rfl,a,xs,rfl,.inr (aU e),rfl,_,rfl,?_⟩;by_cases hn:xs.length=2
   .rw[Ic (show V.int (xs.length:Int)=V.int 2 by rw[hn];rfl)];refine cG ?_
    match xs,ds,hn,r with
    | [x1,x2],[d1,d2],_,.cons r1 (.cons r2 .nil)=>
     have J:∀ H',aV H H'->Q (.bl (iY d1&&aZ d2)) H':=k;refine⟨_,rfl,a,_,0,_,rfl,rfl,aU e,rfl,m,x1,d1,rfl,r1,fun H1 B=>⟨_,rfl,?_⟩⟩;refine c8 (fun g=>?_) (fun g=>?_)
     .refine⟨_,rfl,a,_,1,_,rfl,rfl,aU (B _ _ e),rfl,m,x2,d2,rfl,r2.same B,fun H2 s2=>?_⟩;have q:=J H2 (B.trans s2);rw[g,AK]at q;exact q
     .have q:=J H1 B;rw[(by simpa using g:iY d1=false)]at q;exact q
   .rw[Ie (show¬ V.int (xs.length:Int)=V.int 2 from fun z=>hn (by injection z with z;omega))];refine cM ?_;rw[uQ (by omega)]at k;exact k H (aV.refl H)
def dH:List Str:=["part","join","forfeit","measure","mend","alone","breach","view"]
def dI(kind:Str)(ds:List Aj):Bool:=
 if kind="part" then aAr ds else if kind="join" then wK ds else if kind="forfeit" then fT ds else if kind="measure" then iR ds else if kind="mend" then lE ds else if kind="alone" then lD ds else if kind="breach" then gK ds else lA ds
def fK:Aj->Bool
 | .tuple (.str kind::name::day::dR)=>decide (kind∈dH)&&(aZ name&&(cO 0 9999 day&&dI kind dR))
 | _=>false
inductive wL(vs:List V)(H:Hp)(Q:VK)(u3_:XK):Prop
 | mk (m:Bool) (x:V) (d:Aj) (q0:vs=[x]) (q1:RdV m H x d) (q2:∀ H',aV H H'->Q (.bl (fK d)) H'):wL vs H Q u3_
def jZ:Sp:=fun vs H Q u3_=>wL vs H Q u3_
theorem aBo{ds:List Aj}(h:ds.length<3):fK (.tuple ds)=false:=by
 match ds,h with
 | [],_=>rfl
 | [d],_=>cases d<;>rfl
 | [d,_],_=>cases d<;>rfl
theorem wM{B J D:Aj}{ds:List Aj}(h:kC B=false):fK (.tuple (B::J::D::ds))=false:=by
 cases B with
 | str z=>simp[kC]at h
 | _=>rfl
theorem oR:bM ["thing","kind","name","day","fits"] ["thing"] (aM aBb):=⟨rfl,rfl,rfl,by decide,rfl,by decide,by decide⟩
theorem aEO{f ra:Ah}{fd:AC}{ac:List (Key×Ab)}{fc:List (Key×V)}(F:Fun K "is_row" "is_row" aBb f fd)(T:Txt K mg)
  (ad:∀ h:A8,K.In h->h.DictOf (dE P w) ra ac) (rel:KV fc ac) (hz:(ra==sysModules)=false) (mF:mg "FORMS"=some (.ref ra))
  (W:∀ kind:Str,(gQ fc (AL kind)).isSome=decide (kind∈dH))
  (ao:∀(kind:Str) (v:V),gQ fc (AL kind)=some v->∃(a:Ah) (fd:AC),v=.ref a/\cN P w K mg base CX0 6 a fd ["rest"] (fG (dI kind))/\Az K (.ref a)=true/\dX K fd ["rest"] [])
  (GN:Cl P w K mg base 1 "is_name" ["thing"] fS)
  (GW:Cl P w K mg base 2 "is_whole" ["thing","least","most"] gZ):
  cN P w K mg base CX0 7 f fd ["thing"] jZ:=by
 refine F.ok oR (fun vs H Q E h=>?_) (fun ay A outer s H vs Q E hr h=>?_)
 .obtain⟨m,x,d,rfl,_⟩:=h;rfl
 .obtain⟨m,x,d,rfl,hx,k⟩:=h;have am:cY 1 _:=hr.mono (by decide);have ah:cY 2 _:=hr.mono (by decide);obtain⟨tl,hlast⟩:=T.lastDay;refine⟨_,aG (bX (PW.pt (dZ (cX (cE (aK bZ (by rfl) T.isi (by kernel_rfl) (aD (pv 0) (aD (cK (v:=.ty "tuple") (by rfl) T.tuple (by kernel_rfl) rfl) aA)))))
    (dU (aW yP (aK aS (by rfl) T.len Aq (aD (pv 0) aA)) aE (aY _))))) (aJ (aO eQ)) aT)
   (aG (jR (bK cP (pv 0) cC (bY aE)) (oW rfl (dB (bS (i:=1) oR.nd rfl (AA rfl)) (dB (bS (i:=2) oR.nd rfl (AA rfl)) (dB (bS (i:=3) oR.nd rfl (AA rfl)) lK)))))
   (aG (bX (PW.pt (dZ (cX (cE (aK bZ (by rfl) T.isi (by kernel_rfl) (aD (pv 1) (aD (cK (v:=.ty "str") (by rfl) T.str (by kernel_rfl) rfl) aA)))))
    (dU (aW (aCS ad rel hz) (pv 1) (cV (v:=.ref ra) (by rfl) mF rfl) (by with_unfolding_all rfl))))) (aJ (aO eQ)) aT)
   (aG (bX (PW.pt (dZ (cX (cE (aX GN am (aD (pv 2) aA)))) (dU (cX (cE (aX GW ah (aD (pv 3) (aD aE (aD (cV (v:=.int 9999) (by rfl) hlast ⟨_,rfl⟩) aA))))))))) (aJ (aO eQ)) aT)
   (aG (bE (i:=4) oR.nd rfl (AA rfl) (aFA ad rel (by rfl) mF (pv 1) Ih))
   (aJ (aO (zJ (k:=6) (ps:=["rest"]) (pv 4) hr (aD (bK cP (pv 0) (bY aE) cC) aA)))))))),?_⟩
  refine⟨_,rfl,_,"tuple",_,_,rfl,eV hx,fF d,_,rfl,?_⟩;cases hd:dQ d with
  | false=>
   have e:fK d=false:=by
    cases d with
    | tuple ds=>simp[dQ]at hd
    | _=>rfl
   rw[e]at k;exact k H (aV.refl H)
  | true=>
   obtain⟨ds,rfl⟩:∃ ds,d=.tuple ds:=by
    cases d with
    | tuple z=>exact⟨z,rfl⟩
    | _=>simp[dQ]at hd
   cases hx with
   | @tup a xs _ e hl r=>
    have ax:=r.len;refine cM ?_;refine⟨_,rfl,a,xs,rfl,.inr (aU e),_,_,rfl,rfl,_,rfl,?_⟩;by_cases hn:(xs.length:Int)<3
    .rw[Ic hn];refine cG ?_;rw[aBo (by omega)]at k;exact k H (aV.refl H)
    .rw[Ie hn];refine cM ?_;obtain⟨x1,J,O,B,rfl⟩:∃ x1 J O B,xs=x1::J::O::B:=by
      match xs,hn with
      | [],z=>exact absurd (by decide) z
      | [_],z=>exact absurd (show(1:Int)<3 by decide) z
      | [_,_],z=>exact absurd (show(2:Int)<3 by decide) z
      | a::b::c::r,_=>exact⟨a,b,c,r,rfl⟩
     cases r with
     | @cons _ d1 _ _ r1 r=>
     cases r with
     | @cons _ d2 _ _ r2 r=>
     cases r with
     | @cons _ d3 _ ds aj rr=>
     refine⟨_,rfl,_,rfl,a,_,rfl,e,fun t H1 Z ht=>?_⟩;have ec:d8 (x1::J::O::B) none (some 3)=[x1,J,O]:=mY (α:=Nat) (x1::J::O::B) 3;rw[ec]at ht;refine⟨t,_,rfl,aU ht,rfl,_,_,rfl,_,_,rfl,_,_,rfl,rfl,_,rfl,_,"str",_,_,rfl,eV (r1.same Z),oP d1,_,rfl,?_⟩;cases hk:kC d1 with
     | false=>
      rw[wM hk]at k;exact k H1 Z
     | true=>
      obtain⟨kind,rfl⟩:∃ z,d1=.str z:=by
       cases d1 with
       | str z=>exact⟨z,rfl⟩
       | _=>simp[kC]at hk
      cases r1;refine cM ?_;refine⟨_,rfl,AL kind,rfl,rfl,_,rfl,?_⟩;rw[W kind];have Y:∀ H',aV H H'->Q (.bl (decide (kind∈dH)&&(aZ d2&&(cO 0 9999 d3&&dI kind ds)))) H':=k;by_cases hw:kind∈dH
      .rw[Ic hw];refine cM ?_;rw[Ic hw,AK]at Y;refine⟨_,rfl,m,J,d2,rfl,r2.same Z,fun H2 s2=>⟨_,rfl,?_⟩⟩;have D:=Z.trans s2;cases g:aZ d2 with
       | false=>
        refine cG ?_;have q:=Y H2 D;rw[g]at q;exact q
       | true=>
        refine cM ?_;refine⟨_,rfl,m,O,d3,0,9999,rfl,aj.same D,_,rfl,?_⟩;cases g2:cO 0 9999 d3 with
        | false=>
         refine cG ?_;have q:=Y H2 D;rw[g,g2]at q;exact q
        | true=>
         refine cM ?_;have hs:=W kind;rw[Ic hw]at hs;obtain⟨v,hv⟩:=Option.isSome_iff_exists.mp hs;obtain⟨fa,fda,rfl,FG,fk,fb⟩:=ao kind v hv;refine⟨_,rfl,AL kind,_,rfl,hv,_,rfl,fa,fG (dI kind),rfl,⟨fda,FG,fk,fb⟩,_,rfl,_,rfl,a,_,rfl,D _ _ e,fun t2 H3 s3 aa=>?_⟩;have ed:d8 (V.str kind::J::O::B) (some 3) none=B:=kM (α:=Nat) (V.str kind::J::O::B) 3;rw[ed]at aa;refine⟨m,_,ds,rfl,.tup aa (by simp only[Ax]at hl;omega) ((rr.same D).same s3),fun H4 s4=>?_⟩;have q:=Y H4 ((D.trans s3).trans s4);rw[g,g2,AK,AK]at q;exact q
      .rw[Ie hw];refine cG ?_;have q:=Y H1 Z;rw[Ie hw]at q;exact q
def aB7:Aj->Bool|.list _=>true|_=>false
def dA:Aj->Bool|.list _=>true|.tuple _=>true|_=>false
theorem yH{K:Af}(d:Aj):Bu K (.type (tyN d)) (.type "list")=some (aB7 d):=by
 cases d<;>dsimp only[tyN,aB7]<;>first|exact kK|exact tN (by decide) (by decide) (by decide)
theorem oS{K:Af}(d:Aj):Dr K (.type (tyN d)) [.type "list",.type "tuple"]=some (dA d):=by
 simp only[Dr,yH,fF];cases d<;>rfl
def cI:Nat->Aj->Aj
 | 0,d=>d
 | n+1,.list ds=>.tuple (ds.map (cI n))
 | n+1,.tuple ds=>.tuple (ds.map (cI n))
 | _+1,d=>d
inductive aEP(n:Nat)(vs:List V)(H:Hp)(Q:VK)(u3_:XK):Prop
 | mk (m:Bool) (x:V) (d:Aj) (q0:vs=[x,.int n]) (q1:RdV m H x d) (q2:∀ y H',aV H H'->RdV m H' y (cI n d)->Q y H'):aEP n vs H Q u3_
def aGg(n:Nat):Sp:=fun vs H Q u3_=>aEP n vs H Q u3_
theorem aEQ{f:Ah}{fd:AC}{k:Nat}{ps:List Str}:cN P w K mg base CX0 k f fd ps (fun _ _ _ _=>False):=by
 constructor
 .intro _ _ _ _ h;exact h.elim
 .intros;contradiction
theorem aIM:bM ["thing","deep"] ["thing","deep"] (aM kY):=⟨rfl,rfl,rfl,by decide,rfl,by decide,by decide⟩
theorem aHN{f:Ah}{fd:AC}(F:Fun K "as_tuples" "as_tuples" kY f fd)(T:Txt K mg)(z:mg "list"=none)(mA:mg "as_tuples"=some (.ref f))(D:Az K (.ref f)=true)(O:dX K fd ["thing","deep"] []):
  cN P w K mg base CX0 1 f fd ["thing","deep"] (aGg 0):=by
 refine F.ok aIM (fun vs H Q E h=>?_) (fun B A outer s H vs Q E J h=>?_)
 .obtain⟨m,x,d,rfl,_⟩:=h;rfl
 .obtain⟨m,x,d,rfl,hx,k⟩:=h;have G:cN P w K mg base CX0 0 f fd ["thing","deep"] (fun _ _ _ _=>False):=aEQ;refine⟨_,aG (bX (PW.pt (dZ (aW cQ (pv 1) aE (aY _)) (dU (cX (cE (aK fX (by rfl) T.isi (by kernel_rfl) (aD (pv 0) (aD (bU (aD (cK (v:=.ty "list") (by rfl) z (by kernel_rfl) rfl) (aD (cK (v:=.ty "tuple") (by rfl) T.tuple (by kernel_rfl) rfl) aA))) aA)))))))) (aJ (aO (pv 0))) aT)
   (aJ (aO (cH cS (by rfl) T.tuple (by kernel_rfl) (aD (fM (N:=["inner","deep"]) (src:=[none,some 1]) (osc:=aM kY) (oN:=["thing","deep"]) ⟨by rfl,by decide,by decide,by decide,rfl,by rfl⟩ (jT (pv 0))
     fun W s H Y dz C=>⟨bS (i:=0) (show(["inner","deep"]:List Str).Nodup by decide) rfl (AA rfl),dY,dP G J rfl mA D O .nil f6 (aD (pv 0) (aD (aQ gO (pv 1) aE) aA))⟩) aA)))),?_⟩
  refine⟨_,rfl,rfl,_,rfl,?_⟩;rw[Ic (show V.int ((0:Nat):Int)=V.int 0 from rfl)];refine cG ?_;exact⟨_,rfl,k _ _ (aV.refl H) hx⟩
theorem aBp{f:Ah}{fd:AC}(F:Fun K "as_tuples" "as_tuples" kY f fd)(T:Txt K mg)(B:mg "list"=none)(mA:mg "as_tuples"=some (.ref f))(kA:Az K (.ref f)=true)(bA:dX K fd ["thing","deep"] []){n:Nat}
  (G:cN P w K mg base CX0 (n+1) f fd ["thing","deep"] (aGg n)):cN P w K mg base CX0 (n+2) f fd ["thing","deep"] (aGg (n+1)):=by
 refine F.ok aIM (fun vs H Q E h=>?_) (fun ap A outer s H vs Q E hr h=>?_)
 .obtain⟨m,x,d,rfl,_⟩:=h;rfl
 .obtain⟨m,x,d,rfl,hx,k⟩:=h;by_cases hs:dA d=true
  .cases d with
   | list ds=>
    cases hx with
    | @lst a xs _ hm e hl r=>
     have ac:=r.len;refine⟨_,aG (bX (PW.pt (dZ (aW cQ (pv 1) aE (aY _)) (dU (cX (cE (aK fX (by rfl) T.isi (by kernel_rfl) (aD (pv 0) (aD (bU (aD (cK (v:=.ty "list") (by rfl) B (by kernel_rfl) rfl) (aD (cK (v:=.ty "tuple") (by rfl) T.tuple (by kernel_rfl) rfl) aA))) aA)))))))) (aJ (aO (pv 0))) aT)
    (aJ (aO (cH cS (by rfl) T.tuple (by kernel_rfl) (aD (fM (N:=["inner","deep"]) (src:=[none,some 1]) (osc:=aM kY) (oN:=["thing","deep"]) ⟨by rfl,by decide,by decide,by decide,rfl,by rfl⟩ (jS (pv 0))
      fun cl s H fp dz C=>⟨bS (i:=0) (show(["inner","deep"]:List Str).Nodup by decide) rfl (AA rfl),dY,dP G hr rfl mA kA bA .nil f6 (aD (pv 0) (aD (aQ gO (pv 1) aE) aA))⟩) aA)))),?_⟩
     refine⟨_,rfl,rfl,_,rfl,?_⟩;rw[Ie (show¬ V.int ((n+1:Nat):Int)=V.int 0 from fun z=>by injection z with z;omega)];refine cM ?_;refine⟨_,rfl,zZ2,fun q Z=>?_⟩;have sq:=aI (o:=.tup [V.ty "list",.ty "tuple"]) Z;refine⟨_,q,"list","tuple",_,_,rfl,aF,jA.lst (sq _ _ e),oS (.list ds),_,rfl,cM ?_⟩;generalize upd H q (.tup [V.ty "list",.ty "tuple"])=H1 at sq ⊢;refine⟨_,rfl,a,rfl,⟨xs,bB (sq _ _ e)⟩,?_⟩;refine iH (xs:=xs) (fun i ys σ H'=>aV H H'/\c9 m H' ys ((ds.take i).map (cI n))/\∃ o,σ=[o,some (.int ((n+1:Nat):Int))]) ⟨sq,by rw[List.take_zero];exact .nil,none,rfl⟩ (aH (by omega)) (fun i ys σ H' p=>by have:=p.2.1.len;rw[Ae,AN]at this;omega) (fun i ys σ H' p=>bB (p.1 _ _ e)) ?_ ?_
     .rintro i y ys σ H' hy ⟨S,J,o,rfl⟩;dsimp only[cF];obtain⟨d',hd',r'⟩:=r.at hy;refine cG ?_;refine⟨_,rfl,_,rfl,_,_,rfl,rfl,m,y,d',(by show[y,V.int (((n+1:Nat):Int)-1)]++[]=_;rw[show(((n+1:Nat):Int)-1)=(n:Int) by omega];rfl),r'.same S,fun y2 H2 s2 r2=>⟨S.trans s2,?_,_,rfl⟩⟩;rw[Be,hd',A0];exact c9.app (J.same s2) (.cons r2 .nil)
     .rintro ys σ H2 ⟨S,J,o,rfl⟩ D hD;have W:CY xs.length ds=ds:=AV (by omega);rw[W]at J;have sD:=aI (o:=.lst ys) hD;refine⟨D,ys,rfl,.inl ⟨bB aF,fun t ht=>?_⟩⟩;have sT:=aI (o:=.tup ys) ht;have O:=J.len;rw[Ae]at O;exact k _ _ ((S.trans sD).trans sT) (.tup aF (by omega) ((J.same sD).same sT))
   | tuple ds=>
    cases hx with
    | @tup a xs _ e hl r=>
     have ac:=r.len;refine⟨_,aG (bX (PW.pt (dZ (aW cQ (pv 1) aE (aY _)) (dU (cX (cE (aK fX (by rfl) T.isi (by kernel_rfl) (aD (pv 0) (aD (bU (aD (cK (v:=.ty "list") (by rfl) B (by kernel_rfl) rfl) (aD (cK (v:=.ty "tuple") (by rfl) T.tuple (by kernel_rfl) rfl) aA))) aA)))))))) (aJ (aO (pv 0))) aT)
    (aJ (aO (cH cS (by rfl) T.tuple (by kernel_rfl) (aD (fM (N:=["inner","deep"]) (src:=[none,some 1]) (osc:=aM kY) (oN:=["thing","deep"]) ⟨by rfl,by decide,by decide,by decide,rfl,by rfl⟩ (jT (pv 0))
      fun cl s H fp dz C=>⟨bS (i:=0) (show(["inner","deep"]:List Str).Nodup by decide) rfl (AA rfl),dY,dP G hr rfl mA kA bA .nil f6 (aD (pv 0) (aD (aQ gO (pv 1) aE) aA))⟩) aA)))),?_⟩
     refine⟨_,rfl,rfl,_,rfl,?_⟩;rw[Ie (show¬ V.int ((n+1:Nat):Int)=V.int 0 from fun z=>by injection z with z;omega)];refine cM ?_;refine⟨_,rfl,zZ2,fun q Z=>?_⟩;have sq:=aI (o:=.tup [V.ty "list",.ty "tuple"]) Z;refine⟨_,q,"list","tuple",_,_,rfl,aF,jA.tup (sq _ _ e),oS (.tuple ds),_,rfl,cM ?_⟩;generalize upd H q (.tup [V.ty "list",.ty "tuple"])=H1 at sq ⊢;refine⟨_,rfl,a,rfl,⟨xs,aU (sq _ _ e)⟩,?_⟩;refine jH (xs:=xs) (fun i ys σ H'=>aV H H'/\c9 m H' ys ((ds.take i).map (cI n))/\∃ o,σ=[o,some (.int ((n+1:Nat):Int))]) ⟨sq,by rw[List.take_zero];exact .nil,none,rfl⟩ (aH (by omega)) (fun i ys σ H' p=>by have:=p.2.1.len;rw[Ae,AN]at this;omega) (fun i ys σ H' p=>aU (p.1 _ _ e)) ?_ ?_
     .rintro i y ys σ H' hy ⟨S,J,o,rfl⟩;dsimp only[cF];obtain⟨d',hd',r'⟩:=r.at hy;refine cG ?_;refine⟨_,rfl,_,rfl,_,_,rfl,rfl,m,y,d',(by show[y,V.int (((n+1:Nat):Int)-1)]++[]=_;rw[show(((n+1:Nat):Int)-1)=(n:Int) by omega];rfl),r'.same S,fun y2 H2 s2 r2=>⟨S.trans s2,?_,_,rfl⟩⟩;rw[Be,hd',A0];exact c9.app (J.same s2) (.cons r2 .nil)
     .rintro ys σ H2 ⟨S,J,o,rfl⟩ D hD;have W:CY xs.length ds=ds:=AV (by omega);rw[W]at J;have sD:=aI (o:=.lst ys) hD;refine⟨D,ys,rfl,.inl ⟨bB aF,fun t ht=>?_⟩⟩;have sT:=aI (o:=.tup ys) ht;have O:=J.len;rw[Ae]at O;exact k _ _ ((S.trans sD).trans sT) (.tup aF (by omega) ((J.same sD).same sT))
   | _=>simp[dA]at hs
  .have Y:dA d=false:=by simpa using hs
   have et:cI (n+1) d=d:=by
    cases d with
    | list ds=>simp[dA]at Y
    | tuple ds=>simp[dA]at Y
    | _=>rfl
   rw[et]at k;refine⟨_,aG (bX (PW.pt (dZ (aW cQ (pv 1) aE (aY _)) (dU (cX (cE (aK fX (by rfl) T.isi (by kernel_rfl) (aD (pv 0) (aD (bU (aD (cK (v:=.ty "list") (by rfl) B (by kernel_rfl) rfl) (aD (cK (v:=.ty "tuple") (by rfl) T.tuple (by kernel_rfl) rfl) aA))) aA)))))))) (aJ (aO (pv 0))) aT)
   (aJ (aO (cH cS (by rfl) T.tuple (by kernel_rfl) (aD (fM (N:=["inner","deep"]) (src:=[none,some 1]) (osc:=aM kY) (oN:=["thing","deep"]) ⟨by rfl,by decide,by decide,by decide,rfl,by rfl⟩ (jT (pv 0))
     fun cl s H fp dz C=>⟨bS (i:=0) (show(["inner","deep"]:List Str).Nodup by decide) rfl (AA rfl),dY,dP G hr rfl mA kA bA .nil f6 (aD (pv 0) (aD (aQ gO (pv 1) aE) aA))⟩) aA)))),?_⟩
   refine⟨_,rfl,rfl,_,rfl,?_⟩;rw[Ie (show¬ V.int ((n+1:Nat):Int)=V.int 0 from fun z=>by injection z with z;omega)];refine cM ?_;refine⟨_,rfl,zZ2,fun q Z=>?_⟩;have sq:=aI (o:=.tup [V.ty "list",.ty "tuple"]) Z;refine⟨_,q,"list","tuple",_,_,rfl,aF,eV (hx.same sq),oS d,_,rfl,?_⟩;rw[Y];refine cG ?_;exact⟨_,rfl,k _ _ sq (hx.same sq)⟩
theorem aER{H:Hp}{p c a:Ah}{ns:List Int}{t:Int}{o:HO}(z:cR H p c ns t)(e:H a=some o)(h:∀ b r,o≠.dK ((AL "cells",V.ref b)::r)):a≠p:=by
 obtain⟨l,_,e2⟩:=z.ob;exact aDq e e2 (h _ _)
theorem aB8{m:Bool}{H H':Hp}{p c:Ah}{ns:List Int}{t:Int}{x:List V}{d:List Aj}(r:c9 m H x d)(z:cR H p c ns t)(k:bC p H H'):c9 m H' x d:=r.keep fun a o e h=>k a o e (aER z e h)
theorem eZ{H H':Hp}{p c a:Ah}{ns:List Int}{t:Int}{xs:List V}(e:H a=some (.lst xs))(B:cR H p c ns t)(k:bC p H H'):H' a=some (.lst xs):=k a _ e (aER B e (fun _ _ z=>nomatch z))
inductive aB9(vs:List V)(H:Hp)(Q:VK)(u3_:XK):Prop
 | mk (p c:Ah) (ns:List Int) (a lo hi:Int) (q0:vs=[.ref p,.int lo,.int hi]) (q1:cR H p c ns a) (q2:a<=900000) (q3:0<=lo) (q4:lo<=hi) (q5:hi<=10^9) (q6:∀ n a' H',lo<=n->n<=hi->a<=a'->a'<=a+3->cR H' p c ns a'->bC p H H'->Q (.int n) H'):aB9 vs H Q u3_
def aES:Sp:=fun vs H Q u3_=>aB9 vs H Q u3_
theorem aET:bM ["_law_pen_here","_law_bottom","_law_most","_law_way","_law_near"] ["_law_pen_here","_law_bottom","_law_most"] (aM x8):=⟨rfl,rfl,rfl,by decide,rfl,by decide,by decide⟩
theorem aHO{f:Ah}{fd:AC}(F:Fun K "_law_number" "_law_number" x8 f fd)(z:mg "min"=none)(GT:Cl P w K mg base 1 "_law_take" ["_law_pen_here","_law_many"] gJ):
  cN P w K mg base CX0 2 f fd ["_law_pen_here","_law_bottom","_law_most"] aES:=by
 refine F.ok aET (fun vs H Q E h=>?_) (fun ah A outer s H vs Q E Y h=>?_)
 .obtain⟨p,c,ns,a,lo,hi,rfl,_⟩:=h;rfl
 .obtain⟨p,c,ns,a,lo,hi,rfl,hp,ha,h0,h1,h2,k⟩:=h;refine⟨_,aG (bE (i:=3) aET.nd rfl (AA rfl) (aX GT Y (aD (pv 0) (aD aE aA))))
   (aG (bE (i:=4) aET.nd rfl (AA rfl) (aQ cT (pv 1) (aX GT Y (aD (pv 0) (aD (aK (vL rfl) (by rfl) z (by kernel_rfl) (aD aE (aD (aQ cT (aQ gO (pv 2) (pv 1)) aE) aA))) aA)))))
   (aJ (aO (bJ c4 (dN (aD (pv 1) (aD (pv 2) (aD (pv 4) (aD (aQ cT (pv 1) (aX GT Y (aD (pv 0) (aD (aQ cT (aQ gO (pv 2) (pv 1)) aE) aA)))) aA))))) (pv 3) Ih)))),?_⟩
  have b9:(10:Int)^9+1<2^512:=by decide
  have e9:(10:Int)^9=1000000000:=by decide
  refine⟨_,rfl,p,c,ns,a,_,rfl,hp,by omega,by decide,by decide,fun J a1 H1 ad ak l1 u1 O W=>?_⟩;refine⟨_,rfl,_,rfl,_,rfl,_,rfl,_,_,rfl,rfl,_,_,rfl,rfl,_,_,rfl,?_⟩;obtain⟨B,hmm,m0,m1⟩:∃ B:Int,(if hi-lo+1<12 then hi-lo+1 else 12)=B/\0<B/\B<=hi-lo+1:=by
   refine⟨_,rfl,?_⟩;split<;>omega
  rw[hmm];refine⟨p,c,ns,a1,_,rfl,O,by omega,m0,by omega,fun r2 a2 H2 ai an l2 u2 ac ae=>?_⟩;refine⟨_,_,rfl,rfl,_,rfl,_,rfl,_,rfl,_,rfl,_,rfl,_,rfl,_,rfl,_,_,rfl,rfl,_,_,rfl,rfl,p,c,ns,a2,_,rfl,ac,by omega,by omega,by omega,fun r3 a3 H3 ao am l3 u3 D Z=>?_⟩;refine⟨_,_,rfl,rfl,zZ4,fun q hq=>?_⟩;have sq:=aI (o:=.lst [V.int lo,.int hi,.int (lo+r2),.int (lo+r3)]) hq;obtain⟨v,hv,hat⟩:=pF (xs:=[V.int lo,.int hi,.int (lo+r2),.int (lo+r3)]) (i:=J) ad (by show J<4;omega);obtain⟨n,rfl,hn0,hn1⟩:∃ n:Int,v=.int n/\lo<=n/\n<=hi:=by
   simp only[Am,An,or_false]at hv;rcases hv with rfl|rfl|rfl|rfl
   .exact⟨_,rfl,by omega,by omega⟩
   .exact⟨_,rfl,by omega,by omega⟩
   .exact⟨_,rfl,by omega,by omega⟩
   .exact⟨_,rfl,by omega,by omega⟩
  exact⟨_,rfl,q,_,J,_,rfl,rfl,bB aF,hat,k n a3 _ hn0 hn1 (by omega) (by omega) (D.same sq) (((W.trans ae).trans Z).same sq)⟩
open PySem L2 PyProof.Rows
theorem m9{α:Type}:∀(l:List α) (j:Nat) (y:α),l[j]?=some y->(y::l.eraseIdx j).Perm l
 | [],j,y,h=>by simp at h
 | x::r,0,y,h=>by
  simp at h;subst h;simp
 | x::r,j+1,y,h=>by
  simp at h;have z:=m9 r j y h;rw[List.eraseIdx_cons_succ];exact(List.Perm.swap x y _).trans (z.cons x)
theorem wN{α β:Type}(f:α->β):∀(l:List α) (j:Nat),(l.map f).eraseIdx j=(l.eraseIdx j).map f
 | [],j=>by simp
 | x::r,0=>by simp
 | x::r,j+1=>by simp[wN f r j]
inductive wO(vs:List V)(H:Hp)(Q:VK)(u3_:XK):Prop
 | mk (p c:Ah) (ns:List Int) (a:Int) (nf nr:Nat) (q0:vs=[.ref p,.int nf,.int nr]) (q1:cR H p c ns a) (q2:a<=800000) (q3:nf<=44) (q4:nr<=44) (q5:∀(t l1 l2 l3 l4:Ah) (ws ps hs rs:List Str) (a':Int) (H':Hp),H' t=some (.tup [.ref l1,.ref l2,.ref l3,.ref l4])->H' l1=some (.lst (ws.map V.str))->ws.length=nf->Nms ws->H' l2=some (.lst (ps.map V.str))->ps.length=10->Nms ps->H' l3=some (.lst (hs.map V.str))->hs.length=5->Nms hs->H' l4=some (.lst (rs.map V.str))->rs.length=nr->Nms rs->a<=a'->a'<=a+200->cR H' p c ns a'->bC p H H'->Q (.ref t) H'):wO vs H Q u3_
def aCa:Sp:=fun vs H Q u3_=>wO vs H Q u3_
inductive aAs(vs:List V)(H:Hp)(Q:VK)(u3_:XK):Prop
 | mk (p c:Ah) (ns:List Int) (a:Int) (l:Ah) (ws:List Str) (m:Nat) (q0:vs=[.ref p,.ref l,.int m]) (q1:cR H p c ns a) (q2:a<=800000) (q3:H l=some (.lst (ws.map V.str))) (q4:ws.length=10) (q5:m<=6) (q6:∀(q:Ah) (ms:List Str) (a':Int) (H':Hp),H' q=some (.lst (ms.map V.str))->ms.length=m->sortedS ms=true->(∃ us vs:List Str,ms.Perm us/\(us++vs).Perm ws)->a<=a'->a'<=a+10->cR H' p c ns a'->bC p H H'->Q (.ref q) H'):aAs vs H Q u3_
def aEU:Sp:=fun vs H Q u3_=>aAs vs H Q u3_
theorem qY:bM ["_law_pen_here","_law_fields","_law_rows","_law_some_here","_law_plots","_law_houses"] ["_law_pen_here","_law_fields","_law_rows"] (aM aBc):=⟨rfl,rfl,rfl,by decide,rfl,by decide,by decide⟩
theorem aEV{f:Ah}{fd:AC}(F:Fun K "_law_sorts" "_law_sorts" aBc f fd)
  (GT:Cl P w K mg base 1 "_law_take" ["_law_pen_here","_law_many"] gJ)
  (GN:Cl P w K mg base 2 "_law_names" ["_law_pen_here","_law_many"] aB4):
  cN P w K mg base CX0 3 f fd ["_law_pen_here","_law_fields","_law_rows"] aCa:=by
 refine F.ok qY (fun vs H Q E h=>?_) (fun bI A outer s H vs Q E hr h=>?_)
 .obtain⟨p,c,ns,a,nf,nr,rfl,_⟩:=h;rfl
 .obtain⟨p,c,ns,a,nf,nr,rfl,hp,ha,hf,hrr,k⟩:=h;have bg:cY 1 _:=hr.mono (by decide);refine⟨_,aG (bX (aW cQ (aX GT bg (aD (pv 0) (aD aE aA))) aE (aY _))
    (aG (bE (i:=3) qY.nd rfl (AA rfl) (aX GN hr (aD (pv 0) (aD aE aA))))
    (aJ (aO (bU (aD (bK nP (pv 3) cC (bY (pv 1))) (aD (bK nP (pv 3) cC (bY aE)) (aD (bK nP (pv 3) cC (bY aE)) (aD (bK nP (pv 3) cC (bY (pv 2))) aA)))))))) aT)
   (aG (bE (i:=4) qY.nd rfl (AA rfl) (aX GN hr (aD (pv 0) (aD aE aA))))
   (aG (bE (i:=5) qY.nd rfl (AA rfl) (aX GN hr (aD (pv 0) (aD aE aA))))
   (aJ (aO (bU (aD (aX GN hr (aD (pv 0) (aD (pv 1) aA))) (aD (pv 4) (aD (pv 5) (aD (aX GN hr (aD (pv 0) (aD (pv 2) aA))) aA))))))))),?_⟩
  refine⟨_,rfl,p,c,ns,a,_,rfl,hp,by omega,by decide,by decide,fun r1 a1 H1 bP b0 l1 u1 ai ae=>?_⟩;refine⟨rfl,_,rfl,?_⟩;have z4:(4:Nat)<=sizeLine:=aH (by decide);refine c8 (fun g=>?_) (fun g=>?_)
  .refine⟨_,rfl,p,c,ns,a1,44,rfl,ai,by omega,by omega,fun L B a2 H2 nL hL bR hN l2 u2 W aa=>?_⟩;have ec:∀ n:Nat,d8 (B.map V.str) none (some (n:Int))=(B.take n).map V.str:=fun n=>by rw[mY (α:=Nat),List.map_take]
   have an:d8 (B.map V.str) none (some 10)=(B.take 10).map V.str:=ec 10;have aw:d8 (B.map V.str) none (some 5)=(B.take 5).map V.str:=ec 5;refine⟨_,rfl,_,rfl,_,rfl,L,_,rfl,bB hL,fun q1 bb=>?_⟩;rw[ec nf];have s1:=aI (o:=.lst ((B.take nf).map V.str)) bb;refine⟨_,rfl,_,rfl,L,_,rfl,bB (s1 _ _ hL),fun q2 be=>?_⟩;rw[an];have aj:=aI (o:=.lst ((B.take 10).map V.str)) be;have s2:=s1.trans aj;refine⟨_,rfl,_,rfl,L,_,rfl,bB (s2 _ _ hL),fun q3 av=>?_⟩;rw[aw];have ac:=aI (o:=.lst ((B.take 5).map V.str)) av;have s3:=s2.trans ac;refine⟨_,rfl,_,rfl,_,rfl,L,_,rfl,bB (s3 _ _ hL),fun q4 au=>?_⟩;rw[ec nr];have J:=aI (o:=.lst ((B.take nr).map V.str)) au;have s4:=s3.trans J;refine⟨z4,fun t ht=>?_⟩;have z:=aI (o:=.tup [V.ref q1,.ref q2,.ref q3,.ref q4]) ht;have s5:=s4.trans z;refine k t q1 q2 q3 q4 (B.take nf) (B.take 10) (B.take 5) (B.take nr) a2 _ aF (z _ _ (J _ _ (ac _ _ (aj _ _ aF)))) (by rw[AN];omega) (hN.take nf) (z _ _ (J _ _ (ac _ _ aF))) (by rw[AN];omega) (hN.take 10) (z _ _ (J _ _ aF)) (by rw[AN];omega) (hN.take 5) (z _ _ aF) (by rw[AN];omega) (hN.take nr) (by omega) (by omega) (W.same s5) ((ae.trans aa).same s5)
  .refine⟨_,rfl,p,c,ns,a1,10,rfl,ai,by omega,by omega,fun L1 aB a2 H2 bT aC ah aL l2 u2 W aa=>?_⟩;refine⟨_,rfl,p,c,ns,a2,5,rfl,W,by omega,by omega,fun L2 az a3 H3 bW bc ao ba l3 u3 Z ag=>?_⟩;refine⟨_,rfl,_,rfl,p,c,ns,a3,nf,rfl,Z,by omega,by omega,fun L3 bh a4 H4 bA ax am a0 l4 u4 O Y=>?_⟩;refine⟨_,rfl,_,rfl,_,rfl,_,rfl,p,c,ns,a4,nr,rfl,O,by omega,by omega,fun L4 ar a5 H5 bH aR ak ay l5 u5 bf D=>?_⟩;refine⟨z4,fun t ht=>?_⟩;have z:=aI (o:=.tup [V.ref L3,.ref L1,.ref L2,.ref L4]) ht;exact k t L3 L1 L2 L4 bh aB az ar a5 _ aF (z _ _ (eZ ax O D)) am a0 (z _ _ (eZ (eZ (eZ aC W ag) Z Y) O D)) ah aL (z _ _ (eZ (eZ bc Z Y) O D)) ao ba (z _ _ aR) ak ay (by omega) (by omega) (bf.same z) (((((ae.trans aa).trans ag).trans Y).trans D).same z)
theorem aBq:bM ["_law_pen_here","_law_names_here","_law_many","_law_left","_law_found"] ["_law_pen_here","_law_names_here","_law_many"] (aM aB0):=⟨rfl,rfl,rfl,by decide,rfl,by decide,by decide⟩
theorem aGh{f:Ah}{fd:AC}(F:Fun K "_law_some" "_law_some" aB0 f fd)(Z:mg "list"=none)(ad:mg "range"=none)(af:mg "sorted"=none)(ae:mg "len"=none)
  (GT:Cl P w K mg base 1 "_law_take" ["_law_pen_here","_law_many"] gJ):
  cN P w K mg base CX0 2 f fd ["_law_pen_here","_law_names_here","_law_many"] aEU:=by
 refine F.ok aBq (fun vs H Q E h=>?_) (fun aL A outer s H vs Q E hr h=>?_)
 .obtain⟨p,c,ns,a,l,ws,m,rfl,_⟩:=h;rfl
 .obtain⟨p,c,ns,a,l,ws,m,rfl,hp,ha,hl,hwl,hm,k⟩:=h;refine⟨_,aG (bE (i:=3) aBq.nd rfl (FO rfl) (cH gH (by rfl) Z (by kernel_rfl) (aD (pv 1) aA)))
   (aG (f8 (i:=4) (N:=["_law_k","_law_left","_law_pen_here"]) (src:=[none,some 3,some 0]) (osc:=aM aB0) (oN:=["_law_pen_here","_law_names_here","_law_many","_law_left","_law_found"]) ⟨by rfl,by decide,by decide,by decide,rfl,by rfl⟩ aBq.nd rfl
     (fU rfl ad (aD (pv 2) aA))
     fun cl s H fp dz C=>⟨bS (i:=0) (show(["_law_k","_law_left","_law_pen_here"]:List Str).Nodup by decide) rfl (AA rfl),dY,aD5 (K:=K) Ce PySem.F.slot_list_pop PySem.F.type_list_pop yU (pv 1) (aD (aX GT hr (aD (pv 2) (aD (aK (r:=gG K) aS (by rfl) ae Aq (aD (pv 1) aA)) aA))) aA)⟩)
   (aJ (aO (aK oE (by rfl) af (by kernel_rfl) (aD (pv 4) aA))))),?_⟩
  refine⟨_,rfl,l,_,rfl,.inl (bB hl),fun L hL=>?_⟩;have s0:=aI (o:=.lst (ws.map V.str)) hL;have av:L≠p:=by
   obtain⟨z,_,e⟩:=hp.ob;exact(bG e hL).symm
  have ao:L≠c:=(bG hp.ce hL).symm;refine⟨_,rfl,m,rfl,by omega,by omega,?_⟩;refine iL (fun i ys σ' H'=>Ex3 fun(a':Int) (B vs:List Str)=>∃(o:Option V),Aw6 (σ'=[o,some (.ref L),some (.ref p)]) (cR H' p c ns a') (bC p H H') (a<=a') (a'<=a+i) (Aw3 (ys=B.map V.str) (B.length=i) (Aw3 (H' L=some (.lst (vs.map V.str))) (vs.length+i=10) ((B++vs).Perm ws))))
   ⟨a,[],ws,none,rfl,hp.same s0,aV.but s0,by omega,by omega,rfl,rfl,aF,by omega,Do _⟩ (aH (by omega)) (fun i ys σ H p=>by obtain⟨_,B,_,_,_,_,_,_,_,rfl,e,_⟩:=p;rw[Ae,e];exact Ak _) ?_ ?_
  .rintro i ys σ' H1 hi ⟨a1,B,vs,o,rfl,J,Y,aq,aj,rfl,W,O,an,aa⟩;dsimp only[cF];refine cG ?_;refine⟨_,rfl,.inl ⟨rfl,_,bB O⟩,_,rfl,_,rfl,L,_,rfl,.inl (bB O),p,c,ns,a1,_,rfl,J,by omega,by rw[Ae];omega,by rw[Ae];omega,fun r1 a2 H2 bf ak be ba ap ag=>?_⟩;rw[Ae]at ak;obtain⟨j,rfl⟩:∃ j:Nat,r1=j:=⟨r1.toNat,by omega⟩
   have ar:=eZ O J ag;obtain⟨y,hy⟩:∃ y,vs[j]?=some y:=⟨_,Ag (by omega)⟩
   have au:seqIndex? (j:Int) (vs.map V.str).length=some j:=by
    rw[Ae];unfold seqIndex?;simp;omega
   refine⟨L,_,_,j,V.str y,rfl,rfl,ar,by omega,by omega,au,by rw[Bs,hy];rfl,?_⟩;refine⟨a2,B++[y],vs.eraseIdx j,_,rfl,?_,?_,by omega,by omega,by rw[A0];rfl,by rw[Al,W];rfl,?_,?_,?_⟩
   .obtain⟨⟨z,hz,e⟩,ce,ge,sm⟩:=ap;exact⟨⟨z,hz,by rw[bD av.symm];exact e⟩,by rw[bD ao.symm];exact ce,ge,sm⟩
   .intro b o e ne;rw[bD (bG e hL)];exact(Y.trans ag) b o e ne
   .rw[aF];congr 2;exact wN V.str vs j
   .rw[Cs (by omega)];omega
   .rw[A2];exact(Bi B (m9 vs j y hy)).trans aa
  .rintro ys σ' H1 ⟨a1,B,vs,o,rfl,J,Y,aq,aj,rfl,W,O,an,aa⟩ D hD;have sD:=aI (o:=.lst (B.map V.str)) hD;refine⟨_,rfl,D,B,rfl,bB aF,by omega,fun q ms hq ac aw=>?_⟩;have s2:=aI (o:=.lst (ms.map V.str)) hq;exact k q ms a1 _ aF (by rw[ac.length_eq,W];omega) aw ⟨B,vs,ac,aa⟩ (by omega) (by omega) ((J.same sD).same s2) ((Y.same sD).same s2)
theorem uR{B J:List Str}(Y:J.Perm (p5 B))(Z:sortedS J=true):decide (B=J)=eI B:=by
 unfold eI;rw[decide_eq_decide];have D:=iG J Z;constructor
 .rintro rfl;have hn:B.Nodup:=Y.nodup_iff.mpr (m6 B);have h2:=D.and hn;refine h2.imp fun{a b} h=>?_;rcases Decidable.em (a.cps.toList<b.cps.toList)with z|z
  .exact z
  .exact absurd (xS (Fk (DV.mp h.1) (DV.mp z))) h.2
 .intro h;have hn:B.Nodup:=h.imp fun{a b} z e=>by
   subst e;exact List.lt_irrefl _ z
  have h2:B.Pairwise fun a b=>¬ b.cps.toList<a.cps.toList:=h.imp fun{a b} z y=>List.lt_irrefl _ (List.lt_trans z y);have W:(p5 B).Perm B:=by
   refine iF B (p5 B) hn (fun x O=>(zU B x).mpr O) ?_;have:=iF (p5 B) B (m6 B) (fun x O=>(zU B x).mp O);have h1:=(aCR B)
   rw[Ic hn]at h1;have h3:=Ig h1;unfold p5;omega
  exact kS (W.symm.trans Y.symm) h2 D
theorem pR:∀(B z:List Str),tJ (B.map V.str) (z.map V.str)=decide (B=z)
 | [],[]=>rfl
 | [],_::_=>rfl
 | _::_,[]=>rfl
 | a::r,b::q=>by
  show(eqV (.str a) (.str b)&&tJ (r.map V.str) (q.map V.str))=_;rw[pR r q];show((a==b)&&decide (r=q))=_;rw[BY];simp
theorem aEW:bM ["things"] ["things"] (aM qV):=⟨rfl,rfl,rfl,by decide,rfl,by decide,by decide⟩
theorem aDa{f:Ah}{fd:AC}(F:Fun K "is_rising" "is_rising" qV f fd)(T:Txt K mg)(z:mg "list"=none)(B:mg "sorted"=none):cN P w K mg base CX0 1 f fd ["things"] uO:=by
 refine F.ok aEW (fun vs H Q E h=>?_) (fun D A outer s H vs Q E hr h=>?_)
 .obtain⟨a,ss,rfl,_⟩:=h;rfl
 .obtain⟨a,ss,rfl,ha,hl,k⟩:=h;have hu:=vW hr;have O:(A.deeper (DH "is_rising" (aM qV) s.heap.objs.size f D)).units<cLine:=by omega
  refine⟨_,aJ (aO (dF (xN O) (cH gH (by rfl) z (by kernel_rfl) (aD (pv 0) aA)) (aK (oG rfl) (by rfl) B (by kernel_rfl) (aD (cH (v8 rfl) (by rfl) T.set (by kernel_rfl) (aD (pv 0) aA)) aA)) (aY _))),_,rfl,a,ss.map V.str,rfl,ha.imp bB aU,fun L hL=>?_⟩;have W:=aI (o:=.lst (ss.map V.str)) hL;refine⟨_,rfl,a,ss,rfl,ha.imp (W _ _) (W _ _),by omega,fun S hS=>?_⟩;have sS:=aI (o:=aCV P w S ss) hS;refine⟨S,ss,rfl,aF,by omega,fun l Z J hp hs=>?_⟩;have Y:=aI (o:=.lst (Z.map V.str)) J;refine⟨L,l,_,_,rfl,rfl,bB (Y _ _ (sS _ _ aF)),bB aF,iK ss,iK Z,?_⟩;rw[pR,uR hp hs];exact k _ ((W.trans sS).trans Y)
def aP:Aj->List Aj
 | .tuple ds=>ds
 | .list ds=>ds
 | _=>[]
def toP:Aj->P3
 | .tuple [.str a,.str b,.int c]=>(a,b,c)
 | _=>("","",0)
def iZ(ls:List Aj):List Aj:=(iO (ls.map toP)).map fun i=>ls.getD i .none
open Classical in
noncomputable def pZ(ns:List Str):List Str:=if h:∃ ms:List Str,ms.Perm ns/\Ds ms=true then h.choose else ns
theorem aAt{ns z:List Str}(h1:z.Perm ns)(h2:Ds z=true):pZ ns=z:=by
 have h:∃ z:List Str,z.Perm ns/\Ds z=true:=⟨z,h1,h2⟩
 unfold pZ;rw[dif_pos h];exact kS (h.choose_spec.1.trans h1.symm) (iG _ h.choose_spec.2) (iG _ h2)
theorem nA(ns:List Str):(pZ ns).Perm ns:=by
 unfold pZ;split
 .rename_i h;exact h.choose_spec.1
 .exact .refl _
noncomputable def gN(ls:List Aj):List Aj:=(pZ (ls.map i7)).map By
noncomputable def gC:Aj->Aj
 | .tuple [.str k,n,dy,f,l]=>if k="part"/\hZ l=true then .tuple [.str k,n,dy,f,.tuple (iZ (aP l))] else if k="join"/\hX f=true then .tuple [.str k,n,dy,.tuple (gN (aP f)),l] else .tuple [.str k,n,dy,f,l]
 | d=>d
noncomputable def jO(d:Aj):Aj:=
 if dA d=true then .tuple (if ((aP d).map (cI 1)).all cZ=true then iZ ((aP d).map (cI 1)) else if ((aP d).map (cI 1)).all aZ=true then gN ((aP d).map (cI 1)) else(aP d).map (cI 1)) else d
noncomputable def lV:List Aj->List Aj
 | [.str k,n,dy,f,l]=>if k="part" then[.str k,n,dy,f,jO l] else if k="join" then[.str k,n,dy,jO f,l] else[.str k,n,dy,f,l]
 | ds=>ds
noncomputable def uS(d:Aj):Option Aj:=if dA d=true/\fK (.tuple (lV (aP d)))=true then some (.tuple (lV (aP d))) else none
theorem i0{d:Aj}(n:Nat)(h:dA d=true):cI (n+1) d=.tuple ((aP d).map (cI n)):=by
 cases d with
 | tuple ds=>rfl
 | list ds=>rfl
 | _=>cases h
theorem fB{d:Aj}(n:Nat)(h:dA d=false):cI n d=d:=by
 cases n with
 | zero=>rfl
 | succ n=>
  cases d with
  | tuple ds=>cases h
  | list ds=>cases h
  | _=>rfl
theorem dJ{d:Aj}(h:aZ d=true):dA d=false:=by
 cases d with
 | str z=>rfl
 | _=>cases h
theorem eO{d:Aj}{lo hi:Int}(h:cO lo hi d=true):dA d=false:=by
 cases d with
 | int z=>rfl
 | _=>cases h
theorem aDb{k:Str}{ds:List Aj}(h1:k≠"part")(h2:k≠"join")(h:dI k ds=true):∀ x∈ds,dA x=false:=by
 unfold dI at h;rw[Ia h1,Ia h2]at h;have two:∀{p q:Aj->Bool} {a b:Aj},(p a&&q b)=true->(∀ d,p d=true->dA d=false)->(∀ d,q d=true->dA d=false)->∀ x∈[a,b],dA x=false:=fun{p q a b} h hp hq x z=>by
  rw[Av]at h;rcases Am.mp z with rfl|z
  .exact hp _ h.1
  .rw[A7.mp z];exact hq _ h.2
 split at h
 .unfold fT at h;rw[Av,AX]at h;exact fun x z=>dJ (h.2 x z)
 .split at h
  .unfold iR at h;split at h
   .exact two h (fun _=>dJ) fun _=>eO
   .cases h
  .split at h
   .unfold lE at h;split at h
    .intro x z;rcases Am.mp z with rfl|z
     .rfl
     .rw[A7.mp z];rfl
    .cases h
   .split at h
    .unfold lD at h;split at h
     .intro x z;rw[A7.mp z];exact dJ h
     .cases h
    .split at h
     .unfold gK at h;split at h
      .simp only[Av]at h;obtain⟨⟨⟨a,b⟩,c⟩,d⟩:=h;intro x z;simp only[Am,An,or_false]at z;rcases z with rfl|rfl|rfl|rfl
       .exact dJ a
       .exact eO b
       .exact eO c
       .exact eO d
      .cases h
     .unfold lA at h;split at h
      .simp only[Av]at h;obtain⟨⟨a,b⟩,c⟩:=h;intro x z;simp only[Am,An,or_false]at z;rcases z with rfl|rfl|rfl
       .exact dJ a
       .exact eO b
       .exact dJ c
      .cases h
theorem wP{k:Str}{ds:List Aj}(h1:k≠"part")(h2:k≠"join")(h:fK (.tuple (.str k::ds))=true):∀ x∈ds,dA x=false:=by
 unfold fK at h;split at h
 .rename_i e;cases e;simp only[Av]at h;obtain⟨_,a,b,c⟩:=h;intro x z;rcases Am.mp z with rfl|z
  .exact dJ a
  .rcases Am.mp z with rfl|z
   .exact eO b
   .exact aDb h1 h2 c x z
 .cases h
def Sim(a b:Aj):Prop:=fK a=fK b/\(fK b=true->a=b)
theorem Sim.no{a b:Aj}(h1:fK a=false)(h2:fK b=false):Sim a b:=⟨h1.trans h2.symm,fun h=>by rw[h2]at h;cases h⟩
theorem wQ{a:Aj}(h:¬ fK a=true):fK a=false:=by simpa using h
theorem aDc{ds:List Aj}{n:Nat}(h:∀ x∈ds,dA x=false):ds.map (cI n)=ds:=by
 rw[DZ fun x z=>fB n (h x z),FV]
theorem wR{ds:List Aj}(h:∀(n:Nat) (es:List Aj),es=ds\/es=ds.map (cI 2)->fK (.tuple es)=true->∀ x∈es,dA x=false):Sim (.tuple (ds.map (cI 2))) (.tuple ds):=by
 by_cases ha:∀ x∈ds,dA x=false
 .rw[aDc ha];exact⟨rfl,fun _=>rfl⟩
 .refine Sim.no (wQ fun z=>ha fun x B=>?_) (wQ fun z=>ha (h 0 _ (.inl rfl) z));have:=h 0 _ (.inr rfl) z (cI 2 x) (EY B);cases D:dA x with
  | false=>rfl
  | true=>rw[i0 1 D]at this;cases this
theorem aGi{x:Aj}{k:Str}(h:cI 2 x=.str k):x=.str k:=by
 cases x with
 | tuple ds=>cases h
 | list ds=>cases h
 | str z=>exact h
 | _=>cases h
theorem iS(z:List Aj):(iZ z).Perm z:=by
 unfold iZ;have h:=(jX (z.map toP)).map fun i=>z.getD i .none;rw[Ae]at h;refine h.trans ?_;rw[show(AU z.length).map (fun i=>z.getD i .none)=z from List.ext_getElem (by simp) fun i h1 h2=>by simp[h2]]
theorem oT{n z f l:Aj}:fK (.tuple [.str "part",n,z,f,l])=(aZ n&&(cO 0 9999 z&&(aZ f&&lG l))):=by
 show(decide (("part":Str)∈dH)&&(aZ n&&(cO 0 9999 z&&dI "part" [f,l])))=_;rw[show decide (("part":Str)∈dH)=true by decide,AK];rfl
theorem oU{n z f l:Aj}:fK (.tuple [.str "join",n,z,f,l])=(aZ n&&(cO 0 9999 z&&(iY f&&aZ l))):=by
 show(decide (("join":Str)∈dH)&&(aZ n&&(cO 0 9999 z&&dI "join" [f,l])))=_;rw[show decide (("join":Str)∈dH)=true by decide,AK];unfold dI;rw[Ia (by decide),Ib rfl];rfl
theorem wS{ds:List Aj}(h:lG (.tuple ds)=true):ds.all cZ=true:=by
 unfold lG at h;simp only[Av]at h;exact h.1.1
theorem wT{ds:List Aj}(h:iY (.tuple ds)=true):ds.all aZ=true:=by
 unfold iY at h;simp only[Av]at h;exact h.1.1
theorem aAu{d:Aj}(h:cZ d=true):aZ d=false:=by
 cases d with
 | tuple ds=>rfl
 | _=>cases h
theorem uT{a b n D f W B O:Aj}(hn:W=cI 2 n)(hd:B=cI 2 D)(J:O=cI 2 f)(h:a=b\/(lG a=false/\lG b=false)):Sim (.tuple [.str "part",W,B,O,a]) (.tuple [.str "part",n,D,f,b]):=by
 by_cases ha:dA n=false/\dA D=false/\dA f=false
 .obtain⟨h1,h2,h3⟩:=ha;rw[fB 2 h1]at hn;rw[fB 2 h2]at hd;rw[fB 2 h3]at J;subst hn hd J;rcases h with rfl|⟨h1,h2⟩
  .exact⟨rfl,fun _=>rfl⟩
  .exact Sim.no (by rw[oT,h1,Bg,Bg,Bg]) (by rw[oT,h2,Bg,Bg,Bg])
 .refine Sim.no (wQ fun z=>ha ?_) (wQ fun z=>ha ?_)
  .rw[oT]at z;simp only[Av]at z;have e:∀{x:Aj},dA (cI 2 x)=false->dA x=false:=fun{x} h=>by
    cases Y:dA x with
    | false=>rfl
    | true=>rw[i0 1 Y]at h;cases h
   exact⟨e (by rw[<- hn];exact dJ z.1),e (by rw[<- hd];exact eO z.2.1),e (by rw[<- J];exact dJ z.2.2.1)⟩
  .rw[oT]at z;simp only[Av]at z;exact⟨dJ z.1,eO z.2.1,dJ z.2.2.1⟩
theorem qZ{a b n D l W B O:Aj}(hn:W=cI 2 n)(hd:B=cI 2 D)(J:O=cI 2 l)(h:a=b\/(iY a=false/\iY b=false)):Sim (.tuple [.str "join",W,B,a,O]) (.tuple [.str "join",n,D,b,l]):=by
 by_cases ha:dA n=false/\dA D=false/\dA l=false
 .obtain⟨h1,h2,h3⟩:=ha;rw[fB 2 h1]at hn;rw[fB 2 h2]at hd;rw[fB 2 h3]at J;subst hn hd J;rcases h with rfl|⟨h1,h2⟩
  .exact⟨rfl,fun _=>rfl⟩
  .exact Sim.no (by rw[oU,h1,BR,Bg,Bg]) (by rw[oU,h2,BR,Bg,Bg])
 .refine Sim.no (wQ fun z=>ha ?_) (wQ fun z=>ha ?_)
  .rw[oU]at z;simp only[Av]at z;have e:∀{x:Aj},dA (cI 2 x)=false->dA x=false:=fun{x} h=>by
    cases Y:dA x with
    | false=>rfl
    | true=>rw[i0 1 Y]at h;cases h
   exact⟨e (by rw[<- hn];exact dJ z.1),e (by rw[<- hd];exact eO z.2.1),e (by rw[<- J];exact dJ z.2.2.2)⟩
  .rw[oU]at z;simp only[Av]at z;exact⟨dJ z.1,eO z.2.1,dJ z.2.2.2⟩
theorem aDd{z:List Aj}(h:gN z=[]):z=[]:=by
 unfold gN at h;have h1:=(nA (z.map i7)).length_eq;rw[List.map_eq_nil_iff.mp h,Ae]at h1;exact Cg h1.symm
theorem aGP{ds:List Aj}{k:Str}{n z f l:Aj}(e:ds.map (cI 2)=[.str k,n,z,f,l]):∃ k n z f l,ds=[.str k,n,z,f,l]:=by
 have B:=congrArg List.length e;rw[Ae]at B
 match ds,B with
 | [a1,a2,a3,a4,a5],_=>
  injection e with e1 _;rw[aGi e1];exact⟨_,_,_,_,_,rfl⟩
theorem aEX{ds:List Aj}:Sim (gC (.tuple (ds.map (cI 2)))) (.tuple (lV ds)):=by
 by_cases B:∃ k n D f l,ds=[.str k,n,D,f,l]
 .obtain⟨k,n,D,f,l,rfl⟩:=B;have eo:gC (.tuple ([.str k,n,D,f,l].map (cI 2)))=if k="part"/\hZ (cI 2 l)=true then .tuple [.str k,cI 2 n,cI 2 D,cI 2 f,.tuple (iZ (aP (cI 2 l)))] else if k="join"/\hX (cI 2 f)=true then .tuple [.str k,cI 2 n,cI 2 D,.tuple (gN (aP (cI 2 f))),cI 2 l] else .tuple [.str k,cI 2 n,cI 2 D,cI 2 f,cI 2 l]:=rfl
  have el:lV [.str k,n,D,f,l]=if k="part" then[.str k,n,D,f,jO l] else if k="join" then[.str k,n,D,jO f,l] else[.str k,n,D,f,l]:=rfl
  rw[eo,el];have pj:("part":Str)≠"join":=by decide
  by_cases h1:k="part"
  .subst h1;rw[Ib rfl,Ia (c:=("part":Str)="join"/\_) fun z=>pj z.1];cases W:dA l with
   | false=>
    have e2:jO l=l:=by unfold jO;rw[W];rfl
    have e3:hZ l=false:=by
     cases l with
     | tuple _=>cases W
     | _=>rfl
    rw[fB 2 W,e3,Ia (fun z=>by cases z.2),e2];exact uT rfl rfl rfl (.inl rfl)
   | true=>
    have e2:jO l=.tuple (if ((aP l).map (cI 1)).all cZ=true then iZ ((aP l).map (cI 1)) else if ((aP l).map (cI 1)).all aZ=true then gN ((aP l).map (cI 1)) else(aP l).map (cI 1)):=by unfold jO;rw[Ib W]
    rw[e2,i0 1 W];generalize (aP l).map (cI 1)=es;have e3:hZ (.tuple es)=es.all cZ:=rfl;rw[e3];by_cases J:es.all cZ=true
    .rw[Ib ⟨rfl,J⟩,Ib J];exact uT rfl rfl rfl (.inl rfl)
    .rw[Ia fun z=>J z.2,Ia J];refine uT rfl rfl rfl (.inr ⟨DF.mpr fun z=>J (wS z),DF.mpr fun z=>?_⟩);have:=wS z;split at this
     .cases he:gN es with
      | nil=>rw[aDd he]at J;exact J rfl
      | cons x r=>
       rw[he,Cq,Av]at this;have Y:x∈gN es:=by rw[he];exact AM
       obtain⟨z,_,rfl⟩:=Bk.mp Y;cases this.1
     .exact J this
  .rw[Ia (c:=k="part"/\_) fun z=>h1 z.1,Ia h1];by_cases h2:k="join"
   .subst h2;rw[Ib rfl];cases W:dA f with
    | false=>
     have e2:jO f=f:=by unfold jO;rw[W];rfl
     have e3:hX f=false:=by
      cases f with
      | tuple _=>cases W
      | _=>rfl
     rw[fB 2 W,e3,Ia (fun z=>by cases z.2),e2];exact qZ rfl rfl rfl (.inl rfl)
    | true=>
     have e2:jO f=.tuple (if ((aP f).map (cI 1)).all cZ=true then iZ ((aP f).map (cI 1)) else if ((aP f).map (cI 1)).all aZ=true then gN ((aP f).map (cI 1)) else(aP f).map (cI 1)):=by unfold jO;rw[Ib W]
     rw[e2,i0 1 W];generalize (aP f).map (cI 1)=es;have e3:hX (.tuple es)=es.all aZ:=rfl;rw[e3];by_cases hn:es.all aZ=true
     .rw[Ib ⟨rfl,hn⟩,Ib hn];by_cases J:es.all cZ=true
      .cases es with
       | cons x r=>
        rw[Cq,Av]at J hn;rw[aAu J.1]at hn;cases hn.1
       | nil=>
        rw[Ib J];have:gN []=[]:=by
         have:=(nA []).length_eq;unfold gN;rw[show([]:List Aj).map i7=[] from rfl,Cg this];rfl
        refine qZ rfl rfl rfl (.inl ?_);show C4 (gN [])=C4 (iZ []);rw[this,show iZ []=[] from E2 (iS [])]
      .rw[Ia J];exact qZ rfl rfl rfl (.inl rfl)
     .rw[Ia fun z=>hn z.2,Ia hn];refine qZ rfl rfl rfl (.inr ⟨DF.mpr fun z=>hn (wT z),DF.mpr fun z=>?_⟩);have:=wT z;split at this
      .refine hn ?_;rw[AX]at this ⊢;exact fun x Y=>this x ((iS es).mem_iff.mpr Y)
      .exact hn this
   .rw[Ia (c:=k="join"/\_) fun z=>h2 z.1,Ia h2];refine wR (ds:=[.str k,n,D,f,l]) fun _ es he O x Y=>?_;obtain⟨ys,rfl⟩:∃ ys,es=.str k::ys:=by
     rcases he with rfl|rfl
     .exact⟨_,rfl⟩
     .exact⟨_,rfl⟩
    rcases Am.mp Y with rfl|Y
    .rfl
    .exact wP h1 h2 O x Y
 .have el:lV ds=ds:=by
   unfold lV;split
   .exact absurd ⟨_,_,_,_,_,rfl⟩ B
   .rfl
  have eo:gC (.tuple (ds.map (cI 2)))=.tuple (ds.map (cI 2)):=by
   unfold gC;split
   .rename_i k n D f l e;exfalso;apply B;injection e with e;exact aGP e
   .rfl
  rw[el,eo];refine wR fun _ es he O x Y=>?_;have hl:∀ k n D f l,es≠[.str k,n,D,f,l]:=fun k n D f l e=>by
   subst e;rcases he with e|e
   .exact B ⟨_,_,_,_,_,e.symm⟩
   .exact B (aGP e.symm)
  unfold fK at O;split at O
  .rename_i k n D dR e;cases e;have Z:dR.length≠2:=fun z=>by
    match dR,z with
    | [f,l],_=>exact hl _ _ _ _ _ rfl
   by_cases h1:k="part"
   .subst h1;simp only[Av]at O;have:dI "part" dR=false:=by unfold dI;rw[Ib rfl];exact uP Z
    rw[this]at O;cases O.2.2.2
   .by_cases h2:k="join"
    .subst h2;simp only[Av]at O;have:dI "join" dR=false:=by unfold dI;rw[Ia h1,Ib rfl];exact uQ Z
     rw[this]at O;cases O.2.2.2
    .rcases Am.mp Y with rfl|Y
     .rfl
     .exact wP h1 h2 (by unfold fK;exact O) x Y
  .cases O
theorem aGj(d:Aj):uS d=if fK (gC (cI 3 d))=true then some (gC (cI 3 d)) else none:=by
 unfold uS;cases D:dA d with
 | false=>
  have e:fK (gC (cI 3 d))=false:=by
   rw[fB 3 D];cases d with
   | tuple _=>cases D
   | list _=>cases D
   | _=>rfl
  rw[e,Ia (fun z=>by cases z.1)];rfl
 | true=>
  rw[i0 2 D];obtain⟨h1,h2⟩:=aEX (ds:=aP d);rw[h1];by_cases B:fK (.tuple (lV (aP d)))=true
  .rw[Ib ⟨rfl,B⟩,Ib B,h2 B]
  .rw[Ia (fun z=>B z.2),Ia B]
def pD(x:P3):Aj:=.tuple [.str x.1,.str x.2.1,.int x.2.2]
theorem wU{m:Bool}{H:Hp}{v:V}{x:P3}(h:RdV m H v (pD x)):wA H v x:=by
 unfold pD at h;cases h with
 | @tup a xs _ e J r=>
  cases r with
  | cons B r=>
   cases r with
   | cons z r=>
    cases r with
    | cons D r=>
     cases r;cases B;cases z;cases D;exact⟨a,rfl,e⟩
theorem uU{m:Bool}{H:Hp}{vs:List V}{T:List P3}(r:c9 m H vs (T.map pD)):∀ i,i<vs.length->wA H (vs.getD i .non) (T.getD i ("","",0)):=fun i hi=>by
 have z:=r.len;rw[Ae]at z;obtain⟨d,hd,rd⟩:=r.at (Ag hi);rw[Bs,Ag (by omega)]at hd;cases hd;have:=wU rd;rw[Bf,Bf,Ag hi,Ag (by omega)];exact this
theorem pS{m:Bool}{H:Hp}{vs:List V}{ds:List Aj}(r:c9 m H vs ds):∀(q:List Nat),(∀ i∈q,i<vs.length)->c9 m H (q.map fun i=>vs.getD i .non) (q.map fun i=>ds.getD i .none)
 | [],_=>.nil
 | i::q,h=>by
  have hi:=h i (by simp);obtain⟨d,hd,rd⟩:=r.at (Ag hi);refine .cons ?_ (pS r q fun j z=>h j (by simp[z]));show RdV m H (vs.getD i .non) (ds.getD i .none);rw[Bf,Bf,Ag hi,hd];exact rd
theorem pT{m:Bool}{H:Hp}:∀{vs:List V}{T:List Str},c9 m H vs (T.map By)->vs=T.map V.str/\∀ z∈T,z.length<=1000
 | _,[],.nil=>⟨rfl,fun z hz=>by simp at hz⟩
 | _,t::T,.cons a r=>by
  obtain⟨e,h⟩:=pT (T:=T) r;cases a with
  | str _ hz=>
   refine⟨by rw[e];rfl,fun z B=>?_⟩;rcases Am.mp B with rfl|y
   .exact hz
   .exact h z y
theorem lU{m:Bool}{H:Hp}:∀{T:List Str},(∀ z∈T,z.length<=1000)->c9 m H (T.map V.str) (T.map By)
 | [],_=>.nil
 | t::T,h=>.cons (.str t (h t (by simp))) (lU fun z hz=>h z (by simp[hz]))
def Few(d:Aj):Prop:=∀ e∈aP d,(aP e).length<64
theorem aDe(n:Nat)(d:Aj):(aP (cI n d)).length=(aP d).length:=by
 cases n with
 | zero=>rfl
 | succ n=>
  cases d with
  | tuple ds=>exact Ae ..
  | list ds=>exact Ae ..
  | _=>rfl
theorem Few.tup{d:Aj}(h:Few d):Few (cI 3 d):=by
 cases z:dA d with
 | false=>rw[fB 3 z];exact h
 | true=>
  rw[i0 2 z];intro e B;obtain⟨x,hx,rfl⟩:=Bk.mp (show e∈(aP d).map (cI 2) from B);rw[aDe];exact h x hx
theorem aDf{d:Aj}(h:cZ d=true):d=pD (toP d):=by
 unfold cZ at h;split at h
 .rename_i l z a;simp only[Av]at h;obtain⟨⟨h1,h2⟩,h3⟩:=h;cases l with
  | str B=>
   cases z with
   | str D=>
    cases a with
    | int i=>rfl
    | _=>cases h3
   | _=>cases h2
  | _=>cases h1
 .cases h
theorem uV{ds:List Aj}(h:ds.all cZ=true):(ds.map toP).map pD=ds:=by
 rw[B7];rw[AX]at h;exact(DZ (g:=id) fun d hd=>(aDf (h d hd)).symm).trans (F7 _)
theorem aCb{m:Bool}{H:Hp}{x:V}{d:Aj}{z:Str}(h:RdV m H x d):x=V.str z↔d=By z:=by
 cases h<;>simp
theorem uW{ds:List Aj}(h:ds.all aZ=true):(ds.map i7).map By=ds:=by
 rw[B7];rw[AX]at h;refine(DZ (g:=id) fun d hd=>?_).trans (F7 _);have:=h d hd;cases d with
 | str z=>rfl
 | _=>cases this
theorem aEY{n z f l:Aj}(h:hZ l=true):gC (.tuple [.str "part",n,z,f,l])=.tuple [.str "part",n,z,f,.tuple (iZ (aP l))]:=Ib ⟨rfl,h⟩
theorem aEZ{n B f l:Aj}(h:hX f=true):gC (.tuple [.str "join",n,B,f,l])=.tuple [.str "join",n,B,.tuple (gN (aP f)),l]:=by
 have e:∀ k,gC (.tuple [.str k,n,B,f,l])=if k="part"/\hZ l=true then .tuple [.str k,n,B,f,.tuple (iZ (aP l))] else if k="join"/\hX f=true then .tuple [.str k,n,B,.tuple (gN (aP f)),l] else .tuple [.str k,n,B,f,l]:=fun _=>rfl
 rw[e,Ia (fun z=>absurd z.1 (by decide)),Ib ⟨rfl,h⟩]
theorem wV{d:Aj}(h:hZ d=true):∃ z,d=.tuple z:=by
 cases d with
 | tuple z=>exact⟨z,rfl⟩
 | _=>cases h
theorem wW{d:Aj}(h:hX d=true):∃ z,d=.tuple z:=by
 cases d with
 | tuple z=>exact⟨z,rfl⟩
 | _=>cases h
theorem aBr{B n D f l:Aj}(h1:¬ (B=.str "part"/\hZ l=true))(h2:¬ (B=.str "join"/\hX f=true)):gC (.tuple [B,n,D,f,l])=.tuple [B,n,D,f,l]:=by
 cases B with
 | str k=>exact(Ia fun z=>h1 ⟨by rw[z.1],z.2⟩).trans (Ia fun z=>h2 ⟨by rw[z.1],z.2⟩)
 | _=>rfl
inductive aCc(vs:List V)(H:Hp)(Q:VK)(u3_:XK):Prop
 | mk (m:Bool) (x:V) (d:Aj) (q0:vs=[x]) (q1:RdV m H x d) (q2:Few d) (q3:∀ y H',aV H H'->RdV m H' y (gC d)->Q y H'):aCc vs H Q u3_
def aGQ:Sp:=fun vs H Q u3_=>aCc vs H Q u3_
theorem wX:bM ["thing","kind","name","day","first","last"] ["thing"] (aM uG):=⟨rfl,rfl,rfl,by decide,rfl,by decide,by decide⟩
theorem aHP{f:Ah}{fd:AC}(F:Fun K "in_order" "in_order" uG f fd)(T:Txt K mg)(Z:mg "sorted"=none)
  (GP:Cl P w K mg base 4 "all_parts" ["thing"] aBk)
  (GN:Cl P w K mg base 2 "all_names" ["thing"] uL):
  cN P w K mg base CX0 5 f fd ["thing"] aGQ:=by
 refine F.ok wX (fun vs H Q E h=>?_) (fun aR A outer s H vs Q E hr h=>?_)
 .obtain⟨m,x,d,rfl,_⟩:=h;rfl
 .obtain⟨m,x,d,rfl,hx,hfew,k⟩:=h;have ar:cY 2 _:=hr.mono (by decide);refine⟨_,aG (bX (PW.pt (dZ (cX (cE (aK bZ (by rfl) T.isi (by kernel_rfl) (aD (pv 0) (aD (cK (v:=.ty "tuple") (by rfl) T.tuple (by kernel_rfl) rfl) aA)))))
    (dU (aW rO (aK aS (by rfl) T.len Aq (aD (pv 0) aA)) aE (aY _))))) (aJ (aO (pv 0))) aT)
   (aG (jR (pv 0) (oW rfl (dB (bS (i:=1) wX.nd rfl (AA rfl)) (dB (bS (i:=2) wX.nd rfl (AA rfl)) (dB (bS (i:=3) wX.nd rfl (AA rfl)) (dB (bS (i:=4) wX.nd rfl (AA rfl)) (dB (bS (i:=5) wX.nd rfl (AA rfl)) lK)))))))
   (aG (bX (PW.pt (kE (aW (wF hr) (pv 1) aN (aY _)) (jQ (cE (aX GP hr (aD (pv 5) aA)))))) (aJ (aO (bU (aD (pv 1) (aD (pv 2) (aD (pv 3) (aD (pv 4) (aD (cH cS (by rfl) T.tuple (by kernel_rfl) (aD (aK mJ (by rfl) Z (by kernel_rfl) (aD (pv 5) aA)) aA)) aA)))))))) aT)
   (aG (bX (PW.pt (kE (aW (wF hr) (pv 1) aN (aY _)) (jQ (cE (aX GN ar (aD (pv 4) aA)))))) (aJ (aO (bU (aD (pv 1) (aD (pv 2) (aD (pv 3) (aD (cH cS (by rfl) T.tuple (by kernel_rfl) (aD (aK vG (by rfl) Z (by kernel_rfl) (aD (pv 4) aA)) aA)) (aD (pv 5) aA)))))))) aT)
   (aJ (aO (pv 0)))))),?_⟩
  refine⟨_,rfl,_,"tuple",_,_,rfl,eV hx,fF d,_,rfl,?_⟩;cases ht:dQ d with
  | false=>
   have e:gC d=d:=by
    cases d with
    | tuple ds=>cases ht
    | _=>rfl
   rw[e]at k;exact cG ⟨_,rfl,k _ H (aV.refl H) hx⟩
  | true=>
  obtain⟨ds,rfl⟩:∃ ds,d=.tuple ds:=by
   cases d with
   | tuple ds=>exact⟨ds,rfl⟩
   | _=>cases ht
  cases hx with
  | @tup a xs _ e hl r=>
  have Y:=r.len;refine cM ?_;refine⟨_,rfl,a,xs,rfl,.inr (aU e),rfl,_,rfl,?_⟩;by_cases h5:xs.length=5
  .match xs,ds,r,h5 with
   | [x1,x2,x3,x4,x5],[d1,d2,d3,d4,d5],.cons r1 (.cons r2 (.cons r3 (.cons r4 (.cons r5 .nil)))),_=>
   refine c8 (fun g=>absurd g (by simp)) (fun g=>?_);refine⟨_,rfl,a,_,rfl,aU e,rfl,_,_,rfl,_,_,rfl,_,_,rfl,_,_,rfl,_,_,rfl,rfl,_,rfl,_,rfl,r1.thn,_,rfl,?_⟩;by_cases h1:d1=.str "part"
   .subst h1;cases r1 with
    | str _ D=>
    rw[Ic (show V.str "part"=V.str "part" from rfl)];refine cG ?_;refine⟨_,rfl,m,x5,_,rfl,r5,fun H1 B=>⟨_,rfl,?_⟩⟩;refine c8 (fun W=>?_) (fun W=>?_)
    .obtain⟨ls,rfl⟩:=wV W;cases r5 with
     | @tup a5 J _ e5 a0 ad=>
     have g':ls.all cZ=true:=W;have ak:=ad.len;have ag:ls.length<64:=hfew (.tuple ls) (by simp[aP]);rw[aEY W]at k;have aw:c9 m H J ((ls.map toP).map pD):=by rw[uV g'];exact ad
     refine⟨_,rfl,_,rfl,_,rfl,_,rfl,_,rfl,a5,J,ls.map toP,rfl,.inl (B _ _ e5),by rw[Ae];exact ak,by omega,uU (aw.same B),fun L hL=>?_⟩;have sL:=aI (o:=.lst ((iO (ls.map toP)).map fun i=>J.getD i .non)) hL;have ac:=jX (ls.map toP);rw[Ae]at ac;have bh:(iO (ls.map toP)).length=ls.length:=by rw[ac.length_eq,C2]
     refine⟨L,_,rfl,.inl ⟨bB aF,fun t ht=>?_⟩⟩;have sT:=aI (o:=.tup ((iO (ls.map toP)).map fun i=>J.getD i .non)) ht;have rR:c9 m H ((iO (ls.map toP)).map fun i=>J.getD i .non) (iZ ls):=pS ad _ fun i hi=>by
      have:=ac.mem_iff.mp hi;rw[Cf]at this;omega
     refine⟨zZ5,fun t2 ae=>?_⟩;have s2:=aI (o:=.tup [V.str "part",x2,x3,x4,.ref t]) ae;have O:=((B.trans sL).trans sT).trans s2;exact k _ _ O (.tup aF (by show 5<=1000;decide) (.cons (.str _ D) (.cons (r2.same O) (.cons (r3.same O) (.cons (r4.same O) (.cons (.tup (s2 _ _ aF) (by rw[Ae];omega) (rR.same O)) .nil))))))
    .rw[aBr (fun z=>W z.2) (fun z=>absurd z.1 (by simp;decide))]at k;refine⟨_,rfl,_,rfl,.str _,_,rfl,?_⟩;rw[Ie (show¬ V.str "part"=V.str "join" from by decide)];refine cM ?_;exact⟨_,rfl,k _ _ B (.tup (B _ _ e) hl (.cons (.str _ D) (.cons (r2.same B) (.cons (r3.same B) (.cons (r4.same B) (.cons (r5.same B) .nil))))))⟩
   .rw[Ie (fun z=>h1 ((aCb r1).mp z))];refine cM ?_;refine⟨_,rfl,_,rfl,r1.thn,_,rfl,?_⟩;by_cases h2:d1=.str "join"
    .subst h2;cases r1 with
     | str _ D=>
     rw[Ic (show V.str "join"=V.str "join" from rfl)];refine cG ?_;refine⟨_,rfl,m,x4,_,rfl,r4,fun H1 B=>⟨_,rfl,?_⟩⟩;refine c8 (fun W=>?_) (fun W=>?_)
     .obtain⟨ls,rfl⟩:=wW W;cases r4 with
      | @tup a4 bc _ e4 ba ah=>
      have g':ls.all aZ=true:=W;have ag:ls.length<64:=hfew (.tuple ls) (by simp[aP]);rw[aEZ W]at k;have ap:=jY ah g';subst ap;have az:=(pT (T:=ls.map i7) (by rw[uW g'];exact ah)).2;refine⟨_,rfl,_,rfl,_,rfl,_,rfl,a4,ls.map i7,rfl,B _ _ e4,by rw[Ae];exact ag,fun L ms hL aa aB=>?_⟩;have sL:=aI (o:=.lst (ms.map V.str)) hL;have aq:pZ (ls.map i7)=ms:=aAt aa aB;have ai:gN (aP (.tuple ls))=ms.map By:=by
       show(pZ (ls.map i7)).map By=_;rw[aq]
      rw[ai]at k;refine⟨L,_,rfl,.inl ⟨bB aF,fun t ht=>?_⟩⟩;have sT:=aI (o:=.tup (ms.map V.str)) ht;have rR:c9 m H (ms.map V.str) (ms.map By):=lU fun z hz=>az z (aa.mem_iff.mp hz);refine⟨_,rfl,zZ5,fun t2 ae=>?_⟩;have s2:=aI (o:=.tup [V.str "join",x2,x3,.ref t,x5]) ae;have O:=((B.trans sL).trans sT).trans s2;have av:=aa.length_eq;rw[Ae]at av;exact k _ _ O (.tup aF (by show 5<=1000;decide) (.cons (.str _ D) (.cons (r2.same O) (.cons (r3.same O) (.cons (.tup (s2 _ _ aF) (by rw[Ae];omega) (rR.same O)) (.cons (r5.same O) .nil))))))
     .rw[aBr (fun z=>h1 z.1) (fun z=>W z.2)]at k;exact⟨_,rfl,k _ _ B (.tup (B _ _ e) hl (.cons (.str _ D) (.cons (r2.same B) (.cons (r3.same B) (.cons (r4.same B) (.cons (r5.same B) .nil))))))⟩
    .rw[Ie (fun z=>h2 ((aCb r1).mp z))];refine cM ?_;rw[aBr (fun z=>h1 z.1) (fun z=>h2 z.1)]at k;exact⟨_,rfl,k _ _ (aV.refl H) (.tup e hl (.cons r1 (.cons r2 (.cons r3 (.cons r4 (.cons r5 .nil))))))⟩
  .have e':gC (.tuple ds)=.tuple ds:=by
    unfold gC;split
    .rename_i z;injection z with z;rw[z]at Y;exact absurd Y h5
    .rfl
   rw[e']at k;refine c8 (fun g=>?_) (fun g=>?_)
   .exact⟨_,rfl,k _ H (aV.refl H) (.tup e hl r)⟩
   .exfalso;apply g;rw[Ie (show¬ V.int (xs.length:Int)=V.int 5 from fun z=>by injection z with z;omega)];rfl
abbrev aJy(K:Af)(C:Ah):Prop:=PySem.W.excIn K C [.type "ValueError",.type "Exception",.type "BaseException",.type "object"] "ValueError.__new__"=true
inductive uX(DR:Ah)(vs:List V)(H:Hp)(Q:VK)(E:XK):Prop
 | mk (m:Bool) (x:V) (d:Aj) (q0:vs=[x]) (q1:RdV m H x d) (q2:Few d) (q3:(fK (gC (cI 3 d))=true->∀ y H',aV H H'->RdV m H' y (gC (cI 3 d))->Q y H')) (q4:(fK (gC (cI 3 d))=false->∀ H',aV H H'->E (.ref DR) none H')):uX DR vs H Q E
def aAv(DR:Ah):Sp:=fun vs H Q E=>uX DR vs H Q E
theorem aAw:bM ["thing","row"] ["thing"] (aM xY):=⟨rfl,rfl,rfl,by decide,rfl,by decide,by decide⟩
theorem aDg{f fA fO fI DR:Ah}{fd D W J:AC}(F:Fun K "row_of" "row_of" xY f fd)(O:∃ t,mg "ROW_DEPTH"=some (.int 3 t))(mD:mg "NoRow"=some (.ref DR))(xD:aJy K DR)
  (GA:cN P w K mg base CX0 4 fA D ["thing","deep"] (aGg 3)) (mA:mg "as_tuples"=some (.ref fA)) (kA:Az K (.ref fA)=true) (bA:dX K D ["thing","deep"] [])
  (GO:cN P w K mg base CX0 5 fO W ["thing"] aGQ) (mO:mg "in_order"=some (.ref fO)) (kO:Az K (.ref fO)=true) (bO:dX K W ["thing"] [])
  (GI:cN P w K mg base CX0 7 fI J ["thing"] jZ) (mI:mg "is_row"=some (.ref fI)) (kI:Az K (.ref fI)=true) (bI:dX K J ["thing"] []):
  cN P w K mg base (CXr P w) 8 f fd ["thing"] (aAv DR):=by
 refine F.okR aAw (fun vs H Q E h=>?_) (fun ak A outer s H vs Q E hr h=>?_)
 .obtain⟨m,x,d,rfl,_⟩:=h;rfl
 .obtain⟨m,x,d,rfl,hx,hfew,k,ke⟩:=h;have ag:cY 4 _:=hr.mono (by decide);have Z:cY 5 _:=hr.mono (by decide);obtain⟨td,hdp⟩:=O;refine⟨_,aG (bE (i:=1) aAw.nd rfl (AA rfl) (dP GO Z rfl mO kO bO .nil f6 (aD (dP GA ag rfl mA kA bA .nil f6 (aD (pv 0) (aD (cV (v:=.int 3) (by rfl) hdp ⟨_,rfl⟩) aA))) aA)))
   (aG (bX (cX (cE (dP GI hr rfl mI kI bI .nil f6 (aD (pv 1) aA)))) (aJ (aEi PySem.F.excBase_ValueError rfl mD xD (aD aN aA))) aT)
   (aJ (aO (pv 1)))),?_⟩
  refine⟨_,rfl,m,x,d,rfl,hx,fun y H1 s1 r1=>?_⟩;refine⟨m,y,_,rfl,r1,hfew.tup,fun z H2 s2 r2=>?_⟩;refine⟨_,rfl,m,z,_,rfl,r2,fun H3 Y=>⟨_,rfl,?_⟩⟩;cases B:fK (gC (cI 3 d))with
  | true=>
   refine cM ?_;exact⟨_,rfl,k B _ _ ((s1.trans s2).trans Y) (r2.same Y)⟩
  | false=>exact cG ⟨zZ1,ke B _ ((s1.trans s2).trans Y)⟩
structure S3(H:Hp)(lf lp lh:Ah)(fs ps hs:List Str):Prop where
 f:H lf=some (.lst (fs.map V.str))
 p:H lp=some (.lst (ps.map V.str))
 h:H lh=some (.lst (hs.map V.str))
 f1:1<=fs.length
 f2:fs.length<=44
 p1:ps.length=10
 h1:hs.length=5
 nf:Nms fs
 np:Nms ps
 nh:Nms hs
theorem S3.but{H H':Hp}{J O B:Ah}{fs ps D:List Str}{p c:Ah}{ns:List Int}{t:Int}(x:S3 H J O B fs ps D)(z:cR H p c ns t)(k:bC p H H'):S3 H' J O B fs ps D:=⟨eZ x.f z k,eZ x.p z k,eZ x.h z k,x.f1,x.f2,x.p1,x.h1,x.nf,x.np,x.nh⟩
theorem S3.same{H H':Hp}{D J z:Ah}{fs ps B:List Str}(x:S3 H D J z fs ps B)(k:aV H H'):S3 H' D J z fs ps B:=⟨k _ _ x.f,k _ _ x.p,k _ _ x.h,x.f1,x.f2,x.p1,x.h1,x.nf,x.np,x.nh⟩
inductive pU:Str->List Aj->Prop
 | part {land:Str} {R:List P3} (hl:bV land=true) (hr:aGL R) (h2:2<=R.length) (h6:R.length<=6) (ha:(R.map pD).all cZ=true):pU "part" [.str land,.tuple (R.map pD)]
 | join {land:Str} {R:List Str} (hl:bV land=true) (hr:eI R=true) (h2:2<=R.length) (h6:R.length<=6) (ha:(R.map By).all aZ=true):pU "join" [.tuple (R.map By),.str land]
 | forfeit {land house:Str} (hl:bV land=true) (hh:bV house=true):pU "forfeit" [.str land,.str house]
 | measure {field:Str} {n:Int} (hf:bV field=true) (h0:0<=n) (h1:n<=10000000):pU "measure" [.str field,.int n]
 | mend {house other:Str} (hh:bV house=true) (ho:bV other=true) (hne:house≠other):pU "mend" [.str house,.str other]
 | alone {house:Str} (hh:bV house=true):pU "alone" [.str house]
 | breach {field:Str} {n1 n2 n3:Int} (hf:bV field=true) (h10:0<=n1) (h11:n1<=9999999) (h20:0<=n2) (h21:n2<=1000000000) (h30:0<=n3) (h31:n3<=1000000):pU "breach" [.str field,.int n1,.int n2,.int n3]
 | view {field house:Str} {n1:Int} (hf:bV field=true) (h10:0<=n1) (h11:n1<=9999999) (hh:bV house=true):pU "view" [.str field,.int n1,.str house]
def yI(bF name:Str)(day:Int)(ds:List Aj):Aj:=.tuple (.str bF::.str name::.int day::ds)
theorem aE0{bF name:Str}{O:Int}{ds:List Aj}(h:pU bF ds)(hn:bV name=true)(h0:0<=O)(h1:O<=9999):fK (yI bF name O ds)=true:=by
 have go:decide (bF∈dH)=true->dI bF ds=true->fK (yI bF name O ds)=true:=fun a b=>by
  show(decide (bF∈dH)&&(bV name&&(decide (0<=O/\O<=9999)&&dI bF ds)))=true;rw[a,hn,b,Ic (show 0<=O/\O<=9999 from⟨h0,h1⟩)];rfl
 cases h with
 | @part D R hl hr h2 h6 ha=>
  refine go (by decide) ?_;show(bV D&&((R.map pD).all cZ&&decide (2<=(R.map pD).length/\(R.map pD).length<=6)&&eI ((R.map pD).map lF)))=true;have e:(R.map pD).map lF=R.map (·.1):=by rw[B7];rfl
  rw[hl,ha,e,Ae,Ic (show 2<=R.length/\R.length<=6 from⟨h2,h6⟩)];exact Ic (Fe.mpr hr)
 | @join D R hl hr h2 h6 ha=>
  refine go (by decide) ?_;rw[show dI "join" [.tuple (R.map By),.str D]=wK [.tuple (R.map By),.str D] from by unfold dI;rw[Ia (by decide),Ib rfl]];show(((R.map By).all aZ&&decide (2<=(R.map By).length/\(R.map By).length<=6)&&eI ((R.map By).map i7))&&bV D)=true;have e:(R.map By).map i7=R:=by rw[B7];exact F7 R
  rw[hl,ha,e,Ae,Ic (show 2<=R.length/\R.length<=6 from⟨h2,h6⟩),hr];rfl
 | @forfeit D z hl Y=>
  refine go (by decide) ?_;rw[show dI "forfeit" [.str D,.str z]=fT [.str D,.str z] from by unfold dI;rw[Ia (by decide),Ia (by decide),Ib rfl]];show(true&&(bV D&&(bV z&&true)))=true;rw[hl,Y];rfl
 | @measure B n hf h0 h1=>
  refine go (by decide) ?_;rw[show dI "measure" [.str B,.int n]=iR [.str B,.int n] from by unfold dI;rw[Ia (by decide),Ia (by decide),Ia (by decide),Ib rfl]];show(bV B&&decide (0<=n/\n<=10000000))=true;rw[hf,Ic (show 0<=n/\n<=10000000 from⟨h0,h1⟩)];rfl
 | @mend z J Y ho ag=>
  refine go (by decide) ?_;rw[show dI "mend" [.str z,.str J]=lE [.str z,.str J] from by unfold dI;rw[Ia (by decide),Ia (by decide),Ia (by decide),Ia (by decide),Ib rfl]];show(bV z&&bV J&&!decide (z=J))=true;rw[Y,ho,Ie ag];rfl
 | @alone z Y=>
  refine go (by decide) ?_;rw[show dI "alone" [.str z]=lD [.str z] from by unfold dI;rw[Ia (by decide),Ia (by decide),Ia (by decide),Ia (by decide),Ia (by decide),Ib rfl]];exact Y
 | @breach B W n2 n3 hf aa Z ah am an ai=>
  refine go (by decide) ?_;rw[show dI "breach" [.str B,.int W,.int n2,.int n3]=gK [.str B,.int W,.int n2,.int n3] from by unfold dI;rw[Ia (by decide),Ia (by decide),Ia (by decide),Ia (by decide),Ia (by decide),Ia (by decide),Ib rfl]];show(bV B&&decide (0<=W/\W<=9999999)&&decide (0<=n2/\n2<=1000000000)&&decide (0<=n3/\n3<=1000000))=true;rw[hf,Ic (show 0<=W/\W<=9999999 from⟨aa,Z⟩),Ic (show 0<=n2/\n2<=1000000000 from⟨ah,am⟩),Ic (show 0<=n3/\n3<=1000000 from⟨an,ai⟩)];rfl
 | @view B z W hf aa Z Y=>
  refine go (by decide) ?_;rw[show dI "view" [.str B,.int W,.str z]=lA [.str B,.int W,.str z] from by unfold dI;rw[Ia (by decide),Ia (by decide),Ia (by decide),Ia (by decide),Ia (by decide),Ia (by decide),Ia (by decide)]];show(bV B&&decide (0<=W/\W<=9999999)&&bV z)=true;rw[hf,Ic (show 0<=W/\W<=9999999 from⟨aa,Z⟩),Y];rfl
theorem jP{m:Bool}{H:Hp}{z:Str}(h:bV z=true):RdV m H (.str z) (.str z):=.str z (by have:=(f9 h).2;omega)
theorem aBs{B D vs W:List Str}(hs:Ds B=true)(Y:B.Perm D)(Z:(D++vs).Perm W)(hn:Nms W):eI B=true/\∀ z∈B,bV z=true:=by
 have O:D.Nodup:=(Ej.mp (Z.nodup_iff.mpr hn.nd)).1;have J:B.Nodup:=Y.nodup_iff.mpr O;refine⟨Ic (((iG B hs).and J).imp fun{a b} h=>?_),fun z hz=>hn.ok z (Z.mem_iff.mp (DX _ (Y.mem_iff.mp hz)))⟩;rcases Decidable.em (a.cps.toList<b.cps.toList)with z|z
 .exact z
 .exact absurd (xS (Fk (DV.mp h.1) (DV.mp z))) h.2
def FIn(bF:Str)(ds:List Aj)(fs:List Str):Prop:=inV (.str bF) [V.str "measure",.str "breach",.str "view"]=true->∀ z dR,ds=.str z::dR->z∈fs
inductive wY(vs:List V)(H:Hp)(Q:VK)(u3_:XK):Prop
 | mk (p c:Ah) (ns:List Int) (a:Int) (bF name:Str) (day:Int) (tS lf lp lh:Ah) (fs ps hs:List Str) (q0:vs=[.ref p,.str bF,.str name,.int day,.ref tS]) (q1:cR H p c ns a) (q2:a<=700000) (q3:H tS=some (.tup [.ref lf,.ref lp,.ref lh])) (q4:S3 H lf lp lh fs ps hs) (q5:bF∈dH) (q6:bV name=true) (q7:∀(t:Ah) (ds:List Aj) (dR:List V) (a':Int) (H':Hp),H' t=some (.tup (.str bF::.str name::.int day::dR))->c9 false H' dR ds->pU bF ds->FIn bF ds fs->a<=a'->a'<=a+80->cR H' p c ns a'->bC p H H'->Q (.ref t) H'):wY vs H Q u3_
def aCd:Sp:=fun vs H Q u3_=>wY vs H Q u3_
theorem gM:bM ["_law_pen_here","_law_word","_law_name","_law_day","_law_sorts_here","_law_fields","_law_plots","_law_houses","_law_land","_law_at","_law_house","_law_field","_law_some_here","_law_parts","_law_inch"] ["_law_pen_here","_law_word","_law_name","_law_day","_law_sorts_here"] (aM x9):=⟨rfl,rfl,rfl,by decide,rfl,by decide,by decide⟩
theorem aE1{f:Ah}{fd:AC}(F:Fun K "_law_row_of" "_law_row_of" x9 f fd)(Y:mg "len"=none)(au:mg "tuple"=none)
  (GT:Cl P w K mg base 1 "_law_take" ["_law_pen_here","_law_many"] gJ)
  (GN:Cl P w K mg base 2 "_law_number" ["_law_pen_here","_law_bottom","_law_most"] aES)
  (GS:Cl P w K mg base 2 "_law_some" ["_law_pen_here","_law_names_here","_law_many"] aEU):
  cN P w K mg base CX0 3 f fd ["_law_pen_here","_law_word","_law_name","_law_day","_law_sorts_here"] aCd:=by
 refine F.ok gM (fun vs H Q E h=>?_) (fun ek A outer s H vs Q E hr h=>?_)
 .obtain⟨p,c,ns,a,bF,name,day,tS,lf,lp,lh,fs,ps,hs,rfl,_⟩:=h;rfl
 .obtain⟨p,c,ns,a,bF,name,day,tS,lf,lp,lh,fs,ps,hs,rfl,hp,ha,htS,h3,hwd,hnm,k⟩:=h;have af:cY 1 _:=hr.mono (by decide);refine⟨_,aG (jR (pv 4) (oW rfl (dB (bS (i:=5) gM.nd rfl (AA rfl)) (dB (bS (i:=6) gM.nd rfl (AA rfl)) (dB (bS (i:=7) gM.nd rfl (FO rfl)) lK)))))
   (aG (bE (i:=8) gM.nd rfl (AA rfl) (bJ c4 (pv 6) (aX GT af (aD (pv 0) (aD (aK aS (by rfl) Y Aq (aD (pv 6) aA)) aA))) Ih))
   (aG (bE (i:=9) gM.nd rfl (AA rfl) (aX GT af (aD (pv 0) (aD (aK aS (by rfl) Y Aq (aD (pv 7) aA)) aA))))
   (aG (bE (i:=10) gM.nd rfl (AA rfl) (bJ c4 (pv 7) (pv 9) Ih))
   (aG (bE (i:=11) gM.nd rfl (AA rfl) (bJ c4 (pv 5) (aX GT af (aD (pv 0) (aD (aK aS (by rfl) Y Aq (aD (pv 5) aA)) aA))) Ih))
   (aG (bX (aW o0 (pv 1) (bU (aD aN (aD aN aA))) (by with_unfolding_all rfl))
    (aG (bE (i:=12) gM.nd rfl (AA rfl) (aX GS hr (aD (pv 0) (aD (pv 6) (aD (bJ c4 (dN (aD aE (aD aE (aD (aQ cT aE (aX GT af (aD (pv 0) (aD aE aA)))) aA)))) (aX GT af (aD (pv 0) (aD aE aA))) Ih) aA)))))
    (aG (bX (aW cQ (pv 1) aN (aY _)) (aJ (aO (bU (aD (pv 1) (aD (pv 2) (aD (pv 3) (aD (cH cS (by rfl) au (by kernel_rfl) (aD (pv 12) aA)) (aD (pv 8) aA)))))))) aT)
    (aG (f8 (i:=13) (N:=["_law_one","_law_houses","_law_pen_here"]) (src:=[none,some 7,some 0]) (osc:=aM x9) (oN:=["_law_pen_here","_law_word","_law_name","_law_day","_law_sorts_here","_law_fields","_law_plots","_law_houses","_law_land","_law_at","_law_house","_law_field","_law_some_here","_law_parts","_law_inch"]) ⟨by rfl,by decide,by decide,by decide,rfl,by rfl⟩ gM.nd rfl
      (jS (pv 12))
      fun cl s H fp dz C=>⟨bS (i:=0) (show(["_law_one","_law_houses","_law_pen_here"]:List Str).Nodup by decide) rfl (AA rfl),dY,bU (aD (pv 0) (aD (bJ (r:=aIm K) c4 (pv 1) (aX GT af (aD (pv 2) (aD (aK (r:=gG K) aS (by rfl) Y Aq (aD (pv 1) aA)) aA))) Ih) (aD (aX GN hr (aD (pv 2) (aD aE (aD (aQ dM aE aE) aA)))) aA)))⟩)
    (aJ (aO (bU (aD (pv 1) (aD (pv 2) (aD (pv 3) (aD (pv 8) (aD (cH cS (by rfl) au (by kernel_rfl) (aD (pv 13) aA)) aA)))))))))))
    aT)
   (aG (bX (aW cQ (pv 1) aN (aY _)) (aJ (aO (bU (aD (pv 1) (aD (pv 2) (aD (pv 3) (aD (pv 8) (aD (pv 10) aA)))))))) aT)
   (aG (bX (aW cQ (pv 1) aN (aY _)) (aJ (aO (bU (aD (pv 1) (aD (pv 2) (aD (pv 3) (aD (pv 11) (aD (aX GN hr (aD (pv 0) (aD aE (aD (aQ dM aE aE) aA)))) aA)))))))) aT)
   (aG (bX (aW cQ (pv 1) aN (aY _)) (aJ (aO (bU (aD (pv 1) (aD (pv 2) (aD (pv 3) (aD (pv 10) (aD (bJ c4 (pv 7) (aQ gE (aQ cT (aQ cT (pv 9) aE) (aX GT af (aD (pv 0) (aD (aQ gO (aK aS (by rfl) Y Aq (aD (pv 7) aA)) aE) aA)))) (aK aS (by rfl) Y Aq (aD (pv 7) aA))) Ih) aA)))))))) aT)
   (aG (bX (aW cQ (pv 1) aN (aY _)) (aJ (aO (bU (aD (pv 1) (aD (pv 2) (aD (pv 3) (aD (pv 10) aA))))))) aT)
   (aG (bE (i:=14) gM.nd rfl (AA rfl) (aX GN hr (aD (pv 0) (aD aE (aD (aQ gO (aQ dM aE aE) aE) aA)))))
   (aG (bX (aW cQ (pv 1) aN (aY _)) (aJ (aO (bU (aD (pv 1) (aD (pv 2) (aD (pv 3) (aD (pv 11) (aD (pv 14) (aD (pv 10) aA))))))))) aT)
   (aJ (aO (bU (aD (pv 1) (aD (pv 2) (aD (pv 3) (aD (pv 11) (aD (pv 14) (aD (aX GN hr (aD (pv 0) (aD aE (aD (aQ dM aE aE) aA)))) (aD (aX GN hr (aD (pv 0) (aD aE (aD (aQ dM aE aE) aA)))) aA))))))))))))))))))))),?_⟩
  have fin:∀(dR:List V) (ds:List Aj) (H':Hp) (a':Int),c9 false H' dR ds->pU bF ds->FIn bF ds fs->cR H' p c ns a'->bC p H H'->a<=a'->a'<=a+80->∀ t,H' t=none->Q (.ref t) (upd H' t (.tup (.str bF::.str name::.int day::dR))):=fun dR ds H' a' hR hS db h1 h2 h4 h5 t ht=>k t ds dR a' _ aF (hR.same (aI ht)) hS db h4 h5 (h1.same (aI ht)) (h2.same (aI ht));have cp:∀ j:Int,0<=j->j<=1000000->mV 10 j:=fun j h1 h2=>⟨h1,h2,by decide⟩
  have p6:((10:Int)^Bq 6)=1000000:=by decide
  have p7:((10:Int)^Bq 7)=10000000:=by decide
  have p9:((10:Int)^Bq 9)=1000000000:=by decide
  have e9:(10:Int)^9=1000000000:=by decide
  have z2:(2:Nat)<=sizeLine:=aH (by decide);have z3:(3:Nat)<=sizeLine:=aH (by decide);have z4:(4:Nat)<=sizeLine:=aH (by decide);have z5:(5:Nat)<=sizeLine:=aH (by decide);have z6:(6:Nat)<=sizeLine:=aH (by decide);have z7:(7:Nat)<=sizeLine:=aH (by decide);have cz:=h3.p1;have b5:=h3.h1;have eW:=h3.f1;have eB:=h3.f2;refine⟨_,rfl,tS,_,rfl,aU htS,rfl,_,_,rfl,_,_,rfl,_,_,rfl,rfl,_,rfl,_,rfl,_,rfl,lp,_,rfl,.inl (bB h3.p),p,c,ns,a,_,rfl,hp,by omega,by rw[Ae];omega,by rw[Ae];omega,fun r1 a1 H1 da dl eA em bu bj=>?_⟩;have ay:=h3.but hp bj;obtain⟨v,hv,aa⟩:=pF (xs:=ps.map V.str) (i:=r1) da dl;obtain⟨land,hland,rfl⟩:=Bk.mp hv;have O:=h3.np.ok land hland;refine⟨lp,_,r1,_,rfl,rfl,bB ay.p,aa,_,rfl,_,rfl,lh,_,rfl,.inl (bB ay.h),p,c,ns,a1,_,rfl,bu,by omega,by rw[Ae];omega,by rw[Ae];omega,fun r2 a2 H2 d4 cn eP eF b8 bz=>?_⟩;have bh:=ay.but bu bz;rw[Ae]at cn;obtain⟨j2,rfl⟩:∃ j2:Nat,r2=j2:=⟨r2.toNat,by omega⟩
  obtain⟨house,hj2⟩:∃ y,hs[j2]?=some y:=⟨_,Ag (by omega)⟩
  have B:=h3.nh.ok house (AH hj2);have aa:atI (hs.map V.str) ((j2:Nat):Int)=some (V.str house):=cB (by rw[Bs,hj2];rfl);refine⟨_,rfl,_,rfl,lh,_,(j2:Int),_,rfl,rfl,bB bh.h,aa,_,rfl,_,rfl,_,rfl,lf,_,rfl,.inl (bB bh.f),p,c,ns,a2,_,rfl,b8,by omega,by rw[Ae];omega,by rw[Ae];omega,fun r3 a3 H3 c2 cm ea eM cv bq=>?_⟩;have bv:=bh.but b8 bq;obtain⟨v,hv,aa⟩:=pF (xs:=fs.map V.str) (i:=r3) c2 cm;obtain⟨field,hfield,rfl⟩:=Bk.mp hv;have J:=h3.nf.ok field hfield;refine⟨lf,_,r3,_,rfl,rfl,bB bv.f,aa,?_⟩;have k3:=(bj.trans bz).trans bq;refine⟨_,rfl,z2,fun q hq=>?_⟩;have sq:=aI (o:=.tup [V.str "part",.str "join"]) hq;have ac:=cv.same sq;have ao:=bv.same sq;have k4:=k3.same sq;have bp:upd H3 q (.tup [V.str "part",.str "join"]) q=_:=aF;refine⟨q,_,rfl,.inr (aU bp),rfl,rfl,_,rfl,?_⟩;generalize upd H3 q (.tup [V.str "part",.str "join"])=H4 at ac ao k4 bp ⊢;refine c8 (fun g1=>?_) (fun g1=>?_)
  .refine⟨_,rfl,_,rfl,_,rfl,p,c,ns,a3,_,rfl,ac,by omega,by decide,by decide,fun x1 a5 H5 eG d5 eX ey b0 cw=>?_⟩;refine⟨_,_,rfl,rfl,z3,fun u hu=>?_⟩;have su:=aI (o:=.lst [V.int 2,.int 6,.int (2+x1)]) hu;refine⟨_,rfl,p,c,ns,a5,_,rfl,b0.same su,by omega,by decide,by decide,fun x2 a6 H6 dn ec ef ei b6 bW=>?_⟩;obtain⟨v,hv,aa⟩:=pF (xs:=[V.int 2,.int 6,.int (2+x1)]) (i:=x2) dn (by show x2<3;omega);obtain⟨n,rfl,hn,hn2⟩:∃ n:Nat,v=.int n/\n<=6/\2<=n:=by
    simp only[Am,An,or_false]at hv;rcases hv with rfl|rfl|rfl
    .exact⟨2,rfl,by omega,by omega⟩
    .exact⟨6,rfl,by omega,by omega⟩
    .exact⟨(2+x1).toNat,by congr 1;omega,by omega,by omega⟩
   have bT:bC p H4 H6:=(cw.same su).trans bW;refine⟨u,_,x2,_,rfl,rfl,bB (eZ aF (b0.same su) bW),aa,?_⟩;have bR:=ao.but ac bT;refine⟨p,c,ns,a6,lp,ps,n,rfl,b6,by omega,bR.p,cz,hn,fun L ms a7 H7 hL eu c3 b9 eJ ej ap bP=>?_⟩;obtain⟨us,vv,hpu,hpw⟩:=b9;obtain⟨hris,hnms⟩:=aBs c3 hpu hpw h3.np;have dj:=bR.but b6 bP;have k7:=(k4.trans bT).trans bP;refine⟨_,rfl,rfl,_,rfl,c8 (fun g2=>?_) (fun g2=>?_)⟩
   .refine⟨_,rfl,_,rfl,_,rfl,_,rfl,L,_,rfl,.inl ⟨bB hL,fun tt ax=>?_⟩⟩;have st:=aI (o:=.tup (ms.map V.str)) ax;have Z:bF="join":=by
     have:=Ig g2;injection this
    have bc:(ms.map By).all aZ=true:=by
     rw[C9,AX];exact fun z hz=>hnms z hz
    exact⟨_,rfl,z5,fun t ht=>fin _ [.tuple (ms.map By),.str land] _ a7 (.cons (.tup aF (by rw[Ae];omega) (lU fun z hz=>by have:=(f9 (hnms z hz)).2;omega)) (.cons (jP O) .nil)) (by rw[Z];exact .join O hris (by omega) (by omega) bc) (by rw[Z];exact fun z=>absurd z (by decide)) (ap.same st) (k7.same st) (by omega) (by omega) t ht⟩
   .refine⟨_,rfl,L,rfl,⟨_,bB hL⟩,?_⟩;refine iH (K:=K) (xs:=ms.map V.str) (fun i ys σ' H'=>∃(a':Int) (o:Option V),σ'=[o,some (.ref lh),some (.ref p)]/\cR H' p c ns a'/\bC p H7 H'/\a7<=a'/\a'<=a7+4*i/\ys.length=i/\∃ R:List P3,c9 false H' ys (R.map pD)/\R.map (·.1)=ms.take i/\(R.map pD).all cZ=true)
     ⟨a7,none,rfl,ap,bC.refl p H7,by omega,by omega,rfl,[],.nil,by simp,rfl⟩ (aH (by rw[Ae];omega)) (fun i ys σ H p=>by obtain⟨_,_,_,_,_,_,_,e,_⟩:=p;omega) (fun i ys σ H p=>by obtain⟨_,_,_,_,kk,_⟩:=p;exact bB (eZ hL ap kk)) ?_ ?_
    .rintro i x ys σ' H8 hx ⟨a8,o,rfl,aj,k8,di,bi,bg,R,rR,eR,aR⟩;have hi:i<ms.length:=by
      have:=(Bl.mp hx).1;simpa using this
     have ex:x=V.str ms[i]:=by
      rw[Bs,Ag hi]at hx;cases hx;rfl
     subst ex;have br:=hnms _ (BM hi);dsimp only[cF];have bN:=eZ dj.h ap k8;refine cG ?_;refine⟨_,rfl,_,rfl,_,rfl,_,rfl,lh,_,rfl,.inl (bB bN),p,c,ns,a8,_,rfl,aj,by omega,by rw[Ae];omega,by rw[Ae];omega,fun r4 a9 H9 bw bf eo eD bI be=>?_⟩;obtain⟨v,hv,aa⟩:=pF (xs:=hs.map V.str) (i:=r4) bw bf;obtain⟨hse,hhse,rfl⟩:=Bk.mp hv;have ar:=h3.nh.ok hse hhse;refine⟨lh,_,r4,_,rfl,rfl,bB (eZ bN aj be),aa,_,rfl,_,_,rfl,rfl,cp _ (by decide) (by decide),p,c,ns,a9,1,10000000,(by show[V.ref p,V.int 1,V.int ((10:Int)^Bq 7)]++[]=_;rw[p7];rfl),bI,by omega,by decide,by decide,by omega,fun n1 b1 G1 ai ah aC a0 ad W=>?_⟩;refine⟨z3,fun q1 de=>?_⟩;have az:=aI (o:=.tup [V.str ms[i],.str hse,.int n1]) de;refine⟨b1,_,rfl,ad.same az,((k8.trans be).trans W).same az,by omega,by omega,by rw[Al,bg];rfl,R++[(ms[i],hse,n1)],?_,?_,?_⟩
     .rw[A0];exact c9.app ((aB8 (aB8 rR aj be) bI W).same az) (.cons (.tup aF (by show 3<=1000;decide) (.cons (jP br) (.cons (jP ar) (.cons (.int n1) .nil)))) .nil)
     .rw[A0,eR,Be,Ag hi];rfl
     .rw[A0,List.all_append,aR];show(true&&((bV ms[i]&&bV hse&&decide (1<=n1/\n1<=10000000))&&true))=true;rw[br,ar,Ic (show 1<=n1/\n1<=10000000 from⟨ai,ah⟩)];rfl
    .rintro ys σ' H8 ⟨a8,o,rfl,aj,k8,di,bi,bg,R,rR,eR,aR⟩ D hD;rw[Ae]at bi;have sD:=aI (o:=.lst ys) hD;refine⟨_,rfl,_,rfl,_,rfl,_,rfl,_,rfl,D,_,rfl,.inl ⟨bB aF,fun tt ax=>?_⟩⟩;have st:=aI (o:=.tup ys) ax;have Z:bF="part":=by
      have h0:"part"=bF\/"join"=bF:=by simpa[inV,eqV]using g1
      have h1:bF="part"\/bF="join":=h0.imp FK FK;rcases h1 with h1|h1
      .exact h1
      .exact absurd (Ic (by rw[h1])) g2
     rw[Ae,B0]at eR;have eb:R.length=ms.length:=by rw[<- eR,Ae]
     have dm:aGL R:=by
      have:=Ig hris;rw[<- eR]at this;exact(Fe (f:=fun x:P3=>x.1) (R:=fun a b:Str=>a.cps.toList<b.cps.toList)).mp this
     exact⟨z5,fun t ht=>fin _ [.str land,.tuple (R.map pD)] _ a8 (.cons (jP O) (.cons (.tup aF (by rw[bg,Ae];omega) ((rR.same sD).same st)) .nil)) (by rw[Z];exact .part O dm (by omega) (by omega) aR) (by rw[Z];exact fun z=>absurd z (by decide)) ((aj.same sD).same st) (((k7.trans k8).same sD).same st) (by omega) (by omega) t ht⟩
  .refine⟨_,rfl,rfl,_,rfl,c8 (fun g2=>?_) (fun g2=>?_)⟩
   .have Z:bF="forfeit":=by
     have:=Ig g2;injection this
    exact⟨_,rfl,_,rfl,_,rfl,_,rfl,_,rfl,z5,fun t ht=>fin _ [.str land,.str house] _ a3 (.cons (jP O) (.cons (jP B) .nil)) (by rw[Z];exact .forfeit O B) (by rw[Z];exact fun z=>absurd z (by decide)) ac k4 (by omega) (by omega) t ht⟩
   .refine⟨_,rfl,rfl,_,rfl,c8 (fun g3=>?_) (fun g3=>?_)⟩
    .refine⟨_,rfl,_,rfl,_,rfl,_,rfl,_,rfl,_,_,rfl,rfl,cp _ (by decide) (by decide),p,c,ns,a3,0,10000000,(by show[V.ref p,V.int 0,V.int ((10:Int)^Bq 7)]++[]=_;rw[p7];rfl),ac,by omega,by decide,by decide,by omega,fun n1 b1 G1 ai ah aC a0 ad W=>?_⟩;have Z:bF="measure":=by
      have:=Ig g3;injection this
     exact⟨z5,fun t ht=>fin _ [.str field,.int n1] _ b1 (.cons (jP J) (.cons (.int n1) .nil)) (by rw[Z];exact .measure J ai ah) (fun _ z dR e=>by cases e;exact hfield) ad (k4.trans W) (by omega) (by omega) t ht⟩
    .refine⟨_,rfl,rfl,_,rfl,c8 (fun g4=>?_) (fun g4=>?_)⟩
     .refine⟨_,rfl,_,rfl,_,rfl,_,rfl,_,rfl,_,rfl,_,_,rfl,rfl,_,rfl,_,rfl,lh,_,rfl,.inl (bB ao.h),_,_,rfl,rfl,p,c,ns,a3,_,rfl,ac,by omega,by rw[Ae];omega,by rw[Ae];omega,fun r4 b1 G1 bw bf aC a0 ad W=>?_⟩;have hh:=eZ ao.h ac W;refine⟨_,_,rfl,rfl,_,rfl,lh,_,rfl,.inl (bB hh),_,_,rfl,rfl,by rw[Ae];omega,?_⟩;have e5:((hs.map V.str).length:Int)=5:=by rw[Ae,b5];rfl
      rw[e5]at bf;obtain⟨j4,ej4⟩:∃ j4:Nat,((j2:Int)+1+r4)%((hs.map V.str).length:Int)=j4:=⟨(((j2:Int)+1+r4)%((hs.map V.str).length:Int)).toNat,by rw[e5];omega⟩
      have df:j4<5/\j4≠j2:=by
       rw[e5]at ej4;omega
      obtain⟨other,hot⟩:∃ y,hs[j4]?=some y:=⟨_,Ag (by omega)⟩
      have ag:=h3.nh.ok other (AH hot);have cg:house≠other:=fun z=>by
       have cc:j2<hs.length:=by omega
       have cj:j4<hs.length:=by omega
       rw[Ag cc]at hj2;rw[Ag cj]at hot;injection hj2 with hj2;injection hot with hot;rw[<- hj2,<- hot]at z;exact df.2 ((List.getElem_inj h3.nh.nd).mp z).symm
      have av:atI (hs.map V.str) ((j4:Nat):Int)=some (V.str other):=cB (by rw[Bs,hot];rfl);rw[<- ej4]at av;have Z:bF="mend":=by
       have:=Ig g4;injection this
      exact⟨lh,_,_,_,rfl,rfl,bB hh,av,z5,fun t ht=>fin _ [.str house,.str other] _ b1 (.cons (jP B) (.cons (jP ag) .nil)) (by rw[Z];exact .mend B ag cg) (by rw[Z];exact fun z=>absurd z (by decide)) ad (k4.trans W) (by omega) (by omega) t ht⟩
     .refine⟨_,rfl,rfl,_,rfl,c8 (fun g5=>?_) (fun g5=>?_)⟩
      .have Z:bF="alone":=by
        have:=Ig g5;injection this
       exact⟨_,rfl,_,rfl,_,rfl,_,rfl,z4,fun t ht=>fin _ [.str house] _ a3 (.cons (jP B) .nil) (by rw[Z];exact .alone B) (by rw[Z];exact fun z=>absurd z (by decide)) ac k4 (by omega) (by omega) t ht⟩
      .refine⟨_,rfl,_,_,rfl,rfl,cp _ (by decide) (by decide),_,_,rfl,rfl,p,c,ns,a3,0,9999999,(by show[V.ref p,V.int 0,V.int ((10:Int)^Bq 7-1)]++[]=_;rw[p7];rfl),ac,by omega,by decide,by decide,by omega,fun n1 b1 G1 ai ah aC a0 ad W=>?_⟩;refine⟨_,rfl,rfl,_,rfl,c8 (fun g6=>?_) (fun g6=>?_)⟩
       .have Z:bF="view":=by
         have:=Ig g6;injection this
        exact⟨_,rfl,_,rfl,_,rfl,_,rfl,_,rfl,_,rfl,z6,fun t ht=>fin _ [.str field,.int n1,.str house] _ b1 (.cons (jP J) (.cons (.int n1) (.cons (jP B) .nil))) (by rw[Z];exact .view J ai ah B) (fun _ z dR e=>by cases e;exact hfield) ad (k4.trans W) (by omega) (by omega) t ht⟩
       .refine⟨_,rfl,_,rfl,_,rfl,_,rfl,_,rfl,_,rfl,_,_,rfl,rfl,cp _ (by decide) (by decide),p,c,ns,b1,0,1000000000,(by show[V.ref p,V.int 0,V.int ((10:Int)^Bq 9)]++[]=_;rw[p9];rfl),ad,by omega,by decide,by decide,by omega,fun n2 b2 G2 dk cL ee eK b4 bt=>?_⟩;refine⟨_,rfl,_,_,rfl,rfl,cp _ (by decide) (by decide),p,c,ns,b2,0,1000000,(by show[V.ref p,V.int 0,V.int ((10:Int)^Bq 6)]++[]=_;rw[p6];rfl),b4,by omega,by decide,by decide,by omega,fun n3 b3 G3 dq cD e0 eh bx bA=>?_⟩;have Z:bF="breach":=by
         have ng:∀ z:Str,¬ decide (V.str bF=V.str z)=true->bF≠z:=fun z hz e=>hz (Ic (by rw[e]));have b7:bF≠"part"/\bF≠"join":=by
          constructor
          .intro z;exact g1 (by rw[z];rfl)
          .intro z;exact g1 (by rw[z];rfl)
         have hm:=hwd;simp only[dH,Am,An,or_false]at hm;rcases hm with z|z|z|z|z|z|z|z
         .exact absurd z b7.1
         .exact absurd z b7.2
         .exact absurd z (ng _ g2)
         .exact absurd z (ng _ g3)
         .exact absurd z (ng _ g4)
         .exact absurd z (ng _ g5)
         .exact z
         .exact absurd z (ng _ g6)
        exact⟨z7,fun t ht=>fin _ [.str field,.int n1,.int n2,.int n3] _ b3 (.cons (jP J) (.cons (.int n1) (.cons (.int n2) (.cons (.int n3) .nil)))) (by rw[Z];exact .breach J ai ah dk cL dq cD) (fun _ z dR e=>by cases e;exact hfield) bx (((k4.trans W).trans bt).trans bA) (by omega) (by omega) t ht⟩
theorem aGk(c:Nat):decide (c∈(AZ "abcdefghijklmnopqrstuvwxyz").cps.toList)=isL c:=by
 have e:(AZ "abcdefghijklmnopqrstuvwxyz").cps.toList=DU 97 26:=by decide
 unfold isL;rw[e,decide_eq_decide,List.mem_range'_1];omega
theorem aE2(l:List V):tJ l []=decide (l=[]):=by
 cases l with
 | nil=>rfl
 | cons x r=>rw[n8 (by simp)];rfl
theorem aGl{ds:List Aj}(h:ds.length<4):fK (.tuple ds)=false:=by
 match ds,h with
 | [],_=>rfl
 | [d],_=>cases d<;>rfl
 | [d,_],_=>cases d<;>rfl
 | [d,a,b],_=>
  cases d with
  | str kind=>
   show(decide (kind∈dH)&&(aZ a&&(cO 0 9999 b&&dI kind [])))=false;have:dI kind []=false:=by
    unfold dI
    repeat' split
    all_goals rfl
   rw[this,Bg,Bg,Bg]
  | _=>rfl
theorem aGm{kind:Str}{ds:List Aj}(h:ds.length≠2)(h1:kind≠"alone")(h2:kind≠"breach")(B:kind≠"view")(hw:kind∈dH):dI kind ds=false:=by
 unfold dI;split
 .exact uP h
 split
 .exact uQ h
 split
 .unfold fT;rw[Ie h];rfl
 split
 .exact pY h
 split
 .exact oQ fun z=>h z.1
 rename_i a b c d e;simp[dH,a,b,c,d,e,h1,h2,B]at hw
def wZ(at':Bool)(d:Aj):Bool:=if at'=true then lG d else iY d
inductive aAx(fN fP:Ah)(vs:List V)(H:Hp)(Q:VK)(u3_:XK):Prop
 | mk (m:Bool) (x:V) (d:Aj) (at':Bool) (q0:vs=[x,.ref (if at'=true then fP else fN),.bl at']) (q1:RdV m H x d) (q2:∀ H',aV H H'->Q (.bl (wZ at' d)) H'):aAx fN fP vs H Q u3_
def aE3(fN fP:Ah):Sp:=fun vs H Q u3_=>aAx fN fP vs H Q u3_
inductive aCe(vs:List V)(H:Hp)(Q:VK):Prop
 | mk (m:Bool) (x:V) (kind:Str) (d2 d3 d4 d5 d6:Aj) (r:List Aj) (h0:vs=[x]) (rd:RdV m H x (.tuple (.str kind::d2::d3::d4::d5::d6::r))) (q:∀ H',aV H H'->Q (.bl (if kind="view" then lA (d4::d5::d6::r) else gK (d4::d5::d6::r))) H'):aCe vs H Q
def aAy:Sp:=fun vs H Q _=>aCe vs H Q
theorem aGn{z:Bool}{ds:List Aj}(h:¬ (2<=ds.length/\ds.length<=6)):wZ z (.tuple ds)=false:=by
 unfold wZ;split
 .show(ds.all cZ&&decide (2<=ds.length/\ds.length<=6)&&_)=false;rw[Ie h,Bg,BR]
 .show(ds.all aZ&&decide (2<=ds.length/\ds.length<=6)&&_)=false;rw[Ie h,Bg,BR]
def aE4(at':Bool)(d:Aj):Bool:=if at'=true then cZ d else aZ d
def vI(at':Bool)(d:Aj):Str:=if at'=true then lF d else i7 d
theorem aCf{z:Bool}{ds:List Aj}:wZ z (.tuple ds)=(ds.all (aE4 z)&&decide (2<=ds.length/\ds.length<=6)&&eI (ds.map (vI z))):=by
 cases z<;>rfl
theorem rC{x:V}{lo j n:Int}(h:(10:Int)^j.toNat=n):[x,V.int lo,(fun i j=>V.int (i^j.toNat)) 10 j]++[]=[x,V.int lo,V.int n]:=by
 show[x,V.int lo,V.int ((10:Int)^j.toNat)]=_;rw[h]
theorem aE5{x:V}{lo j n:Int}(h:(10:Int)^j.toNat-1=n):[x,V.int lo,V.int ((10:Int)^j.toNat-1)]++[]=[x,V.int lo,V.int n]:=by
 rw[h];rfl
theorem aHQ{p:Aj->Bool}{ds:List Aj}{i:Nat}{d:Aj}(h:ds[i]?=some d)(z:p d=false):ds.all p=false:=by
 cases e:ds.all p with
 | false=>rfl
 | true=>rw[AX.mp e d (AH h)]at z;cases z
theorem aGo:bM ["_law_thing"] ["_law_thing"] (aM kZ):=⟨rfl,rfl,rfl,by decide,rfl,by decide,by decide⟩
theorem aE6{f:Ah}{fd:AC}(F:Fun K "_law_is_name" "_law_is_name" kZ f fd)(T:Txt K mg):cN P w K mg base CX0 1 f fd ["_law_thing"] fS:=by
 refine F.ok aGo (fun vs H Q E h=>?_) (fun W A outer s H vs Q E hr h=>?_)
 .obtain⟨m,x,d,rfl,_⟩:=h;rfl
 .obtain⟨m,x,d,rfl,hx,k⟩:=h;have hu:=vW hr;have Z:(A.deeper (DH "_law_is_name" (aM kZ) s.heap.objs.size f W)).units<cLine:=by omega
  refine⟨_,aG (bX (PW.pt (dZ (cX (cE (aK bZ (by rfl) T.isi (by kernel_rfl) (aD (pv 0) (aD (cK (v:=.ty "str") (by rfl) T.str (by kernel_rfl) rfl) aA)))))
    (dZ (aW cQ (aK fV (by rfl) T.len Aq (aD (pv 0) aA)) aE (aY _)) (dU (aW yQ (aK fV (by rfl) T.len Aq (aD (pv 0) aA)) aE (aY _)))))) (aJ (aO eQ)) aT)
   (aJ (aO (dF (xN Z) (fM (N:=["_law_sign"]) (src:=[none]) (osc:=aM kZ) (oN:=["_law_thing"]) ⟨by rfl,by decide,by decide,by decide,rfl,by rfl⟩ (aDT (pv 0))
    fun cl s H fp dz C=>⟨bS (i:=0) (show(["_law_sign"]:List Str).Nodup by decide) rfl (AA rfl),xL (aW xH (pv 0) aN (by with_unfolding_all rfl)),pv 0⟩) (dN aA) (aY _)))),?_⟩
  refine⟨_,rfl,_,"str",_,_,rfl,eV hx,oP d,_,rfl,?_⟩;cases hd:kC d with
  | false=>
   have e:aZ d=false:=by
    cases d with
    | str z=>simp[kC]at hd
    | _=>rfl
   rw[e]at k;exact k H (aV.refl H)
  | true=>
   obtain⟨z,rfl⟩:∃ z,d=.str z:=by
    cases d with
    | str z=>exact⟨z,rfl⟩
    | _=>simp[kC]at hd
   cases hx with
   | str z hz=>
    have k':∀ H',aV H H'->Q (.bl (bV z)) H':=k;have B:bV z=false->Q (.bl false) H:=fun h=>by
     have:=k' H (aV.refl H);rw[h]at this;exact this
    have zz:z.length<=sizeLine:=aH (by omega);refine cM ?_;refine⟨_,rfl,z,rfl,zz,rfl,_,rfl,c8 (fun h0=>?_) (fun h0=>?_)⟩
    .have af:(V.int (z.length:Int))=V.int 0:=Ig h0;have O:(z.length:Int)=0:=by injection af
     refine B ?_;unfold bV;rw[Ie (by omega)];rfl
    .have O:¬ (z.length:Int)=0:=fun e=>h0 (Ic (by rw[e]));refine⟨_,rfl,z,rfl,zz,_,_,rfl,rfl,_,rfl,c8 (fun h1=>?_) (fun h1=>?_)⟩
     .have ae:(8:Int)<z.length:=Ig h1;refine B ?_;unfold bV;rw[Ie (by omega)];rfl
     .have ae:¬ (8:Int)<z.length:=fun e=>h1 (Ic e);refine⟨_,rfl,z,rfl,?_⟩;refine zE (fun i ys σ H'=>H'=H/\ys=(((z.cps.toList.take i).filter fun c=>!isL c).map fun c=>V.str ⟨#[c]⟩)/\∃ o,σ=[o]) ⟨rfl,rfl,none,rfl⟩ zz (fun i ys σ H' p=>by rw[p.2.1,Ae];exact AD (List.length_filter_le _ _) (by rw[AN];omega)) ?_ ?_
      .rintro i c ys σ H' hc ⟨rfl,rfl,o,rfl⟩;have J:z.cps.toList[i]?=some c:=by simpa using hc
       dsimp only[cF];refine⟨_,rfl,_,_,rfl,rfl,_,rfl,?_⟩;rw[PySem.StrLaws.found_one,aGk];refine c8 (fun h2=>?_) (fun h2=>?_)
       .refine⟨_,rfl,rfl,?_,_,rfl⟩;rw[Be,J,List.filter_append,A0];have:(!isL c)=true:=h2;simp[this]
       .refine⟨rfl,?_,_,rfl⟩;rw[Be,J,List.filter_append,A0];have:(!isL c)=false:=by simpa using h2
        simp[this]
      .rintro ys σ H' ⟨rfl,rfl,o,rfl⟩ D hD;have ac:CY z.cps.size z.cps.toList=z.cps.toList:=by rw[<- Bh];exact B0
       rw[ac];refine⟨Bx _,fun D2 Y=>?_⟩;have S1:=aI (o:=.lst ((z.cps.toList.filter fun c=>!isL c).map fun c=>V.str ⟨#[c]⟩)) hD;have S2:=aI (o:=.lst []) Y;refine⟨D,D2,_,_,rfl,rfl,bB (S2 _ _ aF),bB aF,?_,rfl,?_⟩
       .rw[C9,AX];intro c hc;rfl
       .rw[aE2];have e:decide (((z.cps.toList.filter fun c=>!isL c).map fun c=>V.str ⟨#[c]⟩)=[])=bV z:=by
         unfold bV;rw[Ic (show 1<=z.length/\z.length<=8 by omega),AK,BY,decide_eq_true_iff,List.map_eq_nil_iff,List.filter_eq_nil_iff,AX];constructor
         .intro h c hc;have:=h c hc;simpa[isL]using this
         .intro h c hc;have:=h c hc;simpa[isL]using this
        rw[e];exact k' _ (S1.trans S2)
theorem aE7:bM ["_law_thing","_law_bottom","_law_most"] ["_law_thing","_law_bottom","_law_most"] (aM yA):=⟨rfl,rfl,rfl,by decide,rfl,by decide,by decide⟩
theorem aDh{f:Ah}{fd:AC}(F:Fun K "_law_whole" "_law_whole" yA f fd)(T:Txt K mg):cN P w K mg base CX0 1 f fd ["_law_thing","_law_bottom","_law_most"] gZ:=by
 refine F.ok aE7 (fun vs H Q E h=>?_) (fun Y A outer s H vs Q E Z h=>?_)
 .obtain⟨m,x,d,lo,hi,rfl,_⟩:=h;rfl
 .obtain⟨m,x,d,lo,hi,rfl,hx,k⟩:=h;refine⟨_,aJ (aO (c6 (aK bZ (by rfl) T.isi (by kernel_rfl) (aD (pv 0) (aD (cK (v:=.ty "int") (by rfl) T.int (by kernel_rfl) rfl) aA)))
   (c6 (aDw (aK bZ (by rfl) T.isi (by kernel_rfl) (aD (pv 0) (aD (cK (v:=.ty "bool") (by rfl) T.bool (by kernel_rfl) rfl) aA)))) (dL (nM j8 j8 (pv 1) (pv 0) (pv 2)))))),?_⟩
  refine⟨_,rfl,_,"int",_,_,rfl,eV hx,aB6 d,_,rfl,c8 (fun g=>?_) (fun g=>?_)⟩
  .refine⟨_,rfl,_,"bool",_,_,rfl,eV hx,aEE d,_,rfl,_,rfl,c8 (fun D=>?_) (fun D=>?_)⟩
   .obtain⟨i,rfl⟩:∃ i,d=.int i:=by
     cases d with
     | int i=>exact⟨i,rfl⟩
     | bool b=>simp[yF]at D
     | _=>simp[isInt]at g
    cases hx;refine⟨_,rfl,_,rfl,_,_,rfl,rfl,?_⟩;have O:Q (.bl (decide (lo<=i/\i<=hi))) H:=k;refine⟨_,rfl,c8 (fun W=>?_) (fun W=>?_)⟩
    .have B:lo<=i:=Ig W;refine⟨_,rfl,_,_,rfl,rfl,?_⟩;show Q (.bl (decide (i<=hi))) H;rw[decide_eq_decide.mpr (show i<=hi↔lo<=i/\i<=hi from⟨fun z=>⟨B,z⟩,fun z=>z.2⟩)];exact O
    .have B:¬ lo<=i:=fun z=>W (Ic z);rw[Ie (fun z=>B z.1)]at O;exact O
   .have J:yF d=true:=by simpa using D
    have e:cO lo hi d=false:=by
     cases d with
     | bool b=>rfl
     | _=>simp[yF]at J
    rw[e]at k;exact k
  .have J:isInt d=false:=by simpa using g
   have e:cO lo hi d=false:=by
    cases d with
    | int i=>simp[isInt]at J
    | _=>rfl
   rw[e]at k;exact k
theorem aDi:bM ["_law_thing"] ["_law_thing"] (aM uH):=⟨rfl,rfl,rfl,by decide,rfl,by decide,by decide⟩
theorem aBt{f:Ah}{fd:AC}(F:Fun K "_law_is_part" "_law_is_part" uH f fd)(T:Txt K mg)
  (Y:Cl P w K mg base 1 "_law_is_name" ["_law_thing"] fS)
  (GW:Cl P w K mg base 1 "_law_whole" ["_law_thing","_law_bottom","_law_most"] gZ)
  :cN P w K mg base CX0 2 f fd ["_law_thing"] pQ:=by
 refine F.ok aDi (fun vs H Q E h=>?_) (fun ac A outer s H vs Q E hr h=>?_)
 .obtain⟨m,x,d,rfl,_⟩:=h;rfl
 .obtain⟨m,x,d,rfl,hx,k⟩:=h;have D:cY 1 _:=hr;refine⟨_,(aG (bX (PW.pt (dZ (cX (cE (aK bZ (by rfl) T.isi (by kernel_rfl) (aD (pv 0) (aD (cK (v:=.ty "tuple") (by rfl) T.tuple (by kernel_rfl) rfl) aA))))) (dZ (aW rO (aK aS (by rfl) T.len Aq (aD (pv 0) aA)) aE (aY _)) (dU (cX (cE (aX Y D (aD (bJ cA (pv 0) aE Ih) aA)))))))) (aJ (aO eQ)) aT)
   (aJ (aO (c6 (aX Y D (aD (bJ cA (pv 0) aE Ih) aA)) (dL (aX GW D (aD (bJ cA (pv 0) aE Ih) (aD aE (aD (aQ dM aE aE) aA))))))))),?_⟩
  refine⟨_,rfl,_,"tuple",_,_,rfl,eV hx,fF d,_,rfl,?_⟩;cases hd:dQ d with
  | false=>
   have e:cZ d=false:=by
    cases d with
    | tuple ds=>simp[dQ]at hd
    | _=>rfl
   rw[e]at k;exact k H (aV.refl H)
  | true=>
   obtain⟨ds,rfl⟩:∃ ds,d=.tuple ds:=by
    cases d with
    | tuple z=>exact⟨z,rfl⟩
    | _=>simp[dQ]at hd
   cases hx with
   | @tup a xs _ e hl r=>
    have aa:=r.len;refine cM ?_;refine⟨_,rfl,a,xs,rfl,.inr (aU e),rfl,_,rfl,?_⟩;by_cases O:xs.length=3
    .rw[Ic (show V.int (xs.length:Int)=V.int 3 by rw[O];rfl)];refine cM ?_
     match xs,ds,O,r with
     | [x1,x2,x3],[d1,d2,d3],_,.cons r1 (.cons r2 (.cons r3 .nil))=>
      have Z:∀ H',aV H H'->Q (.bl (aZ d1&&aZ d2&&cO 1 10000000 d3)) H':=k;refine⟨_,rfl,a,_,0,_,rfl,rfl,aU e,rfl,m,x1,d1,rfl,r1,fun H1 J=>⟨_,rfl,?_⟩⟩;cases g:aZ d1 with
      | false=>
       have q:=Z H1 J;rw[g]at q;exact cG q
      | true=>
       refine cM ?_;refine⟨_,rfl,a,_,1,_,rfl,rfl,aU (J _ _ e),rfl,m,x2,d2,rfl,r2.same J,fun H2 s2=>⟨_,rfl,?_⟩⟩;have B:=J.trans s2;have q:=Z H2 B;rw[g,AK]at q;cases W:aZ d2 with
       | false=>
        rw[W]at q;exact cM q
       | true=>
        rw[W,AK]at q;refine cG ?_;exact⟨_,rfl,a,_,2,_,rfl,rfl,aU (B _ _ e),rfl,_,_,rfl,rfl,⟨by decide,by decide,by decide⟩,m,x3,d3,1,10000000,rC (by decide),r3.same B,q⟩
    .rw[Ie (show¬ V.int (xs.length:Int)=V.int 3 from fun z=>O (by injection z with z;omega))];refine cG ?_;have e2:cZ (.tuple ds)=false:=by
      match ds,(show ds.length≠3 by omega)with
      | [],_=>rfl
      | [_],_=>rfl
      | [_,_],_=>rfl
      | [_,_,_],z=>exact absurd rfl z
      | _::_::_::_::_,_=>rfl
     rw[e2]at k;exact k H (aV.refl H)
theorem aCg:bM ["_law_things","_law_judge","_law_at","_law_thing","_law_names_here"] ["_law_things","_law_judge","_law_at"] (aM uI):=⟨rfl,rfl,rfl,by decide,rfl,by decide,by decide⟩
theorem aE8{f W Z:Ah}{fd Y O:AC}(F:Fun K "_law_rise" "_law_rise" uI f fd)(T:Txt K mg)(ae:mg "sorted"=none)
  (GN:cN P w K mg base CX0 1 W Y ["_law_thing"] fS) (mN:mg "_law_is_name"=some (.ref W)) (kN:Az K (.ref W)=true) (bN:dX K Y ["_law_thing"] [])
  (GP:cN P w K mg base CX0 2 Z O ["_law_thing"] pQ) (mP:mg "_law_is_part"=some (.ref Z)) (kP:Az K (.ref Z)=true) (bP:dX K O ["_law_thing"] [])
  :cN P w K mg base CX0 3 f fd ["_law_things","_law_judge","_law_at"] (aE3 W Z):=by
 refine F.ok aCg (fun vs H Q E h=>?_) (fun an A outer s H vs Q E hr h=>?_)
 .obtain⟨m,x,d,at',rfl,_⟩:=h;rfl
 .obtain⟨m,x,d,at',rfl,hx,k⟩:=h;have nd:=aCg.nd;have hu:=vW hr;have am:(A.deeper (DH "_law_rise" (aM uI) s.heap.objs.size f an)).units<cLine:=by omega
  have ap:cY 2 _:=hr;refine⟨_,(aG (bX (PW.pt (dZ (cX (cE (aK bZ (by rfl) T.isi (by kernel_rfl) (aD (pv 0) (aD (cK (v:=.ty "tuple") (by rfl) T.tuple (by kernel_rfl) rfl) aA))))) (dU (cX (rP j8 j8 aE (aK aS (by rfl) T.len Aq (aD (pv 0) aA)) aE))))) (aJ (aO eQ)) aT)
   (aG (oY CI rfl (jT (pv 0)) (g:=cF 3) (bS (i:=3) nd rfl (AA rfl))
   (aJ (bX (cX (cE (zJ (k:=2) (ps:=["_law_thing"]) (pv 1) ap (aD (pv 3) aA)))) (aJ (aO eQ)) aT)))
   (aG (f8 (i:=4) (N:=["_law_thing","_law_at"]) (src:=[none,some 2]) (osc:=aM uI) (oN:=["_law_things","_law_judge","_law_at","_law_thing","_law_names_here"]) ⟨by rfl,by decide,by decide,by decide,rfl,by rfl⟩ nd rfl (jT (pv 0)) (fun cl s H fp dz C=>⟨bS (i:=0) (show(["_law_thing","_law_at"]:List Str).Nodup by decide) rfl (AA rfl),dY,nK (cE (pv 1)) (bJ (r:=aDH K) cA (pv 0) aE Ih) (pv 0)⟩))
   (aJ (aO (dF (xN am) (pv 4) (aK (oG rfl) (by rfl) ae (by kernel_rfl) (aD (cH (v8 rfl) (by rfl) T.set (by kernel_rfl) (aD (pv 4) aA)) aA)) (aY _))))))),?_⟩
  refine⟨_,rfl,_,"tuple",_,_,rfl,eV hx,fF d,_,rfl,?_⟩;cases hd:dQ d with
  | false=>
   have e:wZ at' d=false:=by
    cases d with
    | tuple ds=>simp[dQ]at hd
    | _=>cases at'<;>rfl
   rw[e]at k;exact cG (k H (aV.refl H))
  | true=>
   obtain⟨ds,rfl⟩:∃ ds,d=.tuple ds:=by
    cases d with
    | tuple z=>exact⟨z,rfl⟩
    | _=>simp[dQ]at hd
   cases hx with
   | @tup a xs _ e hl r=>
    have ad:=r.len;refine cM ?_;have ac:¬ (2<=ds.length/\ds.length<=6)->Q (.bl false) H:=fun h=>by
     have q:=k H (aV.refl H);rw[aGn h]at q;exact q
    refine⟨_,rfl,a,xs,rfl,.inr (aU e),_,_,rfl,rfl,_,rfl,?_⟩;by_cases g1:(2:Int)<=xs.length
    case neg=>
     rw[Ie g1];refine cM ⟨_,rfl,?_⟩;refine cG ?_;exact ac (by omega)
    rw[Ic g1];refine cG ?_;refine⟨_,_,rfl,rfl,_,rfl,?_⟩;by_cases g2:(xs.length:Int)<=6
    case neg=>
     rw[Ie g2];refine cG ?_;exact ac (by omega)
    rw[Ic g2];refine cM ?_;obtain⟨sp,B,FG,fk,fb,go⟩:∃(sp:Sp) (B:AC),cN P w K mg base CX0 2 (if at'=true then Z else W) B ["_law_thing"] sp/\Az K (.ref (if at'=true then Z else W))=true/\dX K B ["_law_thing"] []/\∀(m:Bool) (x:V) (d:Aj) (H:Hp) (Q:VK) (E:XK),RdV m H x d->(∀ H',aV H H'->Q (.bl (aE4 at' d)) H')->sp [x] H Q E:=by
     cases at' with
     | true=>exact⟨pQ,O,GP,kP,bP,fun m x d H Q E r q=>⟨m,x,d,rfl,r,q⟩⟩
     | false=>exact⟨fS,Y,GN.mono (by decide),kN,bN,fun m x d H Q E r q=>⟨m,x,d,rfl,r,q⟩⟩
    refine⟨_,rfl,a,rfl,⟨xs,aU e⟩,aFr (K:=K) (xs:=xs) (fun i σ H'=>∃(o:Option V),σ=[some (.ref a),some (.ref (if at'=true then Z else W)),some (.bl at'),o,none]/\aV H H'/\(ds.take i).all (aE4 at')=true) ⟨none,rfl,aV.refl _,rfl⟩ (fun i σ H' _ h=>?_) ?_ ?_⟩
    .obtain⟨_,_,J,_⟩:=h;exact aU (J _ _ e)
    .rintro i y σ H1 hy ⟨o,rfl,J,h1⟩;dsimp only[cF];obtain⟨d',hd',r'⟩:=r.at hy;refine⟨_,rfl,_,sp,rfl,⟨B,FG,fk,fb⟩,⟨_,rfl,go m y d' H1 _ _ (r'.same J) fun H2 s2=>⟨_,rfl,?_⟩⟩⟩;have af:=J.trans s2;cases g:aE4 at' d' with
     | false=>
      refine cG ?_;have q:=k H2 af;rw[aCf,aHQ hd' g]at q;exact q
     | true=>
      refine cM ⟨_,rfl,af,?_⟩;rw[Be,hd',List.all_append,h1];show(true&&(aE4 at' d'&&true))=true;rw[g];rfl
    rintro σ H1 ⟨o,rfl,J,h1⟩;rw[ad,B0]at h1;refine⟨_,rfl,a,rfl,⟨xs,aU (J _ _ e)⟩,?_⟩;refine jH (xs:=xs) (fun i ys σ H'=>aV H H'/\ys=((ds.take i).map fun d=>V.str (vI at' d))/\∃ o,σ=[o,some (.bl at')]) ⟨J,rfl,none,rfl⟩ (aH (by omega)) (fun i ys σ H' p=>by rw[p.2.1,Ae,AN];omega) (fun i ys σ H' p=>aU (p.1 _ _ e)) ?_ ?_
    .rintro i y ys σ H' hy ⟨S,rfl,o,rfl⟩;dsimp only[cF];obtain⟨d',hd',r'⟩:=r.at hy;have hj:=AX.mp h1 d' (AH hd');refine cG ⟨_,rfl,_,rfl,?_⟩;have fin:∀ v:V,v=V.str (vI at' d')->(aV H H'/\((ds.take i).map fun d=>V.str (vI at' d))++[v]=((ds.take (i+1)).map fun d=>V.str (vI at' d))/\∃ o,([some y,some (.bl at')]:L2.St)=[o,some (.bl at')]):=fun v hv=>⟨S,by rw[Be,hd',A0,hv];rfl,_,rfl⟩
     cases at' with
     | true=>
      obtain⟨b,zs,rfl,hb,hat⟩:=wJ (r'.same S) hj;exact cG ⟨_,rfl,b,zs,0,_,rfl,rfl,aU hb,hat,fin _ rfl⟩
     | false=>
      refine cM ⟨_,rfl,fin _ ?_⟩;have hj:aZ d'=true:=hj;cases d' with
      | str z=>cases r';rfl
      | _=>simp[aZ]at hj
    rintro ys σ H2 ⟨S,rfl,o,rfl⟩ D hD;have aq:CY xs.length ds=ds:=AV (by omega);rw[aq];have em:(ds.map fun d=>V.str (vI at' d))=(ds.map (vI at')).map V.str:=by rw[B7];rfl
    rw[em];have ak:(ds.map (vI at')).length<=6:=by rw[Ae];omega
    have kk:∀ H',aV H H'->Q (.bl (eI (ds.map (vI at')))) H':=fun H' s'=>by
     have q:=k H' s';rw[aCf,h1,Ic (by omega),AK,AK]at q;exact q
    generalize ds.map (vI at')=ss at ak kk ⊢;have sD:=aI (o:=.lst (ss.map V.str)) hD;have eD:upd H2 D (.lst (ss.map V.str)) D=some (.lst (ss.map V.str)):=aF;generalize upd H2 D _=H3 at sD eD ⊢;refine⟨_,rfl,_,rfl,D,ss,rfl,.inl eD,by omega,fun S2 ao=>?_⟩;have sS:=aI (o:=aCV P w S2 ss) ao;refine⟨S2,ss,rfl,aF,by omega,fun l ms aj hp hs=>?_⟩;have sl:=aI (o:=.lst (ms.map V.str)) aj;refine⟨D,l,_,_,rfl,rfl,bB (sl _ _ (sS _ _ eD)),bB aF,iK ss,iK ms,?_⟩;rw[pR,uR hp hs];exact kk _ ((S.trans sD).trans (sS.trans sl))
theorem w5:bM ["_law_thing"] ["_law_thing"] (aM uJ):=⟨rfl,rfl,rfl,by decide,rfl,by decide,by decide⟩
theorem aBu{f:Ah}{fd:AC}(F:Fun K "_law_is_placed" "_law_is_placed" uJ f fd)(T:Txt K mg)
  (GN:Cl P w K mg base 1 "_law_is_name" ["_law_thing"] fS)
  (GW:Cl P w K mg base 1 "_law_whole" ["_law_thing","_law_bottom","_law_most"] gZ)
  :cN P w K mg base CX0 2 f fd ["_law_thing"] aAy:=by
 refine F.ok w5 (fun vs H Q E h=>?_) (fun an A outer s H vs Q E hr h=>?_)
 .obtain⟨m,x,kind,d2,d3,d4,d5,d6,r,rfl,_⟩:=h;rfl
 .obtain⟨m,x,kind,d2,d3,d4,d5,d6,r,rfl,rd,k⟩:=h;have nd:=w5.nd;have J:cY 1 _:=hr;refine⟨_,(aG (bX (PW.pt (dZ (cX (cE (aX GN J (aD (bJ cA (pv 0) aE Ih) aA)))) (dU (cX (cE (aX GW J (aD (bJ cA (pv 0) aE Ih) (aD aE (aD (aQ gO (aQ dM aE aE) aE) aA)))))))))  (aJ (aO eQ)) aT)
   (aG (bX (aW cQ (bJ cA (pv 0) aE Ih) aN (aY _)) (aJ (aO (c6 (dF cQ (aK aS (by rfl) T.len Aq (aD (pv 0) aA)) aE (aY _)) (dL (aX GN J (aD (bJ cA (pv 0) aE Ih) aA)))))) aT)
   (aJ (aO (c6 (dF cQ (aK aS (by rfl) T.len Aq (aD (pv 0) aA)) aE (aY _)) (c6 (aX GW J (aD (bJ cA (pv 0) aE Ih) (aD aE (aD (aQ dM aE aE) aA)))) (dL (aX GW J (aD (bJ cA (pv 0) aE Ih) (aD aE (aD (aQ dM aE aE) aA))))))))))),?_⟩
  have cp:∀ j:Int,0<=j->j<=1000000->mV 10 j:=fun j h1 h2=>⟨h1,h2,by decide⟩
  have p6:((10:Int)^Bq 6)=1000000:=by decide
  have p7:((10:Int)^Bq 7)=10000000:=by decide
  have p9:((10:Int)^Bq 9)=1000000000:=by decide
  have ev:∀(l:List Aj),(aZ d4&&cO 0 9999999 d5)=false->lA (d4::d5::l)=false/\gK (d4::d5::l)=false:=fun l h=>by
   constructor
   .match l with
    | []=>rfl
    | [_]=>show(aZ d4&&cO 0 9999999 d5&&_)=false;rw[h];rfl
    | _::_::_=>rfl
   .match l with
    | []=>rfl
    | [_]=>rfl
    | [_,_]=>show(aZ d4&&cO 0 9999999 d5&&_&&_)=false;rw[h];rfl
    | _::_::_::_=>rfl
  have O:(aZ d4&&cO 0 9999999 d5)=false->∀ H',aV H H'->Q (.bl false) H':=fun h H' s'=>by
   have q:=k H' s';rw[(ev _ h).1,(ev _ h).2,ite_self]at q;exact q
  cases rd with
  | @tup a xs _ e hl D=>
  cases D with
  | @cons x1 _ _ _ r1 D=>
  cases D with
  | @cons x2 _ _ _ r2 D=>
  cases D with
  | @cons x3 _ _ _ r3 D=>
  cases D with
  | @cons x4 _ _ _ r4 D=>
  cases D with
  | @cons x5 _ _ _ r5 D=>
  cases D with
  | @cons Y _ xr _ r6 D=>
  have W:=D.len;cases r1;refine⟨_,rfl,a,_,3,_,rfl,rfl,aU e,cB (j:=3) rfl,m,x4,d4,rfl,r4,fun H1 B=>⟨_,rfl,?_⟩⟩;cases g:aZ d4 with
  | false=>exact cG (O (by rw[g];rfl) H1 B)
  | true=>
  refine cM ?_;refine⟨_,rfl,a,_,4,_,rfl,rfl,aU (B _ _ e),cB (j:=4) rfl,_,_,rfl,rfl,cp _ (by decide) (by decide),_,_,rfl,rfl,m,x5,d5,0,9999999,aE5 (by decide),r5.same B,_,rfl,?_⟩;cases g2:cO 0 9999999 d5 with
  | false=>exact cG (O (by rw[g,g2];rfl) H1 B)
  | true=>
  refine cM ?_;refine⟨_,rfl,a,_,0,_,rfl,rfl,aU (B _ _ e),cB (j:=0) rfl,rfl,_,rfl,?_⟩;by_cases Z:kind="view"
  .rw[Ic (show V.str kind=V.str "view" by rw[Z])];rw[Ib Z]at k;refine cG ?_;refine⟨_,rfl,a,_,rfl,.inr (aU (B _ _ e)),rfl,_,rfl,?_⟩
   match xr,r,W with
   | [],[],_=>
    refine cG ?_;refine⟨_,rfl,a,_,5,_,rfl,rfl,aU (B _ _ e),cB (j:=5) rfl,m,Y,d6,rfl,r6.same B,fun H2 s2=>?_⟩;have q:=k H2 (B.trans s2);rw[show lA [d4,d5,d6]=(aZ d4&&cO 0 9999999 d5&&aZ d6) from rfl,g,g2]at q;exact q
   | y::ys,d::ds,_=>
    rw[Ie (show¬ V.int (((V.str kind::x2::x3::x4::x5::Y::y::ys).length:Nat):Int)=V.int 6 from fun z=>by injection z with z;simp only[Ax]at z;omega)];refine cM ?_;exact k H1 B
  .rw[Ie (show¬ V.str kind=V.str "view" from fun h=>by injection h with h;exact Z h)];rw[Ia Z]at k;refine cM ?_;refine⟨_,rfl,a,_,rfl,.inr (aU (B _ _ e)),rfl,_,rfl,?_⟩
   match xr,r,W,D with
   | [y],[d],_,.cons r7 .nil=>
    refine cG ?_;refine⟨_,rfl,a,_,5,_,rfl,rfl,aU (B _ _ e),cB (j:=5) rfl,_,_,rfl,rfl,cp _ (by decide) (by decide),m,Y,d6,0,1000000000,rC (by decide),r6.same B,_,rfl,?_⟩;have q:=k H1 B;rw[show gK [d4,d5,d6,d]=(aZ d4&&cO 0 9999999 d5&&cO 0 1000000000 d6&&cO 0 1000000 d) from rfl,g,g2,AK,AK]at q;cases g3:cO 0 1000000000 d6 with
    | false=>
     rw[g3]at q;exact cM q
    | true=>
     rw[g3]at q;refine cG ?_;exact⟨_,rfl,a,_,6,_,rfl,rfl,aU (B _ _ e),cB (j:=6) rfl,_,_,rfl,rfl,cp _ (by decide) (by decide),m,y,d,0,1000000,rC (by decide),r7.same B,q⟩
   | [],[],_,_=>
    refine cM ?_;exact k H1 B
   | y::y2::ys,d::d'::ds,_,_=>
    rw[Ie (show¬ V.int (((V.str kind::x2::x3::x4::x5::Y::y::y2::ys).length:Nat):Int)=V.int 7 from fun z=>by injection z with z;simp only[Ax]at z;omega)];refine cM ?_;exact k H1 B
theorem aAz:bM ["_law_thing","_law_word"] ["_law_thing"] (aM yB):=⟨rfl,rfl,rfl,by decide,rfl,by decide,by decide⟩
theorem aDj{f fN fW fL fR fP:Ah}{fd be aB a0 bb:AC}(F:Fun K "_law_is_row" "_law_is_row" yB f fd)(T:Txt K mg)(mP:mg "_law_is_part"=some (.ref fP))
  (GN:cN P w K mg base CX0 1 fN be ["_law_thing"] fS) (mN:mg "_law_is_name"=some (.ref fN)) (kN:Az K (.ref fN)=true) (bN:dX K be ["_law_thing"] [])
  (GW:cN P w K mg base CX0 1 fW aB ["_law_thing","_law_bottom","_law_most"] gZ) (mW:mg "_law_whole"=some (.ref fW)) (kW:Az K (.ref fW)=true) (bW:dX K aB ["_law_thing","_law_bottom","_law_most"] [])
  (GL:cN P w K mg base CX0 2 fL a0 ["_law_thing"] aAy) (mL:mg "_law_is_placed"=some (.ref fL)) (kL:Az K (.ref fL)=true) (bL:dX K a0 ["_law_thing"] [])
  (GR:cN P w K mg base CX0 3 fR bb ["_law_things","_law_judge","_law_at"] (aE3 fN fP)) (mR:mg "_law_rise"=some (.ref fR)) (kR:Az K (.ref fR)=true) (bR:dX K bb ["_law_things","_law_judge","_law_at"] [])
  :cN P w K mg base CX0 4 f fd ["_law_thing"] jZ:=by
 refine F.ok aAz (fun vs H Q E h=>?_) (fun cn A outer s H vs Q E hr h=>?_)
 .obtain⟨m,x,d,rfl,_⟩:=h;rfl
 .obtain⟨m,x,d,rfl,hx,k⟩:=h;have nd:=aAz.nd;have bc:cY 3 _:=hr;have bw:cY 2 _:=hr.mono (by decide);have J:cY 1 _:=hr.mono (by decide);refine⟨_,(aG (bX (PW.pt (dZ (cX (cE (aK bZ (by rfl) T.isi (by kernel_rfl) (aD (pv 0) (aD (cK (v:=.ty "tuple") (by rfl) T.tuple (by kernel_rfl) rfl) aA))))) (dZ (aW yP (aK aS (by rfl) T.len Aq (aD (pv 0) aA)) aE (aY _)) (dU (cX (cE (aK bZ (by rfl) T.isi (by kernel_rfl) (aD (bJ cA (pv 0) aE Ih) (aD (cK (v:=.ty "str") (by rfl) T.str (by kernel_rfl) rfl) aA))))))))) (aJ (aO eQ)) aT)
   (aG (bX (PW.pt (dZ (cX (cE (dP GN J rfl mN kN bN .nil f6 (aD (bJ cA (pv 0) aE Ih) aA)))) (dU (cX (cE (dP GW J rfl mW kW bW .nil f6 (aD (bJ cA (pv 0) aE Ih) (aD aE (aD aE aA))))))))) (aJ (aO eQ)) aT)
   (aG (bE (i:=1) nd rfl (AA rfl) (bJ cA (pv 0) aE Ih))
   (aG (bX (aW cQ (pv 1) aN (aY _)) (aJ (aO (c6 (dF cQ (aK aS (by rfl) T.len Aq (aD (pv 0) aA)) aE (aY _)) (dL (dP GN J rfl mN kN bN .nil f6 (aD (bJ cA (pv 0) aE Ih) aA)))))) aT)
   (aG (bX (aW o0 (pv 1) (bU (aD aN (aD aN aA))) (by with_unfolding_all rfl)) (aJ (aO (c6 (dF yQ (aK aS (by rfl) T.len Aq (aD (pv 0) aA)) aE (aY _)) (dL (dP GL bw rfl mL kL bL .nil f6 (aD (pv 0) aA)))))) aT)
   (aG (bX (aW rO (aK aS (by rfl) T.len Aq (aD (pv 0) aA)) aE (aY _)) (aJ (aO eQ)) aT)
   (aG (bX (aW cQ (pv 1) aN (aY _)) (aJ (aO (c6 (dP GN J rfl mN kN bN .nil f6 (aD (bJ cA (pv 0) aE Ih) aA)) (dL (dP GR bc rfl mR kR bR .nil f6 (aD (bJ cA (pv 0) aE Ih) (aD (cV (v:=.ref fP) (by rfl) mP rfl) (aD eQ aA)))))))) aT)
   (aG (bX (aW cQ (pv 1) aN (aY _)) (aJ (aO (c6 (dP GR bc rfl mR kR bR .nil f6 (aD (bJ cA (pv 0) aE Ih) (aD (cV (v:=.ref fN) (by rfl) mN rfl) (aD eQ aA)))) (dL (dP GN J rfl mN kN bN .nil f6 (aD (bJ cA (pv 0) aE Ih) aA)))))) aT)
   (aG (bX (aW cQ (pv 1) aN (aY _)) (aJ (aO (c6 (dP GN J rfl mN kN bN .nil f6 (aD (bJ cA (pv 0) aE Ih) aA)) (dL (dP GW J rfl mW kW bW .nil f6 (aD (bJ cA (pv 0) aE Ih) (aD aE (aD (aQ dM aE aE) aA)))))))) aT)
   (aG (bX (PW.pt (dZ (aW nR (pv 1) (bU (aD aN (aD aN aA))) (by with_unfolding_all rfl)) (dZ (cX (cE (dP GN J rfl mN kN bN .nil f6 (aD (bJ cA (pv 0) aE Ih) aA)))) (dU (cX (cE (dP GN J rfl mN kN bN .nil f6 (aD (bJ cA (pv 0) aE Ih) aA)))))))) (aJ (aO eQ)) aT)
   (aJ (aO (aH7 (dF cQ (pv 1) aN (aY _)) (dL (dF rO (bJ cA (pv 0) aE Ih) (bJ cA (pv 0) aE Ih) (aY _)))))))))))))))),?_⟩
  have cp:∀ j:Int,0<=j->j<=1000000->mV 10 j:=fun j h1 h2=>⟨h1,h2,by decide⟩
  refine⟨_,rfl,_,"tuple",_,_,rfl,eV hx,fF d,_,rfl,?_⟩;cases hd:dQ d with
  | false=>
   have e:fK d=false:=by
    cases d with
    | tuple ds=>simp[dQ]at hd
    | _=>rfl
   rw[e]at k;exact k H (aV.refl H)
  | true=>
  obtain⟨ds,rfl⟩:∃ ds,d=.tuple ds:=by
   cases d with
   | tuple z=>exact⟨z,rfl⟩
   | _=>simp[dQ]at hd
  cases hx with
  | @tup a xs _ e hl r=>
  have aj:=r.len;refine cM ?_;refine⟨_,rfl,a,xs,rfl,.inr (aU e),_,_,rfl,rfl,_,rfl,?_⟩;by_cases hn:(xs.length:Int)<4
  .rw[Ic hn];refine cG ?_;rw[aGl (by omega)]at k;exact k H (aV.refl H)
  rw[Ie hn];refine cM ?_
  match xs,ds,r,aj,hn with
  | [],_,_,_,z=>exact absurd (by decide) z
  | [_],_,_,_,z=>exact absurd (show(1:Int)<4 by decide) z
  | [_,_],_,_,_,z=>exact absurd (show(2:Int)<4 by decide) z
  | [_,_,_],_,_,_,z=>exact absurd (show(3:Int)<4 by decide) z
  | x1::x2::x3::x4::xs,d1::d2::d3::B::ds,.cons r1 (.cons r2 (.cons r3 (.cons W rr))),aj,hn=>
  have ba:=rr.len;refine⟨_,rfl,a,_,0,_,rfl,rfl,aU e,cB (j:=0) rfl,_,"str",_,_,rfl,eV r1,oP d1,_,rfl,?_⟩;cases hk:kC d1 with
  | false=>
   rw[wM hk]at k;exact k H (aV.refl H)
  | true=>
  obtain⟨kind,rfl⟩:∃ z,d1=.str z:=by
   cases d1 with
   | str z=>exact⟨z,rfl⟩
   | _=>simp[kC]at hk
  have r0:=r1;cases r1;refine cM ?_;have k':∀ H',aV H H'->Q (.bl (decide (kind∈dH)&&(aZ d2&&(cO 0 9999 d3&&dI kind (B::ds))))) H':=k;refine⟨_,rfl,a,_,1,_,rfl,rfl,aU e,cB (j:=1) rfl,m,x2,d2,rfl,r2,fun H1 s1=>⟨_,rfl,?_⟩⟩;cases g:aZ d2 with
  | false=>
   have q:=k' H1 s1;rw[g,BR,Bg]at q;exact cG q
  | true=>
  refine cM ?_;refine⟨_,rfl,a,_,2,_,rfl,rfl,aU (s1 _ _ e),cB (j:=2) rfl,m,x3,d3,0,9999,rfl,r3.same s1,_,rfl,?_⟩;cases g2:cO 0 9999 d3 with
  | false=>
   have q:=k' H1 s1;rw[g2,BR,Bg,Bg]at q;exact cG q
  | true=>
  refine cM ?_;rw[g,g2,AK,AK]at k';have Y:∀ H',aV H1 H'->Q (.bl (decide (kind∈dH)&&dI kind (B::ds))) H':=fun H' s'=>k' H' (s1.trans s');have D:=s1 _ _ e;have rf:RdV m H1 (.ref a) (.tuple (.str kind::d2::d3::B::ds)):=(RdV.tup e hl (.cons r0 (.cons r2 (.cons r3 (.cons W rr))))).same s1;have W:=W.same s1;have rr:=rr.same s1;clear k k' r r0 r2 r3;generalize H1=H0 at Y D W rr rf ⊢;refine⟨_,rfl,a,_,0,_,rfl,rfl,aU D,cB (j:=0) rfl,?_⟩;have ne:∀{u:Str},kind≠u->¬ V.str kind=V.str u:=fun h e=>by injection e with e;exact h e
  refine⟨_,rfl,rfl,_,rfl,?_⟩;by_cases ha:kind="alone"
  .subst ha;rw[Ic (show V.str "alone"=V.str "alone" from rfl)];refine cG ?_;have O:∀ H',aV H0 H'->Q (.bl (lD (B::ds))) H':=Y;refine⟨_,rfl,a,_,rfl,.inr (aU D),rfl,_,rfl,?_⟩
   match xs,ds,ba with
   | [],[],_=>
    refine cG ?_;exact⟨_,rfl,a,_,3,_,rfl,rfl,aU D,cB (j:=3) rfl,m,x4,B,rfl,W,O⟩
   | y::ys,d::ds,_=>
    rw[Ie (show¬ V.int (((V.str "alone"::x2::x3::x4::y::ys).length:Nat):Int)=V.int 4 from fun z=>by injection z with z;simp only[Ax]at z;omega)];exact cM (O H0 (aV.refl _))
  rw[Ie (ne ha)];refine cM ?_;refine⟨_,rfl,zZ2,fun q hq=>?_⟩;have sq:=aI (o:=.tup [V.str "breach",.str "view"]) hq;refine⟨q,_,rfl,.inr (aU aF),rfl,rfl,_,rfl,?_⟩
  replace D:=sq _ _ D
  replace Y:∀ H',aV (upd H0 q (.tup [V.str "breach",.str "view"])) H'->Q (.bl (decide (kind∈dH)&&dI kind (B::ds))) H':=fun H' s'=>Y H' (sq.trans s')
  replace W:=W.same sq
  replace rr:=rr.same sq
  replace rf:=rf.same sq
  generalize upd H0 q _=H2 at D Y W rr rf ⊢;refine c8 (fun gb=>?_) (fun gb=>?_)
  .have hb:kind="breach"\/kind="view":=by
    have h0:("breach":Str)=kind\/("view":Str)=kind:=by simpa[inV,eqV]using gb
    exact h0.imp FK FK
   have O:∀ H',aV H2 H'->Q (.bl (if kind="view" then lA (B::ds) else gK (B::ds))) H':=fun H' s'=>by
    have q:=Y H' s';rcases hb with rfl|rfl
    .exact q
    .exact q
   refine⟨_,rfl,a,_,rfl,.inr (aU D),_,_,rfl,rfl,_,rfl,?_⟩;by_cases h5:2<=ds.length
   .rw[Ic (show(5:Int)<(((V.str kind::x2::x3::x4::xs).length:Nat):Int) by simp only[Ax];omega)];refine cG ?_
    match ds,h5,rf,O with
    | d5::d6::dr,_,rf,O=>exact⟨_,rfl,.mk m _ kind d2 d3 B d5 d6 dr rfl rf O⟩
   .rw[Ie (show¬ (5:Int)<(((V.str kind::x2::x3::x4::xs).length:Nat):Int) by simp only[Ax];omega)];refine cM ?_;have q:=O H2 (aV.refl _);rw[aAm (by simp only[Ax];omega),uM (by simp only[Ax];omega),ite_self]at q;exact q
  have ag:kind≠"breach"/\kind≠"view":=by
   have h0:¬ (("breach":Str)=kind\/("view":Str)=kind):=by simpa[inV,eqV]using gb
   exact⟨fun h=>h0 (.inl h.symm),fun h=>h0 (.inr h.symm)⟩
  refine⟨_,rfl,a,_,rfl,.inr (aU D),rfl,_,rfl,?_⟩;by_cases h5:ds.length=1
  case neg=>
   rw[Ie (show¬ V.int (((V.str kind::x2::x3::x4::xs).length:Nat):Int)=V.int 5 from fun z=>by injection z with z;simp only[Ax]at z;omega)];refine cG ?_;have q:=Y H2 (aV.refl _);by_cases hw:kind∈dH
   .rw[aGm (by simp only[Ax];omega) ha ag.1 ag.2 hw,Bg]at q;exact q
   .rw[Ie hw]at q;exact q
  obtain⟨d5,rfl⟩:=List.length_eq_one_iff.mp h5;obtain⟨x5,rfl⟩:∃ x5,xs=[x5]:=List.length_eq_one_iff.mp (by rw[ba];rfl);cases rr with
  | cons r5 _=>
  rw[Ic (show V.int ((([V.str kind,x2,x3,x4,x5]:List V).length:Nat):Int)=V.int 5 from rfl)];refine cM ?_;refine⟨_,rfl,rfl,_,rfl,?_⟩;by_cases hp:kind="part"
  .subst hp;rw[Ic (show V.str "part"=V.str "part" from rfl)];refine cG ?_;have O:∀ H',aV H2 H'->Q (.bl (aZ B&&lG d5)) H':=Y;refine⟨_,rfl,a,_,3,_,rfl,rfl,aU D,cB (j:=3) rfl,m,x4,B,rfl,W,fun H3 Z=>⟨_,rfl,?_⟩⟩;cases g4:aZ B with
   | false=>
    have q:=O H3 Z;rw[g4]at q;exact cM q
   | true=>
    refine cG ?_;refine⟨_,rfl,a,_,4,_,rfl,rfl,aU (Z _ _ D),cB (j:=4) rfl,m,x5,d5,true,rfl,r5.same Z,fun H4 s4=>?_⟩;have q:=O H4 (Z.trans s4);rw[g4]at q;exact q
  rw[Ie (ne hp)];refine cM ?_;refine⟨_,rfl,rfl,_,rfl,?_⟩;by_cases hj:kind="join"
  .subst hj;rw[Ic (show V.str "join"=V.str "join" from rfl)];refine cG ?_;have O:∀ H',aV H2 H'->Q (.bl (iY B&&aZ d5)) H':=Y;refine⟨_,rfl,a,_,3,_,rfl,rfl,aU D,cB (j:=3) rfl,m,x4,B,false,rfl,W,fun H3 Z=>⟨_,rfl,?_⟩⟩;cases g4:wZ false B with
   | false=>
    have q:=O H3 Z;rw[show iY B=false from g4]at q;exact cM q
   | true=>
    refine cG ?_;refine⟨_,rfl,a,_,4,_,rfl,rfl,aU (Z _ _ D),cB (j:=4) rfl,m,x5,d5,rfl,r5.same Z,fun H4 s4=>?_⟩;have q:=O H4 (Z.trans s4);rw[show iY B=true from g4]at q;exact q
  rw[Ie (ne hj)];refine cM ?_;refine⟨_,rfl,rfl,_,rfl,?_⟩;by_cases hm:kind="measure"
  .subst hm;rw[Ic (show V.str "measure"=V.str "measure" from rfl)];refine cG ?_;have O:∀ H',aV H2 H'->Q (.bl (aZ B&&cO 0 10000000 d5)) H':=Y;refine⟨_,rfl,a,_,3,_,rfl,rfl,aU D,cB (j:=3) rfl,m,x4,B,rfl,W,fun H3 Z=>⟨_,rfl,?_⟩⟩;have q:=O H3 Z;cases g4:aZ B with
   | false=>
    rw[g4]at q;exact cM q
   | true=>
    rw[g4]at q;refine cG ?_;exact⟨_,rfl,a,_,4,_,rfl,rfl,aU (Z _ _ D),cB (j:=4) rfl,_,_,rfl,rfl,cp _ (by decide) (by decide),m,x5,d5,0,10000000,rC (by decide),r5.same Z,q⟩
  rw[Ie (ne hm)];refine cM ?_;refine⟨_,rfl,zZ2,fun q2 bO=>?_⟩;have ah:=aI (o:=.tup [V.str "forfeit",.str "mend"]) bO;refine⟨q2,_,rfl,.inr (aU aF),rfl,rfl,_,rfl,?_⟩
  replace D:=ah _ _ D
  replace Y:∀ H',aV (upd H2 q2 (.tup [V.str "forfeit",.str "mend"])) H'->Q (.bl (decide (kind∈dH)&&dI kind [B,d5])) H':=fun H' s'=>Y H' (ah.trans s')
  replace W:=W.same ah
  replace r5:=r5.same ah
  generalize upd H2 q2 _=H3 at D Y W r5 ⊢;by_cases hf:kind="forfeit"\/kind="mend"
  case neg=>
   have gf:(if true=true then !inV (V.str kind) [V.str "forfeit",V.str "mend"] else inV (V.str kind) [V.str "forfeit",V.str "mend"])=true:=by
    have h0:¬ (("forfeit":Str)=kind\/("mend":Str)=kind):=fun h=>hf (h.imp FK FK);simpa[inV,eqV]using h0
   rw[gf];refine cG ?_;have q:=Y H3 (aV.refl _);have hw:kind∉dH:=fun h=>by
    unfold dH at h;simp only[Am,An,or_false]at h;rcases h with h|h|h|h|h|h|h|h
    .exact hp h
    .exact hj h
    .exact hf (.inl h)
    .exact hm h
    .exact hf (.inr h)
    .exact ha h
    .exact ag.1 h
    .exact ag.2 h
   rw[Ie hw]at q;exact q
  have gf:(if true=true then !inV (V.str kind) [V.str "forfeit",V.str "mend"] else inV (V.str kind) [V.str "forfeit",V.str "mend"])=false:=by
   rcases hf with rfl|rfl<;>decide
  rw[gf];refine cM ?_;have O:∀ H',aV H3 H'->Q (.bl (if kind="forfeit" then fT [B,d5] else lE [B,d5])) H':=fun H' s'=>by
   have q:=Y H' s';rcases hf with rfl|rfl
   .exact q
   .exact q
  have am:¬ (aZ B=true/\aZ d5=true)->∀ H',aV H3 H'->Q (.bl false) H':=fun h H' s'=>by
   have q:=O H' s';have hb:¬ ([B,d5]:List Aj).all aZ=true:=fun z=>by
    simp only[Cq,List.all_nil,Bool.and_true,Av]at z;exact h z
   rw[show fT [B,d5]=([B,d5]:List Aj).all aZ from rfl,Bool.not_eq_true _ |>.mp hb,oQ fun z=>hb z.2,ite_self]at q;exact q
  refine⟨_,rfl,a,_,3,_,rfl,rfl,aU D,cB (j:=3) rfl,m,x4,B,rfl,W,fun H4 s4=>⟨_,rfl,?_⟩⟩;cases g4:aZ B with
  | false=>exact cG (am (by rw[g4];exact fun z=>nomatch z.1) H4 s4)
  | true=>
  refine cM ?_;refine⟨_,rfl,a,_,4,_,rfl,rfl,aU (s4 _ _ D),cB (j:=4) rfl,m,x5,d5,rfl,r5.same s4,fun H5 s5=>⟨_,rfl,?_⟩⟩;have af:=s4.trans s5;cases g5:aZ d5 with
  | false=>exact cG (am (by rw[g5];exact fun z=>nomatch z.2) H5 af)
  | true=>
  refine cM ?_;have q:=O H5 af;refine⟨_,rfl,rfl,_,rfl,?_⟩;by_cases h7:kind="forfeit"
  .rw[Ic (show V.str kind=V.str "forfeit" by rw[h7])];refine cG ?_;rw[Ib h7,show fT [B,d5]=([B,d5]:List Aj).all aZ from rfl,Cq,Cq,g4,g5]at q;exact q
  .rw[Ie (ne h7)];refine cM ?_;rw[Ia h7]at q;cases B with
   | str z4=>
    cases d5 with
    | str z5=>
     cases W;cases r5;refine⟨_,rfl,a,_,3,_,rfl,rfl,aU (af _ _ D),cB (j:=3) rfl,_,rfl,a,_,4,_,rfl,rfl,aU (af _ _ D),cB (j:=4) rfl,rfl,?_⟩;have ef:lE [.str z4,.str z5]=!decide (V.str z4=V.str z5):=by
      show(bV z4&&bV z5&&!decide (z4=z5))=_;rw[show bV z4=true from g4,show bV z5=true from g5];by_cases hz:z4=z5
      .subst hz;simp
      .rw[Ie hz,Ie (fun e=>hz (by injection e))];rfl
     rw[ef]at q;exact q
    | _=>simp[aZ]at g5
   | _=>simp[aZ]at g4
def atD:List Aj->Nat
 | .str k::_=>if k="part" then 4 else if k="join" then 3 else 0
 | _=>0
theorem aE9{ds:List Aj}(h:ds.length=5)(B:0<atD ds):∃ J,ds[atD ds]?=some J/\lV ds=ds.set (atD ds) (jO J):=by
 match ds,h with
 | [d1,n,z,f,l],_=>
  cases d1 with
  | str k=>
   have e:∀ n z f l,lV [.str k,n,z,f,l]=if k="part" then[.str k,n,z,f,jO l] else if k="join" then[.str k,n,z,jO f,l] else[.str k,n,z,f,l]:=fun _ _ _ _=>rfl
   have D:atD [.str k,n,z,f,l]=if k="part" then 4 else if k="join" then 3 else 0:=rfl
   rw[e,D];rw[D]at B;by_cases h1:k="part"
   .rw[Ib h1,Ib h1];exact⟨l,rfl,rfl⟩
   .rw[Ia h1]at B ⊢;rw[Ia h1];by_cases h2:k="join"
    .rw[Ib h2,Ib h2];exact⟨f,rfl,rfl⟩
    .rw[Ia h2]at B;cases B
  | _=>cases B
theorem aCh{ds:List Aj}(h:¬ (0<atD ds/\ds.length=5)):lV ds=ds:=by
 unfold lV;split
 .rename_i k n D f l;have B:atD [.str k,n,D,f,l]=if k="part" then 4 else if k="join" then 3 else 0:=rfl
  rw[B]at h;have h1:k≠"part":=fun z=>h ⟨by rw[Ib z];decide,rfl⟩;have h2:k≠"join":=fun z=>h ⟨by rw[Ia h1,Ib z];decide,rfl⟩;rw[Ia h1,Ia h2]
 .rfl
theorem aFa{d:Aj}(h:dA d=false):jO d=d:=by
 unfold jO;rw[h];rfl
theorem aAA{α:Type}:∀{l:List α}{i:Nat}{x:α},l[i]?=some x->l.set i x=l
 | [],_,_,h=>by cases h
 | y::l,0,x,h=>by cases h;rfl
 | y::l,i+1,x,h=>by rw[List.set_cons_succ,aAA (l:=l) (by simpa using h)]
theorem aGp:∀ d:Aj,cI 1 d=match d with|.list gs=>.tuple gs|d=>d
 | .list gs=>by show C4 (gs.map (cI 0))=_;rw[show gs.map (cI 0)=gs from FV _]
 | .tuple gs=>by show C4 (gs.map (cI 0))=_;rw[show gs.map (cI 0)=gs from FV _]
 | .none=>rfl
 | .bool _=>rfl
 | .int _=>rfl
 | .str _=>rfl
 | .dict _=>rfl
def uY:Aj->Bool|.str _=>true|_=>false
def kPJ:List (Key×V):=[(AL "part",V.int 4),(AL "join",V.int 3)]
theorem aHR{d:Aj}{ds:List Aj}{z:Str}(hz:z=aFK d)(h:uY d=false->d.shown≠"part"/\d.shown≠"join"):(gQ kPJ (AL z)).getD (.int 0)=.int (atD (d::ds):Nat):=by
 have key:∀ z:Str,(gQ kPJ (AL z)).getD (.int 0)=.int ((if z="part" then 4 else if z="join" then 3 else 0:Nat):Nat):=fun z=>by
  unfold gQ kPJ;by_cases h1:z="part"
  .subst h1;rfl
  .by_cases h2:z="join"
   .subst h2;rfl
   .rw[Ia h1,Ia h2,List.find?_cons_of_neg (by simpa using fun e=>h1 e.symm),List.find?_cons_of_neg (by simpa using fun e=>h2 e.symm)];rfl
 subst hz;cases d with
 | str y=>exact key y
 | _=>
  obtain⟨h1,h2⟩:=h rfl;refine(key _).trans ?_;unfold aFK;rw[Ia h1,Ia h2];rfl
theorem aCi{m:Bool}{H:Hp}{v:V}{d:Aj}(h:RdV m H v d):∀{xs:List V}{ds:List Aj} (i:Nat),c9 m H xs ds->c9 m H (xs.set i v) (ds.set i d)
 | _,_,_,.nil=>.nil
 | _,_,0,.cons _ r=>.cons h r
 | _,_,i+1,.cons a r=>.cons a (aCi h i r)
def hid(F:Ah)(H:Hp):Hp:=fun b=>if b=F then none else H b
theorem j6{F b:Ah}{H:Hp}{o:HO}(e:hid F H b=some o):b≠F/\H b=some o:=by
 unfold hid at e;split at e
 .cases e
 .exact⟨‹_›,e⟩
theorem i8{F b:Ah}{H:Hp}{o:HO}(h:b≠F)(e:H b=some o):hid F H b=some o:=by
 unfold hid;rw[Ia h];exact e
theorem pV{F:Ah}{H:Hp}:aV (hid F H) H:=fun _ _ e=>(j6 e).2
theorem dC{F:Ah}{H H':Hp}(s:aV H H'):aV (hid F H) (hid F H'):=fun _ _ e=>i8 (j6 e).1 (s _ _ (j6 e).2)
theorem uZ{F:Ah}{H H':Hp}(B:H F=none)(s:aV H H'):aV H (hid F H'):=fun b o e=>i8 (fun z=>by rw[z,B]at e;cases e) (s _ _ e)
inductive aAB(vs:List V)(H:Hp)(Q:VK)(u3_:XK):Prop
 | mk (m:Bool) (x:V) (d:Aj) (q0:vs=[x]) (q1:RdV m H x d) (q2:Few d) (q3:(∀ e∈aP d,e.showable=true/\e.depth<=16/\e.shown.length<=sizeLine/\(uY e=false->e.shown≠"part"/\e.shown≠"join"))) (q4:(uS d=none->∀ H',aV H H'->Q .non H')) (q5:∀ e,uS d=some e->∀ y H',aV H H'->RdV m H' y e->Q y H'):aAB vs H Q u3_
def aFb:Sp:=fun vs H Q u3_=>aAB vs H Q u3_
theorem aFc:bM ["_law_thing","_law_row_here","_law_at","_law_some_here"] ["_law_thing"] (aM wG):=⟨rfl,rfl,rfl,by decide,rfl,by decide,by decide⟩
theorem aGq{f:Ah}{fd:AC}(F:Fun K "_law_made" "_law_made" wG f fd)(ad:mg "len"=none)(Z:mg "tuple"=none)(aa:mg "list"=none)(ak:mg "isinstance"=none)(bv:mg "str"=none)(az:mg "all"=none)(bq:mg "sorted"=none)
  (GR:Cl P w K mg base 4 "_law_is_row" ["_law_thing"] jZ)
  (GP:Cl P w K mg base 2 "_law_is_part" ["_law_thing"] pQ)
  (GN:Cl P w K mg base 1 "_law_is_name" ["_law_thing"] fS)
  :cN P w K mg base CX0 5 f fd ["_law_thing"] aFb:=by
 refine F.ok aFc (fun vs H Q E h=>?_) (fun cL A outer s H vs Q E hr h=>?_)
 .obtain⟨m,x,d,rfl,_⟩:=h;rfl
 .obtain⟨m,x,d,rfl,hx,ae,h0,kn,ks⟩:=h;have nd:=aFc.nd;have b4:cY 2 _:=hr.mono (by decide);have cc:cY 1 _:=hr.mono (by decide);have hu:=vW hr;have b2:=Nat.lt_of_succ_lt hu;refine⟨_,(aG (bX (cX (cE (aK fX (by rfl) ak (by kernel_rfl) (aD (pv 0) (aD (bU (aD (cK (v:=.ty "list") (by rfl) aa (by kernel_rfl) rfl) (aD (cK (v:=.ty "tuple") (by rfl) Z (by kernel_rfl) rfl) aA))) aA))))) (aJ (aO mS)) aT)
   (aG (bE (i:=1) nd rfl (AA rfl) (cH gH (by rfl) aa (by kernel_rfl) (aD (pv 0) aA)))
   (aG (gS (bE (i:=2) nd rfl (AA rfl) (nK (aW (aEs b2) (pv 1) (dN aA) (aY _)) (aDN hu (nV (fZ aN aE (fZ aN aE nU)) rfl rfl (by simp) (by decide)) (cH (wE hr) (by rfl) bv (by kernel_rfl) (aD (bJ c4 (pv 1) aE Ih) aA)) aE ⟨rfl,rfl,rfl,rfl⟩) aE)))
   (aG (gS (bX (PW.pt (kE (aW yQ (pv 2) aE (aY _)) (kE (aW cQ (aK aS (by rfl) ad Aq (aD (pv 1) aA)) aE (aY _)) (jQ (cE (aK fX (by rfl) ak (by kernel_rfl) (aD (bJ c4 (pv 1) (pv 2) Ih) (aD (bU (aD (cK (v:=.ty "list") (by rfl) aa (by kernel_rfl) rfl) (aD (cK (v:=.ty "tuple") (by rfl) Z (by kernel_rfl) rfl) aA))) aA)))))))) (aG (gS (f8 (i:=3) (N:=["_law_one"]) (src:=[none]) (osc:=aM wG) (oN:=["_law_thing","_law_row_here","_law_at","_law_some_here"]) ⟨by rfl,by decide,by decide,by decide,rfl,by rfl⟩ nd rfl (PI.or (jS (bJ c4 (pv 1) (pv 2) Ih)) (jT (bJ c4 (pv 1) (pv 2) Ih))) (fun cl s H fp dz C=>⟨bS (i:=0) (show(["_law_one"]:List Str).Nodup by decide) rfl (AA rfl),dY,nK (cE (aK (r:=f7 K) bZ (by rfl) ak (by kernel_rfl) (aD (pv 0) (aD (cK (v:=.ty "list") (by rfl) aa (by kernel_rfl) rfl) aA)))) (cH (r:=j9 K) cS (by rfl) Z (by kernel_rfl) (aD (pv 0) aA)) (pv 0)⟩)))
    (aG (gS (bX (PW.pt (dZ (cE (aK (jG rfl) (by rfl) az (by kernel_rfl) (aD (fM (N:=["_law_one"]) (src:=[none]) (osc:=aM wG) (oN:=["_law_thing","_law_row_here","_law_at","_law_some_here"]) ⟨by rfl,by decide,by decide,by decide,rfl,by rfl⟩ (jS (pv 3)) (fun cl s H fp dz C=>⟨bS (i:=0) (show(["_law_one"]:List Str).Nodup by decide) rfl (AA rfl),dY,aX GP b4 (aD (pv 0) aA)⟩)) aA))) (dU (cE (aK (jG rfl) (by rfl) az (by kernel_rfl) (aD (fM (N:=["_law_one"]) (src:=[none]) (osc:=aM wG) (oN:=["_law_thing","_law_row_here","_law_at","_law_some_here"]) ⟨by rfl,by decide,by decide,by decide,rfl,by rfl⟩ (jS (pv 3)) (fun cl s H fp dz C=>⟨bS (i:=0) (show(["_law_one"]:List Str).Nodup by decide) rfl (AA rfl),dY,aX GN cc (aD (pv 0) aA)⟩)) aA)))))) (aJ (bE (i:=3) nd rfl (AA rfl) (aK (eU.or mJ oE) (by rfl) bq (by kernel_rfl) (aD (pv 3) aA)))) aT))
    (aJ (jR (cH cS (by rfl) Z (by kernel_rfl) (aD (pv 3) aA)) (aAL (pv 1) (pv 2) rV))))) aT))
   (aG (bX (cE (aX GR hr (aD (cH cS (by rfl) Z (by kernel_rfl) (aD (pv 1) aA)) aA))) (aJ (aO (cH cS (by rfl) Z (by kernel_rfl) (aD (pv 1) aA)))) aT)
   (aJ (aO mS))))))),?_⟩
  refine⟨_,rfl,zZ2,fun q hq=>?_⟩;have sq:=aI (o:=.tup [V.ty "list",.ty "tuple"]) hq;refine⟨_,q,"list","tuple",_,_,rfl,aF,eV (hx.same sq),oS d,_,rfl,?_⟩;cases hs:dA d with
  | false=>
   refine cG ?_;exact kn (by unfold uS;rw[Ia (fun z=>by rw[hs]at z;cases z.1)]) _ sq
  | true=>
   refine cM ?_;obtain⟨a,xs,ea,rfl,hl,rs⟩:∃ a xs,(H a=some (.lst xs)\/H a=some (.tup xs))/\x=.ref a/\xs.length<=1000/\c9 m H xs (aP d):=by
    cases hx with
    | lst hm e hl r=>exact⟨_,_,.inl e,rfl,hl,r⟩
    | tup e hl r=>exact⟨_,_,.inr e,rfl,hl,r⟩
    | _=>cases hs
   have em:uS d=if fK (.tuple (lV (aP d)))=true then some (.tuple (lV (aP d))) else none:=by
    unfold uS;rw[hs];simp
   have ad:=rs.len;have ae:∀ e∈aP d,(aP e).length<64:=ae;generalize aP d=ds at rs ad em h0 ae;have b9:=sq;have aw:∀{L},upd H q (.tup [V.ty "list",.ty "tuple"]) L=none->H L=none:=fun{L} h=>by
    cases e:H L with
    | none=>rfl
    | some o=>rw[sq _ _ e]at h;cases h
   refine⟨_,rfl,a,xs,rfl,ea.imp (fun e=>bB (sq _ _ e)) (fun e=>aU (sq _ _ e)),fun L hL=>?_⟩;have sL:=sq.trans (aI (o:=.lst xs) hL);have eL:upd (upd H q (.tup [V.ty "list",.ty "tuple"])) L (.lst xs) L=some (.lst xs):=aF;generalize upd (upd H q (.tup [V.ty "list",.ty "tuple"])) L (.lst xs)=H1 at sL eL ⊢;dsimp only[cF];refine⟨fun σ' H'=>aV H1 H'/\σ'=[some (.ref a),some (.ref L),some (.int (atD ds:Nat)),none],?_,?_⟩
   .refine⟨_,rfl,zZ0,fun q2 cb=>?_⟩;have s2:=aI (o:=.lst []) cb;refine⟨L,q2,xs,rfl,rfl,bB (s2 _ _ eL),bB aF,_,rfl,?_⟩;generalize upd H1 q2 (.lst [])=H2 at s2 ⊢;cases rs with
    | nil=>
     refine cM ?_;exact⟨s2,rfl⟩
    | @cons v d1 xr dr r1 rr=>
     refine cG ?_;intro p hp;refine⟨aF,kPJ,rfl,by show 2<=15;decide,?_⟩;rw[show i4 [] kPJ=kPJ from rfl];have s3:aV H2 (upd (upd H2 p (.dK [])) p (.dK kPJ)):=fun b o e=>by
      rw[bD (bG e hp),bD (bG e hp)];exact e
     have sA:=sL.trans (s2.trans s3);obtain⟨g1,g2,g3,g4⟩:=h0 d1 AM;exact⟨p,rfl,.inl ⟨_,.inl aF⟩,_,rfl,L,_,0,v,rfl,rfl,bB (s3 _ _ (s2 _ _ eL)),cB (j:=0) rfl,m,v,d1,_,rfl,r1.same sA,g1,g2,g3,rfl,_,nS.k (k:=AL _) aF,s2.trans s3,congrArg (fun v=>[some (V.ref a),some (.ref L),some v,none]) (aHR (by cases d1<;>rfl) g4)⟩
   rintro σ' H2 ⟨s2,rfl⟩;have sA:=sL.trans s2;have av:=s2 _ _ eL;refine⟨fun σ' H'=>∃(ys:List V) (o:Option V),aV H H'/\H' L=some (.lst ys)/\c9 m H' ys (lV ds)/\ys.length<=1000/\σ'=[some (.ref a),some (.ref L),some (.int (atD ds:Nat)),o],?_,?_⟩
   .have am:lV ds=ds->∀ H',aV H2 H'->∃(ys:List V) (o:Option V),aV H H'/\H' L=some (.lst ys)/\c9 m H' ys (lV ds)/\ys.length<=1000/\[some (V.ref a),some (.ref L),some (.int (atD ds:Nat)),none]=[some (.ref a),some (.ref L),some (.int (atD ds:Nat)),o]:=fun e H' s'=>⟨xs,none,sA.trans s',s' _ _ av,by rw[e];exact rs.same (sA.trans s'),hl,rfl⟩
    refine⟨_,rfl,_,_,rfl,rfl,_,rfl,c8 (fun g=>?_) (fun g=>am (aCh fun z=>g (Ic (by omega))) _ (aV.refl _))⟩;have h1:0<atD ds:=by have:=Ig g;omega
    refine⟨_,rfl,L,_,rfl,.inl (bB av),rfl,_,rfl,c8 (fun g2=>?_) (fun g2=>am (aCh fun z=>g2 (Ic (by rw[ad,z.2];rfl))) _ (aV.refl _))⟩;have h5:ds.length=5:=by
     have:=V.int.inj (Ig g2);omega
    obtain⟨di,hdi,eR⟩:=aE9 h5 h1;obtain⟨y,hy,ry⟩:∃ y,xs[atD ds]?=some y/\RdV m H y di:=by
     have c0:=(Bl.mp hdi).1;obtain⟨d',hd',r'⟩:=rs.at (Ag (by omega:atD ds<xs.length));rw[hdi]at hd';cases hd';exact⟨_,Ag (by omega),r'⟩
    have aB:atI xs ((atD ds:Nat):Int)=some y:=cB hy;have cD:=(Bl.mp hy).1;refine⟨_,rfl,_,rfl,L,_,_,y,rfl,rfl,bB av,aB,zZ2,fun q3 b1=>?_⟩;have s3:=aI (o:=.tup [V.ty "list",.ty "tuple"]) b1;refine⟨_,q3,"list","tuple",_,_,rfl,aF,eV (ry.same (sA.trans s3)),oS di,_,rfl,?_⟩;generalize upd H2 q3 (.tup [V.ty "list",.ty "tuple"])=H3 at s3 ⊢;cases aC:dA di with
    | false=>exact cM (am (by rw[eR,aFa aC,aAA hdi]) _ s3)
    | true=>
    refine cG ?_;have sB:=sA.trans s3;have Y:=s3 _ _ av;have br:(aP di).length<64:=ae di (AH hdi);have O:jO di=.tuple (if ((aP di).map (cI 1)).all cZ=true then iZ ((aP di).map (cI 1)) else if ((aP di).map (cI 1)).all aZ=true then gN ((aP di).map (cI 1)) else(aP di).map (cI 1)):=by unfold jO;rw[Ib aC]
    obtain⟨b,zs,eb,rfl,rz⟩:∃ b zs,(H b=some (.lst zs)\/H b=some (.tup zs))/\y=.ref b/\c9 m H zs (aP di):=by
     cases ry with
     | lst hm e hl r=>exact⟨_,_,.inl e,rfl,r⟩
     | tup e hl r=>exact⟨_,_,.inr e,rfl,r⟩
     | _=>cases aC
    generalize aP di=es at O rz br;have db:=rz.len;refine⟨fun σ' H'=>∃(S:Ah) (B:List V),aV H3 H'/\H' S=some (.lst B)/\S≠L/\c9 m (hid L H') B (es.map (cI 1))/\σ'=[some (.ref a),some (.ref L),some (.int (atD ds:Nat)),some (.ref S)],?_,?_⟩
    .have step:∀(i:Nat) (v:V) (B:List V) (H':Hp),zs[i]?=some v->aV H3 H'->c9 m (hid L H') B ((es.take i).map (cI 1))->∃ bc,es[i]?=some bc/\RdV m H v bc/\∀ u,RdV m (hid L H') u (cI 1 bc)->c9 m (hid L H') (B++[u]) ((es.take (i+1)).map (cI 1)):=fun i v B H' hv sH W=>by
      obtain⟨d',hd',r'⟩:=rz.at hv;refine⟨d',hd',r',fun u hu=>?_⟩;rw[Be,hd',A0];exact W.app (.cons hu .nil)
     rcases eb with eb|eb
     .refine .inl ⟨_,rfl,_,rfl,L,_,_,.ref b,rfl,rfl,bB Y,aB,b,rfl,⟨_,bB (sB _ _ eb)⟩,?_⟩;refine iH (K:=K) (xs:=zs) (fun i B σ H'=>aV H3 H'/\c9 m (hid L H') B ((es.take i).map (cI 1))/\∃ o,σ=[o]) ⟨aV.refl _,.nil,none,rfl⟩ (aH (by omega)) (fun i B σ H' p=>by rw[p.2.1.len,Ae,AN];omega) (fun i B σ H' p=>bB (p.1 _ _ (sB _ _ eb))) ?_ ?_
      .rintro i v B σ H4 hv ⟨J,W,o,rfl⟩;obtain⟨d',hd',r',fin⟩:=step i v B H4 hv J W;dsimp only[cF];refine cG ?_;refine⟨_,rfl,_,"list",_,_,rfl,eV (r'.same (sB.trans J)),yH d',_,rfl,?_⟩;cases hq:aB7 d' with
       | false=>
        refine⟨_,rfl,J,fin _ ?_,_,rfl⟩;rw[aGp];cases d' with
        | list gs=>cases hq
        | _=>exact r'.same (uZ (aw hL) (sB.trans J))
       | true=>
        cases r' with
        | @lst c ws gs hm ec hc rc=>
         refine⟨_,rfl,c,ws,rfl,.inl ⟨bB ((sB.trans J) _ _ ec),fun t ht=>?_⟩⟩;have st:=aI (o:=.tup ws) ht;have nt:t≠L:=fun z=>by
          rw[z,J _ _ Y]at ht;cases ht
         refine⟨J.trans st,?_,_,rfl⟩;rw[Be,hd',A0];refine(W.same (dC st)).app (.cons ?_ .nil);rw[aGp];exact .tup (i8 nt aF) hc (rc.same (uZ (aw hL) ((sB.trans J).trans st)))
        | _=>cases hq
      .rintro B σ H4 ⟨J,W,o,rfl⟩ D hD;have sD:=aI (o:=.lst B) hD;refine⟨D,B,J.trans sD,aF,fun z=>?_,?_,rfl⟩
       .rw[z,J _ _ Y]at hD;cases hD
       .rw[AV (by omega)]at W;exact W.same (dC sD)
     .refine .inr ⟨_,rfl,_,rfl,L,_,_,.ref b,rfl,rfl,bB Y,aB,b,rfl,⟨_,aU (sB _ _ eb)⟩,?_⟩;refine jH (K:=K) (xs:=zs) (fun i B σ H'=>aV H3 H'/\c9 m (hid L H') B ((es.take i).map (cI 1))/\∃ o,σ=[o]) ⟨aV.refl _,.nil,none,rfl⟩ (aH (by omega)) (fun i B σ H' p=>by rw[p.2.1.len,Ae,AN];omega) (fun i B σ H' p=>aU (p.1 _ _ (sB _ _ eb))) ?_ ?_
      .rintro i v B σ H4 hv ⟨J,W,o,rfl⟩;obtain⟨d',hd',r',fin⟩:=step i v B H4 hv J W;dsimp only[cF];refine cG ?_;refine⟨_,rfl,_,"list",_,_,rfl,eV (r'.same (sB.trans J)),yH d',_,rfl,?_⟩;cases hq:aB7 d' with
       | false=>
        refine⟨_,rfl,J,fin _ ?_,_,rfl⟩;rw[aGp];cases d' with
        | list gs=>cases hq
        | _=>exact r'.same (uZ (aw hL) (sB.trans J))
       | true=>
        cases r' with
        | @lst c ws gs hm ec hc rc=>
         refine⟨_,rfl,c,ws,rfl,.inl ⟨bB ((sB.trans J) _ _ ec),fun t ht=>?_⟩⟩;have st:=aI (o:=.tup ws) ht;have nt:t≠L:=fun z=>by
          rw[z,J _ _ Y]at ht;cases ht
         refine⟨J.trans st,?_,_,rfl⟩;rw[Be,hd',A0];refine(W.same (dC st)).app (.cons ?_ .nil);rw[aGp];exact .tup (i8 nt aF) hc (rc.same (uZ (aw hL) ((sB.trans J).trans st)))
        | _=>cases hq
      .rintro B σ H4 ⟨J,W,o,rfl⟩ D hD;have sD:=aI (o:=.lst B) hD;refine⟨D,B,J.trans sD,aF,fun z=>?_,?_,rfl⟩
       .rw[z,J _ _ Y]at hD;cases hD
       .rw[AV (by omega)]at W;exact W.same (dC sD)
    rintro σ' H4 ⟨S,B,J,eS,bu,W,rfl⟩;have au:=J _ _ Y;have sC:=sB.trans J;have ba:(es.map (cI 1)).length<64:=by rw[Ae];exact br
    generalize es.map (cI 1)=gs at O W ba;have bP:=W.len;refine⟨fun σ' H'=>∃(S:Ah) (ws:List V) (hs:List Aj),aV H4 H'/\H' S=some (.lst ws)/\S≠L/\c9 m (hid L H') ws hs/\jO di=.tuple hs/\hs.length<64/\σ'=[some (.ref a),some (.ref L),some (.int (atD ds:Nat)),some (.ref S)],?_,?_⟩
    .refine⟨_,rfl,S,rfl,⟨_,bB eS⟩,?_⟩;refine iH (K:=K) (xs:=B) (fun i bs σ H'=>aV H4 H'/\bs=((gs.take i).map fun d=>V.bl (cZ d))/\∃ o,σ=[o]) ⟨aV.refl _,rfl,none,rfl⟩ (aH (by omega)) (fun i bs σ H' p=>by rw[p.2.1,Ae,AN];omega) (fun i bs σ H' p=>bB (p.1 _ _ eS)) ?_ ?_
     .rintro i y bs σ H5 hy ⟨s5,rfl,o,rfl⟩;dsimp only[cF];obtain⟨d',hd',r'⟩:=W.at hy;refine cG ?_;refine⟨_,rfl,m,y,d',rfl,(r'.same pV).same s5,fun H6 s6=>⟨s5.trans s6,?_,_,rfl⟩⟩;rw[Be,hd',A0];rfl
     rintro bs σ H5 ⟨s5,rfl,o,rfl⟩ D hD;rw[AV (by omega:gs.length<=B.length)];have s6:=s5.trans (aI (o:=.lst (gs.map fun d=>V.bl (cZ d))) hD);refine⟨D,gs.map cZ,rfl,bB (by rw[aF,B7];rfl),_,rfl,?_⟩;generalize upd H5 D (.lst (gs.map fun d=>V.bl (cZ d)))=H6 at s6 ⊢;rw[show(gs.map cZ).all id=gs.all cZ by rw[C9];rfl];cases hp:gs.all cZ with
     | true=>
      rw[hp,Ib rfl]at O;refine cG ?_;have bn:=jX (gs.map toP);rw[Ae]at bn;refine⟨_,rfl,.inl ⟨S,B,gs.map toP,rfl,.inr (s6 _ _ eS),by rw[Ae];exact bP,by omega,uU (T:=gs.map toP) (by rw[uV hp];exact(W.same pV).same s6),fun l hl=>?_⟩⟩;have sl:=s6.trans (aI (o:=.lst ((iO (gs.map toP)).map fun i=>B.getD i .non)) hl);refine⟨l,_,iZ gs,sl,aF,fun z=>?_,pS (W.same (dC sl)) _ fun i hi=>?_,O,?_,rfl⟩
      .rw[z,s6 _ _ au]at hl;cases hl
      .have:=bn.mem_iff.mp hi;rw[Cf]at this;omega
      .rw[(iS gs).length_eq];exact ba
     | false=>
      rw[hp,Ia AG]at O;refine cM ?_;refine⟨_,rfl,S,rfl,⟨_,bB (s6 _ _ eS)⟩,?_⟩;refine iH (K:=K) (xs:=B) (fun i bs σ H'=>aV H6 H'/\bs=((gs.take i).map fun d=>V.bl (aZ d))/\∃ o,σ=[o]) ⟨aV.refl _,rfl,none,rfl⟩ (aH (by omega)) (fun i bs σ H' p=>by rw[p.2.1,Ae,AN];omega) (fun i bs σ H' p=>bB (p.1 _ _ (s6 _ _ eS))) ?_ ?_
      .rintro i y bs σ H7 hy ⟨s7,rfl,o,rfl⟩;dsimp only[cF];obtain⟨d',hd',r'⟩:=W.at hy;refine cG ?_;refine⟨_,rfl,m,y,d',rfl,(r'.same pV).same (s6.trans s7),fun H8 s8=>⟨s7.trans s8,?_,_,rfl⟩⟩;rw[Be,hd',A0];rfl
      rintro bs σ H7 ⟨s7,rfl,o,rfl⟩ D2 bR;rw[AV (by omega:gs.length<=B.length)];have s8:=s6.trans (s7.trans (aI (o:=.lst (gs.map fun d=>V.bl (aZ d))) bR));refine⟨D2,gs.map aZ,rfl,bB (by rw[aF,B7];rfl),_,rfl,?_⟩;generalize upd H7 D2 (.lst (gs.map fun d=>V.bl (aZ d)))=H8 at s8 ⊢;rw[show(gs.map aZ).all id=gs.all aZ by rw[C9];rfl];cases hn:gs.all aZ with
      | true=>
       rw[hn,Ib rfl]at O;refine cG ?_;have eu:=jY W hn;have b3:=(pT (T:=gs.map i7) (by rw[uW hn];exact W)).2;refine⟨_,rfl,.inr ⟨S,gs.map i7,rfl,bB (by rw[<- eu];exact s8 _ _ eS),by rw[Ae];omega,fun l ms hl aR b7=>?_⟩⟩;have sl:=s8.trans (aI (o:=.lst (ms.map V.str)) hl);have e2:gN gs=ms.map By:=by
        unfold gN;rw[aAt aR b7]
       rw[e2]at O;have b5:=aR.length_eq;rw[Ae]at b5;refine⟨l,_,_,sl,aF,fun z=>?_,lU fun z hz=>b3 z (aR.mem_iff.mp hz),O,by rw[Ae];omega,rfl⟩;rw[z,s8 _ _ au]at hl;cases hl
      | false=>
       rw[hn,Ia AG]at O;exact cM ⟨S,B,gs,s8,s8 _ _ eS,bu,W.same (dC s8),O,ba,rfl⟩
    rintro σ' H5 ⟨S,ws,hs,s5,eS,bu,bp,O,hh,rfl⟩;have c1:=bp.len;refine⟨_,rfl,S,ws,rfl,.inl ⟨bB eS,fun t ht=>?_⟩⟩;have st:=aI (o:=.tup ws) ht;have sD:=(sC.trans s5).trans st;have b8:=st _ _ (s5 _ _ au);have sE:aV H (upd (upd H5 t (.tup ws)) L (.lst (xs.set (atD ds) (.ref t)))):=fun b o e=>by
     rw[bD (bG (b9 _ _ e) hL)];exact sD _ _ e
    refine⟨_,rfl,_,rfl,L,xs,_,atD ds,rfl,rfl,b8,?_,xs.set (atD ds) (.ref t),_,sE,aF,?_,by rw[Dm];exact hl,rfl⟩
    .unfold ixN;rw[Ib (by omega),Ib (by omega)];rfl
    .rw[eR,O];refine aCi ?_ _ (rs.same sE);have nt:t≠L:=fun z=>by
      rw[z,s5 _ _ au]at ht;cases ht
     refine RdV.tup (by rw[bD nt];exact aF) (by omega) ?_;refine bp.same fun c o e=>?_;obtain⟨n1,e1⟩:=j6 e;rw[bD n1];exact st _ _ e1
   rintro σ' H3 ⟨ys,o,s3,Y,ry,bx,rfl⟩;refine⟨_,rfl,L,ys,rfl,.inl ⟨bB Y,fun t ht=>?_⟩⟩;have st:=aI (o:=.tup ys) ht;refine⟨m,.ref t,_,rfl,.tup aF bx (ry.same st),fun H4 J=>⟨_,rfl,?_⟩⟩;refine c8 (fun g=>?_) (fun g=>?_)
   .refine⟨_,rfl,L,ys,rfl,.inl ⟨bB (J _ _ (st _ _ Y)),fun t2 cf=>?_⟩⟩;have bA:=aI (o:=.tup ys) cf;exact ks _ (by rw[em,Ib g]) _ _ (((s3.trans st).trans J).trans bA) (.tup aF bx (ry.same ((st.trans J).trans bA)))
   .exact kn (by rw[em,Ia g]) _ ((s3.trans st).trans J)
theorem okA(a b:Str)(h1:A1 a=true)(h2:A1 b=true):A1 (a++b)=true:=by
 unfold A1 at h1 h2 ⊢;rw[Bz]at h1 h2 ⊢;intro c hc;have z:c∈a.cps++b.cps:=hc;rcases Array.mem_append.mp z with y|y
 .exact h1 c y
 .exact h2 c y
theorem okJ{z:Str}(B:A1 z=true):∀{ts:List Str},(∀ t∈ts,A1 t=true)->A1 (Str.join z ts)=true
 | [],_=>by show A1 Str.empty=true;decide
 | [x],h=>h x AM
 | x::y::ts,h=>okA _ _ (okA _ _ (h x AM) B) (okJ B fun t ht=>h t (AY _ ht))
structure Shw(b:Nat)(d:Aj):Prop where
 ok:A1 d.shown=true
 len:d.shown.length<=b
theorem Shw.mono{b z:Nat}{d:Aj}(h:Shw b d)(B:b<=z):Shw z d:=⟨h.ok,AD h.len B⟩
theorem Shw.tuple{b n:Nat}{ds:List Aj}(h:∀ d∈ds,Shw b d)(hn:ds.length<=n):Shw (n*(b+2)+3) (.tuple ds):=by
 refine⟨?_,?_⟩
 .unfold A4;rw[CF];unfold tupleText;refine okA _ _ (okA _ _ (by decide) (okJ (by decide) fun t ht=>?_)) (by split<;>decide);obtain⟨d,hd,rfl⟩:=Bk.mp ht;exact(h d hd).ok
 .have Y:((ds.map A4).map (·.length)).sum<=ds.length*b:=by
   clear hn
   induction ds with
   | nil=>simp
   | cons d r z=>
    have:=z fun x O=>h x (AY _ O);have:=(h d AM).len;rw[Bj,Bj,FQ,Ax,F2];omega
  unfold A4;rw[CF];unfold tupleText;have W:=Er (AZ ", ") (ds.map A4);have B:(AZ ", ").length=2:=by decide
  have D:(AZ "(").length=1:=by decide
  have J:∀ c:Bool,(AZ (if c=true then ",)" else ")")).length<=2:=by decide
  have Z:=J ((ds.map A4).length==1);rw[B,Ae]at W;rw[BU,BU,D];have:ds.length*b+ds.length*2<=n*(b+2):=by
   rw[<- Gp];exact ER _ hn
  omega
theorem aAC(q:Nat)(B:q=39\/q=34):∀(l:List Nat) (z:Array Nat),(∀ c∈l,97<=c/\c<=122)->(l.foldl (fun out c=>out++(CT q c).toArray) z).toList=z.toList++l
 | [],z,_=>by simp
 | c::r,z,h=>by
  have one:∀ k<26,CT 39 (97+k)=[97+k]/\CT 34 (97+k)=[97+k]:=by decide
  obtain⟨h1,h2⟩:=h c AM;have e:CT q c=[c]:=by
   have:=one (c-97) (by omega);rw[show 97+(c-97)=c by omega]at this;rcases B with rfl|rfl
   .exact this.1
   .exact this.2
  rw[DY,aAC q B r _ fun x D=>h x (AY _ D),e];simp
theorem Shw.name{z:Str}(h:bV z=true):Shw 10 (.str z):=by
 have O:=f9 h;have D:∀ c∈z.cps.toList,97<=c/\c<=122:=by
  unfold bV at h;rw[Av,AX]at h;exact fun c hc=>Ig (h.2 c hc)
 have J:reprQuote z=39\/reprQuote z=34:=by
  unfold reprQuote;split
  .exact .inr rfl
  .exact .inl rfl
 have e:(A4 (.str z)).cps.toList=reprQuote z::z.cps.toList++[reprQuote z]:=by
  unfold A4 reprText;show((z.cps.foldl (fun out c=>out++(CT (reprQuote z) c).toArray) #[reprQuote z]).push (reprQuote z)).toList=_;rw[B3,<- Array.foldl_toList,aAC _ J _ _ D];rfl
 refine⟨?_,?_⟩
 .unfold A1;rw[Bz];intro c hc;have B:c∈(A4 (.str z)).cps.toList:=by simpa using hc
  rw[e]at B;refine Ic ?_;rcases Bo.mp B with y|y
  .rcases Am.mp y with rfl|y
   .omega
   .have:=D c y;omega
  .rw[A7.mp y];omega
 .have:(A4 (.str z)).length=(A4 (.str z)).cps.toList.length:=by simp[Fd]
  rw[this,e];have hz:z.cps.toList.length=z.length:=by simp[Fd]
  simp only[List.cons_append,Ax,Al,Cz];omega
theorem aCj(n:Nat):(A4 (.int n)).cps.toList=(Nat.toDigits 10 n).map Char.toNat:=by
 unfold A4;exact PySem.W.KIN.signs_num _
theorem Shw.int{i:Int}(D:0<=i)(h1:i<10^10):Shw 10 (.int i):=by
 obtain⟨n,rfl⟩:∃ n:Nat,i=n:=⟨i.toNat,by omega⟩
 refine⟨?_,?_⟩
 .unfold A1;rw[Bz];intro c hc;have B:c∈(A4 (.int n)).cps.toList:=by simpa using hc
  rw[aCj]at B;obtain⟨k,hk,rfl⟩:=Bk.mp B;have:=k.valid;refine Ic ?_;show k.toNat<1114112;rcases k.valid with z|z
  .have:k.toNat<55296:=z;omega
  .exact z.2
 .unfold A4;rw[PySem.ofString_length];show(Nat.repr n).length<=10;exact(Nat.length_repr_le_iff (by decide)).mpr (by omega)
theorem Shw.part{x:P3}(h:cZ (pD x)=true):Shw 39 (pD x):=by
 have h':(bV x.1&&bV x.2.1&&decide (1<=x.2.2/\x.2.2<=10000000))=true:=h;simp only[Av,decide_eq_true_eq]at h';obtain⟨⟨h1,h2⟩,h3⟩:=h';refine Shw.tuple (b:=10) (n:=3) (fun d hd=>?_) (Ak 3);simp only[Am,An,or_false]at hd;rcases hd with rfl|rfl|rfl
 .exact Shw.name h1
 .exact Shw.name h2
 .exact Shw.int (by omega) (by omega)
def wd:Nat->Nat|4=>8|3=>7|2=>6|_=>3
def bd:Nat->Nat|0=>110|n+1=>wd n*(bd n+2)+5000
structure Atm(b:Nat)(d:Aj):Prop where
 sq:dA d=false
 ok:OkD b 1 d
 nz:uY d=false->d.shown≠"part"/\d.shown≠"join"
def BD:Nat->Aj->Prop
 | 0,d=>Atm 110 d
 | n+1,d=>Atm 5000 d\/(dA d=true/\(aP d).length<=wd n/\∀ x∈aP d,BD n x)
theorem Atm.up{b z:Nat}{d:Aj}(h:Atm b d)(B:b<=z):Atm z d:=⟨h.sq,h.ok.mono B (Ak _),h.nz⟩
theorem aIN:∀ n,n<=3->wd n<=wd (n+1):=by decide
theorem BD.up:∀{n:Nat}{d:Aj},n<=4->BD n d->BD (n+1) d
 | 0,d,_,h=>.inl (Atm.up h (by decide))
 | n+1,d,hn,.inl h=>.inl h
 | n+1,d,hn,.inr ⟨h1,h2,h3⟩=>.inr ⟨h1,AD h2 (aIN n (by omega)),fun x z=>BD.up (by omega) (h3 x z)⟩
theorem BD.ok:∀{n:Nat}{d:Aj},BD n d->OkD (bd n) (n+1) d
 | 0,d,h=>Atm.ok h
 | n+1,d,.inl h=>h.ok.mono (by show 5000<=wd n*(bd n+2)+5000;omega) (by omega)
 | n+1,d,.inr ⟨h1,h2,h3⟩=>by
  have key:∀ x∈aP d,OkD (bd n) (n+1) x:=fun x B=>BD.ok (h3 x B);have z:wd n*(bd n+2)+3<=bd (n+1):=by show _<=wd n*(bd n+2)+5000;omega
  cases d with
  | tuple ds=>exact(OkD.tuple key h2).mono z (Ak _)
  | list ds=>exact(OkD.list key h2).mono z (Ak _)
  | _=>cases h1
theorem BD.tup{n:Nat}{ds:List Aj}(h:∀ x∈ds,BD n x)(z:ds.length<=wd n):BD (n+1) (.tuple ds):=.inr ⟨rfl,z,h⟩
theorem BD.lst{n:Nat}{ds:List Aj}(h:∀ x∈ds,BD n x)(z:ds.length<=wd n):BD (n+1) (.list ds):=.inr ⟨rfl,z,h⟩
theorem BD.of{n:Nat}{d:Aj}(h:Atm 110 d):BD n d:=by
 cases n with
 | zero=>exact h
 | succ n=>exact .inl (h.up (by decide))
theorem aCk{z:Str}{n:Nat}(h:A1 z=true)(B:z.length<=n):OkD (10*n+2) 1 (.str z):=by
 refine⟨by unfold Ez;rfl,by unfold E4;exact Bx _,?_⟩;have:=StrLaws.reprText_len z fun c hc=>by
  unfold A1 at h;rw[Bz]at h;have:=Ig (h c (by simpa using hc));omega
 unfold A4;omega
theorem Atm.str{z:Str}(h:A1 z=true)(B:z.length<=10):Atm 110 (.str z):=⟨rfl,(aCk h B).mono (by decide) (Ak _),fun z=>by cases z⟩
theorem Atm.txt{z:Str}(h:A1 z=true)(B:z.length<=490):Atm 5000 (.str z):=⟨rfl,(aCk h B).mono (by decide) (Ak _),fun z=>by cases z⟩
theorem Atm.name{z:Str}(h:bV z=true):Atm 110 (.str z):=Atm.str (aAd h) (by have:=f9 h;omega)
theorem aIO{n:Nat}{z:Str}{c:Nat}(hz:c∈z.cps.toList)(hc:¬ (48<=c/\c<=57)):A4 (.int n)≠z:=fun e=>by
 rw[<- e,aCj]at hz;obtain⟨k,hk,rfl⟩:=Bk.mp hz;have:=Nat.isDigit_of_mem_toDigits (by decide) (by decide) hk;unfold Char.isDigit at this;simp only[Av,decide_eq_true_eq]at this;exact hc ⟨this.1,this.2⟩
theorem Atm.int{i:Int}(z:0<=i)(h1:i<10^60):Atm 110 (.int i):=by
 have h:=OkD.int z h1;obtain⟨n,rfl⟩:∃ n:Nat,i=n:=⟨i.toNat,by omega⟩
 refine⟨rfl,⟨h.sh,AD h.dp (by decide),?_⟩,fun _=>⟨aIO (c:=112) (by decide) (by decide),aIO (c:=106) (by decide) (by decide)⟩⟩;have:=aB5 z h1;unfold A4;omega
theorem Atm.non:Atm 110 .none:=⟨rfl,⟨by decide,by decide,by decide⟩,fun _=>by decide⟩
theorem Atm.bl(b:Bool):Atm 110 (.bool b):=by
 cases b<;>exact⟨rfl,⟨by decide,by decide,by decide⟩,fun _=>by decide⟩
theorem Atm.neg:Atm 110 (.int (-1)):=⟨rfl,⟨by decide,by decide,by decide⟩,fun _=>by decide⟩
theorem aHS{d:Aj}(h:dA d=true):d.shown≠"part"/\d.shown≠"join":=by
 have key:∀(x:Str) (c:Nat) (z:Str),x.cps[0]?=some c->z.cps[0]?≠some c->x≠z:=fun x c z h1 h2 e=>by rw[e]at h1;exact h2 h1
 have app:∀(a b:Str) (c:Nat),a.cps[0]?=some c->(a++b).cps[0]?=some c:=fun a b c h=>by
  show(a.cps++b.cps)[0]?=some c;have B:0<a.cps.size:=by
   by_cases hz:0<a.cps.size
   .exact hz
   .rw[Array.getElem?_eq_none (by omega)]at h;cases h
  rw[Array.getElem?_append_left B];exact h
 cases d with
 | tuple ds=>
  have e:(A4 (.tuple ds)).cps[0]?=some 40:=by
   unfold A4 tupleText;exact app _ _ _ (app _ _ _ (by decide))
  exact⟨key _ 40 _ e (by decide),key _ 40 _ e (by decide)⟩
 | list ds=>
  have e:(A4 (.list ds)).cps[0]?=some 91:=by
   unfold A4;rw[listText_eq_join];exact app _ _ _ (app _ _ _ (by decide))
  exact⟨key _ 91 _ e (by decide),key _ 91 _ e (by decide)⟩
 | _=>cases h
theorem BD.nz{n:Nat}{d:Aj}(h:BD n d)(z:uY d=false):d.shown≠"part"/\d.shown≠"join":=by
 cases n with
 | zero=>exact Atm.nz h z
 | succ n=>
  rcases h with h|h
  .exact h.nz z
  .exact aHS h.1
theorem BD.len{n:Nat}{d:Aj}(h:BD n d):(aP d).length<=8:=by
 have z:∀{d:Aj},dA d=false->(aP d).length<=8:=fun{d} h=>by
  cases d with
  | tuple _=>cases h
  | list _=>cases h
  | _=>exact Bx _
 cases n with
 | zero=>exact z (Atm.sq h)
 | succ n=>
  rcases h with h|h
  .exact z h.sq
  .refine AD h.2.1 ?_;unfold wd;split<;>decide
theorem BD.item{n:Nat}{d x:Aj}(h:BD (n+1) d)(z:x∈aP d):BD n x:=by
 rcases h with h|h
 .have:=h.sq;cases d with
  | tuple _=>cases this
  | list _=>cases this
  | _=>cases z
 .exact h.2.2 x z
theorem BD.few{n:Nat}{d:Aj}(h:BD (n+1) d):Few d:=fun e z=>by
 have:=(h.item z).len;omega
inductive aIP(n:Nat)(H:Hp)(v:V):Prop
 | mk (e:_) (q0:RdV true H v e) (q1:BD n e):aIP n H v
def Th(n:Nat)(H:Hp)(v:V):Prop:=aIP n H v
theorem Th.same{n:Nat}{H H':Hp}{v:V}(h:Th n H v)(s:aV H H'):Th n H' v:=by
 obtain⟨e,r,b⟩:=h;exact⟨e,r.same s,b⟩
theorem Th.up{n:Nat}{H:Hp}{v:V}(h:Th n H v)(hn:n<=4):Th (n+1) H v:=by
 obtain⟨e,r,b⟩:=h;exact⟨e,r,b.up hn⟩
theorem Th.but{n:Nat}{H H':Hp}{v:V}{p c:Ah}{ns:List Int}{a:Int}(h:Th n H v)(z:cR H p c ns a)(k:bC p H H'):Th n H' v:=by
 obtain⟨e,r,b⟩:=h;refine⟨e,r.keep fun x o e hd=>k x o e fun y=>?_,b⟩;obtain⟨⟨l,_,e2⟩,_⟩:=z;rw[y,e2]at e;cases e;exact hd _ _ rfl
def Ths(n:Nat)(H:Hp)(xs:List V):Prop:=∀ v∈xs,Th n H v
theorem Ths.rds{n:Nat}{H:Hp}:∀{xs:List V},Ths n H xs->∃ es,c9 true H xs es/\∀ e∈es,BD n e
 | [],_=>⟨[],.nil,fun e D=>by cases D⟩
 | x::xs,h=>by
  obtain⟨e,r,b⟩:=h x AM;obtain⟨es,rs,bs⟩:=Ths.rds (xs:=xs) fun v B=>h v (AY _ B);refine⟨e::es,.cons r rs,fun y z=>?_⟩;rcases Am.mp z with rfl|z
  .exact b
  .exact bs y z
theorem Ths.of{n:Nat}{H:Hp}{xs:List V}{es:List Aj}(r:c9 true H xs es)(b:∀ e∈es,BD n e):Ths n H xs:=fun v z=>by
 obtain⟨i,hi,rfl⟩:=DW.mp z;obtain⟨d,hd,rd⟩:=r.at (Ag hi);exact⟨d,rd,b d (AH hd)⟩
theorem wd8(n:Nat):wd n<=8:=by
 unfold wd;split<;>decide
theorem Th.tup{n:Nat}{H:Hp}{t:Ah}{xs:List V}(e:H t=some (.tup xs))(h:Ths n H xs)(z:xs.length<=wd n):Th (n+1) H (.ref t):=by
 obtain⟨es,rs,bs⟩:=h.rds;have:=rs.len;have:=wd8 n;exact⟨.tuple es,.tup e (by omega) rs,BD.tup bs (by omega)⟩
theorem Th.lst{n:Nat}{H:Hp}{t:Ah}{xs:List V}(e:H t=some (.lst xs))(ht:t≠sysModules)(h:Ths n H xs)(z:xs.length<=wd n):Th (n+1) H (.ref t):=by
 obtain⟨es,rs,bs⟩:=h.rds;have:=rs.len;have:=wd8 n;exact⟨.list es,.lst ⟨rfl,ht⟩ e (by omega) rs,BD.lst bs (by omega)⟩
theorem Th.of{n:Nat}{H:Hp}{v:V}{e:Aj}(r:RdV true H v e)(h:Atm 110 e):Th n H v:=⟨e,r,BD.of h⟩
theorem Th.non{n:Nat}{H:Hp}:Th n H .non:=.of .non .non
theorem Th.bl{n:Nat}{H:Hp}(b:Bool):Th n H (.bl b):=.of (.bl b) (.bl b)
theorem Th.int{n:Nat}{H:Hp}{i:Int}(z:0<=i)(h1:i<10^60):Th n H (.int i):=.of (.int i) (.int z h1)
theorem Th.neg{n:Nat}{H:Hp}:Th n H (.int (-1)):=.of (.int _) .neg
theorem Th.str{n:Nat}{H:Hp}{z:Str}(h:A1 z=true)(B:z.length<=10):Th n H (.str z):=.of (.str z (by omega)) (.str h B)
theorem Th.dct{n:Nat}{H:Hp}{a:Ah}{ks:List (Str×Int)}(z:ks.length<=2)(e:H a=some (.dK (diK ks)))(h:Atm 110 (.dict (diD ks))):Th n H (.ref a):=.of (.dct (by omega) e) h
theorem aBv:Atm 110 (.dict (diD [])):=⟨rfl,⟨by decide,by decide,by decide⟩,fun _=>by decide⟩
theorem aHT:Atm 110 (.dict (diD [("a",1),("b",2)])):=⟨rfl,⟨by decide,by decide,by decide⟩,fun _=>by decide⟩
def Sho(d:Aj):Prop:=∀ z:Str,z=aFK d->A1 z=true/\z.length<=490
theorem Sho.of{d:Aj}(h:Shw 490 d)(B:∀ z,d=.str z->A1 z=true/\z.length<=490):Sho d:=fun z e=>by
 subst e;cases d with
 | str y=>exact B y rfl
 | _=>exact⟨h.ok,h.len⟩
theorem oV{n:Nat}{H:Hp}{O:Ah}{xs ys:List V}{Q:VK}(e:H O=some (.lst xs))(h1:Ths n H xs)(h2:Ths n H ys)(hl:xs.length+ys.length<=100)(k:∀ B H',aV H H'->H' B=some (.lst (xs++ys))->Ths n H' (xs++ys)->Q (.ref B) H'):
  ys.length<=sizeLine/\∀ z,H z=none->aHe (.ref O) (.ref z) (upd H z (.lst ys)) Q:=by
 refine⟨aH (by omega),fun z J=>?_⟩;have Y:=aI (o:=.lst ys) J;refine⟨O,z,xs,ys,rfl,rfl,Y _ _ e,aF,aH (by omega),fun B D=>?_⟩;have W:=Y.trans (aI (o:=.lst (xs++ys)) D);exact k B _ W aF fun v Z=>((Bo.mp Z).elim (h1 v) (h2 v)).same W
theorem j7{xs:List V}{r:Int}(B:0<=r)(h1:r<(xs.length:Nat)):∃ v∈xs,atI xs r=some v:=by
 obtain⟨j,rfl⟩:∃ j:Nat,r=j:=⟨r.toNat,by omega⟩
 have z:j<xs.length:=by omega
 exact⟨xs[j],BM _,cB (Ag z)⟩
theorem nC{n:Nat}(h:n<=1000):((n:Nat):Int)<2^512:=by
 have:(1000:Int)<2^512:=by decide
 omega
inductive aCl(vs:List V)(H:Hp)(Q:VK)(u3_:XK):Prop
 | mk (p c:Ah) (ns:List Int) (a:Int) (x:V) (d:Aj) (n:Nat) (q0:vs=[.ref p,x]) (q1:cR H p c ns a) (q2:a<=800000) (q3:RdV true H x d) (q4:BD n d) (q5:1<=n) (q6:n<=3) (q7:Sho d) (q8:∀ y a' H',Th (n+1) H' y->a<=a'->a'<=a+1->cR H' p c ns a'->bC p H H'->Q y H'):aCl vs H Q u3_
def aFd:Sp:=fun vs H Q u3_=>aCl vs H Q u3_
theorem aGR:bM ["_law_pen_here","_law_part","_law_some_here"] ["_law_pen_here","_law_part"] (aM aHu):=⟨rfl,rfl,rfl,by decide,rfl,by decide,by decide⟩
theorem aHU{f:Ah}{fd:AC}(F:Fun K "_law_odd" "_law_odd" aHu f fd)(ah:mg "len"=none)(an:mg "str"=none)
  (GT:Cl P w K mg base 1 "_law_take" ["_law_pen_here","_law_many"] gJ)
  :cN P w K mg base CX0 2 f fd ["_law_pen_here","_law_part"] aFd:=by
 refine F.ok aGR (fun vs H Q E h=>?_) (fun cD A outer s H vs Q E hr h=>?_)
 .obtain⟨p,c,ns,a,x,d,n,rfl,_⟩:=h;rfl
 .obtain⟨p,c,ns,a,x,d,n,rfl,hp,ha,hx,hd,hn1,hn3,hsh,k⟩:=h;have nd:=aGR.nd;refine⟨_,(aG (bE (i:=2) nd rfl (AA rfl) (dN (aD mS (aD eQ (aD eQ (aD aN (aD aN (aD aN (aD aN (aD aN (aD aN (aD aN (aD aN (aD aE (aD aE (aD (rN mX aE) (aD aE (aD aE aA))))))))))))))))))
   (aG (bE (i:=2) nd rfl (AA rfl) (aQ pA (pv 2) (dN (aD (aQ dM aE aE) (aD (aQ cT (aQ dM aE aE) aE) (aD (aQ dM aE aE) (aD (aQ cT (aQ dM aE aE) aE) (aD (aQ dM aE aE) (aD (aQ cT (aQ dM aE aE) aE) (aD (bU (aD (pv 1) aA)) (aD (lP (aD (pv 1) aA)) (aD sR aA))))))))))))
   (aG (bE (i:=2) nd rfl (AA rfl) (aQ pA (pv 2) (dN (aD (cH (wE hr) (by rfl) an (by kernel_rfl) (aD (pv 1) aA)) (aD (aQ dM aE aE) (aD aN (aD (bU (aD aN (aD aN aA))) (aD (bU (aD aN (aD aN aA))) (aD (bU (aD (bU (aD aN (aD aN (aD aE aA)))) (aD (bU (aD aN (aD aN (aD aE aA)))) aA))) aA)))))))))
   (aG (bE (i:=2) nd rfl (AA rfl) (aQ pA (pv 2) (dN (aD aN (aD aN (aD (nV (fZ aN aE (fZ aN aE nU)) rfl rfl (by simp) (by decide)) aA))))))
   (aJ (aO (bJ c4 (pv 2) (aX GT hr (aD (pv 0) (aD (aK aS (by rfl) ah Aq (aD (pv 2) aA)) aA))) Ih))))))),?_⟩
  have cp:∀ j:Int,0<=j->j<=1000000->mV 10 j:=fun j h1 h2=>⟨h1,h2,by decide⟩
  have c0:mV 10 6:=cp _ (by decide) (by decide);have c1:mV 10 7:=cp _ (by decide) (by decide);have c2:mV 10 9:=cp _ (by decide) (by decide);have c3:mV 10 59:=cp _ (by decide) (by decide);have z1:(1:Nat)<=sizeLine:=aH (by decide);have z2:(2:Nat)<=sizeLine:=aH (by decide);have z3:(3:Nat)<=sizeLine:=aH (by decide);have bb:(10:Int)^Bq 59<10^60/\0<=(10:Int)^Bq 59/\(10:Int)^Bq 9+1<10^60/\0<=(10:Int)^Bq 9/\(10:Int)^Bq 7+1<10^60/\0<=(10:Int)^Bq 7/\(10:Int)^Bq 6+1<10^60/\0<=(10:Int)^Bq 6:=by decide
  obtain⟨b1,b2,b3,b4,b5,b6,b7,b8⟩:=bb;have nl:∀{xs ys:List V} {H:Hp},Ths (n+1) H xs->Ths (n+1) H ys->Ths (n+1) H (xs++ys):=fun h1 h2 v B=>(Bo.mp B).elim (h1 v) (h2 v);have sm:∀{xs:List V} {H H':Hp},Ths (n+1) H xs->aV H H'->Ths (n+1) H' xs:=fun h s v B=>(h v B).same s;have w1:1<=wd n:=by
   unfold wd;split<;>decide
  have bj:Th n H x:=⟨d,hx,hd⟩
  obtain⟨k',rfl⟩:∃ k',n=k'+1:=⟨n-1,by omega⟩
  have w2:∀ j,3<=wd j:=fun j=>by
   unfold wd;split<;>decide
  refine⟨_,rfl,aJr,fun L1 bg=>?_⟩;have s1:=aI (o:=.lst [V.non,.bl true,.bl false,.str "",.str "a",.str "abcdefgh",.str "abcdefghi",.str "A",.str "a b",.str "a1",.str "-",.int 0,.int 1,.int (-1),.int 9999,.int 10000]) bg;have t1:∀ H',Ths (k'+1+1) H' [V.non,.bl true,.bl false,.str "",.str "a",.str "abcdefgh",.str "abcdefghi",.str "A",.str "a b",.str "a1",.str "-",.int 0,.int 1,.int (-1),.int 9999,.int 10000]:=fun H' v B=>by
   simp only[Am,An,or_false]at B;rcases B with rfl|rfl|rfl|rfl|rfl|rfl|rfl|rfl|rfl|rfl|rfl|rfl|rfl|rfl|rfl|rfl
   .exact .non
   .exact .bl _
   .exact .bl _
   .exact .str (by decide) (by decide)
   .exact .str (by decide) (by decide)
   .exact .str (by decide) (by decide)
   .exact .str (by decide) (by decide)
   .exact .str (by decide) (by decide)
   .exact .str (by decide) (by decide)
   .exact .str (by decide) (by decide)
   .exact .str (by decide) (by decide)
   .exact .int (by decide) (by decide)
   .exact .int (by decide) (by decide)
   .exact .neg
   .exact .int (by decide) (by decide)
   .exact .int (by decide) (by decide)
  have ae:upd H L1 (.lst [V.non,.bl true,.bl false,.str "",.str "a",.str "abcdefgh",.str "abcdefghi",.str "A",.str "a b",.str "a1",.str "-",.int 0,.int 1,.int (-1),.int 9999,.int 10000]) L1=some _:=aF;generalize upd H L1 _=G1 at s1 ae ⊢;generalize bp:[V.non,.bl true,.bl false,.str "",.str "a",.str "abcdefgh",.str "abcdefghi",.str "A",.str "a b",.str "a1",.str "-",.int 0,.int 1,.int (-1),.int 9999,.int 10000]=bo at t1 ae;have l1:bo.length=16:=by rw[<- bp];rfl
  refine⟨_,rfl,_,_,rfl,rfl,c0,_,_,rfl,rfl,c0,_,_,rfl,rfl,_,_,rfl,rfl,c1,_,_,rfl,rfl,c1,_,_,rfl,rfl,_,_,rfl,rfl,c2,_,_,rfl,rfl,c2,_,_,rfl,rfl,_,rfl,z1,fun q1 bq=>⟨_,rfl,z1,fun q2 ao n2=>fun q3 aa=>?_⟩⟩;have sa:=aI (o:=.tup [x]) bq;have ea:upd G1 q1 (.tup [x]) q1=some (.tup [x]):=aF;generalize upd G1 q1 (.tup [x])=Ga at sa ea ao aa ⊢;have sb:=aI (o:=.lst [x]) ao;have eb:upd Ga q2 (.lst [x]) q2=some (.lst [x]):=aF;generalize upd Ga q2 (.lst [x])=Gb at sb eb aa ⊢;have sc:=aI (o:=.dK []) aa;have ec:upd Gb q3 (.dK []) q3=some (.dK (diK [])):=aF;generalize upd Gb q3 (.dK [])=Gc at sc ec ⊢;have sA:=s1.trans (sa.trans (sb.trans sc));have one:∀{H':Hp},aV H H'->Ths (k'+1) H' [x]:=fun s v B=>by rw[A7.mp B];exact bj.same s
  refine oV ((sa.trans (sb.trans sc)) _ _ ae) (t1 _) (fun v B=>?_) (by rw[l1];show 16+9<=100;decide) fun L3 G2 s2 be t3=>?_
  .simp only[Am,An,or_false]at B;rcases B with rfl|rfl|rfl|rfl|rfl|rfl|rfl|rfl|rfl
   .exact .int b8 (by omega)
   .exact .int (by omega) b7
   .exact .int b6 (by omega)
   .exact .int (by omega) b5
   .exact .int b4 (by omega)
   .exact .int (by omega) b3
   .exact .tup ((sb.trans sc) _ _ ea) (one sA) w1
   .exact .lst (sc _ _ eb) n2 (one sA) w1
   .exact .dct (by decide) ec aBv
  have sB:=sA.trans s2;obtain⟨o1,o2⟩:=hsh _ rfl;have Z:=hd.ok;refine⟨_,rfl,_,rfl,true,x,d,_,rfl,hx.same sB,Z.sh,AD Z.dp (by omega),AD Z.len ?_,rfl,?_⟩
  .refine aH ?_;have:∀ j,j<=3->bd j<=1000000:=by decide
   exact this _ hn3
  refine⟨_,_,rfl,rfl,c3,z2,fun q4 aL=>⟨z2,fun q5 ak=>⟨z3,fun Y ac=>⟨z3,fun q7 O=>⟨z2,fun q8 D=>?_⟩⟩⟩⟩⟩;have se:=aI (o:=.tup [V.str "a",.str "b"]) aL;have ee:upd G2 q4 (.tup [V.str "a",.str "b"]) q4=some (.tup [V.str "a",.str "b"]):=aF;generalize upd G2 q4 (.tup [V.str "a",.str "b"])=Gd at se ee ak ac O D ⊢;have sf:=aI (o:=.tup [V.str "b",.str "a"]) ak;have ef:upd Gd q5 (.tup [V.str "b",.str "a"]) q5=some (.tup [V.str "b",.str "a"]):=aF;generalize upd Gd q5 (.tup [V.str "b",.str "a"])=Ge at sf ef ac O D ⊢;have sg:=aI (o:=.tup [V.str "a",.str "b",.int 1]) ac;have eg:upd Ge Y (.tup [V.str "a",.str "b",.int 1]) Y=some (.tup [V.str "a",.str "b",.int 1]):=aF;generalize upd Ge Y (.tup [V.str "a",.str "b",.int 1])=Gf at sg eg O D ⊢;have sh:=aI (o:=.tup [V.str "b",.str "a",.int 1]) O;have eh:upd Gf q7 (.tup [V.str "b",.str "a",.int 1]) q7=some (.tup [V.str "b",.str "a",.int 1]):=aF;generalize upd Gf q7 (.tup [V.str "b",.str "a",.int 1])=Gg at sh eh D ⊢;have si:=aI (o:=.tup [V.ref Y,.ref q7]) D;have ei:upd Gg q8 (.tup [V.ref Y,.ref q7]) q8=some (.tup [V.ref Y,.ref q7]):=aF;generalize upd Gg q8 (.tup [V.ref Y,.ref q7])=Gh at si ei ⊢;have J:∀{j:Nat} {H':Hp},Th j H' (.str "a")/\Th j H' (.str "b")/\Th j H' (.int 1):=⟨.str (by decide) (by decide),.str (by decide) (by decide),.int (by decide) (by decide)⟩
  have sC:=se.trans (sf.trans (sg.trans (sh.trans si)));refine oV (sC _ _ be) (sm t3 sC) (fun v B=>?_) (by rw[Al,l1];show 16+9+6<=100;decide) fun L5 G3 s5 bi t5=>?_
  .simp only[Am,An,or_false]at B;rcases B with rfl|rfl|rfl|rfl|rfl|rfl
   .exact⟨_,.str _ (AD o2 (by decide)),.inl (Atm.txt o1 o2)⟩
   .exact .int b2 b1
   .exact .str (by decide) (by decide)
   .refine .tup ((sf.trans (sg.trans (sh.trans si))) _ _ ee) (fun v B=>?_) (AD (by decide) (w2 _));simp only[Am,An,or_false]at B;rcases B with rfl|rfl
    .exact J.1
    .exact J.2.1
   .refine .tup ((sg.trans (sh.trans si)) _ _ ef) (fun v B=>?_) (AD (by decide) (w2 _));simp only[Am,An,or_false]at B;rcases B with rfl|rfl
    .exact J.2.1
    .exact J.1
   .refine .tup ei (fun v B=>?_) (AD (show 2<=3 by decide) (w2 _));simp only[Am,An,or_false]at B;rcases B with rfl|rfl
    .refine .tup ((sh.trans si) _ _ eg) (fun v B=>?_) (w2 _);simp only[Am,An,or_false]at B;rcases B with rfl|rfl|rfl
     .exact J.1
     .exact J.2.1
     .exact J.2.2
    .refine .tup (si _ _ eh) (fun v B=>?_) (w2 _);simp only[Am,An,or_false]at B;rcases B with rfl|rfl|rfl
     .exact J.2.1
     .exact J.1
     .exact J.2.2
  refine⟨_,rfl,fun q9 aj=>?_⟩;have sj:aV G3 (upd (upd G3 q9 (.dK [])) q9 (.dK (diK [("a",1),("b",2)]))):=fun b o e=>by
   rw[bD (bG e aj),bD (bG e aj)];exact e
  refine⟨aF,diK [("a",1),("b",2)],rfl,by decide,?_⟩;rw[show i4 [] (diK [("a",1),("b",2)])=diK [("a",1),("b",2)] from rfl];have ej:upd (upd G3 q9 (.dK [])) q9 (.dK (diK [("a",1),("b",2)])) q9=some _:=aF;generalize upd (upd G3 q9 (.dK [])) q9 (.dK (diK [("a",1),("b",2)]))=G4 at sj ej ⊢;refine oV (sj _ _ bi) (sm t5 sj) (fun v B=>?_) (by rw[Al,Al,l1];show 16+9+6+3<=100;decide) fun L7 G5 s7 W t7=>?_
  .simp only[Am,An,or_false]at B;rcases B with rfl|rfl|rfl
   .exact .str (by decide) (by decide)
   .exact .str (by decide) (by decide)
   .exact .dct (by decide) ej aHT
  have sZ:=(sB.trans sC).trans (s5.trans (sj.trans s7));refine⟨_,rfl,_,rfl,_,rfl,L7,_,rfl,.inl (bB W),p,c,ns,a,_,rfl,hp.same sZ,by omega,?_,?_,fun r a' H' r0 r1 a0 bt bc kb=>?_⟩
  .rw[Al,Al,Al,l1];show(0:Int)<((16+9+6+3:Nat):Int);decide
  .exact nC (by rw[Al,Al,Al,l1];show 16+9+6+3<=1000;decide)
  obtain⟨v,B,hat⟩:=j7 r0 r1;refine⟨L7,_,r,v,rfl,rfl,bB (kb _ _ W fun z=>?_),hat,k v a' H' ((t7 v B).but (hp.same sZ) kb) a0 bt bc fun b o e hb=>kb _ _ (sZ _ _ e) hb⟩;obtain⟨⟨l,_,e2⟩,_⟩:=hp.same sZ;rw[z,e2]at W;cases W
mutual
theorem rD{H:Hp}:∀{x:V}{d:Aj},RdV false H x d->RdV true H x d
 | _,_,.non=>.non
 | _,_,.bl b=>.bl b
 | _,_,.int i=>.int i
 | _,_,.str z h=>.str z h
 | _,_,.lst hm _ _ _=>nomatch hm.1
 | _,_,.tup e B r=>.tup e B (rH r)
 | _,_,.dct B e=>.dct B e
theorem rH{H:Hp}:∀{xs:List V}{ds:List Aj},c9 false H xs ds->c9 true H xs ds
 | _,_,.nil=>.nil
 | _,_,.cons a r=>.cons (rD a) (rH r)
end
inductive Itm:Aj->Prop
 | txt {z:Str} (h:A1 z=true) (h1:1<=z.length) (h8:z.length<=8) (hs:Shw 10 (.str z)):Itm (.str z)
 | num {i:Int} (h0:0<=i) (h1:i<=1000000000):Itm (.int i)
 | names {T:List Str} (h2:2<=T.length) (h6:T.length<=6) (h:∀ z∈T,bV z=true):Itm (.tuple (T.map By))
 | parts {T:List P3} (h2:2<=T.length) (h6:T.length<=6) (h:∀ x∈T,cZ (pD x)=true):Itm (.tuple (T.map pD))
theorem Itm.name{z:Str}(h:bV z=true):Itm (.str z):=by
 have:=f9 h;refine .txt (aAd h) ?_ (by omega) (Shw.name h);unfold bV at h;rw[Av]at h;exact(Ig h.1).1
theorem Itm.bd{d:Aj}(h:Itm d):BD 3 d:=by
 cases h with
 | txt h h1 O=>exact .of (.str h (by omega))
 | num J h1=>exact .of (.int J (by omega))
 | @names T h2 D h=>
  refine BD.tup (fun x B=>?_) (by rw[Ae];exact D);obtain⟨z,hz,rfl⟩:=Bk.mp B;exact .of (.name (h z hz))
 | @parts T h2 D h=>
  refine BD.tup (fun x B=>?_) (by rw[Ae];exact D);obtain⟨p,hp,rfl⟩:=Bk.mp B;have h':(bV p.1&&bV p.2.1&&decide (1<=p.2.2/\p.2.2<=10000000))=true:=h p hp;simp only[Av,decide_eq_true_eq]at h';obtain⟨⟨g1,g2⟩,g3⟩:=h';refine BD.tup (fun x B=>?_) (Ak 3);simp only[Am,An,or_false]at B;rcases B with rfl|rfl|rfl
  .exact .of (.name g1)
  .exact .of (.name g2)
  .exact .of (.int (by omega) (by omega))
theorem Itm.shw{d:Aj}(h:Itm d):Shw 249 d:=by
 cases h with
 | txt h h1 W J=>exact J.mono (by decide)
 | num O h1=>exact(Shw.int O (by omega)).mono (by decide)
 | @names T h2 D h=>
  refine(Shw.tuple (b:=10) (n:=6) (fun x B=>?_) (by rw[Ae];exact D)).mono (by decide);obtain⟨z,hz,rfl⟩:=Bk.mp B;exact Shw.name (h z hz)
 | @parts T h2 D h=>
  refine Shw.tuple (b:=39) (n:=6) (fun x B=>?_) (by rw[Ae];exact D);obtain⟨p,hp,rfl⟩:=Bk.mp B;exact Shw.part (h p hp)
theorem Itm.sho{d:Aj}(h:Itm d):Sho d:=.of (h.shw.mono (by decide)) fun z e=>by
 subst e;cases h with
 | txt h h1 B=>exact⟨h,by omega⟩
structure RwA(H:Hp)(tr:Ah)(bF name:Str)(xs:List V)(es:List Aj):Prop where
 e:H tr=some (.tup (.str bF::.str name::xs))
 r:c9 false H (.str bF::.str name::xs) es
 l2:2<=xs.length
 l7:xs.length<=5
 it:∀ d∈es,Itm d
theorem RwA.same{H H':Hp}{z:Ah}{bF name:Str}{xs:List V}{es:List Aj}(h:RwA H z bF name xs es)(s:aV H H'):RwA H' z bF name xs es:=⟨s _ _ h.e,h.r.same s,h.l2,h.l7,h.it⟩
theorem RwA.ths{H:Hp}{z:Ah}{bF name:Str}{xs:List V}{es:List Aj}(h:RwA H z bF name xs es):Ths 3 H (.str bF::.str name::xs):=Ths.of (rH h.r) fun e B=>(h.it e B).bd
theorem Ths.same{n:Nat}{H H':Hp}{xs:List V}(h:Ths n H xs)(s:aV H H'):Ths n H' xs:=fun v z=>(h v z).same s
theorem Ths.up{n:Nat}{H:Hp}{xs:List V}(h:Ths n H xs)(hn:n<=4):Ths (n+1) H xs:=fun v z=>(h v z).up hn
theorem Ths.app{n:Nat}{H:Hp}{xs ys:List V}(h1:Ths n H xs)(h2:Ths n H ys):Ths n H (xs++ys):=fun v z=>(Bo.mp z).elim (h1 v) (h2 v)
theorem Ths.one{n:Nat}{H:Hp}{v:V}(h:Th n H v):Ths n H [v]:=fun x z=>by rw[A7.mp z];exact h
theorem Ths.cut{n:Nat}{H:Hp}{xs:List V}{lo hi:Option Int}(h:Ths n H xs):Ths n H (d8 xs lo hi):=fun v z=>h v (C5 (CB z))
theorem Ths.but{n:Nat}{H H':Hp}{xs:List V}{p c:Ah}{ns:List Int}{a:Int}(h:Ths n H xs)(z:cR H p c ns a)(k:bC p H H'):Ths n H' xs:=fun v B=>(h v B).but z k
theorem fJ{H H':Hp}{t:Ah}{xs:List V}{p c:Ah}{ns:List Int}{a:Int}(e:H t=some (.tup xs))(B:cR H p c ns a)(k:bC p H H'):H' t=some (.tup xs):=k _ _ e fun z=>by
 obtain⟨⟨l,_,e2⟩,_⟩:=B;rw[z,e2]at e;cases e
theorem dS{H H':Hp}{t:Ah}{xs:List V}{p c:Ah}{ns:List Int}{a:Int}(e:H t=some (.lst xs))(B:cR H p c ns a)(k:bC p H H'):H' t=some (.lst xs):=k _ _ e fun z=>by
 obtain⟨⟨l,_,e2⟩,_⟩:=B;rw[z,e2]at e;cases e
theorem RwA.but{H H':Hp}{z:Ah}{bF name:Str}{xs:List V}{es:List Aj}{p c:Ah}{ns:List Int}{a:Int}(h:RwA H z bF name xs es)(B:cR H p c ns a)(k:bC p H H'):RwA H' z bF name xs es:=⟨fJ h.e B k,h.r.keep fun x o e hd=>k x o e fun y=>by
 obtain⟨⟨l,_,e2⟩,_⟩:=B;rw[y,e2]at e;cases e;exact hd _ _ rfl,h.l2,h.l7,h.it⟩
theorem lH{xs:List V}{i:Nat}:(d8 xs none (some (i:Int))).length+(d8 xs (some ((i:Int)+1)) none).length<=xs.length:=by
 rw[mY (α:=Unit),show((i:Int)+1)=((i+1:Nat):Int) by omega,kM (α:=Unit),AN,BE];omega
theorem spl{n:Nat}{H:Hp}{r:Ah}{xs:List V}{v:V}{i:Nat}(h:Ths n H xs)(z:Th n H v)(B:xs.length+1<=wd n)(e:H r=some (.tup (d8 xs none (some (i:Int))++[v]++d8 xs (some ((i:Int)+1)) none))):Th (n+1) H (.ref r):=by
 refine .tup e ((h.cut.app (.one z)).app h.cut) ?_;have hc:=lH (xs:=xs) (i:=i);simp only[Al,Ax,Cz];omega
theorem yJ{xs:List V}{i:Nat}{v:V}(h:xs.length<=1000):(d8 xs none (some (i:Int))).length+[v].length<=1000000:=by
 have:=lH (xs:=xs) (i:=i);simp only[Ax,Cz];omega
theorem aAD{xs:List V}{i:Nat}{v:V}(h:xs.length<=1000):(d8 xs none (some (i:Int))++[v]).length+(d8 xs (some ((i:Int)+1)) none).length<=1000000:=by
 have:=lH (xs:=xs) (i:=i);simp only[Al,Ax,Cz];omega
inductive aAE(vs:List V)(H:Hp)(Q:VK)(u3_:XK):Prop
 | mk (p c:Ah) (ns:List Int) (a:Int) (tr:Ah) (bF name:Str) (xs:List V) (es:List Aj) (q0:vs=[.ref p,.ref tr]) (q1:cR H p c ns a) (q2:a<=700000) (q3:RwA H tr bF name xs es) (q4:∀ y a' H',Th 5 H' y->a<=a'->a'<=a+20->cR H' p c ns a'->bC p H H'->Q y H'):aAE vs H Q u3_
def yK:Sp:=fun vs H Q u3_=>aAE vs H Q u3_
inductive aGS(H:Hp)(v:V):Prop
 | mk (t:Ah) (i:Nat) (hi:Int) (q0:v=.ref t) (q1:H t=some (.tup [.int i,.int 0,.int hi])) (q2:0<=hi) (q3:hi<=1000000000):aGS H v
def Bnd(H:Hp)(v:V):Prop:=aGS H v
theorem Bnd.same{H H':Hp}{v:V}(h:Bnd H v)(s:aV H H'):Bnd H' v:=by
 obtain⟨t,i,hi,e,e2,h0,h1⟩:=h;exact⟨t,i,hi,e,s _ _ e2,h0,h1⟩
theorem aGT:bM ["_law_pen_here","_law_row_here","_law_bounds","_law_at","_law_low","_law_high","_law_number_here"] ["_law_pen_here","_law_row_here"] (aM aHv):=⟨rfl,rfl,rfl,by decide,rfl,by decide,by decide⟩
theorem aHV{f:Ah}{fd:AC}(F:Fun K "_law_far" "_law_far" aHv f fd)(au:mg "len"=none)
  (GT:Cl P w K mg base 1 "_law_take" ["_law_pen_here","_law_many"] gJ)
  :cN P w K mg base CX0 2 f fd ["_law_pen_here","_law_row_here"] yK:=by
 refine F.ok aGT (fun vs H Q E h=>?_) (fun bN A outer s H vs Q E hr h=>?_)
 .obtain⟨p,c,ns,a,tr,bF,name,xs,es,rfl,_⟩:=h;rfl
 .obtain⟨p,c,ns,a,tr,bF,name,xs,es,rfl,hp,ha,hw,k⟩:=h;have nd:=aGT.nd;refine⟨_,(aG (bE (i:=2) nd rfl (AA rfl) (dN (aD (bU (aD aE (aD aE (aD aE aA)))) aA)))
   (aG (gS (bX (aW cQ (bJ cA (pv 1) aE Ih) aN (aY _)) (aJ (qQ (vQ Ce Dd Dc lM (pv 2) (aD (bU (aD aE (aD aE (aD (aQ dM aE aE) aA)))) aA)))) aT))
   (aG (gS (bX (aW o0 (bJ cA (pv 1) aE Ih) (bU (aD aN (aD aN aA))) (by with_unfolding_all rfl)) (aJ (qQ (vQ Ce Dd Dc lM (pv 2) (aD (bU (aD aE (aD aE (aD (aQ gO (aQ dM aE aE) aE) aA)))) aA)))) aT))
   (aG (gS (bX (aW cQ (bJ cA (pv 1) aE Ih) aN (aY _)) (aJ (bE (i:=2) nd rfl (AA rfl) (aQ pA (pv 2) (dN (aD (bU (aD aE (aD aE (aD (aQ dM aE aE) aA)))) (aD (bU (aD aE (aD aE (aD (aQ dM aE aE) aA)))) aA)))))) aT))
   (aG (jR (bJ c4 (pv 2) (aX GT hr (aD (pv 0) (aD (aK aS (by rfl) au Aq (aD (pv 2) aA)) aA))) Ih) (oW rfl (dB (bS (i:=3) nd rfl (AA rfl)) (dB (bS (i:=4) nd rfl (AA rfl)) (dB (bS (i:=5) nd rfl (AA rfl)) lK)))))
   (aG (bE (i:=6) nd rfl (AA rfl) (bJ c4 (dN (aD (aQ gO (pv 4) aE) (aD (aQ cT (pv 5) aE) (aD (pv 4) (aD (pv 5) aA))))) (aX GT hr (aD (pv 0) (aD aE aA))) Ih))
   (aJ (aO (aQ c5 (aQ c5 (bK cP (pv 1) cC (bY (pv 3))) (bU (aD (pv 6) aA))) (bK cP (pv 1) (bY (aQ cT (pv 3) aE)) cC)))))))))),?_⟩
  have cp:∀ j:Int,0<=j->j<=1000000->mV 10 j:=fun j h1 h2=>⟨h1,h2,by decide⟩
  have c0:mV 10 6:=cp _ (by decide) (by decide);have c1:mV 10 7:=cp _ (by decide) (by decide);have c2:mV 10 9:=cp _ (by decide) (by decide);have z3:(3:Nat)<=sizeLine:=aH (by decide);refine⟨z3,fun t1 ar=>⟨zZ1,fun L hL=>?_⟩⟩;have s1:=(aI (o:=.tup [V.int 2,.int 0,.int 9999]) ar).trans (aI (o:=.lst [V.ref t1]) hL);have e1:upd (upd H t1 (.tup [V.int 2,.int 0,.int 9999])) L (.lst [V.ref t1]) t1=some (.tup [V.int 2,.int 0,.int 9999]):=aI hL _ _ aF;have J:upd (upd H t1 (.tup [V.int 2,.int 0,.int 9999])) L (.lst [V.ref t1]) L=some (.lst [V.ref t1]):=aF;have bi:H L=none:=by
   cases e:H L with
   | none=>rfl
   | some o=>rw[aI ar _ _ e]at hL;cases hL
  generalize upd (upd H t1 (.tup [V.int 2,.int 0,.int 9999])) L (.lst [V.ref t1])=H1 at s1 e1 J ⊢;dsimp only[cF];have ai:atI (V.str bF::.str name::xs) 0=some (.str bF):=cB (j:=0) rfl;have ae:∀{H2:Hp} {bs:List V} {t:Ah} {i:Nat} {hi:Int} {ys:List V},aV H H2->(∀ v∈bs,Bnd H2 v)->(∀ v∈ys,v=.ref t)->0<=hi->hi<=1000000000->H2 t=some (.tup [.int i,.int 0,.int hi])->∀ v∈bs++ys,Bnd H2 v:=fun s Z hy h0 h1 e v B=>by
   rcases Bo.mp B with B|B
   .exact Z v B
   .exact⟨_,_,_,hy v B,e,h0,h1⟩
  have ax:∀{H2:Hp} {v:V} {o:HO},H2 L=some o->(∃ ws,o=.lst ws)->∀ o',Bnd H2 v->Bnd (upd H2 L o') v:=fun eo ho o' h=>by
   obtain⟨t,i,hi,e,e2,h0,h1⟩:=h;obtain⟨ws,rfl⟩:=ho;refine⟨t,i,hi,e,?_,h0,h1⟩;rw[bD fun z=>by rw[z,eo]at e2;cases e2];exact e2
  have kp:∀{H2:Hp} {o:HO},aV H H2->aV H (upd H2 L o):=fun s b o' e=>by
   rw[bD fun z=>by rw[z,bi]at e;cases e];exact s _ _ e
  refine⟨fun σ' H'=>∃ bs:List V,aV H H'/\H' L=some (.lst bs)/\(∀ v∈bs,Bnd H' v)/\1<=bs.length/\bs.length<=2/\σ'=[some (.ref p),some (.ref tr),some (.ref L),none,none,none,none],?_,?_⟩
  .refine⟨_,rfl,tr,_,0,_,rfl,rfl,aU (s1 _ _ hw.e),ai,rfl,_,rfl,?_⟩;have b1:∀ v∈[V.ref t1],Bnd H1 v:=fun v B=>⟨t1,2,9999,A7.mp B,e1,by decide,by decide⟩
   refine c8 (fun g=>?_) (fun g=>⟨[.ref t1],s1,J,b1,Ak 1,(show 1<=2 by decide),rfl⟩);refine⟨_,rfl,.inl ⟨rfl,_,bB J⟩,_,_,rfl,rfl,c1,z3,fun t2 O=>⟨L,_,_,rfl,rfl,aI O _ _ J,AR (show 1<2 by decide) (aH (by decide)),?_⟩⟩;have D:=aI (o:=.tup [V.int 4,.int 0,.int (10^Bq 7)]) O;exact⟨_,kp (s1.trans D),aF,fun v B=>ax (D _ _ J) ⟨_,rfl⟩ _ (ae (s1.trans D) (fun v B=>(b1 v B).same D) (fun v B=>A7.mp B) (i:=4) (by decide) (by decide) aF v B),(show 1<=2 by decide),Ak 2,rfl⟩
  clear e1 J s1;rintro σ' H2 ⟨bs,D,J,Z,Y,an,rfl⟩;refine⟨fun σ' H'=>∃ bs:List V,aV H H'/\H' L=some (.lst bs)/\(∀ v∈bs,Bnd H' v)/\1<=bs.length/\bs.length<=3/\σ'=[some (.ref p),some (.ref tr),some (.ref L),none,none,none,none],?_,?_⟩
  .refine⟨_,rfl,tr,_,0,_,rfl,rfl,aU (D _ _ hw.e),ai,zZ2,fun u bb=>?_⟩;have su:=aI (o:=.tup [V.str "breach",.str "view"]) bb;refine⟨u,_,rfl,.inr (aU aF),rfl,rfl,_,rfl,?_⟩;have ac:=su _ _ J;have aj:∀ v∈bs,Bnd (upd H2 u (.tup [V.str "breach",.str "view"])) v:=fun v B=>(Z v B).same su;have s3:=D.trans su;generalize upd H2 u _=H3 at s3 ac aj ⊢;refine c8 (fun g=>?_) (fun g=>⟨bs,s3,ac,aj,Y,by omega,rfl⟩);refine⟨_,rfl,.inl ⟨rfl,_,bB ac⟩,_,_,rfl,rfl,c1,_,_,rfl,rfl,z3,fun t2 O=>⟨L,_,_,rfl,rfl,aI O _ _ ac,AR (show bs.length<3 by omega) (aH (by decide)),?_⟩⟩;have W:=aI (o:=.tup [V.int 4,.int 0,.int (10^Bq 7-1)]) O;exact⟨_,kp (s3.trans W),aF,fun v B=>ax (W _ _ ac) ⟨_,rfl⟩ _ (ae (s3.trans W) (fun v B=>(aj v B).same W) (fun v B=>A7.mp B) (i:=4) (by decide) (by decide) aF v B),by rw[Al];omega,by rw[Al];show bs.length+1<=3;omega,rfl⟩
  clear Z J D Y an;rintro σ' H2 ⟨bs,D,J,Z,Y,an,rfl⟩;refine⟨fun σ' H'=>∃(L:Ah) (bs:List V),aV H H'/\H' L=some (.lst bs)/\(∀ v∈bs,Bnd H' v)/\1<=bs.length/\bs.length<=5/\σ'=[some (.ref p),some (.ref tr),some (.ref L),none,none,none,none],?_,?_⟩
  .refine⟨_,rfl,tr,_,0,_,rfl,rfl,aU (D _ _ hw.e),ai,rfl,_,rfl,c8 (fun g=>?_) (fun g=>⟨L,bs,D,J,Z,Y,by omega,rfl⟩)⟩;refine⟨_,rfl,_,_,rfl,rfl,c2,z3,fun t2 O=>⟨_,_,rfl,rfl,c0,z3,fun t3 ba=>⟨zZ2,fun L2 bh=>?_⟩⟩⟩;have s3:=aI (o:=.tup [V.int 5,.int 0,.int (10^Bq 9)]) O;have W:=aI (o:=.tup [V.int 6,.int 0,.int (10^Bq 6)]) ba;have s5:=aI (o:=.lst [V.ref t2,.ref t3]) bh;refine⟨L,L2,_,_,rfl,rfl,(s3.trans (W.trans s5)) _ _ J,aF,aH (by show bs.length+2<=1000000;omega),fun L3 bc=>?_⟩;have s6:=aI (o:=.lst (bs++[V.ref t2,.ref t3])) bc;have sA:=s3.trans (W.trans (s5.trans s6));refine⟨L3,_,D.trans sA,aF,fun v B=>?_,by rw[Al];omega,by rw[Al];show bs.length+2<=5;omega,rfl⟩;rcases Bo.mp B with B|B
   .exact(Z v B).same sA
   .simp only[Am,An,or_false]at B;rcases B with rfl|rfl
    .exact⟨t2,5,_,rfl,(W.trans (s5.trans s6)) _ _ aF,by decide,by decide⟩
    .exact⟨t3,6,_,rfl,(s5.trans s6) _ _ aF,by decide,by decide⟩
  clear Z J D Y an;rintro σ' H2 ⟨L,bs,D,J,Z,Y,b6,rfl⟩;refine⟨_,rfl,_,rfl,_,rfl,L,_,rfl,.inl (bB J),p,c,ns,a,_,rfl,hp.same D,by omega,by omega,nC (by omega),fun r a' H' r0 r1 bL cf ak kb=>?_⟩;obtain⟨v,B,hatv⟩:=j7 r0 r1;obtain⟨t,i,hi,rfl,et,h0,h1⟩:=Z v B;have bf:=fJ et (hp.same D) kb;refine⟨L,_,r,_,rfl,rfl,bB (dS J (hp.same D) kb),hatv,t,_,rfl,aU bf,rfl,_,_,rfl,_,_,rfl,_,_,rfl,rfl,?_⟩;dsimp only[cF];refine⟨_,rfl,_,_,rfl,rfl,_,rfl,_,_,rfl,rfl,_,rfl,_,rfl,zZ4,fun L4 bg=>?_⟩;have W:=aI (o:=.lst [V.int (0-1),.int (hi+1),.int 0,.int hi]) bg;refine⟨_,rfl,p,c,ns,a',4,rfl,ak.same W,by omega,by decide,by decide,fun r2 a2 H3 aC a0 l2 u2 bn am=>?_⟩;obtain⟨v,B,hatv2⟩:=j7 (xs:=[V.int (0-1),.int (hi+1),.int 0,.int hi]) aC a0;have be:Th 4 H3 v:=by
   simp only[Am,An,or_false]at B;rcases B with rfl|rfl|rfl|rfl
   .exact .neg
   .exact .int (by omega) (by omega)
   .exact .int (by decide) (by decide)
   .exact .int h0 (by omega)
  have ao:=((hw.same D).but (hp.same D) kb).same W |>.but (ak.same W) am;refine⟨L4,_,r2,v,rfl,rfl,bB (dS aF (ak.same W) am),hatv2,?_⟩;dsimp only[cF];refine⟨_,rfl,_,rfl,i,rfl,tr,_,rfl,ao.e,fun r3 H4 s5 e3=>?_⟩;have ci:(V.str bF::.str name::xs).length<=7:=by have:=hw.l7;simp only[Ax];omega
  refine⟨_,rfl,zZ1,fun t5 bo=>?_⟩;have s6:=aI (o:=.tup [v]) bo;refine⟨r3,t5,_,_,rfl,rfl,s6 _ _ e3,aF,yJ (by omega),fun r6 H6 s7 e6=>?_⟩;refine⟨_,rfl,_,rfl,_,_,rfl,rfl,_,rfl,tr,_,rfl,(s5.trans (s6.trans s7)) _ _ ao.e,fun r7 H7 s8 e7=>?_⟩;refine⟨r6,r7,_,_,rfl,rfl,s8 _ _ e6,e7,aAD (by omega),fun r8 H8 s9 e8=>?_⟩;have sZ:=(s5.trans (s6.trans s7)).trans (s8.trans s9);exact k _ a2 H8 (spl ((ao.ths.up (by decide)).same sZ) (be.same sZ) (by show _<=8;omega) e8) (by omega) (by omega) (bn.same sZ) fun b o e Z=>sZ _ _ (am _ _ (W _ _ (kb _ _ (D _ _ e) Z)) Z)
theorem aGr:∀ n:Nat,n<9->∀ s:Nat,s<9->s<=n->CM none (some (s:Int)) 1 n=DU 0 s:=by decide
theorem aDk:∀ n:Nat,n<9->∀ s:Nat,s<9->s<=n->CM (some (s:Int)) none 1 n=DU s (n-s):=by decide
theorem aHW{b:List Nat}{s:Nat}(B:b.length<=8)(z:s<=b.length):Cr (mk b) none (some (s:Int))=mk (b.take s):=by
 unfold Cr;rw[gX,aGr _ (by omega) _ (by omega) z];split
 .next h=>
  simp at h;rw[h,B0]
 .have e:=iQ b s 0;rw[DB]at e;exact congrArg mk e
theorem aFe{b:List Nat}{s:Nat}(D:b.length<=8)(z:s<=b.length):Cr (mk b) (some (s:Int)) none=mk (b.drop s):=by
 unfold Cr;rw[gX,aDk _ (by omega) _ (by omega) z];split
 .next h=>
  simp at h;have:s=0\/b.length=0:=by omega
  rcases this with rfl|B
  .rfl
  .rw[List.length_eq_zero_iff.mp B];simp
 .have e:=iQ b (b.length-s) s;rw[show(b.drop s).take (b.length-s)=b.drop s from AV (by rw[BE];exact Ak _)]at e;exact congrArg mk e
inductive aFf(ws:List V)(v:V):Prop
 | mk (j:Nat) (z:Str) (q0:v=.int j) (q1:ws[j]?=some (.str z)) (q2:A1 z=true) (q3:1<=z.length) (q4:z.length<=8):aFf ws v
def aJz(ws:List V)(v:V):Prop:=aFf ws v
theorem aFg{l:List Nat}(h:∀ c∈l,c<0x110000):A1 (mk l)=true:=by
 unfold A1 mk;rw[Bz];intro c hc;exact Ic (h c (by simpa using hc))
theorem aGU{z:Str}(h:A1 z=true):∀ c∈z.cps.toList,c<0x110000:=fun c hc=>by
 unfold A1 at h;rw[Bz]at h;exact Ig (h c (by simpa using hc))
def lI:Str:=" !\"#$&'()*+,-./0123456789:;<=>?@ABCDEFGHIJKLMNOPQRSTUVWXYZ[\\]^_`abcdefghijklmnopqrstuvwxyz{|}~\n"
theorem lJ:lI.length=95/\∀ c∈lI.cps.toList,c<128:=by decide
theorem aFh:bM ["_law_pen_here","_law_row_here","_law_spots","_law_at","_law_old","_law_signs","_law_spot","_law_new"] ["_law_pen_here","_law_row_here"] (aM aB1):=⟨rfl,rfl,rfl,by decide,rfl,by decide,by decide⟩
theorem aGs{f:Ah}{fd:AC}(F:Fun K "_law_with_sign" "_law_with_sign" aB1 f fd)(B:mg "len"=none)(ag:mg "range"=none)(af:mg "isinstance"=none)(ae:mg "str"=none)
  (GT:Cl P w K mg base 1 "_law_take" ["_law_pen_here","_law_many"] gJ)
  :cN P w K mg base CX0 2 f fd ["_law_pen_here","_law_row_here"] yK:=by
 refine F.ok aFh (fun vs H Q E h=>?_) (fun bx A outer s H vs Q E hr h=>?_)
 .obtain⟨p,c,ns,a,tr,bF,name,xs,es,rfl,_⟩:=h;rfl
 .obtain⟨p,c,ns,a,tr,bF,name,xs,es,rfl,hp,ha,hw,k⟩:=h;have nd:=aFh.nd;refine⟨_,(aG (f8 (i:=2) (N:=["_law_at","_law_row_here"]) (src:=[none,some 1]) (osc:=aM aB1) (oN:=["_law_pen_here","_law_row_here","_law_spots","_law_at","_law_old","_law_signs","_law_spot","_law_new"]) ⟨by rfl,by decide,by decide,by decide,rfl,by rfl⟩ nd rfl (aCE rfl ag (aD aE (aD (aK aS (by rfl) B Aq (aD (pv 1) aA)) aA))) (fun cl s H fp dz C=>⟨bS (i:=0) (show(["_law_at","_law_row_here"]:List Str).Nodup by decide) rfl (AA rfl),xL (cE (aK (r:=f7 K) bZ (by rfl) af (by kernel_rfl) (aD (bJ (r:=aDH K) cA (pv 1) (pv 0) Ih) (aD (cK (v:=.ty "str") (by rfl) ae (by kernel_rfl) rfl) aA)))),pv 0⟩))
   (aG (bE (i:=3) nd rfl (AA rfl) (bJ c4 (pv 2) (aX GT hr (aD (pv 0) (aD (aK aS (by rfl) B Aq (aD (pv 2) aA)) aA))) Ih))
   (aG (bE (i:=4) nd rfl (AA rfl) (bJ cA (pv 1) (pv 3) Ih))
   (aG (bE (i:=5) nd rfl (AA rfl) aN)
   (aG (bE (i:=6) nd rfl (AA rfl) (aX GT hr (aD (pv 0) (aD (aK fV (by rfl) B Aq (aD (pv 4) aA)) aA))))
   (aG (bE (i:=7) nd rfl (AA rfl) (aQ gP (aQ gP (bK xM (pv 4) cC (bY (pv 6))) (bJ rT (pv 5) (aX GT hr (aD (pv 0) (aD (aK fV (by rfl) B Aq (aD (pv 5) aA)) aA))) Ih)) (bK xM (pv 4) (bY (aQ cT (pv 6) aE)) cC)))
   (aJ (aO (aQ c5 (aQ c5 (bK cP (pv 1) cC (bY (pv 3))) (bU (aD (pv 7) aA))) (bK cP (pv 1) (bY (aQ cT (pv 3) aE)) cC)))))))))),?_⟩
  have b3:(V.str bF::.str name::xs).length<=7:=by have:=hw.l7;simp only[Ax];omega
  have bP:=hw.r.len;refine⟨_,rfl,tr,_,rfl,.inr (aU hw.e),1,_,rfl,(by omega),?_⟩;refine iL (lo:=1) (n:=((((V.str bF::.str name::xs).length:Nat):Int)-1).toNat) (fun i ys σ H'=>aV H H'/\(∀ v∈ys,aJz (V.str bF::.str name::xs) v)/\(1<=i->1<=ys.length)/\ys.length<=i/\∃ o,σ=[o,some (.ref tr)]) ⟨aV.refl _,fun v J=>(by cases J),fun z=>absurd z (by decide),Ak _,none,rfl⟩ (aH (by omega)) (fun i ys σ H' p=>p.2.2.2.1) ?_ ?_
  .rintro i ys σ H2 hi ⟨Z,hy,h1,av,o,rfl⟩;have W:1+i<(V.str bF::.str name::xs).length:=by omega
   obtain⟨d,hd,rd⟩:=hw.r.at (Ag W);have ap:=hw.it d (AH hd);dsimp only[cF];refine⟨_,rfl,_,rfl,tr,_,_,_,rfl,rfl,aU (Z _ _ hw.e),(by rw[show((1:Int)+(i:Nat))=((1+i:Nat):Int) by omega];exact cB (Ag W)),?_⟩;refine⟨_,"str",_,_,rfl,eV (rd.same Z),oP d,_,rfl,?_⟩;cases hs:kC d with
   | false=>
    refine cM ⟨Z,hy,fun z=>?_,by omega,_,rfl⟩;cases i with
    | succ i=>exact h1 (by omega)
    | zero=>
     exfalso;have aB:RdV false H (.str name) d:=rd;cases aB;cases hs
   | true=>
    refine cG ⟨_,rfl,Z,fun v J=>?_,fun _=>by rw[Al];simp,by rw[Al];simp;omega,_,rfl⟩;rcases Bo.mp J with J|J
    .exact hy v J
    .rw[A7.mp J];generalize hq:(V.str bF::.str name::xs)[1+i]=q at rd;cases rd with
     | str z hz=>
      cases ap with
      | txt g1 g2 g3=>exact⟨1+i,z,by rw[show((1:Int)+(i:Nat))=((1+i:Nat):Int) by omega],by rw[Ag W,hq],g1,g2,g3⟩
     | _=>cases hs
  rintro ys σ H2 ⟨Z,hy,h1,av,o,rfl⟩ D hD;have bA:1<=ys.length:=h1 (by simp only[Ax];omega);have Y:=Z.trans (aI (o:=.lst ys) hD);have eD:upd H2 D (.lst ys) D=some (.lst ys):=aF;generalize upd H2 D (.lst ys)=H3 at Y eD ⊢;dsimp only[cF];refine⟨_,rfl,_,rfl,_,rfl,D,_,rfl,.inl (bB eD),p,c,ns,a,_,rfl,hp.same Y,by omega,by omega,nC (by omega),fun r a1 H4 r0 r1 bu b2 aj kb=>?_⟩;obtain⟨v,J,hatv⟩:=j7 r0 r1;obtain⟨j,z,rfl,hj,z1,z2,z3⟩:=hy v J;have ak:=(hw.same Y).but (hp.same Y) kb;refine⟨D,_,r,_,rfl,rfl,bB (dS eD (hp.same Y) kb),hatv,?_⟩;dsimp only[cF];refine⟨_,rfl,_,rfl,tr,_,_,_,rfl,rfl,aU ak.e,cB hj,?_⟩;dsimp only[cF];refine⟨_,rfl,_,rfl,z,rfl,aH (by omega),p,c,ns,a1,_,rfl,aj,by omega,by omega,nC (by omega),fun r5 a5 H5 bN bq l5 u5 ah ai=>?_⟩;obtain⟨sp,rfl⟩:∃ sp:Nat,r5=sp:=⟨r5.toNat,by omega⟩
  have bj:sp<z.length:=by omega
  dsimp only[cF];refine⟨_,rfl,_,rfl,_,rfl,z,rfl,aH (by omega),_,rfl,_,rfl,_,rfl,lI,rfl,aH (by rw[lJ.1];decide),p,c,ns,a5,_,rfl,ah,by omega,by rw[lJ.1];decide,nC (by rw[lJ.1];decide),fun r6 a6 H6 bp bH l6 u6 aC aa=>?_⟩;obtain⟨q,rfl⟩:∃ q:Nat,r6=q:=⟨r6.toNat,by omega⟩
  have ac:q<lI.cps.toList.length:=by
   have:lI.cps.toList.length=lI.length:=by simp[Fd]
   omega
  refine⟨lI,_,_,rfl,rfl,aH (by rw[lJ.1];decide),cB (Ag ac),?_⟩;have b5:z.cps.toList.length=z.length:=by simp[Fd]
  have e1:Cr z none (some (sp:Int))=mk (z.cps.toList.take sp):=by
   have:=aHW (b:=z.cps.toList) (s:=sp) (by omega) (by omega)
   rwa [aEw]at this
  have e2:Cr z (some ((sp:Int)+1)) none=mk (z.cps.toList.drop (sp+1)):=by
   have:=aFe (b:=z.cps.toList) (s:=sp+1) (by omega) (by omega)
   rwa [aEw,show(((sp+1:Nat):Nat):Int)=(sp:Int)+1 by omega]at this
  have l1:(mk (z.cps.toList.take sp)).length=sp:=by rw[gX,AN];omega
  have l2:(mk (z.cps.toList.drop (sp+1))).length=z.length-(sp+1):=by rw[gX,BE];omega
  have l3:∀ ch:Nat,(⟨#[ch]⟩:Str).length=1:=fun _=>rfl;rw[e1];refine⟨_,_,rfl,rfl,aH (by rw[l1,l3];omega),_,rfl,_,rfl,_,_,rfl,rfl,_,rfl,z,rfl,aH (by omega),?_⟩;rw[e2];refine⟨_,_,rfl,rfl,aH (by rw[BU,l1,l2,l3];omega),?_⟩;have hok:A1 (mk (z.cps.toList.take sp)++⟨#[lI.cps.toList[q]]⟩++mk (z.cps.toList.drop (sp+1)))=true:=by
   refine okA _ _ (okA _ _ (aFg fun c hc=>aGU z1 c (CB hc)) ?_) (aFg fun c hc=>aGU z1 c (C5 hc));refine aFg (l:=[lI.cps.toList[q]]) fun c hc=>?_;rw[A7.mp hc];have:=lJ.2 _ (BM ac);omega
  have ad:(mk (z.cps.toList.take sp)++⟨#[lI.cps.toList[q]]⟩++mk (z.cps.toList.drop (sp+1))).length<=10:=by
   rw[BU,BU,l1,l2,l3];omega
  generalize mk (z.cps.toList.take sp)++⟨#[lI.cps.toList[q]]⟩++mk (z.cps.toList.drop (sp+1))=nw at hok ad ⊢;have O:=(ak.but aj ai).but ah aa;dsimp only[cF];refine⟨_,rfl,_,rfl,j,rfl,tr,_,rfl,O.e,fun r7 H7 s7 e7=>?_⟩;refine⟨_,rfl,zZ1,fun t8 ao=>?_⟩;have s8:=aI (o:=.tup [V.str nw]) ao;refine⟨r7,t8,_,_,rfl,rfl,s8 _ _ e7,aF,yJ (by omega),fun r9 H9 s9 e9=>?_⟩;refine⟨_,rfl,_,rfl,_,_,rfl,rfl,_,rfl,tr,_,rfl,(s7.trans (s8.trans s9)) _ _ O.e,fun rA HA sA eA=>?_⟩;refine⟨r9,rA,_,_,rfl,rfl,sA _ _ e9,eA,aAD (by omega),fun rB HB sB eB=>?_⟩;have sZ:=(s7.trans (s8.trans s9)).trans (sA.trans sB);exact k _ a6 HB (spl ((O.ths.up (by decide)).same sZ) (.str hok ad) (by show _<=8;omega) eB) (by omega) (by omega) (aC.same sZ) fun b o e hb=>sZ _ _ (aa _ _ (ai _ _ (kb _ _ (Y _ _ e) hb) hb) hb)
structure PsA(H:Hp)(t:Ah)(ts:List V)(es:List Aj):Prop where
 e:H t=some (.tup ts)
 r:c9 false H ts es
 l2:2<=ts.length
 l6:ts.length<=6
 it:(∀ d∈es,∃ z,d=.str z/\bV z=true)\/∀ d∈es,∃ x,d=pD x/\cZ d=true
theorem PsA.same{H H':Hp}{t:Ah}{ts:List V}{es:List Aj}(h:PsA H t ts es)(s:aV H H'):PsA H' t ts es:=⟨s _ _ h.e,h.r.same s,h.l2,h.l6,h.it⟩
theorem PsA.but{H H':Hp}{t:Ah}{ts:List V}{es:List Aj}{p c:Ah}{ns:List Int}{a:Int}(h:PsA H t ts es)(z:cR H p c ns a)(k:bC p H H'):PsA H' t ts es:=⟨fJ h.e z k,h.r.keep fun x o e hd=>k x o e fun y=>by
 obtain⟨⟨l,_,e2⟩,_⟩:=z;rw[y,e2]at e;cases e;exact hd _ _ rfl,h.l2,h.l6,h.it⟩
theorem PsA.one{H:Hp}{t:Ah}{ts:List V}{es:List Aj}(h:PsA H t ts es){d:Aj}(hd:d∈es):BD 2 d/\Sho d:=by
 rcases h.it with h|h
 .obtain⟨z,rfl,hz⟩:=h d hd;exact⟨.of (.name hz),(Itm.name hz).sho⟩
 .obtain⟨x,rfl,B⟩:=h d hd;have hi:Itm (.tuple ([x,x].map pD)):=.parts (Ak 2) (show 2<=6 by decide) fun y D=>by
   simp only[Am,An,or_false]at D;rcases D with rfl|rfl<;>exact B
  exact⟨hi.bd.item (by simp[aP]),.of ((Shw.part B).mono (by decide)) fun z e=>by cases e⟩
theorem PsA.ths{H:Hp}{t:Ah}{ts:List V}{es:List Aj}(h:PsA H t ts es):Ths 2 H ts:=Ths.of (rH h.r) fun e z=>(h.one z).1
inductive w6(vs:List V)(H:Hp)(Q:VK)(u3_:XK):Prop
 | mk (p c:Ah) (ns:List Int) (a:Int) (t:Ah) (ts:List V) (es:List Aj) (q0:vs=[.ref p,.ref t]) (q1:cR H p c ns a) (q2:a<=700000) (q3:PsA H t ts es) (q4:∀ y a' H',Th 4 H' y->a<=a'->a'<=a+10->cR H' p c ns a'->bC p H H'->Q y H'):w6 vs H Q u3_
def aCm:Sp:=fun vs H Q u3_=>w6 vs H Q u3_
theorem aCn:bM ["_law_pen_here","_law_some_here","_law_way","_law_at","_law_one","_law_spot","_law_new"] ["_law_pen_here","_law_some_here"] (aM aBe):=⟨rfl,rfl,rfl,by decide,rfl,by decide,by decide⟩
theorem aFi{f:Ah}{fd:AC}(F:Fun K "_law_bent_parts" "_law_bent_parts" aBe f fd)(bo:mg "len"=none)(bt:mg "int"=none)(aB:mg "isinstance"=none)(ad:mg "tuple"=none)
  (GT:Cl P w K mg base 1 "_law_take" ["_law_pen_here","_law_many"] gJ)
  (GO:Cl P w K mg base 2 "_law_odd" ["_law_pen_here","_law_part"] aFd)
  :cN P w K mg base CX0 3 f fd ["_law_pen_here","_law_some_here"] aCm:=by
 refine F.ok aCn (fun vs H Q E h=>?_) (fun d3 A outer s H vs Q E hr h=>?_)
 .obtain⟨p,c,ns,a,t,ts,es,rfl,_⟩:=h;rfl
 .obtain⟨p,c,ns,a,t,ts,es,rfl,hp,ha,hw,k⟩:=h;have nd:=aCn.nd;have ax:cY 1 _:=hr.mono (by decide);refine⟨_,(aG (bE (i:=2) nd rfl (AA rfl) (aX GT ax (aD (pv 0) (aD aE aA))))
   (aG (bE (i:=3) nd rfl (AA rfl) (aX GT ax (aD (pv 0) (aD (aK aS (by rfl) bo Aq (aD (pv 1) aA)) aA))))
   (aG (bE (i:=4) nd rfl (AA rfl) (bJ cA (pv 1) (pv 3) Ih))
   (aG (bX (aW cQ (pv 2) aE (aY _)) (aJ (aO (aQ c5 (bK cP (pv 1) cC (bY (pv 3))) (bK cP (pv 1) (bY (aQ cT (pv 3) aE)) cC)))) aT)
   (aG (bX (aW cQ (pv 2) aE (aY _)) (aJ (aO (bK cP (pv 1) cC (bY aE)))) aT)
   (aG (bX (aW cQ (pv 2) aE (aY _)) (aJ (aO (aQ c5 (aQ c5 (bK cP (pv 1) cC (bY (pv 3))) (bU (aD (pv 4) aA))) (bK cP (pv 1) (bY (pv 3)) cC)))) aT)
   (aG (bX (aW cQ (pv 2) aE (aY _)) (aJ (aO (aAX (pv 1) (rN mX aE)))) aT)
   (aG (bX (aW cQ (pv 2) aE (aY _)) (aJ (aO (aQ c5 (pv 1) (bJ c4 (dN (aD (bU (aD aN aA)) (aD (bU (aD (bU (aD aN (aD aN (aD aE aA)))) aA)) aA))) (cH aCF (by rfl) bt (by kernel_rfl) (aD (aK bZ (by rfl) aB (by kernel_rfl) (aD (pv 4) (aD (cK (v:=.ty "tuple") (by rfl) ad (by kernel_rfl) rfl) aA))) aA)) Ih)))) aT)
   (aG (bX (aW cQ (pv 2) aE (aY _)) (aJ (aO (aQ c5 (aQ c5 (bK cP (pv 1) cC (bY (pv 3))) (bU (aD (lP (aD (pv 4) aA)) aA))) (bK cP (pv 1) (bY (aQ cT (pv 3) aE)) cC)))) aT)
   (aG (bX (xO (PW.pt (dZ (aW cQ (pv 2) aE (aY _)) (dU (cX (cE (aK bZ (by rfl) aB (by kernel_rfl) (aD (pv 4) (aD (cK (v:=.ty "tuple") (by rfl) ad (by kernel_rfl) rfl) aA))))))))) (aJ (aO (aQ c5 (aQ c5 (bK cP (pv 1) cC (bY (pv 3))) (bU (aD (aX GO hr (aD (pv 0) (aD (pv 4) aA))) aA))) (bK cP (pv 1) (bY (aQ cT (pv 3) aE)) cC)))) aT)
   (aG (bE (i:=5) nd rfl (AA rfl) (aX GT ax (aD (pv 0) (aD aE aA))))
   (aG (bE (i:=6) nd rfl (AA rfl) (bJ c4 (dN (aD aE (aD (aQ cT (aQ dM aE aE) aE) (aD (aQ dM aE aE) (aD eQ (aD aN (aD (rN mX aE) aA))))))) (aX GT ax (aD (pv 0) (aD aE aA))) Ih))
   (aG (gS (bX (xO (PW.pt (dZ (aW yP (pv 5) aE (aY _)) (dU (aW cQ (pv 2) aE (aY _)))))) (aJ (bE (i:=6) nd rfl (AA rfl) (aX GO hr (aD (pv 0) (aD (bJ cA (pv 4) (pv 5) Ih) aA))))) aT))
   (aJ (aO (aQ c5 (aQ c5 (bK cP (pv 1) cC (bY (pv 3))) (bU (aD (aQ c5 (aQ c5 (bK cP (pv 4) cC (bY (pv 5))) (bU (aD (pv 6) aA))) (bK cP (pv 4) (bY (aQ cT (pv 5) aE)) cC)) aA))) (bK cP (pv 1) (bY (aQ cT (pv 3) aE)) cC))))))))))))))))),?_⟩
  have cp:∀ j:Int,0<=j->j<=1000000->mV 10 j:=fun j h1 h2=>⟨h1,h2,by decide⟩
  have c1:mV 10 7:=cp _ (by decide) (by decide);have du:=hw.l2;have dv:=hw.l6;have ea:=hw.r.len;refine⟨_,rfl,p,c,ns,a,9,rfl,hp,by omega,by decide,by decide,fun wy a1 H1 w0 w9 l1 u1 br av=>?_⟩;dsimp only[cF];have bI:=hw.but hp av;refine⟨_,rfl,_,rfl,t,_,rfl,.inr (aU bI.e),p,c,ns,a1,_,rfl,br,by omega,by omega,nC (by omega),fun r a2 H2 r0 r1 l2 u2 aa ar=>?_⟩;dsimp only[cF];have B:=bI.but br ar;obtain⟨i,rfl⟩:∃ i:Nat,r=i:=⟨r.toNat,by omega⟩
  have hi:i<ts.length:=by omega
  obtain⟨d1,hd1,rd1⟩:=B.r.at (Ag hi);obtain⟨bd1,sh1⟩:=B.one (AH hd1);generalize hx:ts[i]=x at rd1;have ci:ts[i]?=some x:=by rw[Ag hi,hx]
  refine⟨_,rfl,_,rfl,t,_,_,x,rfl,rfl,aU B.e,cB ci,?_⟩;dsimp only[cF];have kk:∀ y H',aV H2 H'->Th 4 H' y->Q y H':=fun y H' s h=>k y a2 H' h (by omega) (by omega) (aa.same s) fun b o e Y=>s _ _ (ar _ _ (av _ _ e Y) Y);have bw:Th 2 H2 x:=⟨d1,rD rd1,bd1⟩
  have T3:Ths 3 H2 ts:=B.ths.up (by decide);refine⟨_,rfl,rfl,_,rfl,c8 (fun g=>?_) (fun _=>?_)⟩
  .refine⟨_,rfl,_,rfl,i,rfl,t,_,rfl,B.e,fun r3 H3 D e3=>?_⟩;refine⟨_,rfl,_,rfl,_,_,rfl,rfl,_,rfl,t,_,rfl,D _ _ B.e,fun r4 H4 W e4=>?_⟩;have hc:=lH (xs:=ts) (i:=i);refine⟨r3,r4,_,_,rfl,rfl,W _ _ e3,e4,by omega,fun r5 H5 s5 e5=>?_⟩;have J:=(D.trans W).trans s5;exact kk _ _ J (.tup e5 ((T3.cut.app T3.cut).same J) (by rw[Al];show _<=7;omega))
  refine⟨_,rfl,rfl,_,rfl,c8 (fun g=>?_) (fun _=>?_)⟩
  .refine⟨_,rfl,1,rfl,t,_,rfl,B.e,fun r3 H3 D e3=>?_⟩;exact kk _ _ D (.tup e3 (T3.cut.same D) (by show _<=7;exact AD (g8 _ _ _) (by omega)))
  refine⟨_,rfl,rfl,_,rfl,c8 (fun g=>?_) (fun _=>?_)⟩
  .refine⟨_,rfl,_,rfl,i,rfl,t,_,rfl,B.e,fun r3 H3 D e3=>?_⟩;refine⟨_,rfl,zZ1,fun t5 bi=>?_⟩;have W:=aI (o:=.tup [x]) bi;refine⟨r3,t5,_,_,rfl,rfl,W _ _ e3,aF,yJ (by omega),fun r6 H6 s6 e6=>?_⟩;refine⟨_,rfl,_,rfl,i,rfl,t,_,rfl,(D.trans (W.trans s6)) _ _ B.e,fun r7 H7 s7 e7=>?_⟩;have cq:(d8 ts none (some (i:Int))++[x]).length+(d8 ts (some (i:Int)) none).length<=7:=by
    rw[mY (α:=Unit),kM (α:=Unit)];simp only[Al,Ax,Cz,AN,BE];omega
   refine⟨r6,r7,_,_,rfl,rfl,s7 _ _ e6,e7,by omega,fun r8 H8 s8 e8=>?_⟩;have J:=(D.trans (W.trans s6)).trans (s7.trans s8);exact kk _ _ J (.tup e8 (((T3.cut.app (.one (bw.up (by decide)))).app T3.cut).same J) (by rw[Al];exact cq))
  refine⟨_,rfl,rfl,_,rfl,c8 (fun g=>?_) (fun _=>?_)⟩
  .refine⟨_,rfl,_,rfl,t,ts,rfl,rfl,aU B.e,fun q hq=>?_⟩;have sq:=aI (o:=.tup ts.reverse) hq;exact kk _ _ sq (.tup aF (fun v hv=>(T3 v (Fj.mp hv)).same sq) (by rw[B8];show _<=7;omega))
  refine⟨_,rfl,rfl,_,rfl,c8 (fun g=>?_) (fun _=>?_)⟩
  .refine⟨_,rfl,zZ1,fun q1 cm=>⟨zZ3,fun q2 bz=>⟨zZ1,fun q3 ba=>⟨zZ2,fun L4 au=>?_⟩⟩⟩⟩;have s1:=aI (o:=.tup [V.str "zzzzzzzz"]) cm;have e1:upd H2 q1 (.tup [V.str "zzzzzzzz"]) q1=some (.tup [V.str "zzzzzzzz"]):=aF;generalize upd H2 q1 (.tup [V.str "zzzzzzzz"])=G1 at s1 e1 bz ba au ⊢;have s2:=aI (o:=.tup [V.str "zzzzzzzz",.str "z",.int 1]) bz;have e2:upd G1 q2 (.tup [V.str "zzzzzzzz",.str "z",.int 1]) q2=some (.tup [V.str "zzzzzzzz",.str "z",.int 1]):=aF;generalize upd G1 q2 (.tup [V.str "zzzzzzzz",.str "z",.int 1])=G2 at s2 e2 ba au ⊢;have D:=aI (o:=.tup [V.ref q2]) ba;have e3:upd G2 q3 (.tup [V.ref q2]) q3=some (.tup [V.ref q2]):=aF;generalize upd G2 q3 (.tup [V.ref q2])=G3 at D e3 au ⊢;have W:=aI (o:=.lst [V.ref q1,.ref q3]) au;have e4:upd G3 L4 (.lst [V.ref q1,.ref q3]) L4=some (.lst [V.ref q1,.ref q3]):=aF;generalize upd G3 L4 (.lst [V.ref q1,.ref q3])=G4 at W e4 ⊢;have J:=s1.trans (s2.trans (D.trans W));have zz:∀{j:Nat} {H':Hp},Th j H' (.str "zzzzzzzz")/\Th j H' (.str "z")/\Th j H' (.int 1):=⟨.str (by decide) (by decide),.str (by decide) (by decide),.int (by decide) (by decide)⟩
   obtain⟨q,ys,eq,hy1,hys⟩:∃(b:Bool->Ah) (ys:Bool->List V),(∀ c,atI [V.ref q1,.ref q3] (if c=true then 1 else 0)=some (.ref (b c))/\G4 (b c)=some (.tup (ys c)))/\(∀ c,(ys c).length=1)/\∀ c,Ths 3 G4 (ys c):=by
    refine⟨fun c=>if c=true then q3 else q1,fun c=>if c=true then[V.ref q2] else[V.str "zzzzzzzz"],fun c=>?_,fun c=>?_,fun c=>?_⟩
    .cases c
     .exact⟨rfl,(s2.trans (D.trans W)) _ _ e1⟩
     .exact⟨rfl,W _ _ e3⟩
    .cases c<;>rfl
    .cases c
     .exact .one zz.1
     .refine .one (.tup ((D.trans W) _ _ e2) (fun v hv=>?_) (show 3<=6 by decide));simp only[Am,An,or_false]at hv;rcases hv with rfl|rfl|rfl
      .exact zz.1
      .exact zz.2.1
      .exact zz.2.2
   refine⟨_,rfl,_,"tuple",_,_,rfl,eV (rd1.same J),fF d1,.inr ⟨_,rfl,?_⟩⟩;refine⟨L4,_,_,_,rfl,rfl,bB e4,(eq (dQ d1)).1,t,_,_,_,rfl,rfl,J _ _ B.e,(eq (dQ d1)).2,by rw[hy1];omega,fun r5 H5 s5 e5=>?_⟩;exact kk _ _ (J.trans s5) (.tup e5 (((T3.same J).app (hys _)).same s5) (by rw[Al,hy1];show _<=7;omega))
  refine⟨_,rfl,rfl,_,rfl,c8 (fun g=>?_) (fun _=>?_)⟩
  .refine⟨_,rfl,_,rfl,i,rfl,t,_,rfl,B.e,fun r3 H3 D e3=>?_⟩;refine⟨_,rfl,zZ1,fun l4 b5 nl=>⟨zZ1,fun t5 bi=>?_⟩⟩;have W:=aI (o:=.lst [x]) b5;have s5:=aI (o:=.tup [V.ref l4]) bi;refine⟨r3,t5,_,_,rfl,rfl,(W.trans s5) _ _ e3,aF,yJ (by omega),fun r6 H6 s6 e6=>?_⟩;refine⟨_,rfl,_,rfl,_,_,rfl,rfl,_,rfl,t,_,rfl,(D.trans (W.trans (s5.trans s6))) _ _ B.e,fun r7 H7 s7 e7=>?_⟩;refine⟨r6,r7,_,_,rfl,rfl,s7 _ _ e6,e7,aAD (by omega),fun r8 H8 s8 e8=>?_⟩;have J:=(D.trans (W.trans (s5.trans s6))).trans (s7.trans s8);exact kk _ _ J (spl (T3.same J) (.lst ((s5.trans (s6.trans (s7.trans s8))) _ _ aF) nl (.one (bw.same J)) (show 1<=6 by decide)) (by show _<=7;omega) e8)
  refine⟨fun b H'=>(b=false->dQ d1=true)/\H'=H2,?_,?_⟩
  .refine⟨_,rfl,rfl,_,rfl,c8 (fun g=>⟨fun z=>(by cases z),rfl⟩) (fun g=>?_)⟩;exact⟨_,rfl,_,"tuple",_,_,rfl,eV rd1,fF d1,_,rfl,fun z=>(by simpa using z),rfl⟩
  rintro b H' ⟨Y,rfl⟩;cases b with
  | true=>
   refine⟨_,rfl,_,rfl,i,rfl,t,_,rfl,B.e,fun r3 H3 D e3=>?_⟩;refine⟨_,rfl,_,rfl,p,c,ns,a2,x,d1,2,rfl,aa.same D,by omega,(rD rd1).same D,bd1,by decide,by decide,sh1,fun y a5 H5 be l5 u5 an O=>?_⟩;refine⟨zZ1,fun t6 ck=>?_⟩;have s6:=aI (o:=.tup [y]) ck;have ag:=(B.same D).but (aa.same D) O;refine⟨r3,t6,_,_,rfl,rfl,s6 _ _ (fJ e3 (aa.same D) O),aF,yJ (by omega),fun r7 H7 s7 e7=>?_⟩;refine⟨_,rfl,_,rfl,_,_,rfl,rfl,_,rfl,t,_,rfl,(s6.trans s7) _ _ ag.e,fun r8 H8 s8 e8=>?_⟩;refine⟨r7,r8,_,_,rfl,rfl,s8 _ _ e7,e8,aAD (by omega),fun r9 H9 s9 e9=>?_⟩;have J:=(s6.trans s7).trans (s8.trans s9);exact k _ a5 H9 (spl ((ag.ths.up (by decide)).same J) (be.same J) (by show _<=7;omega) e9) (by omega) (by omega) (an.same J) fun b o e Y=>J _ _ (O _ _ (D _ _ (ar _ _ (av _ _ e Y) Y)) Y)
  | false=>
   have ht:=Y rfl;obtain⟨Z,ezp,hzp⟩:∃ Z,d1=pD Z/\cZ d1=true:=by
    rcases B.it with h|h
    .obtain⟨z,rfl,_⟩:=h d1 (AH hd1);cases ht
    .exact h d1 (AH hd1)
   subst ezp;obtain⟨tx,hxt,etx⟩:=wU rd1;have g':(bV Z.1&&bV Z.2.1&&decide (1<=Z.2.2/\Z.2.2<=10000000))=true:=hzp;simp only[Av,decide_eq_true_eq]at g';obtain⟨⟨g1,g2⟩,g3⟩:=g';have pr:∀(q:V),q∈[V.str Z.1,.str Z.2.1,.int Z.2.2]->∃ dq,∀ H',RdV true H' q dq/\BD 1 dq/\Sho dq:=fun q hq=>by
    simp only[Am,An,or_false]at hq;rcases hq with rfl|rfl|rfl
    .exact⟨_,fun H'=>⟨.str _ (by have:=f9 g1;omega),.of (.name g1),(Itm.name g1).sho⟩⟩
    .exact⟨_,fun H'=>⟨.str _ (by have:=f9 g2;omega),.of (.name g2),(Itm.name g2).sho⟩⟩
    .exact⟨_,fun H'=>⟨.int _,.of (.int (by omega) (by omega)),(Itm.num (by omega) (by omega)).sho⟩⟩
   subst hxt;refine⟨_,rfl,p,c,ns,a2,3,rfl,aa,by omega,by decide,by decide,fun rs a3 H3 eb ec l3 u3 aq a0=>?_⟩;dsimp only[cF];have bH:=fJ etx aa a0;have cv:=B.but aa a0;refine⟨_,_,rfl,rfl,c1,_,_,rfl,rfl,_,_,rfl,rfl,c1,_,rfl,zZ6,fun L hL=>?_⟩;have sL:=aI (o:=.lst [V.int 0,.int (10^Bq 7+1),.int (10^Bq 7),.bl true,.str "1",.int (-1)]) hL;refine⟨_,rfl,p,c,ns,a3,6,rfl,aq.same sL,by omega,by decide,by decide,fun r4 a4 H4 cf cr l4 u4 aw am=>?_⟩;obtain⟨v,hv,hatv⟩:=j7 (xs:=[V.int 0,.int (10^Bq 7+1),.int (10^Bq 7),.bl true,.str "1",.int (-1)]) cf cr;have cs:∀ H',Th 2 H' v:=fun H'=>by
    simp only[Am,An,or_false]at hv;rcases hv with rfl|rfl|rfl|rfl|rfl|rfl
    .exact .int (by decide) (by decide)
    .exact .int (by decide) (by decide)
    .exact .int (by decide) (by decide)
    .exact .bl _
    .exact .str (by decide) (by decide)
    .exact .neg
   refine⟨L,_,r4,v,rfl,rfl,bB (dS aF (aq.same sL) am),hatv,?_⟩;dsimp only[cF];have aL:=fJ (sL _ _ bH) (aq.same sL) am;have cu:=(cv.same sL).but (aq.same sL) am;have bp:bC p H H4:=fun b o e Y=>am _ _ (sL _ _ (a0 _ _ (ar _ _ (av _ _ e Y) Y) Y)) Y;clear hatv am sL hL;obtain⟨sp,rfl⟩:∃ sp:Nat,rs=sp:=⟨rs.toNat,by omega⟩
   obtain⟨qv,hq⟩:∃ qv,[V.str Z.1,.str Z.2.1,.int Z.2.2][sp]?=some qv:=⟨_,Ag (show sp<3 by omega)⟩
   refine⟨fun σ' H'=>∃(nv:V) (a5:Int),Th 2 H' nv/\cR H' p c ns a5/\a4<=a5/\a5<=a4+1/\bC p H4 H'/\σ'=[some (.ref p),some (.ref t),some (.int wy),some (.int (i:Nat)),some (.ref tx),some (.int (sp:Nat)),some nv],?_,?_⟩
   .refine⟨fun b H'=>H'=H4,?_,?_⟩
    .refine⟨_,rfl,_,_,rfl,rfl,_,rfl,c8 (fun g=>rfl) (fun g=>?_)⟩;exact⟨_,rfl,rfl,_,rfl,rfl⟩
    rintro b H5 rfl;cases b with
    | false=>exact⟨v,a4,cs _,aw,CP _,by omega,bC.refl _ _,rfl⟩
    | true=>
     obtain⟨dq,hdq⟩:=pr qv (AH hq);obtain⟨q1,q2,q3⟩:=hdq H5;refine⟨_,rfl,_,rfl,_,rfl,tx,_,_,qv,rfl,rfl,aU aL,cB hq,p,c,ns,a4,qv,dq,1,rfl,aw,by omega,q1,q2,by decide,by decide,q3,fun y a5 H6 be l5 u5 an O=>?_⟩;exact⟨y,a5,be,an,l5,u5,O,rfl⟩
   rintro σ' H5 ⟨nv,a5,thn,an,l5,u5,O,rfl⟩;have aC:=fJ aL aw O;have ag:=cu.but aw O;have T1:Ths 2 H5 [V.str Z.1,.str Z.2.1,.int Z.2.2]:=fun v hv=>by
    obtain⟨dq,hdq⟩:=pr v hv;obtain⟨q1,q2,q3⟩:=hdq H5;exact⟨dq,q1,q2.up (by decide)⟩
   refine⟨_,rfl,_,rfl,i,rfl,t,_,rfl,ag.e,fun r6 H6 s6 e6=>?_⟩;refine⟨_,rfl,_,rfl,sp,rfl,tx,_,rfl,s6 _ _ aC,fun r7 H7 s7 e7=>?_⟩;refine⟨_,rfl,zZ1,fun t8 b4=>?_⟩;have s8:=aI (o:=.tup [nv]) b4;refine⟨r7,t8,_,_,rfl,rfl,s8 _ _ e7,aF,yJ (by show 3<=1000;decide),fun r9 H9 s9 e9=>?_⟩;refine⟨_,rfl,_,rfl,_,_,rfl,rfl,_,rfl,tx,_,rfl,(s6.trans (s7.trans (s8.trans s9))) _ _ aC,fun rA HA J eA=>?_⟩;refine⟨r9,rA,_,_,rfl,rfl,J _ _ e9,eA,aAD (by show 3<=1000;decide),fun rB HB sB eB=>?_⟩;have sC:=(s6.trans (s7.trans (s8.trans s9))).trans (J.trans sB);have cc:Th 3 HB (.ref rB):=spl (T1.same sC) (thn.same sC) (show 3+1<=6 by decide) eB;refine⟨zZ1,fun tD hD=>?_⟩;have sD:=aI (o:=.tup [V.ref rB]) hD;refine⟨r6,tD,_,_,rfl,rfl,(s7.trans (s8.trans (s9.trans (J.trans (sB.trans sD))))) _ _ e6,aF,yJ (by omega),fun rE HE sE eE=>?_⟩;refine⟨_,rfl,_,rfl,_,_,rfl,rfl,_,rfl,t,_,rfl,(sC.trans (sD.trans sE)) _ _ ag.e,fun rF HF sF eF=>?_⟩;refine⟨rE,rF,_,_,rfl,rfl,sF _ _ eE,eF,aAD (by omega),fun rG HG sG eG=>?_⟩;have sZ:=sC.trans ((sD.trans sE).trans (sF.trans sG));exact k _ a5 HG (spl ((ag.ths.up (by decide)).same sZ) (cc.same ((sD.trans sE).trans (sF.trans sG))) (by show _<=7;omega) eG) (by omega) (by omega) (an.same sZ) fun b o e Y=>sZ _ _ (O _ _ (bp _ _ e Y) Y)
inductive w8(vs:List V)(H:Hp)(Q:VK)(u3_:XK):Prop
 | mk (p c:Ah) (ns:List Int) (a:Int) (tr:Ah) (bF name:Str) (xs:List V) (es:List Aj) (q0:vs=[.ref p,.ref tr]) (q1:cR H p c ns a) (q2:a<=600000) (q3:RwA H tr bF name xs es) (q4:∀ y a' H',Th 5 H' y->a<=a'->a'<=a+40->cR H' p c ns a'->bC p H H'->Q y H'):w8 vs H Q u3_
def aCo:Sp:=fun vs H Q u3_=>w8 vs H Q u3_
inductive aCp(ws:List V)(v:V):Prop
 | mk (j:Nat) (t:Ah) (q0:v=.int j) (q1:ws[j]?=some (.ref t)):aCp ws v
def aIQ(ws:List V)(v:V):Prop:=aCp ws v
theorem RwA.ps{H:Hp}{W:Ah}{bF name:Str}{xs:List V}{es:List Aj}(h:RwA H W bF name xs es){j:Nat}{t:Ah}(Z:(V.str bF::.str name::xs)[j]?=some (.ref t)):∃ ts ds,PsA H t ts ds:=by
 obtain⟨d,hd,rd⟩:=h.r.at Z;have D:=h.it d (AH hd);cases rd with
 | lst hm=>cases hm.1
 | @tup _ ts ds e Y r=>
  have J:=r.len;refine⟨ts,ds,e,r,?_,?_,?_⟩
  .generalize B:C4 ds=q at D;cases D with
   | names h2 O h=>injection B with B;rw[J,B,Ae];exact h2
   | parts h2 O h=>injection B with B;rw[J,B,Ae];exact h2
   | _=>cases B
  .generalize B:C4 ds=q at D;cases D with
   | names h2 O h=>injection B with B;rw[J,B,Ae];exact O
   | parts h2 O h=>injection B with B;rw[J,B,Ae];exact O
   | _=>cases B
  .generalize B:C4 ds=q at D;cases D with
   | @names T h2 O h=>
    injection B with B;refine .inl fun d hd=>?_;rw[B]at hd;obtain⟨z,hz,rfl⟩:=Bk.mp hd;exact⟨z,rfl,h z hz⟩
   | @parts T h2 O h=>
    injection B with B;refine .inr fun d hd=>?_;rw[B]at hd;obtain⟨z,hz,rfl⟩:=Bk.mp hd;exact⟨z,rfl,h z hz⟩
   | _=>cases B
 | dct Y e=>cases D
theorem aGt{xs:List V}(h:1<=xs.length):∃ v∈xs,atI xs (-1)=some v:=by
 have z:xs.length-1<xs.length:=by omega
 refine⟨xs[xs.length-1],BM _,?_⟩;have e:ixN xs.length (-1)=some (xs.length-1):=by
  unfold ixN;rw[Ia (by decide),Ib (by omega)];congr 1;omega
 unfold atI;rw[e];exact Ag z
theorem aFj:bM ["_law_pen_here","_law_row_here","_law_way","_law_at","_law_parts","_law_terms","_law_spot"] ["_law_pen_here","_law_row_here"] (aM aB2):=⟨rfl,rfl,rfl,by decide,rfl,by decide,by decide⟩
theorem aGu{f:Ah}{fd:AC}(F:Fun K "_law_bent" "_law_bent" aB2 f fd)(bb:mg "len"=none)(b8:mg "range"=none)(bj:mg "list"=none)(b7:mg "isinstance"=none)(aL:mg "tuple"=none)
  (GT:Cl P w K mg base 1 "_law_take" ["_law_pen_here","_law_many"] gJ)
  (GS:Cl P w K mg base 2 "_law_with_sign" ["_law_pen_here","_law_row_here"] yK)
  (GF:Cl P w K mg base 2 "_law_far" ["_law_pen_here","_law_row_here"] yK)
  (GB:Cl P w K mg base 3 "_law_bent_parts" ["_law_pen_here","_law_some_here"] aCm)
  (GO:Cl P w K mg base 2 "_law_odd" ["_law_pen_here","_law_part"] aFd)
  :cN P w K mg base CX0 4 f fd ["_law_pen_here","_law_row_here"] aCo:=by
 refine F.ok aFj (fun vs H Q E h=>?_) (fun em A outer s H vs Q E hr h=>?_)
 .obtain⟨p,c,ns,a,tr,bF,name,xs,es,rfl,_⟩:=h;rfl
 .obtain⟨p,c,ns,a,tr,bF,name,xs,es,rfl,hp,ha,hw,k⟩:=h;have nd:=aFj.nd;have aR:cY 1 _:=hr.mono (by decide);have bi:cY 2 _:=hr.mono (by decide);have cx:=Nat.lt_of_succ_lt (vW hr);refine⟨_,(aG (bE (i:=2) nd rfl (AA rfl) (aX GT aR (aD (pv 0) (aD aE aA))))
   (aG (bE (i:=3) nd rfl (AA rfl) (aX GT aR (aD (pv 0) (aD (aK aS (by rfl) bb Aq (aD (pv 1) aA)) aA))))
   (aG (f8 (i:=4) (N:=["_law_spot","_law_row_here"]) (src:=[none,some 1]) (osc:=aM aB2) (oN:=["_law_pen_here","_law_row_here","_law_way","_law_at","_law_parts","_law_terms","_law_spot"]) ⟨by rfl,by decide,by decide,by decide,rfl,by rfl⟩ nd rfl (fU rfl b8 (aD (aK aS (by rfl) bb Aq (aD (pv 1) aA)) aA)) (fun cl s H fp dz C=>⟨bS (i:=0) (show(["_law_spot","_law_row_here"]:List Str).Nodup by decide) rfl (AA rfl),xL (cE (aK (r:=f7 K) bZ (by rfl) b7 (by kernel_rfl) (aD (bJ (r:=aDH K) cA (pv 1) (pv 0) Ih) (aD (cK (v:=.ty "tuple") (by rfl) aL (by kernel_rfl) rfl) aA)))),pv 0⟩))
   (aG (bX (aW yP (pv 2) aE (aY _)) (aJ (aO (aQ c5 (aQ c5 (bK cP (pv 1) cC (bY (pv 3))) (bU (aD (aX GO bi (aD (pv 0) (aD (bJ cA (pv 1) (pv 3) Ih) aA))) aA))) (bK cP (pv 1) (bY (aQ cT (pv 3) aE)) cC)))) aT)
   (aG (bX (aW cQ (pv 2) aE (aY _)) (aJ (aO (aQ c5 (bK cP (pv 1) cC (bY (pv 3))) (bK cP (pv 1) (bY (aQ cT (pv 3) aE)) cC)))) aT)
   (aG (bX (aW cQ (pv 2) aE (aY _)) (aJ (aO (aQ c5 (aQ c5 (bK cP (pv 1) cC (bY (pv 3))) (bK cP (pv 1) (bY (pv 3)) (bY (aQ cT (pv 3) aE)))) (bK cP (pv 1) (bY (pv 3)) cC)))) aT)
   (aG (bX (aW cQ (pv 2) aE (aY _)) (aJ (aO (aQ c5 (aQ c5 (bK cP (pv 1) cC (bY (pv 3))) (aAX (bK cP (pv 1) (bY (pv 3)) (bY (aQ cT (pv 3) aE))) (rN mX aE))) (bK cP (pv 1) (bY (aQ cT (pv 3) aE)) cC)))) aT)
   (aG (bX (aW cQ (pv 2) aE (aY _)) (aJ (aO (bJ c4 (dN (aD (cH m8 (by rfl) bj (by kernel_rfl) (aD (pv 1) aA)) (aD (aAX (pv 1) (rN mX aE)) (aD (bK cP (pv 1) cC (bY (rN mX aE))) (aD (aQ c5 (pv 1) (bU (aD aE aA))) (aD (aQ c5 (bK cP (pv 1) cC (bY aE)) (aQ aFz (bU (aD (bJ cA (pv 1) (rN mX aE) Ih) aA)) aE)) aA)))))) (aX GT aR (aD (pv 0) (aD aE aA))) Ih))) aT)
   (aG (bX (aW cQ (pv 2) aE (aY _)) (aG (bE (i:=5) nd rfl (AA rfl) (dN (aD aN (aD aN (aD aN (aD aN (aD aN (aD aN (aD aN (aD aN (aD aN (aD aN (aD aN (aD mS (aD aE aA)))))))))))))))
    (aJ (aO (aQ c5 (bU (aD (bJ c4 (aQ pA (pv 5) (dN (aD (bU (aD aN aA)) (aD (lP (aD aN aA)) (aD sR aA))))) (aX GT aR (aD (pv 0) (aD aE aA))) Ih) aA)) (bK cP (pv 1) (bY aE) cC))))) aT)
   (aG (bX (aW cQ (pv 2) aE (aY _)) (aJ (aO (aX GS bi (aD (pv 0) (aD (pv 1) aA))))) aT)
   (aG (bX (xO (PW.pt (dZ (aW cQ (pv 2) aE (aY _)) (dU (aW (aEt cx) (pv 4) (dN aA) (aY _)))))) (aJ (aO (aX GF bi (aD (pv 0) (aD (pv 1) aA))))) aT)
   (aG (bE (i:=6) nd rfl (AA rfl) (bJ c4 (pv 4) aE Ih))
   (aJ (aO (aQ c5 (aQ c5 (bK cP (pv 1) cC (bY (pv 6))) (bU (aD (aX GB hr (aD (pv 0) (aD (bJ cA (pv 1) (pv 6) Ih) aA))) aA))) (bK cP (pv 1) (bY (aQ cT (pv 6) aE)) cC)))))))))))))))),?_⟩
  have dl:(V.str bF::.str name::xs).length<=7:=by have:=hw.l7;simp only[Ax];omega
  have ee:4<=(V.str bF::.str name::xs).length:=by have:=hw.l2;simp only[Ax];omega
  have er:=hw.r.len;refine⟨_,rfl,p,c,ns,a,11,rfl,hp,by omega,by decide,by decide,fun wy a1 H1 w0 w9 l1 u1 bh bw=>?_⟩;dsimp only[cF];have bA:=hw.but hp bw;refine⟨_,rfl,_,rfl,tr,_,rfl,.inr (aU bA.e),p,c,ns,a1,_,rfl,bh,by omega,by omega,nC (by omega),fun r a2 H2 r0 r1 l2 u2 cc bo=>?_⟩;dsimp only[cF];have au:=bA.but bh bo;obtain⟨i,rfl⟩:∃ i:Nat,r=i:=⟨r.toNat,by omega⟩
  refine⟨_,rfl,tr,_,rfl,.inr (aU au.e),_,rfl,(by omega),(by omega),?_⟩;refine iL (lo:=0) (n:=(((V.str bF::.str name::xs).length:Nat):Int).toNat) (fun i ys σ H'=>aV H2 H'/\(∀ v∈ys,aIQ (V.str bF::.str name::xs) v)/\ys.length<=i/\∃ o,σ=[o,some (.ref tr)]) ⟨aV.refl _,fun v W=>(by cases W),Ak _,none,rfl⟩ (aH (by omega)) (fun i ys σ H' p=>p.2.2.1) ?_ ?_
  .rintro j ys σ H3 hj ⟨s3,hy,bW,o,rfl⟩;have br:j<(V.str bF::.str name::xs).length:=by omega
   obtain⟨d,hd,rd⟩:=au.r.at (Ag br);dsimp only[cF];refine⟨_,rfl,_,rfl,tr,_,_,_,rfl,rfl,aU (s3 _ _ au.e),(by rw[show((0:Int)+(j:Nat))=((j:Nat):Int) by omega];exact cB (Ag br)),?_⟩;refine⟨_,"tuple",_,_,rfl,eV (rd.same s3),fF d,_,rfl,?_⟩;cases hs:dQ d with
   | false=>exact cM ⟨s3,hy,by omega,_,rfl⟩
   | true=>
    refine cG ⟨_,rfl,s3,fun v W=>?_,by rw[Al];simp;omega,_,rfl⟩;rcases Bo.mp W with W|W
    .exact hy v W
    .rw[A7.mp W];generalize hq:(V.str bF::.str name::xs)[j]=q at rd;cases rd with
     | @tup t ts ds e hl r=>exact⟨j,t,by rw[show((0:Int)+(j:Nat))=((j:Nat):Int) by omega],by rw[Ag br,hq]⟩
     | _=>cases hs
  rintro ps σ H3 ⟨s3,cs,bW,o,rfl⟩ D hD;have eG:ps.length<=7:=by omega
  have s4:=s3.trans (aI (o:=.lst ps) hD);have eD:upd H3 D (.lst ps) D=some (.lst ps):=aF;generalize upd H3 D (.lst ps)=H4 at s4 eD ⊢;have B:=au.same s4;have O:=cc.same s4;have ac:bC p H H4:=fun b o e hb=>s4 _ _ (bo _ _ (bw _ _ e hb) hb);clear s3 bW hD bw bo bh cc bA au;dsimp only[cF];have kk:∀ y H',aV H4 H'->Th 5 H' y->Q y H':=fun y H' s h=>k y a2 H' h (by omega) (by omega) (O.same s) fun b o e hb=>s _ _ (ac _ _ e hb);have T4:Ths 4 H4 (V.str bF::.str name::xs):=B.ths.up (by decide);have hi:i<(V.str bF::.str name::xs).length:=by omega
  refine⟨_,rfl,_,_,rfl,rfl,_,rfl,c8 (fun g=>?_) (fun _=>?_)⟩
  .refine⟨_,rfl,_,rfl,i,rfl,tr,_,rfl,B.e,fun r3 H5 J e5=>?_⟩;obtain⟨d1,hd1,rd1⟩:=B.r.at (Ag hi);have bP:=B.it d1 (AH hd1);refine⟨_,rfl,_,rfl,_,rfl,tr,_,_,_,rfl,rfl,aU (J _ _ B.e),cB (Ag hi),p,c,ns,a2,_,d1,3,rfl,O.same J,by omega,(rD rd1).same J,bP.bd,by decide,by decide,bP.sho,fun y a6 H6 ag l6 u6 bz an=>?_⟩;refine⟨zZ1,fun t7 cz=>?_⟩;have s7:=aI (o:=.tup [y]) cz;have bR:=(B.same J).but (O.same J) an;refine⟨r3,t7,_,_,rfl,rfl,s7 _ _ (fJ e5 (O.same J) an),aF,yJ (by omega),fun r8 H8 s8 e8=>?_⟩;refine⟨_,rfl,_,rfl,_,_,rfl,rfl,_,rfl,tr,_,rfl,(s7.trans s8) _ _ bR.e,fun r9 H9 s9 e9=>?_⟩;refine⟨r8,r9,_,_,rfl,rfl,s9 _ _ e8,e9,aAD (by omega),fun rA HA Y eA=>?_⟩;have sZ:=(s7.trans s8).trans (s9.trans Y);exact k _ a6 HA (spl ((bR.ths.up (by decide)).same sZ) (ag.same sZ) (by show _<=8;omega) eA) (by omega) (by omega) (bz.same sZ) fun b o e hb=>sZ _ _ (an _ _ (J _ _ (ac _ _ e hb)) hb)
  refine⟨_,rfl,rfl,_,rfl,c8 (fun g=>?_) (fun _=>?_)⟩
  .refine⟨_,rfl,_,rfl,i,rfl,tr,_,rfl,B.e,fun r3 H5 J e5=>?_⟩;refine⟨_,rfl,_,rfl,_,_,rfl,rfl,_,rfl,tr,_,rfl,J _ _ B.e,fun r4 H6 Z e6=>?_⟩;have hc:=lH (xs:=V.str bF::.str name::xs) (i:=i);refine⟨r3,r4,_,_,rfl,rfl,Z _ _ e5,e6,by omega,fun r5 H7 s7 e7=>?_⟩;have Y:=(J.trans Z).trans s7;exact kk _ _ Y (.tup e7 ((T4.cut.app T4.cut).same Y) (by rw[Al];show _<=8;omega))
  refine⟨_,rfl,rfl,_,rfl,c8 (fun g=>?_) (fun _=>?_)⟩
  .refine⟨_,rfl,_,rfl,i,rfl,tr,_,rfl,B.e,fun r3 H5 J e5=>?_⟩;refine⟨_,rfl,_,rfl,i,rfl,_,rfl,_,_,rfl,rfl,_,rfl,tr,_,rfl,J _ _ B.e,fun r4 H6 Z e6=>?_⟩;have hc:(d8 (V.str bF::.str name::xs) none (some (i:Int))).length+(d8 (V.str bF::.str name::xs) (some (i:Int)) (some ((i:Int)+1))).length+(d8 (V.str bF::.str name::xs) (some (i:Int)) none).length<=8:=by
    rw[mY (α:=Unit),kM (α:=Unit)];have:(d8 (V.str bF::.str name::xs) (some (i:Int)) (some ((i:Int)+1))).length<=1:=by
     unfold d8;rw[AN,BE,HT.sIx_nat,show((i:Int)+1)=((i+1:Nat):Int) by omega,HT.sIx_nat];omega
    rw[AN,BE];omega
   refine⟨r3,r4,_,_,rfl,rfl,Z _ _ e5,e6,by omega,fun r5 H7 s7 e7=>?_⟩;refine⟨_,rfl,_,rfl,i,rfl,tr,_,rfl,(J.trans (Z.trans s7)) _ _ B.e,fun r6 H8 s8 e8=>?_⟩;refine⟨r5,r6,_,_,rfl,rfl,s8 _ _ e7,e8,by rw[Al];omega,fun r7 H9 s9 e9=>?_⟩;have Y:=(J.trans (Z.trans s7)).trans (s8.trans s9);exact kk _ _ Y (.tup e9 (((T4.cut.app T4.cut).app T4.cut).same Y) (by rw[Al,Al];exact hc))
  refine⟨_,rfl,rfl,_,rfl,c8 (fun g=>?_) (fun _=>?_)⟩
  .refine⟨_,rfl,_,rfl,i,rfl,tr,_,rfl,B.e,fun r3 H5 J e5=>?_⟩;refine⟨_,rfl,_,rfl,i,rfl,_,rfl,_,_,rfl,rfl,_,rfl,tr,_,rfl,J _ _ B.e,fun r4 H6 Z e6=>?_⟩;refine⟨_,rfl,r4,_,rfl,rfl,aU e6,fun q hq=>?_⟩;have sq:=aI (o:=.tup (d8 (V.str bF::.str name::xs) (some (i:Int)) (some ((i:Int)+2))).reverse) hq;have hc:(d8 (V.str bF::.str name::xs) none (some (i:Int))).length+(d8 (V.str bF::.str name::xs) (some (i:Int)) (some ((i:Int)+2))).length+(d8 (V.str bF::.str name::xs) (some ((i:Int)+2)) none).length<=8:=by
    rw[mY (α:=Unit),show((i:Int)+2)=((i+2:Nat):Int) by omega,kM (α:=Unit)];have:(d8 (V.str bF::.str name::xs) (some (i:Int)) (some ((i+2:Nat):Int))).length<=min 2 ((V.str bF::.str name::xs).length-i):=by
     unfold d8;rw[AN,BE,HT.sIx_nat,HT.sIx_nat];omega
    rw[AN,BE];omega
   refine⟨r3,q,_,_,rfl,rfl,(Z.trans sq) _ _ e5,aF,by rw[B8];omega,fun r5 H7 s7 e7=>?_⟩;refine⟨_,rfl,_,rfl,_,_,rfl,rfl,_,rfl,tr,_,rfl,(J.trans (Z.trans (sq.trans s7))) _ _ B.e,fun r6 H8 s8 e8=>?_⟩;refine⟨r5,r6,_,_,rfl,rfl,s8 _ _ e7,e8,by rw[Al,B8];omega,fun r7 H9 s9 e9=>?_⟩;have Y:=(J.trans (Z.trans (sq.trans s7))).trans (s8.trans s9);have Tr:Ths 4 H4 (d8 (V.str bF::.str name::xs) (some (i:Int)) (some ((i:Int)+2))).reverse:=fun v W=>T4.cut v (Fj.mp W);exact kk _ _ Y (.tup e9 (((T4.cut.app Tr).app T4.cut).same Y) (by rw[Al,Al,B8];exact hc))
  refine⟨_,rfl,rfl,_,rfl,c8 (fun g=>?_) (fun _=>?_)⟩
  .refine⟨_,rfl,tr,_,rfl,.inr (aU B.e),fun L1 bq dc=>?_⟩;have s1:=aI (o:=.lst (V.str bF::.str name::xs)) bq;have e1:upd H4 L1 (.lst (V.str bF::.str name::xs)) L1=some (.lst (V.str bF::.str name::xs)):=aF;generalize upd H4 L1 (.lst (V.str bF::.str name::xs))=G1 at s1 e1 ⊢;refine⟨_,rfl,_,rfl,tr,_,rfl,rfl,aU (s1 _ _ B.e),fun q2 az=>?_⟩;have s2:=aI (o:=.tup (V.str bF::.str name::xs).reverse) az;have e2:upd G1 q2 (.tup (V.str bF::.str name::xs).reverse) q2=some (.tup (V.str bF::.str name::xs).reverse):=aF;generalize upd G1 q2 (.tup (V.str bF::.str name::xs).reverse)=G2 at s2 e2 ⊢;refine⟨_,rfl,_,rfl,_,rfl,tr,_,rfl,(s1.trans s2) _ _ B.e,fun r3 G3 s3 e3=>?_⟩;refine⟨_,rfl,zZ1,fun q4 cw=>?_⟩;have ao:=aI (o:=.tup [V.int 1]) cw;refine⟨tr,q4,_,_,rfl,rfl,(s1.trans (s2.trans (s3.trans ao))) _ _ B.e,aF,(by show(V.str bF::.str name::xs).length+1<=1000000;omega),fun r5 G5 J e5=>?_⟩;have Y:=s1.trans (s2.trans (s3.trans (ao.trans J)));refine⟨_,rfl,3,rfl,tr,_,rfl,Y _ _ B.e,fun r6 G6 Z e6=>?_⟩;obtain⟨lv,hlv,hatl⟩:=aGt (xs:=V.str bF::.str name::xs) (by omega);refine⟨_,rfl,_,rfl,tr,_,_,lv,rfl,rfl,aU ((Y.trans Z) _ _ B.e),hatl,zZ1,fun q7 dk=>?_⟩;have s7:=aI (o:=.tup [lv]) dk;refine⟨q7,2,[lv],rfl,rfl,aU aF,by simp,by decide,by decide,by show 1*2<=1000000;decide,fun q8 dn=>?_⟩;have s8:=aI (o:=.tup (Bm (Bq 2) [lv]).flatten) dn;have c3:(d8 (V.str bF::.str name::xs) none (some 3)).length<=3:=by
    rw[show(some (3:Int))=some ((3:Nat):Int) from rfl,mY (α:=Unit),AN];omega
   have c2:(Bm (Bq 2) [lv]).flatten=[lv,lv]:=rfl;refine⟨r6,q8,_,_,rfl,rfl,(s7.trans s8) _ _ e6,aF,by rw[c2];show _+2<=_;omega,fun r9 G9 s9 e9=>?_⟩;refine⟨zZ5,fun LA dh=>?_⟩;have ai:=aI (o:=.lst [V.ref L1,.ref q2,.ref r3,.ref r5,.ref r9]) dh;have sB:=(Z.trans (s7.trans s8)).trans s9;have sC:=Y.trans sB;have sZ:=sC.trans ai;refine⟨_,rfl,p,c,ns,a2,5,rfl,O.same sZ,by omega,by decide,by decide,fun rr aB HB bt bn lB uB bH ae=>?_⟩;obtain⟨v,W,hatv⟩:=j7 (xs:=[V.ref L1,.ref q2,.ref r3,.ref r5,.ref r9]) bt bn;refine⟨LA,_,rr,v,rfl,rfl,bB (dS aF (O.same sZ) ae),hatv,k v aB HB (Th.but (?_:Th 5 _ v) (O.same sZ) ae) (by omega) (by omega) bH fun b o e hb=>ae _ _ (sZ _ _ (ac _ _ e hb)) hb⟩;have TZ:=T4.same sZ;simp only[Am,An,or_false]at W;rcases W with rfl|rfl|rfl|rfl|rfl
   .exact .lst ((s2.trans (s3.trans (ao.trans J))).trans (sB.trans ai) _ _ e1) dc TZ (by show _<=8;omega)
   .exact .tup ((s3.trans (ao.trans J)).trans (sB.trans ai) _ _ e2) (fun v W=>TZ v (Fj.mp W)) (by rw[B8];show _<=8;omega)
   .exact .tup ((ao.trans J).trans (sB.trans ai) _ _ e3) TZ.cut (AD (g8 _ _ _) (by show _<=8;omega))
   .exact .tup ((sB.trans ai) _ _ e5) (TZ.app (.one (.int (by decide) (by decide)))) (by rw[Al];show _+1<=8;omega)
   .refine .tup (ai _ _ e9) (TZ.cut.app fun v W=>?_) (by rw[Al,c2];show _+2<=8;omega);rw[c2]at W;simp only[Am,An,or_false,or_self]at W;rw[W];exact TZ lv hlv
  refine⟨_,rfl,rfl,_,rfl,c8 (fun g=>?_) (fun _=>?_)⟩
  .refine⟨aJq,fun L1 bq=>?_⟩;have s1:=aI (o:=.lst [V.str "part",.str "join",.str "forfeit",.str "measure",.str "mend",.str "alone",.str "breach",.str "view",.str "views",.str "",.str "Part",.non,.int 3]) bq;have t1:∀ H',Ths 4 H' [V.str "part",.str "join",.str "forfeit",.str "measure",.str "mend",.str "alone",.str "breach",.str "view",.str "views",.str "",.str "Part",.non,.int 3]:=fun H' v W=>by
    simp only[Am,An,or_false]at W;rcases W with rfl|rfl|rfl|rfl|rfl|rfl|rfl|rfl|rfl|rfl|rfl|rfl|rfl
    .exact .str (by decide) (by decide)
    .exact .str (by decide) (by decide)
    .exact .str (by decide) (by decide)
    .exact .str (by decide) (by decide)
    .exact .str (by decide) (by decide)
    .exact .str (by decide) (by decide)
    .exact .str (by decide) (by decide)
    .exact .str (by decide) (by decide)
    .exact .str (by decide) (by decide)
    .exact .str (by decide) (by decide)
    .exact .str (by decide) (by decide)
    .exact .non
    .exact .int (by decide) (by decide)
   have e1:upd H4 L1 (.lst [V.str "part",.str "join",.str "forfeit",.str "measure",.str "mend",.str "alone",.str "breach",.str "view",.str "views",.str "",.str "Part",.non,.int 3]) L1=some _:=aF;generalize upd H4 L1 _=G1 at s1 e1 ⊢;generalize dg:[V.str "part",.str "join",.str "forfeit",.str "measure",.str "mend",.str "alone",.str "breach",.str "view",.str "views",.str "",.str "Part",.non,.int 3]=b5 at t1 e1;have b9:b5.length=13:=by rw[<- dg];rfl
   dsimp only[cF];refine⟨_,rfl,zZ1,fun q1 di=>⟨zZ1,fun q2 az n2=>fun q3 bf=>?_⟩⟩;have sa:=aI (o:=.tup [V.str "part"]) di;have ea:upd G1 q1 (.tup [V.str "part"]) q1=some (.tup [V.str "part"]):=aF;generalize upd G1 q1 (.tup [V.str "part"])=Ga at sa ea az bf ⊢;have sb:=aI (o:=.lst [V.str "join"]) az;have eb:upd Ga q2 (.lst [V.str "join"]) q2=some (.lst [V.str "join"]):=aF;generalize upd Ga q2 (.lst [V.str "join"])=Gb at sb eb bf ⊢;have sc:=aI (o:=.dK []) bf;have ec:upd Gb q3 (.dK []) q3=some (.dK (diK [])):=aF;generalize upd Gb q3 (.dK [])=Gc at sc ec ⊢;refine oV ((sa.trans (sb.trans sc)) _ _ e1) (t1 _) (fun v W=>?_) (by rw[b9];show 13+3<=100;decide) fun L3 G2 s2 cD t3=>?_
   .simp only[Am,An,or_false]at W;rcases W with rfl|rfl|rfl
    .exact .tup ((sb.trans sc) _ _ ea) (.one (.str (by decide) (by decide))) (show 1<=7 by decide)
    .exact .lst (sc _ _ eb) n2 (.one (.str (by decide) (by decide))) (show 1<=7 by decide)
    .exact .dct (by decide) ec aBv
   have Y:=(s1.trans (sa.trans (sb.trans sc))).trans s2;refine⟨_,rfl,p,c,ns,a2,16,rfl,O.same Y,by omega,by decide,by decide,fun rr aB HB bt bn lB uB bH ae=>?_⟩;obtain⟨v,W,hatv⟩:=j7 (xs:=b5++[V.ref q1,.ref q2,.ref q3]) bt (by rw[Al,b9];exact bn);have df:=(t3 v W).but (O.same Y) ae;have bT:=(B.same Y).but (O.same Y) ae;refine⟨L3,_,rr,v,rfl,rfl,bB (dS cD (O.same Y) ae),hatv,zZ1,fun t5 dr=>?_⟩;have J:=aI (o:=.tup [v]) dr;refine⟨_,rfl,1,rfl,tr,_,rfl,J _ _ bT.e,fun r6 H6 Z e6=>?_⟩;have hc:(d8 (V.str bF::.str name::xs) (some 1) none).length<=7:=AD (g8 _ _ _) dl;refine⟨t5,r6,_,_,rfl,rfl,Z _ _ aF,e6,by show 1+_<=_;omega,fun r7 H7 s7 e7=>?_⟩;have sZ:=J.trans (Z.trans s7);exact k _ aB H7 (.tup e7 ((Ths.app (.one df) (bT.ths.up (by decide)).cut).same sZ) (by rw[Al];show 1+_<=8;omega)) (by omega) (by omega) (bH.same sZ) fun b o e hb=>sZ _ _ (ae _ _ (Y _ _ (ac _ _ e hb)) hb)
  refine⟨_,rfl,rfl,_,rfl,c8 (fun g=>?_) (fun _=>?_)⟩
  .refine⟨_,rfl,_,rfl,p,c,ns,a2,tr,bF,name,xs,es,rfl,O,by omega,B,fun y a5 H5 ag l5 u5 aj dm=>?_⟩;exact k y a5 H5 ag (by omega) (by omega) aj fun b o e hb=>dm _ _ (ac _ _ e hb) hb
  refine⟨fun b H'=>aV H4 H'/\(b=false->ps≠[]),?_,?_⟩
  .refine⟨_,rfl,rfl,_,rfl,c8 (fun g=>⟨aV.refl _,fun z=>(by cases z)⟩) (fun g=>?_)⟩;refine⟨_,rfl,zZ0,fun q5 cL=>?_⟩;have J:=aI (o:=.lst []) cL;refine⟨D,q5,ps,rfl,rfl,bB (J _ _ eD),bB aF,_,rfl,J,fun z e=>?_⟩;rw[e]at z;cases z
  rintro b H5 ⟨J,hb⟩;have ar:=B.same J;have aj:=O.same J;cases b with
  | true=>
   refine⟨_,rfl,_,rfl,p,c,ns,a2,tr,bF,name,xs,es,rfl,aj,by omega,ar,fun y a6 H6 ag l6 u6 bz an=>?_⟩;exact k y a6 H6 ag (by omega) (by omega) bz fun b o e hb=>an _ _ (J _ _ (ac _ _ e hb)) hb
  | false=>
   have b3:=hb rfl;obtain⟨v0,pr,rfl⟩:∃ v0 pr,ps=v0::pr:=by
    cases ps with
    | nil=>exact absurd rfl b3
    | cons v0 pr=>exact⟨v0,pr,rfl⟩
   obtain⟨j,tp,rfl,hj⟩:=cs v0 AM;obtain⟨ts,ds,hpa⟩:=ar.ps hj;refine⟨_,rfl,D,_,_,_,rfl,rfl,bB (J _ _ eD),cB (j:=0) rfl,?_⟩;dsimp only[cF];refine⟨_,rfl,_,rfl,j,rfl,tr,_,rfl,ar.e,fun r3 H6 Z e6=>?_⟩;refine⟨_,rfl,_,rfl,_,rfl,tr,_,_,_,rfl,rfl,aU (Z _ _ ar.e),cB hj,p,c,ns,a2,tp,ts,ds,rfl,aj.same Z,by omega,hpa.same Z,fun y a7 H7 ag l7 u7 dq bv=>?_⟩;refine⟨zZ1,fun t8 cv=>?_⟩;have s8:=aI (o:=.tup [y]) cv;have b4:=(ar.same Z).but (aj.same Z) bv;refine⟨r3,t8,_,_,rfl,rfl,s8 _ _ (fJ e6 (aj.same Z) bv),aF,yJ (by omega),fun r9 H9 s9 e9=>?_⟩;refine⟨_,rfl,_,rfl,_,_,rfl,rfl,_,rfl,tr,_,rfl,(s8.trans s9) _ _ b4.e,fun rA HA Y eA=>?_⟩;refine⟨r9,rA,_,_,rfl,rfl,Y _ _ e9,eA,aAD (by omega),fun rB HB sB eB=>?_⟩;have sZ:=(s8.trans s9).trans (Y.trans sB);exact k _ a7 HB (spl ((b4.ths.up (by decide)).same sZ) (ag.same sZ) (by show _<=8;omega) eB) (by omega) (by omega) (dq.same sZ) fun b o e hb=>sZ _ _ (bv _ _ (Z _ _ (J _ _ (ac _ _ e hb))) hb)
inductive u0(vs:List V)(H:Hp)(Q:VK)(u3_:XK):Prop
 | mk (p c:Ah) (ns:List Int) (a:Int) (l:Ah) (xs:List V) (q0:vs=[.ref p,.ref l]) (q1:cR H p c ns a) (q2:a<=800000) (q3:H l=some (.tup xs)) (q4:xs.length<=8) (q5:∀(q:Ah) (ys:List V) (a':Int) (H':Hp),H q=none->H' q=some (.lst ys)->ys.Perm xs->a<=a'->a'<=a+8->cR H' p c ns a'->bC p H H'->Q (.ref q) H'):u0 vs H Q u3_
def aAF:Sp:=fun vs H Q u3_=>u0 vs H Q u3_
theorem Th.hid{n:Nat}{F:Ah}{H H':Hp}{v:V}{p c:Ah}{ns:List Int}{a:Int}(h:Th n (hid F H) v)(z:cR H p c ns a)(k:bC p H H'):Th n (hid F H') v:=by
 obtain⟨e,r,b⟩:=h;refine⟨e,r.keep fun x o e hd=>?_,b⟩;obtain⟨n1,e1⟩:=j6 e;refine i8 n1 (k _ _ e1 fun y=>?_);obtain⟨⟨l,_,e2⟩,_⟩:=z;rw[y,e2]at e1;cases e1;exact hd _ _ rfl
theorem Ths.hid{n:Nat}{F:Ah}{H H':Hp}{xs:List V}{p c:Ah}{ns:List Int}{a:Int}(h:Ths n (hid F H) xs)(z:cR H p c ns a)(k:bC p H H'):Ths n (hid F H') xs:=fun v B=>(h v B).hid z k
theorem aCq{F:Ah}{H:Hp}{o:HO}:hid F (upd H F o)=hid F H:=by
 funext b;unfold hid;by_cases h:b=F
 .rw[Ib h,Ib h]
 .rw[Ia h,Ia h,bD h]
theorem Th.opn{n:Nat}{H:Hp}{v:V}{e:Aj}(r:RdV true H v e)(b:BD (n+1) e)(ht:dQ e=true):∃(u:Ah) (z:List V),v=.ref u/\H u=some (.tup z)/\Ths n H z/\z.length<=wd n:=by
 cases r with
 | @tup u z ds e D r=>
  rcases b with b|b
  .have:=b.sq;cases this
  .have h2:ds.length<=wd n:=b.2.1;have B:=r.len;exact⟨u,z,rfl,e,Ths.of r b.2.2,by omega⟩
 | _=>cases ht
inductive vA(vs:List V)(H:Hp)(Q:VK)(u3_:XK):Prop
 | mk (p c:Ah) (ns:List Int) (a:Int) (t:Ah) (xs:List V) (q0:vs=[.ref p,.ref t]) (q1:cR H p c ns a) (q2:a<=600000) (q3:H t=some (.tup xs)) (q4:Ths 4 H xs) (q5:xs.length<=8) (q6:∀ y a' H',Th 5 H' y->a<=a'->a'<=a+200->cR H' p c ns a'->bC p H H'->Q y H'):vA vs H Q u3_
def aAG:Sp:=fun vs H Q u3_=>vA vs H Q u3_
theorem aAH:bM ["_law_pen_here","_law_some_here","_law_left"] ["_law_pen_here","_law_some_here"] (aM qW):=⟨rfl,rfl,rfl,by decide,rfl,by decide,by decide⟩
theorem aDl{f:Ah}{fd:AC}(F:Fun K "_law_turned" "_law_turned" qW f fd)(Z:mg "list"=none)(aa:mg "range"=none)(Y:mg "len"=none)
  (GT:Cl P w K mg base 1 "_law_take" ["_law_pen_here","_law_many"] gJ):
  cN P w K mg base CX0 2 f fd ["_law_pen_here","_law_some_here"] aAF:=by
 refine F.ok aAH (fun vs H Q E h=>?_) (fun ay A outer s H vs Q E hr h=>?_)
 .obtain⟨p,c,ns,a,l,xs,rfl,_⟩:=h;rfl
 .obtain⟨p,c,ns,a,l,xs,rfl,hp,ha,hl,hxl,k⟩:=h;refine⟨_,aG (bE (i:=2) aAH.nd rfl (FO rfl) (cH gH (by rfl) Z (by kernel_rfl) (aD (pv 1) aA)))
   (aJ (aO (fM (N:=["_law_k","_law_left","_law_pen_here"]) (src:=[none,some 2,some 0]) (osc:=aM qW) (oN:=["_law_pen_here","_law_some_here","_law_left"]) ⟨by rfl,by decide,by decide,by decide,rfl,by rfl⟩
     (fU rfl aa (aD (aK aS (by rfl) Y Aq (aD (pv 1) aA)) aA))
     fun cl s H fp dz C=>⟨bS (i:=0) (show(["_law_k","_law_left","_law_pen_here"]:List Str).Nodup by decide) rfl (AA rfl),dY,aD5 (K:=K) Ce PySem.F.slot_list_pop PySem.F.type_list_pop yU (pv 1) (aD (aX GT hr (aD (pv 2) (aD (aK (r:=gG K) aS (by rfl) Y Aq (aD (pv 1) aA)) aA))) aA)⟩))),?_⟩
  refine⟨_,rfl,l,_,rfl,.inr (aU hl),fun L hL=>?_⟩;have s0:=aI (o:=.lst xs) hL;have ar:L≠p:=by
   obtain⟨z,_,e⟩:=hp.ob;exact(bG e hL).symm
  have am:L≠c:=(bG hp.ce hL).symm;refine⟨_,rfl,l,_,rfl,.inr (aU (s0 _ _ hl)),xs.length,rfl,by omega,by omega,?_⟩;refine iL (fun i ys σ' H'=>Ex3 fun(a':Int) (vs:List V) (o:Option V)=>Aw6 (σ'=[o,some (.ref L),some (.ref p)]) (cR H' p c ns a') (bC p H H') (a<=a') (a'<=a+i) (Aw3 (ys.length=i) (H' L=some (.lst vs)) (vs.length+i=xs.length/\(ys++vs).Perm xs)))
   ⟨a,xs,none,rfl,hp.same s0,aV.but s0,by omega,by omega,rfl,aF,by omega,Do _⟩ (aH (by omega)) (fun i ys σ H p=>by obtain⟨_,_,_,_,_,_,_,_,e,_⟩:=p;omega) ?_ ?_
  .rintro i ys σ' H1 hi ⟨a1,vs,o,rfl,B,J,ao,ah,ac,W,ak,O⟩;dsimp only[cF];refine cG ?_;refine⟨_,rfl,.inl ⟨rfl,_,bB W⟩,_,rfl,_,rfl,L,_,rfl,.inl (bB W),p,c,ns,a1,_,rfl,B,by omega,by omega,by omega,fun r1 a2 H2 a0 az aR aB an ad=>?_⟩;obtain⟨j,rfl⟩:∃ j:Nat,r1=j:=⟨r1.toNat,by omega⟩
   have ap:=eZ W B ad;obtain⟨y,hy⟩:∃ y,vs[j]?=some y:=⟨_,Ag (by omega)⟩
   have aq:seqIndex? (j:Int) vs.length=some j:=by
    unfold seqIndex?;simp;omega
   refine⟨L,_,_,j,y,rfl,rfl,ap,by omega,by omega,aq,hy,a2,vs.eraseIdx j,_,rfl,?_,?_,by omega,by omega,by rw[Al,ac];rfl,aF,?_,?_⟩
   .obtain⟨⟨z,hz,e⟩,ce,ge,sm⟩:=an;exact⟨⟨z,hz,by rw[bD ar.symm];exact e⟩,by rw[bD am.symm];exact ce,ge,sm⟩
   .intro b o e ne;rw[bD (bG e hL)];exact(J.trans ad) b o e ne
   .rw[Cs (by omega)];omega
   .rw[A2];exact(Bi ys (m9 vs j y hy)).trans O
  .rintro ys σ' H1 ⟨a1,vs,o,rfl,B,J,ao,ah,ac,W,ak,O⟩ D hD;have sD:=aI (o:=.lst ys) hD;have au:vs=[]:=Cg (by have:=BA xs.length;omega);rw[au,CW]at O;have ai:H D=none:=by
    cases e:H D with
    | none=>rfl
    | some x=>
     by_cases z:D=p
     .obtain⟨y,_,e2⟩:=B.ob;rw[z]at hD;rw[hD]at e2;cases e2
     .exact absurd (J D x e z) (by rw[hD];simp)
   exact k D ys a1 _ ai aF O (by omega) (by have:=BA xs.length;omega) (B.same sD) (J.same sD)
theorem aAI:bM ["_law_pen_here","_law_row_here","_law_found","_law_at","_law_some_here"] ["_law_pen_here","_law_row_here"] (aM qX):=⟨rfl,rfl,rfl,by decide,rfl,by decide,by decide⟩
theorem aDm{f:Ah}{fd:AC}(F:Fun K "_law_listed" "_law_listed" qX f fd)(bx:mg "len"=none)(bT:mg "range"=none)(an:mg "list"=none)(aR:mg "isinstance"=none)(ag:mg "tuple"=none)(aC:mg "tuple"=none)
  (GT:Cl P w K mg base 1 "_law_take" ["_law_pen_here","_law_many"] gJ)
  (GU:Cl P w K mg base 2 "_law_turned" ["_law_pen_here","_law_some_here"] aAF)
  :cN P w K mg base CX0 3 f fd ["_law_pen_here","_law_row_here"] aAG:=by
 refine F.ok aAI (fun vs H Q E h=>?_) (fun dn A outer s H vs Q E hr h=>?_)
 .obtain⟨p,c,ns,a,t,xs,rfl,_⟩:=h;rfl
 .obtain⟨p,c,ns,a,t,xs,rfl,hp,ha,ht,hT,hl8,k⟩:=h;have nd:=aAI.nd;have bi:cY 1 _:=hr.mono (by decide);refine⟨_,(aG (bE (i:=2) nd rfl (AA rfl) (cH m8 (by rfl) an (by kernel_rfl) (aD (pv 1) aA)))
   (aG (oY CI rfl (fU rfl bT (aD (aK aS (by rfl) bx Aq (aD (pv 1) aA)) aA)) (g:=cF 3) (bS (i:=3) nd rfl (AA rfl))
   (aJ (bX (cE (aK bZ (by rfl) aR (by kernel_rfl) (aD (bJ cA (pv 1) (pv 3) Ih) (aD (cK (v:=.ty "tuple") (by rfl) ag (by kernel_rfl) rfl) aA)))) (aG (bE (i:=4) nd rfl (AA rfl) (aX GU hr (aD (pv 0) (aD (bJ cA (pv 1) (pv 3) Ih) aA))))
     (aG (f8 (i:=4) (N:=["_law_one","_law_pen_here"]) (src:=[none,some 0]) (osc:=aM qX) (oN:=["_law_pen_here","_law_row_here","_law_found","_law_at","_law_some_here"]) ⟨by rfl,by decide,by decide,by decide,rfl,by rfl⟩ nd rfl (jS (pv 4)) (fun cl s H fp dz C=>⟨bS (i:=0) (show(["_law_one","_law_pen_here"]:List Str).Nodup by decide) rfl (AA rfl),dY,nK (PW.pt (kE (cE (aK (r:=f7 K) bZ (by rfl) aR (by kernel_rfl) (aD (pv 0) (aD (cK (v:=.ty "tuple") (by rfl) ag (by kernel_rfl) rfl) aA)))) (jQ (aW cQ (aX GT bi (aD (pv 1) (aD aE aA))) aE (aY _))))) (cH (r:=oO K) m8 (by rfl) an (by kernel_rfl) (aD (pv 0) aA)) (pv 0)⟩))
     (aJ (jR (bJ c4 (dN (aD (pv 4) (aD (cH cS (by rfl) aC (by kernel_rfl) (aD (pv 4) aA)) aA))) (aX GT bi (aD (pv 0) (aD aE aA))) Ih) (aAL (pv 2) (pv 3) rV))))) aT)))
   (aJ (aO (bJ c4 (dN (aD (pv 2) (aD (cH cS (by rfl) aC (by kernel_rfl) (aD (pv 2) aA)) aA))) (aX GT bi (aD (pv 0) (aD aE aA))) Ih))))),?_⟩
  refine⟨_,rfl,t,_,rfl,.inr (aU ht),fun F hF nF=>?_⟩;have s1:=aI (o:=.lst xs) hF;have eF:upd H F (.lst xs) F=some (.lst xs):=aF;have h1:aV H (hid F (upd H F (.lst xs))):=uZ hF s1;generalize upd H F (.lst xs)=H1 at s1 eF h1 ⊢;dsimp only[cF];refine⟨_,rfl,t,_,rfl,.inr (aU (s1 _ _ ht)),_,rfl,(by omega),(by omega),?_⟩;have e0:((xs.length:Nat):Int).toNat=xs.length:=by omega
  refine i9 (n:=((xs.length:Nat):Int).toNat) (fun i σ H'=>Ex3 fun(a':Int) (fs:List V) (o3:Option V)=>∃(o4:Option V),Aw6 (cR H' p c ns a') (a<=a') (a'<=a+20*i) (bC p H H') (H' F=some (.lst fs)) (Aw3 (fs.length=xs.length) (Ths 4 (hid F H') fs) (Ths 4 (hid F H') xs/\σ=[some (.ref p),some (.ref t),some (.ref F),o3,o4]))) ⟨a,xs,none,none,hp.same s1,CP _,by omega,aV.but s1,eF,rfl,hT.same h1,hT.same h1,rfl⟩ ?_ ?_
  .rintro i σ H2 hi ⟨a2,fs,o3,o4,O,l2,u2,ao,Y,ak,ay,av,rfl⟩;have bh:i<xs.length:=by omega
   have dv:i<8:=by omega
   have cb:((0:Int)+(i:Nat))=((i:Nat):Int):=by omega
   dsimp only[cF];rw[cb];obtain⟨e,re,be⟩:=av _ (BM bh);have b1:=fJ ht hp ao;refine⟨_,rfl,_,rfl,t,_,_,_,rfl,rfl,aU b1,cB (Ag bh),?_⟩;refine⟨_,"tuple",_,_,rfl,eV (re.same pV),fF e,_,rfl,?_⟩;cases hs:dQ e with
   | false=>exact cM ⟨a2,fs,_,o4,O,l2,by omega,ao,Y,ak,ay,av,rfl⟩
   | true=>
   refine cG ?_;obtain⟨u,us,eu,hu,Tu,hul⟩:=Th.opn re be hs;obtain⟨nuF,hu2⟩:=j6 hu;have w7:us.length<=7:=hul;refine⟨_,rfl,_,rfl,_,rfl,t,_,_,.ref u,rfl,rfl,aU b1,cB (by rw[Ag bh,eu]),p,c,ns,a2,u,us,rfl,O,by omega,hu2,by omega,fun q ys a3 H3 hq bN b0 l3 u3 cc ai=>?_⟩;dsimp only[cF];have dV:=b0.length_eq;have cy:Ths 3 (hid F H3) ys:=fun v hv=>(Tu v (b0.mem_iff.mp hv)).hid O ai;have ca:=ay.hid O ai;have cz:=av.hid O ai;have b7:=dS Y O ai;have dm:q≠F:=fun z=>by rw[z,Y]at hq;cases hq
   have bW:=ao.trans ai;refine⟨_,rfl,q,rfl,⟨_,bB bN⟩,?_⟩;refine aBa (K:=K) (xs:=ys) (fun j zs σ H'=>∃(a4:Int) (o:Option V),Aw6 (cR H' p c ns a4) (a3<=a4) (a4<=a3+j) (bC p H3 H') (H' F=some (.lst fs)) (Aw6 (H' q=some (.lst ys)) (Ths 3 (hid F H') zs) (Ths 3 (hid F H') ys) (Ths 4 (hid F H') fs) (Ths 4 (hid F H') xs) (zs.length=j/\σ=[o,some (.ref p)]))) ⟨a3,none,cc,CP _,by omega,bC.refl _ _,b7,bN,fun v hv=>(by cases hv),cy,ca,cz,rfl,rfl⟩ (aH (by omega)) (fun j zs σ H' z=>by obtain⟨_,_,_,_,_,_,_,_,_,_,_,_,e,_⟩:=z;omega) (fun j zs σ H' z=>by obtain⟨_,_,_,_,_,_,_,e,_⟩:=z;exact bB e) ?_ ?_
   .rintro j v zs σ H4 hv ⟨a4,o,J,l4,u4,ax,am,bj,au,ar,aa,az,aB,rfl⟩;have hj:j<ys.length:=(Bl.mp hv).1;obtain⟨e',re',be'⟩:=ar v (AH hv);dsimp only[cF];refine cG ?_;refine⟨_,rfl,_,"tuple",_,_,rfl,eV (re'.same pV),fF e',_,rfl,?_⟩;cases ck:dQ e' with
    | false=>exact cM ⟨_,rfl,a4,_,J,l4,by omega,ax,am,bj,au.app (.one ⟨e',re',be'⟩),ar,aa,az,by rw[Al,aB];rfl,rfl⟩
    | true=>
    refine cG ?_;refine⟨_,rfl,p,c,ns,a4,2,rfl,J,by omega,by decide,by decide,fun r5 a5 H5 bI bw l5 u5 ac B=>?_⟩;have Z:=dS am J B;have bP:=dS bj J B;have ap:=au.hid J B;have aw:=ar.hid J B;have aq:=aa.hid J B;have aj:=az.hid J B;have aL:=ax.trans B;refine⟨rfl,_,rfl,c8 (fun g=>?_) (fun g=>?_)⟩
    .obtain⟨e2,re2,be2⟩:=aw v (AH hv);have ee:dQ e2=true:=by
      obtain⟨u2,us2,rfl,hu2',_,_⟩:=Th.opn re' be' ck;have k1:=fJ (j6 hu2').2 J B;have n1:=(j6 hu2').1;cases re2 with
      | lst hm e=>rw[i8 n1 k1]at e;cases e
      | tup e=>rfl
      | dct _ e=>rw[i8 n1 k1]at e;cases e
     obtain⟨u2,us2,rfl,hu2',Tu2,hul2⟩:=Th.opn re2 be2 ee;refine⟨_,rfl,u2,us2,rfl,.inr (aU (j6 hu2').2),fun l6 a0 cx=>?_⟩;have W:=aI (o:=.lst us2) a0;have n6:l6≠F:=fun z=>by rw[z,Z]at a0;cases a0
     refine⟨a5,_,ac.same W,by omega,by omega,aL.same W,W _ _ Z,W _ _ bP,(ap.same (dC W)).app (.one (.lst (i8 n6 aF) cx (Tu2.same (dC W)) hul2)),aw.same (dC W),aq.same (dC W),aj.same (dC W),by rw[Al,aB];rfl,rfl⟩
    .exact⟨_,rfl,a5,_,ac,by omega,by omega,aL,Z,bP,ap.app (.one (aw v (AH hv))),aw,aq,aj,by rw[Al,aB];rfl,rfl⟩
   rintro zs σ H4 ⟨a4,o,J,l4,u4,ax,am,bj,au,ar,aa,az,aB,rfl⟩ D hD nD;have sD:=aI (o:=.lst zs) hD;have cD:D≠F:=fun z=>by rw[z,am]at hD;cases hD
   have eD:upd H4 D (.lst zs) D=some (.lst zs):=aF;have ac:=J.same sD;have B:=(bW.trans ax).same sD;have Z:=sD _ _ am;have ap:=au.same (dC (F:=F) sD);have aq:=aa.same (dC (F:=F) sD);have aj:=az.same (dC (F:=F) sD);generalize upd H4 D (.lst zs)=H5 at eD ac B Z ap aq aj ⊢;dsimp only[cF];refine⟨_,rfl,_,rfl,D,zs,rfl,.inl ⟨bB eD,fun t6 bc=>?_⟩⟩;have W:=aI (o:=.tup zs) bc;have cg:t6≠F:=fun z=>by rw[z,Z]at bc;cases bc
   have e6:upd H5 t6 (.tup zs) t6=some (.tup zs):=aF;have ad:=ac.same W;have ba:=ap.same (dC (F:=F) W);have bO:=aq.same (dC (F:=F) W);have bR:=aj.same (dC (F:=F) W);have bv:=W _ _ eD;have bH:=W _ _ Z;have br:=B.same W;generalize upd H5 t6 (.tup zs)=H6 at e6 ad ba bO bR bv bH br ⊢;refine⟨zZ2,fun L7 b8=>?_⟩;have s7:=aI (o:=.lst [V.ref D,.ref t6]) b8;refine⟨_,rfl,p,c,ns,a4,2,rfl,ad.same s7,by omega,by decide,by decide,fun r8 a8 H8 cs cw l8 u8 bA ah=>?_⟩;obtain⟨v,hv,hatv⟩:=j7 (xs:=[V.ref D,.ref t6]) cs cw;have bt:zs.length<=7:=by omega
   have cu:Th 4 (hid F H8) v:=by
    refine Th.hid ?_ (ad.same s7) ah;simp only[Am,An,or_false]at hv;rcases hv with rfl|rfl
    .exact .lst (i8 cD (s7 _ _ bv)) nD (ba.same (dC s7)) bt
    .exact .tup (i8 cg (s7 _ _ e6)) (ba.same (dC s7)) bt
   refine⟨L7,_,r8,v,rfl,rfl,bB (dS aF (ad.same s7) ah),hatv,?_⟩;have bg:=dS (s7 _ _ bH) (ad.same s7) ah;have cn:=(bO.same (dC (F:=F) s7)).hid (ad.same s7) ah;have cj:=(bR.same (dC (F:=F) s7)).hid (ad.same s7) ah;have b2:bC p H H8:=fun b o e hb=>ah _ _ (s7 _ _ (br _ _ e hb)) hb;refine⟨_,rfl,_,rfl,F,fs,_,i,rfl,rfl,bg,?_,?_⟩
   .unfold ixN;rw[Ib (by omega),Ib (by omega)];rfl
   have cr:F≠p:=fun z=>by
    obtain⟨⟨l,_,e2⟩,_⟩:=bA;rw[z,e2]at bg;cases bg
   have cL:F≠c:=fun z=>by
    have:=hp.ce;rw[<- z,hF]at this;cases this
   refine⟨a8,fs.set i v,_,_,?_,by omega,by omega,fun b o e hb=>?_,aF,by rw[Dm];exact ak,?_,?_,rfl⟩
   .obtain⟨⟨z,hz,e⟩,ce,ge,sm⟩:=bA;exact⟨⟨z,hz,by rw[bD cr.symm];exact e⟩,by rw[bD cL.symm];exact ce,ge,sm⟩
   .rw[bD (bG e hF)];exact b2 _ _ e hb
   .rw[aCq];intro x hx;rcases Ee hx with hx|rfl
    .exact cn x hx
    .exact cu
   .rw[aCq];exact cj
  rintro σ H2 ⟨a2,fs,o3,o4,O,l2,u2,ao,Y,ak,ay,av,rfl⟩;have dy:a2<=a+160:=by omega
  refine⟨_,rfl,_,rfl,F,fs,rfl,.inl ⟨bB Y,fun t3 bb=>?_⟩⟩;have s3:=aI (o:=.tup fs) bb;have dt:t3≠F:=fun z=>by rw[z,Y]at bb;cases bb
  refine⟨zZ2,fun L4 bL=>?_⟩;have s4:=s3.trans (aI (o:=.lst [V.ref F,.ref t3]) bL);have e3:upd (upd H2 t3 (.tup fs)) L4 (.lst [V.ref F,.ref t3]) t3=some (.tup fs):=aI bL _ _ aF;refine⟨_,rfl,p,c,ns,a2,2,rfl,O.same s4,by omega,by decide,by decide,fun r5 a5 H5 bI bw l5 u5 ac B=>?_⟩;obtain⟨v,hv,hatv⟩:=j7 (xs:=[V.ref F,.ref t3]) bI bw;refine⟨L4,_,r5,v,rfl,rfl,bB (dS aF (O.same s4) B),hatv,?_⟩;have aa:Ths 4 _ fs:=(ay.same pV).same s4;refine k v a5 H5 (Th.but (?_:Th 5 _ v) (O.same s4) B) (by omega) (by omega) ac fun b o e hb=>B _ _ (s4 _ _ (ao _ _ e hb)) hb;simp only[Am,An,or_false]at hv;rcases hv with rfl|rfl
  .exact .lst (s4 _ _ Y) nF aa (by rw[ak];exact hl8)
  .exact .tup e3 aa (by rw[ak];exact hl8)
def aDn(K:Af)(D:Ah)(cs:List Ah)(bs:List Bool)(ts:List Ah):Bool:=
 ((cs.zip bs).all fun p=>Bu K (.ref D) (.ref p.1)==some p.2)&&(Dr K (.ref D) (ts.map AI)==some false)&&(Bu K (.ref D) (.type "ValueError")==some true) &&
 (CD K (.ref D) "__getattribute__"==some (some (.builtin "BaseException.__getattribute__")))&&(CD K (.ref D) "__getattr__"==some none)&&(Fy K D (.type "BaseException")==some true)&&PySem.W.hasDictIn K D&&(CD K (.ref D) "__class__"==some (some (.builtin "object.__class__")))&&(Fy K D (.type "object")==some true) &&
 (EZ K (.builtin "object.__class__") "__get__"==some (some (.builtin "getset_descriptor.__get__")))&&(PySem.W.takesIn K (.builtin "object.__class__")==some true)
theorem aCr{K:Af}{D:Ah}{z:List Ah}{bs:List Bool}{ts:List Ah}(h:aDn K D z bs ts=true):xU K D/\(∀(i:Nat) c b,z[i]?=some c->bs[i]?=some b->Bu K (.ref D) (.ref c)=some b)/\Dr K (.ref D) (ts.map AI)=some false/\Bu K (.ref D) (.type "ValueError")=some true:=by
 unfold aDn at h;simp only[Av,beq_iff_eq,AX]at h;obtain⟨⟨⟨⟨⟨⟨⟨⟨⟨⟨h1,h2⟩,h3⟩,h4⟩,h5⟩,h5'⟩,h6⟩,h7⟩,h8⟩,h9⟩,h10⟩:=h;refine⟨⟨h4,h5,h5',h6,h7,h8,h9,h10⟩,fun i c b B J=>h1 (c,b) ?_,h2,h3⟩;exact AH (i:=i) (List.getElem?_zip_eq_some.mpr ⟨B,J⟩)
inductive xA(vs:List V)(H:Hp)(Q:VK)(u3_:XK):Prop
 | mk (m:Bool) (x:V) (d:Aj) (q0:vs=[x]) (q1:RdV m H x d) (q2:Few d) (q3:(fK (gC (cI 3 d))=true->∀ y H',aV H H'->RdV m H' y (gC (cI 3 d))->Q y H')) (q4:(fK (gC (cI 3 d))=false->∀ H',aV H H'->Q (.str "NoRow") H')):xA vs H Q u3_
def aCs:Sp:=fun vs H Q u3_=>xA vs H Q u3_
inductive xB(vs:List V)(H:Hp)(Q:VK)(u3_:XK):Prop
 | mk (b c:Bool) (q0:vs=[.bl b,.bl c]) (q1:Q (.bl (b==c)) H):xB vs H Q u3_
def aCt:Sp:=fun vs H Q u3_=>xB vs H Q u3_
inductive vB(vs:List V)(H:Hp)(Q:VK)(u3_:XK):Prop
 | mk (x:V) (d:Aj) (q0:vs=[x]) (q1:RdV true H x d) (q2:BD 5 d) (q3:∀ H',aV H H'->Q (.bl true) H'):vB vs H Q u3_
def aAJ:Sp:=fun vs H Q u3_=>vB vs H Q u3_
theorem aFk:∀(k:Nat) {n:Nat}{d:Aj},BD n d->BD n (cI k d)
 | 0,_,_,h=>h
 | k+1,0,d,h=>by rw[fB _ (Atm.sq h)];exact h
 | k+1,n+1,d,.inl h=>by rw[fB _ h.sq];exact .inl h
 | k+1,n+1,d,.inr ⟨h1,h2,h3⟩=>by
  rw[i0 k h1];refine .inr ⟨rfl,by show((aP d).map _).length<=_;rw[Ae];exact h2,fun x z=>?_⟩;obtain⟨y,hy,rfl⟩:=Bk.mp (show x∈(aP d).map (cI k) from z);exact aFk k (h3 y hy)
theorem aHX{d:Aj}(h:BD 5 d):BD 5 (gC d):=by
 unfold gC;split
 .rename_i k n O f l;have hi:∀ x∈[By k,n,O,f,l],BD 4 x:=fun x J=>h.item J;have D:∀{x y:Aj},BD 4 x->BD 4 y->BD 5 (.tuple [.str k,n,O,x,y]):=fun J Y=>BD.tup (fun z hz=>by
   simp only[Am,An,or_false]at hz;rcases hz with rfl|rfl|rfl|rfl|rfl
   .exact hi _ (by simp)
   .exact hi _ (by simp)
   .exact hi _ (by simp)
   .exact J
   .exact Y) (show 5<=8 by decide)
  split
  .rename_i g;obtain⟨ls,rfl⟩:=wV g.2;have B:=hi (.tuple ls) (by simp);refine D (hi f (by simp)) (BD.tup (fun x J=>B.item ((iS _).mem_iff.mp J)) ?_);rw[(iS _).length_eq];rcases B with B|B
   .cases B.sq
   .exact B.2.1
  .split
   .rename_i g;obtain⟨ls,rfl⟩:=wW g.2;have B:=hi (.tuple ls) (by simp);have W:=nA (ls.map i7);refine D (BD.tup (fun x J=>?_) ?_) (hi l (by simp))
    .obtain⟨z,hz,rfl⟩:=Bk.mp J;obtain⟨e,he,rfl⟩:=Bk.mp (W.mem_iff.mp hz);have hn:=AX.mp (show ls.all aZ=true from g.2) e he;cases e with
     | str y=>exact .of (.name hn)
     | _=>cases hn
    .show((pZ (ls.map i7)).map By).length<=_;rw[Ae,W.length_eq,Ae];rcases B with B|B
     .cases B.sq
     .exact B.2.1
   .exact h
 .exact h
theorem bd5:bd 5<=sizeLine:=by
 rw[Fb];decide
theorem aCu:bM ["_law_thing","_law_caught","_law_found","e"] ["_law_thing"] (aM aBf):=⟨rfl,rfl,rfl,by decide,rfl,by decide,by decide⟩
theorem aFl{f fR cD af B J aa Y ae O ad ac Z D ag z:Ah}{fd aL:AC}(F:Fun K "_law_heard" "_law_heard" aBf f fd)(ai:mg "isinstance"=none)(a0:mg "ValueError"=none)(mD:mg "DykeError"=some (.ref cD))(av:mg "Clash"=some (.ref af))(ah:mg "NoBreach"=some (.ref B))(aj:mg "NoField"=some (.ref J))(ap:mg "NoInch"=some (.ref aa))(au:mg "NoMend"=some (.ref Y))(ao:mg "NoName"=some (.ref ae))(am:mg "NoOrder"=some (.ref O))(ax:mg "NoRow"=some (.ref z))(ar:mg "NoText"=some (.ref ac))(an:mg "NoThen"=some (.ref Z))(ak:mg "TooMany"=some (.ref D))(aw:mg "Twice"=some (.ref ag))(aq:mg "NoRoll"=some (.ref ad))
  (eR:PySem.W.exmOne K (.ref z) (.ref cD)=some true) (kf:aDn K z [z] [true] [af,B,J,aa,Y,ae,O,ad,ac,Z]=true) (kg:aDn K z [z] [true] [D,ag]=true)
  (GR:cN P w K mg base (CXr P w) 8 fR aL ["thing"] (aAv z)) (mR:mg "row_of"=some (.ref fR)) (kR:Az K (.ref fR)=true) (bR:dX K aL ["thing"] []):
  cN P w K mg base CX0 9 f fd ["_law_thing"] aCs:=by
 refine F.ok aCu (fun vs H Q E h=>?_) (fun bg A outer s H vs Q E hr h=>?_)
 .obtain⟨m,x,d,rfl,_⟩:=h;rfl
 .obtain⟨m,x,d,rfl,hx,hfew,ky,kn⟩:=h;have nd:=aCu.nd;refine⟨_,aG (bE (i:=1) nd rfl (AA rfl) mS) (aG (bE (i:=2) nd rfl (AA rfl) mS)
   (aG (aEp (ie:=3) rfl rfl rfl (aFI (i:=2) nd rfl (AA rfl) (aFH GR hr rfl mR kR bR (aD (pv 0) aA))) rfl mD nd rfl rfl (fun v=>aJ (bE (i:=1) nd rfl (AA rfl) (pv 3))))
   (aG (bX (aDv (aDu (pv 1))) (aJ (aO (pv 2))) aT)
   (aG (bX (cE (aK mG (by rfl) ai (by kernel_rfl) (aD (pv 1) (aD (bU (aD (cV (v:=.ref af) rfl av rfl) (aD (cV (v:=.ref B) rfl ah rfl) (aD (cV (v:=.ref J) rfl aj rfl) (aD (cV (v:=.ref aa) rfl ap rfl) (aD (cV (v:=.ref Y) rfl au rfl) (aD (cV (v:=.ref ae) rfl ao rfl) (aD (cV (v:=.ref O) rfl am rfl) (aD (cV (v:=.ref ad) rfl aq rfl) (aD (cV (v:=.ref ac) rfl ar rfl) (aD (cV (v:=.ref Z) rfl an rfl) aA))))))))))) aA)))) (aJ (aO aN)) aT)
   (aG (bX (PW.pt (dZ (cE (aK mG (by rfl) ai (by kernel_rfl) (aD (pv 1) (aD (bU (aD (cV (v:=.ref D) rfl ak rfl) (aD (cV (v:=.ref ag) rfl aw rfl) aA))) aA))))
    (dZ (cX (cE (aK oJ (by rfl) ai (by kernel_rfl) (aD (pv 1) (aD (cV (v:=.ref z) rfl ax rfl) aA))))) (dU (cX (cE (aK oJ (by rfl) ai (by kernel_rfl) (aD (pv 1) (aD (cK (v:=.ty "ValueError") (by rfl) a0 (by kernel_rfl) rfl) aA))))))))) (aJ (aO aN)) aT)
   (aJ (aO aN))))))),?_⟩
  refine⟨_,rfl,m,x,d,rfl,hx,hfew,fun hr y H1 s1 r1=>?_,fun hr H1 s1=>⟨eR,fun y hy=>?_⟩⟩
  .refine⟨_,rfl,_,rfl,cG ?_⟩;exact⟨_,rfl,ky hr y H1 s1 r1⟩
  .have sy:=aI (o:=mE y (.ref z)) hy;have ey:upd H1 y (mE y (.ref z)) y=some (mE y (.ref z)):=aF;have S:=s1.trans sy;generalize upd H1 y (mE y (.ref z))=H2 at sy ey S ⊢;obtain⟨ek,h1,h2,h3⟩:=aCr kf;obtain⟨_,_,h4,_⟩:=aCr kg;refine⟨_,rfl,_,rfl,_,rfl,cM ?_⟩;refine⟨_,rfl,aJo,fun q hq=>?_⟩;have sq:=aI (o:=.tup ([af,B,J,aa,Y,ae,O,ad,ac,Z].map V.ref)) hq;refine⟨y,z,q,[af,B,J,aa,Y,ae,O,ad,ac,Z],_,rfl,aF,sq _ _ ey,ek,h2,_,rfl,cM ?_⟩;have az:=sq _ _ ey;have S3:=S.trans sq;simp only[Bj,Dz]at az S3;generalize upd H2 q _=H3 at az S3 ⊢;refine⟨_,rfl,zZ2,fun q2 aR=>?_⟩;have aB:=aI (o:=.tup ([D,ag].map V.ref)) aR;have ay:=aB _ _ az;refine⟨y,z,q2,[D,ag],_,rfl,aF,ay,ek,h4,_,rfl,cM ?_⟩;refine⟨_,rfl,y,z,_,_,_,rfl,(fun u r=>r),ay,ek,h1 0 _ _ rfl rfl,_,rfl,cM ?_⟩;refine⟨_,rfl,y,z,_,_,_,rfl,(fun u r=>r),ay,ek,h3,_,rfl,cM ?_⟩;exact kn hr _ (S3.trans aB)
theorem aCv:bM ["_law_found","_law_owed"] ["_law_found","_law_owed"] (aM aBd):=⟨rfl,rfl,rfl,by decide,rfl,by decide,by decide⟩
theorem aFm{f:Ah}{fd:AC}(F:Fun K "_law_same" "_law_same" aBd f fd)
  :cN P w K mg base CX0 1 f fd ["_law_found","_law_owed"] aCt:=by
 refine F.ok aCv (fun vs H Q E h=>?_) (fun z A outer s H vs Q E B h=>?_)
 .obtain⟨b,c,rfl,_⟩:=h;rfl
 .obtain⟨b,c,rfl,k⟩:=h;have nd:=aCv.nd;refine⟨_,(aG (bX (cE (pv 1)) (aJ (aO (dF aDR (pv 0) eQ (aY _)))) aT)
   (aJ (aO (dF aDR (pv 0) eQ (aY _))))),?_⟩
  refine⟨_,rfl,_,rfl,?_⟩;cases c with
  | true=>exact cG ⟨_,rfl,true,rfl,by cases b<;>exact k⟩
  | false=>exact cM ⟨_,rfl,false,rfl,by cases b<;>exact k⟩
theorem aAK:bM ["_law_thing","_law_kept","_law_owed","_law_found"] ["_law_thing"] (aM yC):=⟨rfl,rfl,rfl,by decide,rfl,by decide,by decide⟩
theorem aDo{f:Ah}{fd:AC}(F:Fun K "_law_right" "_law_right" yC f fd)(B:mg "repr"=none)
  (GM:Cl P w K mg base 5 "_law_made" ["_law_thing"] aFb)
  (GH:Cl P w K mg base 9 "_law_heard" ["_law_thing"] aCs)
  (GS:Cl P w K mg base 1 "_law_same" ["_law_found","_law_owed"] aCt)
  (GI:Cl P w K mg base 7 "is_row" ["thing"] jZ)
  (GR:Cl P w K mg base 4 "_law_is_row" ["_law_thing"] jZ)
  :cN P w K mg base CX0 10 f fd ["_law_thing"] aAJ:=by
 refine F.ok aAK (fun vs H Q E h=>?_) (fun ar A outer s H vs Q E Z h=>?_)
 .obtain⟨x,d,rfl,_⟩:=h;rfl
 .obtain⟨x,d,rfl,hx,hd,k⟩:=h;have nd:=aAK.nd;have an:cY 1 _:=Z.mono (by decide);have ao:cY 7 _:=Z.mono (by decide);have am:cY 4 _:=Z.mono (by decide);have ai:cY 5 _:=Z.mono (by decide);refine⟨_,(aG (bE (i:=1) nd rfl (AA rfl) (aK (iP Z) (by rfl) B (by kernel_rfl) (aD (pv 0) aA)))
   (aG (bX (cX (cE (aX GS an (aD (aX GI ao (aD (pv 0) aA)) (aD (aX GR am (aD (pv 0) aA)) aA))))) (aJ (aO eQ)) aT)
   (aG (bE (i:=2) nd rfl (AA rfl) (aX GM ai (aD (pv 0) aA)))
   (aG (bE (i:=3) nd rfl (AA rfl) (aX GH Z (aD (pv 0) aA)))
   (aG (bX (aDv (aDu (pv 2))) (aJ (aO (c6 (dF cQ (pv 3) aN (aY _)) (dL (dF cQ (aK (iP Z) (by rfl) B (by kernel_rfl) (aD (pv 0) aA)) (pv 1) (aY _)))))) aT)
   (aJ (aO (c6 (dF cQ (aK (iP Z) (by rfl) B (by kernel_rfl) (aD (pv 3) aA)) (aK (iP Z) (by rfl) B (by kernel_rfl) (aD (pv 2) aA)) (aY _)) (dL (dF cQ (aK (iP Z) (by rfl) B (by kernel_rfl) (aD (pv 0) aA)) (pv 1) (aY _))))))))))),?_⟩
  have D:=hd.ok;have O:Few d:=BD.few hd;have aj:∀ e∈aP d,e.showable=true/\e.depth<=16/\e.shown.length<=sizeLine/\(uY e=false->e.shown≠"part"/\e.shown≠"join"):=fun e he=>by
   have h4:=hd.item he;have o4:=h4.ok;exact⟨o4.sh,AD o4.dp (by decide),AD o4.len (AD (by decide) bd5),h4.nz⟩
  have em:=aGj d;have J:=(aHX (aFk 3 hd)).ok;refine⟨_,rfl,true,x,d,rfl,hx,D.sh,AD D.dp (by decide),AD D.len bd5,?_⟩;dsimp only[cF];refine⟨_,rfl,true,x,d,rfl,hx,fun H1 s1=>⟨_,rfl,true,x,d,rfl,hx.same s1,fun H2 s2=>⟨_,_,rfl,_,rfl,?_⟩⟩⟩;rw[beq_self_eq_true];refine cM ?_;have aa:=s1.trans s2;refine⟨_,rfl,true,x,d,rfl,hx.same aa,O,aj,fun hn H3 s3=>?_,fun e he y H3 s3 r3=>?_⟩
  .dsimp only[cF];have W:=aa.trans s3;have ac:fK (gC (cI 3 d))=false:=by
    cases h:fK (gC (cI 3 d))with
    | false=>rfl
    | true=>rw[hn,h,Ib rfl]at em;cases em
   refine⟨_,rfl,true,x,d,rfl,hx.same W,O,fun z=>absurd z (by rw[ac];decide),fun _ H4 s4=>?_⟩;dsimp only[cF];have Y:=W.trans s4;refine⟨_,rfl,_,rfl,cG ?_⟩;refine⟨_,rfl,rfl,_,rfl,cG ?_⟩;refine⟨_,rfl,true,x,d,rfl,hx.same Y,D.sh,AD D.dp (by decide),AD D.len bd5,_,rfl,rfl,?_⟩;rw[Ic rfl];exact k _ Y
  .dsimp only[cF];have W:=aa.trans s3;have ac:fK (gC (cI 3 d))=true/\e=gC (cI 3 d):=by
    cases h:fK (gC (cI 3 d))with
    | false=>rw[he,h,Ia AG]at em;cases em
    | true=>rw[he,h,Ib rfl]at em;cases em;exact⟨rfl,rfl⟩
   obtain⟨hr1',rfl⟩:=ac;refine⟨_,rfl,true,x,d,rfl,hx.same W,O,fun _ z H4 s4 r4=>?_,fun z=>absurd z (by rw[hr1'];decide)⟩;dsimp only[cF];have Y:=W.trans s4;refine⟨_,rfl,_,rfl,c8 (fun g=>?_) (fun _=>?_)⟩
   .exfalso;have ey:y=.non:=Ig g;rw[ey]at r3;generalize gC (cI 3 d)=E at r3 hr1';cases r3;cases hr1'
   refine⟨_,rfl,true,z,_,rfl,r4,J.sh,AD J.dp (by decide),AD J.len bd5,_,rfl,true,y,_,rfl,r3.same s4,J.sh,AD J.dp (by decide),AD J.len bd5,rfl,_,rfl,?_⟩;rw[Ic rfl];refine cG ?_;refine⟨_,rfl,true,x,d,rfl,hx.same Y,D.sh,AD D.dp (by decide),AD D.len bd5,_,rfl,rfl,?_⟩;rw[Ic rfl];exact k _ Y
inductive aCw(K:Af)(vs:List V)(H:Hp)(Q:VK)(u3_:XK):Prop
 | mk (a:Ah) (ns:List Int) (q0:vs=[.ref a]) (q1:SqL K H a (ns.map V.int)) (q2:ns.length<=63) (q3:∀ H',Q (.bl true) H'):aCw K vs H Q u3_
def aCx(K:Af):Sp:=fun vs H Q u3_=>aCw K vs H Q u3_
theorem Th.txt{n:Nat}{H:Hp}{z:Str}(h:A1 z=true)(B:z.length<=490):Th (n+1) H (.str z):=⟨_,.str z (by omega),.inl (.txt h B)⟩
theorem aGv:Atm 110 (.dict (diD [("b",1),("c",2)])):=⟨rfl,⟨by decide,by decide,by decide⟩,fun _=>by decide⟩
theorem aHY:Atm 110 (.dict (diD [("alone",1)])):=⟨rfl,⟨by decide,by decide,by decide⟩,fun _=>by decide⟩
theorem aHZ:∀ w∈dH,A1 w=true/\1<=w.length/\w.length<=8/\bV w=true:=by decide
theorem aFn{bF:Str}{ds:List Aj}(h:pU bF ds):bF∈dH/\ds.length<=4/\1<=ds.length/\∀ d∈ds,Itm d:=by
 have B:∀{x y:Aj},Itm x->Itm y->∀ d∈[x,y],Itm d:=fun hx hy d hd=>by
  simp only[Am,An,or_false]at hd;rcases hd with rfl|rfl
  .exact hx
  .exact hy
 cases h with
 | @part O R W hr h2 h6 ha=>
  refine⟨by decide,AS (AS (Ak 2)),AS (Ak 1),B (.name W) (.parts h2 h6 fun x hx=>AX.mp ha _ (EY hx))⟩
 | @join O R W hr h2 h6 ha=>exact⟨by decide,AS (AS (Ak 2)),AS (Ak 1),B (.names h2 h6 fun z hz=>AX.mp ha (.str z) (EY hz)) (.name W)⟩
 | forfeit W D=>exact⟨by decide,AS (AS (Ak 2)),AS (Ak 1),B (.name W) (.name D)⟩
 | measure Y h0 h1=>exact⟨by decide,AS (AS (Ak 2)),AS (Ak 1),B (.name Y) (.num h0 (by omega))⟩
 | mend D ho ah=>exact⟨by decide,AS (AS (Ak 2)),AS (Ak 1),B (.name D) (.name ho)⟩
 | alone D=>
  refine⟨by decide,AS (AS (AS (Ak 1))),Ak 1,fun d hd=>?_⟩;rw[A7.mp hd];exact .name D
 | breach Y J aa Z ac ae ai=>
  refine⟨by decide,Ak 4,AS (AS (AS (Ak 1))),fun d hd=>?_⟩;simp only[Am,An,or_false]at hd;rcases hd with rfl|rfl|rfl|rfl
  .exact .name Y
  .exact .num J (by omega)
  .exact .num Z ac
  .exact .num ae (by omega)
 | view Y J aa D=>
  refine⟨by decide,AS (Ak 3),AS (AS (Ak 1)),fun d hd=>?_⟩;simp only[Am,An,or_false]at hd;rcases hd with rfl|rfl|rfl
  .exact .name Y
  .exact .num J (by omega)
  .exact .name D
theorem RwA.row{H:Hp}{t:Ah}{bF name:Str}{z:Int}{ds:List Aj}{dR:List V}(e:H t=some (.tup (.str bF::.str name::.int z::dR)))(r:c9 false H dR ds)(h:pU bF ds)(hn:bV name=true)(B:0<=z)(h1:z<=9999):RwA H t bF name (.int z::dR) (.str bF::.str name::.int z::ds):=by
 obtain⟨hw,h4,h1',hi⟩:=aFn h;obtain⟨w1,w2,w3,w4⟩:=aHZ bF hw;have D:=r.len;have:=f9 hn;refine⟨e,.cons (.str _ (by omega)) (.cons (.str _ (by omega)) (.cons (.int _) r)),by rw[Ax];omega,by rw[Ax];omega,fun d hd=>?_⟩;rcases Am.mp hd with rfl|hd
 .exact .name w4
 rcases Am.mp hd with rfl|hd
 .exact .name hn
 rcases Am.mp hd with rfl|hd
 .exact .num B (by omega)
 .exact hi d hd
theorem aDp{H:Hp}{O:Ah}{xs ys:List V}{Q:VK}(e:H O=some (.lst xs))(Z:xs.length+ys.length<=100)(k:∀ D H',aV H H'->H D=none->H' D=some (.lst (xs++ys))->Q (.ref D) H'):
  ys.length<=sizeLine/\∀ J,H J=none->aHe (.ref O) (.ref J) (upd H J (.lst ys)) Q:=by
 refine⟨aH (by omega),fun J W=>?_⟩;have Y:=aI (o:=.lst ys) W;refine⟨O,J,xs,ys,rfl,rfl,Y _ _ e,aF,aH (by omega),fun D B=>?_⟩;refine k D _ (Y.trans (aI (o:=.lst (xs++ys)) B)) ?_ aF;cases z:H D with
 | none=>rfl
 | some o=>rw[Y _ _ z]at B;cases B
theorem aGV:bM ["_law_script","_law_pen_here","_law_fields","_law_plots","_law_houses","_law_names_here","_law_k","_law_word","_law_row_here","_law_turn","_law_thing","_law_others"] ["_law_script"] (aM vH):=⟨rfl,rfl,rfl,by decide,rfl,by decide,by decide⟩
theorem aH0{f:Ah}{fd:AC}(F:Fun K "law" "law" vH f fd)(bc:mg "range"=none)(ca:mg "all"=none)(cn:mg "isinstance"=none)(ax:mg "tuple"=none)
  (GE:Cl P w K mg base 1 "_law_pen" ["_law_script"] (aGO K))
  (GS:Cl P w K mg base 3 "_law_sorts" ["_law_pen_here","_law_fields","_law_rows"] aCa)
  (GO:Cl P w K mg base 3 "_law_row_of" ["_law_pen_here","_law_word","_law_name","_law_day","_law_sorts_here"] aCd)
  (GT:Cl P w K mg base 1 "_law_take" ["_law_pen_here","_law_many"] gJ)
  (GN:Cl P w K mg base 2 "_law_number" ["_law_pen_here","_law_bottom","_law_most"] aES)
  (GB:Cl P w K mg base 4 "_law_bent" ["_law_pen_here","_law_row_here"] aCo)
  (GI:Cl P w K mg base 7 "is_row" ["thing"] jZ)
  (GR:Cl P w K mg base 10 "_law_right" ["_law_thing"] aAJ)
  (GL:Cl P w K mg base 3 "_law_listed" ["_law_pen_here","_law_row_here"] aAG)
  :cN P w K mg base CX0 11 f fd ["_law_script"] (aCx K):=by
 refine F.ok aGV (fun vs H Q E h=>?_) (fun fC A outer s H vs Q E hr h=>?_)
 .obtain⟨a,ns,rfl,_⟩:=h;rfl
 .obtain⟨a,ns,rfl,hS,hn,k⟩:=h;have nd:=aGV.nd;have bO:cY 1 _:=hr.mono (by decide);have d3:cY 2 _:=hr.mono (by decide);have bw:cY 3 _:=hr.mono (by decide);have em:cY 4 _:=hr.mono (by decide);have dr:cY 7 _:=hr.mono (by decide);refine⟨_,(aG (bE (i:=1) nd rfl (AA rfl) (aX GE bO (aD (pv 0) aA)))
   (aG (jR (aX GS bw (aD (pv 1) (aD (aQ cT aE (aX GT bO (aD (pv 1) (aD aE aA)))) (aD aE aA)))) (oW rfl (dB (bS (i:=2) nd rfl (AA rfl)) (dB (bS (i:=3) nd rfl (AA rfl)) (dB (bS (i:=4) nd rfl (AA rfl)) (dB (bS (i:=5) nd rfl (AA rfl)) lK))))))
   (aG (oY CI rfl (fU rfl bc (aD aE aA)) (g:=cF 6) (bS (i:=6) nd rfl (AA rfl))
   (aG (bE (i:=7) nd rfl (AA rfl) (bJ c4 (dN (aD aN (aD aN (aD aN (aD aN (aD aN (aD aN (aD aN (aD aN aA))))))))) (pv 6) Ih))
    (aG (bE (i:=8) nd rfl (AA rfl) (aX GO bw (aD (pv 1) (aD (pv 7) (aD (bJ c4 (pv 5) (pv 6) Ih) (aD (aX GN d3 (aD (pv 1) (aD aE (aD aE aA)))) (aD (bU (aD (pv 2) (aD (pv 3) (aD (pv 4) aA)))) aA)))))))
    (aG (oY CI rfl (fU rfl bc (aD aE aA)) (g:=cF 9) (bS (i:=9) nd rfl (AA rfl))
    (aG (bE (i:=10) nd rfl (AA rfl) (aX GB em (aD (pv 1) (aD (pv 8) aA))))
     (aG (gS (bX (xO (PW.pt (kE (cE (aK bZ (by rfl) cn (by kernel_rfl) (aD (pv 10) (aD (cK (v:=.ty "tuple") (by rfl) ax (by kernel_rfl) rfl) aA)))) (jQ (aW cQ (aX GT bO (aD (pv 1) (aD aE aA))) aE (aY _)))))) (aJ (bE (i:=10) nd rfl (AA rfl) (aX GL bw (aD (pv 1) (aD (pv 10) aA))))) aT))
     (aJ (bX (cX (cE (aX GR hr (aD (pv 10) aA)))) (aJ (aO eQ)) aT)))))
    (aJ (bX (aW aCN (aX GI dr (aD (pv 8) aA)) eQ (aY _)) (aJ (aO eQ)) aT))))))
   (aG (bE (i:=11) nd rfl (AA rfl) (dN (aD mS (aD eQ (aD aE (aD aN (aD aN (aD (bU aA) (aD (lP aA) (aD sR (aD (bU (aD (bU aA) aA)) (aD (bU (aD aN aA)) (aD (bU (aD (lP (aD aN aA)) (aD aN (aD aE (aD aN aA))))) (aD (nV (fZ aN aE nU) rfl rfl (by simp) (by decide)) aA))))))))))))))
   (aG (bE (i:=11) nd rfl (AA rfl) (aQ pA (pv 11) (dN (aD (bU (aD aN (aD aN (aD aE (aD aN (aD aN aA)))))) (aD (bU (aD aN (aD aN (aD aE (aD (nV (fZ aN aE (fZ aN aE nU)) rfl rfl (by simp) (by decide)) (aD aN aA)))))) aA)))))
   (aG (qQ (vQ Ce Dd Dc lM (pv 11) (aD (lP (aD aN (aD aN (aD aE (aD aN (aD aN aA)))))) aA)))
   (aJ (aO (aK (jG rfl) (by rfl) ca (by kernel_rfl) (aD (fM (N:=["_law_thing"]) (src:=[none]) (osc:=aM vH) (oN:=["_law_script","_law_pen_here","_law_fields","_law_plots","_law_houses","_law_names_here","_law_k","_law_word","_law_row_here","_law_turn","_law_thing","_law_others"]) ⟨by rfl,by decide,by decide,by decide,rfl,by rfl⟩ (jS (pv 11)) (fun cl s H fp dz C=>⟨bS (i:=0) (show(["_law_thing"]:List Str).Nodup by decide) rfl (AA rfl),dY,aX GR hr (aD (pv 0) aA)⟩)) aA)))))))))),?_⟩
  refine⟨_,rfl,a,ns,rfl,hS,hn,fun p c H1 d2 s1 _=>?_⟩;dsimp only[cF];refine⟨_,rfl,_,rfl,p,c,ns,0,8,rfl,d2,by decide,by decide,by decide,fun r a2 H2 r0 r8 l2 u2 er fN=>?_⟩;obtain⟨m,rfl⟩:∃ m:Nat,r=m:=⟨r.toNat,by omega⟩
  refine⟨_,_,rfl,rfl,p,c,ns,a2,1+m,8,by rw[show((1+m:Nat):Int)=1+(m:Int) by omega];rfl,er,by omega,by omega,by decide,fun tt l1 Z l3 l4 ws ps hs rs a3 H3 et e1 w1 n1 e2 w2 n2 e3 w3 n3 e4 w4 n4 fi gi dv ff=>?_⟩;refine⟨tt,_,rfl,aU et,rfl,_,_,rfl,_,_,rfl,_,_,rfl,_,_,rfl,rfl,?_⟩;dsimp only[cF];have S0:S3 H3 l1 Z l3 ws ps hs:=⟨e1,e2,e3,by omega,by omega,w2,w3,n1,n2,n3⟩
  refine⟨8,rfl,by decide,by decide,?_⟩;refine i9 (n:=Bq 8) (fun i σ H'=>Ex3 fun(a':Int) (o6 o7:Option V)=>Ex3 fun(o8 o9 oA:Option V)=>Aw3 (cR H' p c ns a') (a'<=1000+3000*i) (Aw3 (S3 H' l1 Z l3 ws ps hs) (H' l4=some (.lst (rs.map V.str))) (σ=[some (.ref a),some (.ref p),some (.ref l1),some (.ref Z),some (.ref l3),some (.ref l4),o6,o7,o8,o9,oA,none]))) ⟨a3,none,none,none,none,none,dv,by omega,S0,e4,rfl⟩ ?_ ?_
  .rintro i σ H4 hi ⟨a4,o6,o7,o8,o9,oA,cv,u4,S4,cr,rfl⟩;have ee:i<8:=hi;have dq:((0:Int)+(i:Nat))=((i:Nat):Int):=by omega
   dsimp only[cF];rw[dq];refine⟨zZ8,fun L hL=>?_⟩;have sL:=aI (o:=.lst [V.str "part",.str "join",.str "forfeit",.str "measure",.str "mend",.str "alone",.str "breach",.str "view"]) hL;obtain⟨bF,hwd⟩:∃ bF,dH[i]?=some bF:=⟨_,Ag (show i<8 from ee)⟩
   have b8:atI [V.str "part",.str "join",.str "forfeit",.str "measure",.str "mend",.str "alone",.str "breach",.str "view"] (i:Int)=some (.str bF):=cB (by show(dH.map V.str)[i]?=_;rw[Bs,hwd];rfl);refine⟨_,rfl,L,_,_,_,rfl,rfl,bB aF,b8,?_⟩;have aw:=cv.same sL;have S5:=S4.same sL;have bj:=sL _ _ cr;generalize upd H4 L _=H5 at aw S5 bj ⊢;dsimp only[cF];obtain⟨name,hnm⟩:∃ name,rs[i]?=some name:=⟨_,Ag (by omega)⟩
   refine⟨_,rfl,_,rfl,_,rfl,_,rfl,l4,_,_,.str name,rfl,rfl,bB bj,cB (by rw[Bs,hnm];rfl),_,rfl,p,c,ns,a4,0,9999,rfl,aw,by omega,by decide,by decide,by decide,fun dy a6 H6 d0 d1 l6 u6 bN b1=>?_⟩;have S6:=S5.but aw b1;have eo:=dS bj aw b1;refine⟨_,rfl,_,rfl,_,rfl,zZ3,fun tS hS=>?_⟩;have sS:=aI (o:=.tup [V.ref l1,.ref Z,.ref l3]) hS;have ak:bV name=true:=n4.ok name (AH hnm);refine⟨p,c,ns,a6,bF,name,dy,tS,l1,Z,l3,ws,ps,hs,rfl,bN.same sS,by omega,aF,S6.same sS,AH hwd,ak,fun t ds dR a7 H7 ec eu cc _ l7 u7 ev ci=>?_⟩;have S7:=(S6.same sS).but (bN.same sS) ci;have d4:=dS (sS _ _ eo) (bN.same sS) ci;have eh:RwA H7 t bF name (.int dy::dR) (.str bF::.str name::.int dy::ds):=.row ec eu cc ak d0 d1;dsimp only[cF];refine⟨6,rfl,by decide,by decide,?_⟩;refine i9 (n:=Bq 6) (fun j σ H'=>Ex3 fun(a':Int) (o9 oA:Option V)=>Aw6 (cR H' p c ns a') (a7<=a') (a'<=a7+300*j) (S3 H' l1 Z l3 ws ps hs) (H' l4=some (.lst (rs.map V.str))) (RwA H' t bF name (.int dy::dR) (.str bF::.str name::.int dy::ds)/\σ=[some (.ref a),some (.ref p),some (.ref l1),some (.ref Z),some (.ref l3),some (.ref l4),some (.int (i:Nat)),some (.str bF),some (.ref t),o9,oA,none])) ⟨a7,_,_,ev,CP _,by omega,S7,d4,eh,rfl⟩ ?_ ?_
   .rintro j σ H8 hj ⟨a8,o9,oA,af,l8,u8,S8,bi,ah,rfl⟩;have fu:j<6:=hj;dsimp only[cF];refine⟨_,rfl,_,rfl,p,c,ns,a8,t,bF,name,_,_,rfl,af,by omega,ah,fun y a9 H9 b5 l9 u9 aa bP=>?_⟩;have S9:=S8.but af bP;have eq:=dS bi af bP;have ef:=ah.but af bP;dsimp only[cF];refine⟨fun σ' H'=>∃(y:V) (a':Int),Th 5 H' y/\cR H' p c ns a'/\a9<=a'/\a'<=a9+210/\bC p H9 H'/\σ'=[some (.ref a),some (.ref p),some (.ref l1),some (.ref Z),some (.ref l3),some (.ref l4),some (.int (i:Nat)),some (.str bF),some (.ref t),some (.int (0+(j:Nat))),some y,none],?_,?_⟩
    .obtain⟨e,re,be⟩:=id b5;refine⟨fun b H'=>∃ a',cR H' p c ns a'/\a9<=a'/\a'<=a9+1/\bC p H9 H'/\(b=true->dQ e=true),?_,?_⟩
     .refine⟨_,rfl,_,"tuple",_,_,rfl,eV re,fF e,_,rfl,?_⟩;cases hs:dQ e with
      | false=>exact cM ⟨a9,aa,CP _,by omega,bC.refl _ _,fun z=>(by cases z)⟩
      | true=>
       refine cG ?_;refine⟨_,rfl,p,c,ns,a9,3,rfl,aa,by omega,by decide,by decide,fun rB aB HB gk fI lB uB ai B=>?_⟩;exact⟨rfl,_,rfl,aB,ai,by omega,by omega,B,fun _=>rfl⟩
     rintro b HB ⟨aB,ai,lB,uB,B,hb⟩;have br:=b5.but aa B;cases b with
     | false=>exact⟨y,aB,br,ai,lB,by omega,B,rfl⟩
     | true=>
      obtain⟨u,us,rfl,hu,Tu,hul⟩:=Th.opn re be (hb rfl);refine⟨_,rfl,_,rfl,p,c,ns,aB,u,us,rfl,ai,by omega,fJ hu aa B,Tu.but aa B,hul,fun y2 aC HC eg lC uC dV ey=>?_⟩;exact⟨y2,aC,eg,dV,by omega,by omega,B.trans ey,rfl⟩
    rintro σ' HB ⟨y2,aB,br,ai,lB,uB,B,rfl⟩;have SB:=S9.but aa B;have ej:=dS eq aa B;have df:=ef.but aa B;obtain⟨e,re,be⟩:=br;refine⟨_,rfl,y2,e,rfl,re,be,fun HC sC=>⟨_,rfl,?_⟩⟩;refine cM ?_;exact⟨aB,_,_,ai.same sC,by omega,by omega,SB.same sC,sC _ _ ej,df.same sC,rfl⟩
   .rintro σ H8 ⟨a8,o9,oA,af,l8,u8,S8,bi,ah,rfl⟩;have cs:fK (yI bF name dy ds)=true:=aE0 cc ak d0 d1;have en:=ah.l7;refine⟨_,rfl,false,.ref t,yI bF name dy ds,rfl,.tup ah.e (by simp only[Ax]at en ⊢;omega) ah.r,fun H9 s9=>?_⟩;rw[cs];refine⟨true,rfl,_,rfl,cM ?_⟩;have gb:a8<=a7+1800:=by have:(Bq 6:Nat)=6:=rfl;omega
    exact⟨a8,_,_,_,_,_,af.same s9,by omega,S8.same s9,s9 _ _ bi,rfl⟩
  rintro σ H4 ⟨a4,o6,o7,o8,o9,oA,cv,u4,S4,cr,rfl⟩;refine⟨zZ0,fun qA eb=>⟨zZ0,fun qB cb nB=>fun qC bg=>⟨zZ0,fun qD ar=>⟨zZ1,fun qE am=>⟨zZ1,fun qF ag=>⟨zZ1,fun qG ad nG=>⟨zZ4,fun qH Y=>fun qI O=>?_⟩⟩⟩⟩⟩⟩⟩;have sA:=aI (o:=HO.tup []) eb;have cj:upd H4 qA (HO.tup []) qA=some (HO.tup []):=aF;generalize upd H4 qA (HO.tup [])=GA at sA cj cb bg ar am ag ad Y O ⊢;have sB:=aI (o:=HO.lst []) cb;have cg:upd GA qB (HO.lst []) qB=some (HO.lst []):=aF;generalize upd GA qB (HO.lst [])=GB at sB cg bg ar am ag ad Y O ⊢;have sC:=aI (o:=HO.dK []) bg;have cq:upd GB qC (HO.dK []) qC=some (HO.dK []):=aF;generalize upd GB qC (HO.dK [])=GC at sC cq ar am ag ad Y O ⊢;have sD:=aI (o:=HO.tup []) ar;have b4:upd GC qD (HO.tup []) qD=some (HO.tup []):=aF;generalize upd GC qD (HO.tup [])=GD at sD b4 am ag ad Y O ⊢;have sE:=aI (o:=HO.tup [V.ref qD]) am;have cf:upd GD qE (HO.tup [V.ref qD]) qE=some (HO.tup [V.ref qD]):=aF;generalize upd GD qE (HO.tup [V.ref qD])=GE at sE cf ag ad Y O ⊢;have sF:=aI (o:=HO.tup [V.str "alone"]) ag;have ck:upd GE qF (HO.tup [V.str "alone"]) qF=some (HO.tup [V.str "alone"]):=aF;generalize upd GE qF (HO.tup [V.str "alone"])=GF at sF ck ad Y O ⊢;have sG:=aI (o:=HO.lst [V.str "alone"]) ad;have cm:upd GF qG (HO.lst [V.str "alone"]) qG=some (HO.lst [V.str "alone"]):=aF;generalize upd GF qG (HO.lst [V.str "alone"])=GG at sG cm Y O ⊢;have sH:=aI (o:=HO.tup [V.ref qG,.str "a",.int 0,.str "b"]) Y;have b6:upd GG qH (HO.tup [V.ref qG,.str "a",.int 0,.str "b"]) qH=some (HO.tup [V.ref qG,.str "a",.int 0,.str "b"]):=aF
  generalize upd GG qH (HO.tup [V.ref qG,.str "a",.int 0,.str "b"])=GH at sH b6  O ⊢;have sI:aV GH (upd (upd GH qI (.dK [])) qI (.dK (diK [("alone",1)]))):=fun b o e=>by
   rw[bD (bG e O),bD (bG e O)];exact e
  refine⟨aF,diK [("alone",1)],rfl,by decide,?_⟩;rw[show i4 [] (diK [("alone",1)])=diK [("alone",1)] from rfl];have cw:upd (upd GH qI (.dK [])) qI (.dK (diK [("alone",1)])) qI=some _:=aF;generalize upd (upd GH qI (.dK [])) qI (.dK (diK [("alone",1)]))=GI at sI cw ⊢;refine⟨aJp,fun L hL=>?_⟩;have an:∀{j:Nat} {H':Hp},Ths j H' []:=fun v J=>by cases J
  have sd:∀{j:Nat} {H':Hp} {z:Str},A1 z=true->z.length<=10->Th j H' (.str z):=fun h1 h2=>.str h1 h2;have T1:Ths 5 GI [V.non,.bl true,.int 7,.str "",.str "alone a 0 b",.ref qA,.ref qB,.ref qC,.ref qE,.ref qF,.ref qH,.ref qI]:=fun v J=>by
   simp only[Am,An,or_false]at J;rcases J with rfl|rfl|rfl|rfl|rfl|rfl|rfl|rfl|rfl|rfl|rfl|rfl
   .exact .non
   .exact .bl _
   .exact .int (by decide) (by decide)
   .exact sd (by decide) (by decide)
   .exact .txt (by decide) (by decide)
   .exact .tup ((((sB.trans sC).trans (sD.trans sE)).trans ((sF.trans sG).trans (sH.trans sI))) _ _ cj) an (Bx _)
   .exact .lst (((sC.trans (sD.trans sE)).trans ((sF.trans sG).trans (sH.trans sI))) _ _ cg) nB an (Bx _)
   .exact .dct (ks:=[]) (by decide) (((sD.trans sE).trans ((sF.trans sG).trans (sH.trans sI))) _ _ cq) aBv
   .refine .tup (((sF.trans sG).trans (sH.trans sI)) _ _ cf) (.one (.tup ((sE.trans ((sF.trans sG).trans (sH.trans sI))) _ _ b4) (n:=3) an (Bx _))) (show 1<=8 by decide)
   .exact .tup ((sG.trans (sH.trans sI)) _ _ ck) (.one (sd (by decide) (by decide))) (show 1<=8 by decide)
   .refine .tup (sI _ _ b6) (fun v J=>?_) (show 4<=8 by decide);simp only[Am,An,or_false]at J;rcases J with rfl|rfl|rfl|rfl
    .exact .lst ((sH.trans sI) _ _ cm) nG (n:=3) (.one (sd (by decide) (by decide))) (show 1<=7 by decide)
    .exact sd (by decide) (by decide)
    .exact .int (by decide) (by decide)
    .exact sd (by decide) (by decide)
   .exact .dct (by decide) cw aHY
  have sL:=aI (o:=.lst [V.non,.bl true,.int 7,.str "",.str "alone a 0 b",.ref qA,.ref qB,.ref qC,.ref qE,.ref qF,.ref qH,.ref qI]) hL;have eL:upd GI L (.lst [V.non,.bl true,.int 7,.str "",.str "alone a 0 b",.ref qA,.ref qB,.ref qC,.ref qE,.ref qF,.ref qH,.ref qI]) L=some _:=aF;have T2:=T1.same sL;generalize upd GI L _=GL at sL eL T2 ⊢;generalize ei:[V.non,.bl true,.int 7,.str "",.str "alone a 0 b",.ref qA,.ref qB,.ref qC,.ref qE,.ref qF,.ref qH,.ref qI]=bx at T2 eL;have lx:bx.length=12:=by rw[<- ei];rfl
  dsimp only[cF];refine⟨_,rfl,zZ5,fun qJ db=>fun qK bt=>?_⟩;have sJ:=aI (o:=.tup [V.str "join",.str "a",.int 0,.str "bc",.str "d"]) db;have eJ:upd GL qJ (.tup [V.str "join",.str "a",.int 0,.str "bc",.str "d"]) qJ=some _:=aF;generalize upd GL qJ (.tup [V.str "join",.str "a",.int 0,.str "bc",.str "d"])=GJ at sJ eJ bt ⊢;have sK:aV GJ (upd (upd GJ qK (.dK [])) qK (.dK (diK [("b",1),("c",2)]))):=fun b o e=>by
   rw[bD (bG e bt),bD (bG e bt)];exact e
  refine⟨aF,diK [("b",1),("c",2)],rfl,by decide,?_⟩;rw[show i4 [] (diK [("b",1),("c",2)])=diK [("b",1),("c",2)] from rfl];have eK:upd (upd GJ qK (.dK [])) qK (.dK (diK [("b",1),("c",2)])) qK=some _:=aF;generalize upd (upd GJ qK (.dK [])) qK (.dK (diK [("b",1),("c",2)]))=GK at sK eK ⊢;refine⟨zZ5,fun qM de=>?_⟩;have sM:=aI (o:=.tup [V.str "join",.str "a",.int 0,.ref qK,.str "d"]) de;have eM:upd GK qM (.tup [V.str "join",.str "a",.int 0,.ref qK,.str "d"]) qM=some _:=aF;generalize upd GK qM (.tup [V.str "join",.str "a",.int 0,.ref qK,.str "d"])=GM at sM eM ⊢;have cu:=sJ.trans (sK.trans sM);have TM:Ths 5 GM (bx++[V.ref qJ,.ref qM]):=(T2.same cu).app fun v J=>by
   simp only[Am,An,or_false]at J;rcases J with rfl|rfl
   .refine .tup ((sK.trans sM) _ _ eJ) (fun v J=>?_) (show 5<=8 by decide);simp only[Am,An,or_false]at J;rcases J with rfl|rfl|rfl|rfl|rfl
    .exact sd (by decide) (by decide)
    .exact sd (by decide) (by decide)
    .exact .int (by decide) (by decide)
    .exact sd (by decide) (by decide)
    .exact sd (by decide) (by decide)
   .refine .tup eM (fun v J=>?_) (show 5<=8 by decide);simp only[Am,An,or_false]at J;rcases J with rfl|rfl|rfl|rfl|rfl
    .exact sd (by decide) (by decide)
    .exact sd (by decide) (by decide)
    .exact .int (by decide) (by decide)
    .exact .dct (by decide) (sM _ _ eK) aGv
    .exact sd (by decide) (by decide)
  refine aDp (cu _ _ eL) (by rw[lx];show 12+2<=100;decide) fun L3 G2 s2 du aq=>?_;generalize dm:bx++[V.ref qJ,.ref qM]=W at aq TM;have ek:W.length=14:=by rw[<- dm,Al,lx];rfl
  dsimp only[cF];refine⟨_,rfl,.inl ⟨rfl,_,bB aq⟩,zZ5,fun qN av nN=>⟨L3,_,_,rfl,rfl,aI av _ _ aq,AR (show W.length<15 by omega) (aH (by decide)),?_⟩⟩;have sN:=aI (o:=.lst [V.str "join",.str "a",.int 0,.str "bcd",.str "e"]) av;have d5:qN≠L3:=fun z=>by rw[z,aq]at av;cases av
  have sF:aV GM (upd (upd G2 qN (.lst [V.str "join",.str "a",.int 0,.str "bcd",.str "e"])) L3 (.lst (W++[V.ref qN]))):=fun b o e=>by
   rw[bD (bG e du)];exact(s2.trans sN) _ _ e
  have TF:Ths 5 (upd (upd G2 qN (.lst [V.str "join",.str "a",.int 0,.str "bcd",.str "e"])) L3 (.lst (W++[V.ref qN]))) (W++[V.ref qN]):=by
   refine(TM.same sF).app (.one ?_);refine .lst (xs:=[V.str "join",.str "a",.int 0,.str "bcd",.str "e"]) (by rw[bD d5];exact aF) nN (n:=4) (fun v J=>?_) (show 5<=8 by decide);simp only[Am,An,or_false]at J;rcases J with rfl|rfl|rfl|rfl|rfl
   .exact sd (by decide) (by decide)
   .exact sd (by decide) (by decide)
   .exact .int (by decide) (by decide)
   .exact sd (by decide) (by decide)
   .exact sd (by decide) (by decide)
  have eF:upd (upd G2 qN (.lst [V.str "join",.str "a",.int 0,.str "bcd",.str "e"])) L3 (.lst (W++[V.ref qN])) L3=some (.lst (W++[V.ref qN])):=aF;generalize upd (upd G2 qN (.lst [V.str "join",.str "a",.int 0,.str "bcd",.str "e"])) L3 (.lst (W++[V.ref qN]))=HF at TF eF ⊢;generalize dg:W++[V.ref qN]=au at TF eF;have gr:au.length=15:=by rw[<- dg,Al,ek];rfl
  refine⟨_,rfl,L3,rfl,⟨_,bB eF⟩,?_⟩;refine iH (K:=K) (xs:=au) (fun i ys σ H'=>aV HF H'/\ys=Bm i (V.bl true)/\∃ o,σ=[o]) ⟨aV.refl _,rfl,none,rfl⟩ (aH (by omega)) (fun i ys σ H' p=>by rw[p.2.1,List.length_replicate];exact Ak _) (fun i ys σ H' p=>bB (p.1 _ _ eF)) ?_ ?_
  .rintro i v ys σ H5 J ⟨s5,rfl,o,rfl⟩;obtain⟨e,re,be⟩:=TF v (AH J);dsimp only[cF];refine cG ?_;refine⟨_,rfl,v,e,rfl,re.same s5,be,fun H6 s6=>⟨s5.trans s6,?_,_,rfl⟩⟩;rw[List.replicate_succ']
  rintro ys σ H5 ⟨s5,rfl,o,rfl⟩ D hD;refine⟨D,Bm au.length true,rfl,bB (by rw[aF,List.map_replicate]),?_⟩;rw[show(Bm au.length true).all id=true by rw[List.all_replicate];simp];exact k _
def fmV(g0 g1 g2 g3 g4 g5 g6 g7:Ah):List (Key×V):=[(AL "part",.ref g0),(AL "join",.ref g1),(AL "forfeit",.ref g2),(AL "measure",.ref g3),(AL "mend",.ref g4),(AL "alone",.ref g5),(AL "breach",.ref g6),(AL "view",.ref g7)]
def fmR(g0 g1 g2 g3 g4 g5 g6 g7:Ah):List (Key×Ab):=[(AL "part",.ref g0),(AL "join",.ref g1),(AL "forfeit",.ref g2),(AL "measure",.ref g3),(AL "mend",.ref g4),(AL "alone",.ref g5),(AL "breach",.ref g6),(AL "view",.ref g7)]
theorem aH1(Z z D W B J O Y:Ah):KV (fmV Z z D W B J O Y) (fmR Z z D W B J O Y):=.cons ⟨rfl,rfl⟩ (.cons ⟨rfl,rfl⟩ (.cons ⟨rfl,rfl⟩ (.cons ⟨rfl,rfl⟩ (.cons ⟨rfl,rfl⟩ (.cons ⟨rfl,rfl⟩ (.cons ⟨rfl,rfl⟩ (.cons ⟨rfl,rfl⟩ (.nil))))))))
theorem hU(w:AQ)(s:Str):Bv w.params s=aGX w (AL s):=by
 first|rfl|(unfold aGX hashStr Bv;rfl)
theorem isS(s:Str)(t:Tok):rK (AL s) (.str s t)=true:=by
 show EW s (.str s t)=true;simp[EW]
theorem aGw{P:Ar}{w:AQ}{K:Af}{a:Ah}{e:Nat}{D Z O W J z B Y:Tok}{g0 g1 g2 g3 g4 g5 g6 g7:Ah}(l:K.lookup a=some { cls:=.type "dict",data:=.dict #[⟨Bv w.params "part",.str "part" D,.ref g0⟩,⟨Bv w.params "join",.str "join" Z,.ref g1⟩,⟨Bv w.params "forfeit",.str "forfeit" O,.ref g2⟩,⟨Bv w.params "measure",.str "measure" W,.ref g3⟩,⟨Bv w.params "mend",.str "mend" J,.ref g4⟩,⟨Bv w.params "alone",.str "alone" z,.ref g5⟩,⟨Bv w.params "breach",.str "breach" B,.ref g6⟩,⟨Bv w.params "view",.str "view" Y,.ref g7⟩] e }):∀ h:A8,K.In h->h.DictOf (dE P w) a (fmR g0 g1 g2 g3 g4 g5 g6 g7):=by
 intro h hK;refine⟨_,_,_,hK _ _ l,⟨rfl,rfl,rfl⟩,rfl,?_,?_,?_⟩
 .intro en he;simp only[List.mem_toArray,Am,An,or_false]at he;rcases he with rfl|rfl|rfl|rfl|rfl|rfl|rfl|rfl
  .exact⟨AL "part",isS "part" D,hU w "part"⟩
  .exact⟨AL "join",isS "join" Z,hU w "join"⟩
  .exact⟨AL "forfeit",isS "forfeit" O,hU w "forfeit"⟩
  .exact⟨AL "measure",isS "measure" W,hU w "measure"⟩
  .exact⟨AL "mend",isS "mend" J,hU w "mend"⟩
  .exact⟨AL "alone",isS "alone" z,hU w "alone"⟩
  .exact⟨AL "breach",isS "breach" B,hU w "breach"⟩
  .exact⟨AL "view",isS "view" Y,hU w "view"⟩
 .exact .cons (isS "part" D) rfl (.cons (isS "join" Z) rfl (.cons (isS "forfeit" O) rfl (.cons (isS "measure" W) rfl (.cons (isS "mend" J) rfl (.cons (isS "alone" z) rfl (.cons (isS "breach" B) rfl (.cons (isS "view" Y) rfl (.nil))))))))
 .show([AL "part",AL "join",AL "forfeit",AL "measure",AL "mend",AL "alone",AL "breach",AL "view"]:List Key).Nodup;decide
theorem aGW(g0 Z g2 g3 g4 g5 g6 g7:Ah)(kind:Str):gQ (fmV g0 Z g2 g3 g4 g5 g6 g7) (AL kind)=if kind="part" then some (.ref g0) else if kind="join" then some (.ref Z) else if kind="forfeit" then some (.ref g2) else if kind="measure" then some (.ref g3) else if kind="mend" then some (.ref g4) else if kind="alone" then some (.ref g5) else if kind="breach" then some (.ref g6) else if kind="view" then some (.ref g7) else none:=by
 unfold fmV;by_cases Y:kind="part"
 .rw[Ib Y];subst Y;rfl
 rw[dO (show¬ (AL "part":Key)=AL kind from fun z=>Y (by injection z with z;exact z.symm)),Ia Y];by_cases h1:kind="join"
 .rw[Ib h1];subst h1;rfl
 rw[dO (show¬ (AL "join":Key)=AL kind from fun z=>h1 (by injection z with z;exact z.symm)),Ia h1];by_cases h2:kind="forfeit"
 .rw[Ib h2];subst h2;rfl
 rw[dO (show¬ (AL "forfeit":Key)=AL kind from fun z=>h2 (by injection z with z;exact z.symm)),Ia h2];by_cases B:kind="measure"
 .rw[Ib B];subst B;rfl
 rw[dO (show¬ (AL "measure":Key)=AL kind from fun z=>B (by injection z with z;exact z.symm)),Ia B];by_cases J:kind="mend"
 .rw[Ib J];subst J;rfl
 rw[dO (show¬ (AL "mend":Key)=AL kind from fun z=>J (by injection z with z;exact z.symm)),Ia J];by_cases O:kind="alone"
 .rw[Ib O];subst O;rfl
 rw[dO (show¬ (AL "alone":Key)=AL kind from fun z=>O (by injection z with z;exact z.symm)),Ia O];by_cases W:kind="breach"
 .rw[Ib W];subst W;rfl
 rw[dO (show¬ (AL "breach":Key)=AL kind from fun z=>W (by injection z with z;exact z.symm)),Ia W];by_cases D:kind="view"
 .rw[Ib D];subst D;rfl
 rw[dO (show¬ (AL "view":Key)=AL kind from fun z=>D (by injection z with z;exact z.symm)),Ia D];rfl
theorem aIR(g0 Y g2 g3 Z g5 g6 g7:Ah)(kind:Str):(gQ (fmV g0 Y g2 g3 Z g5 g6 g7) (AL kind)).isSome=decide (kind∈dH):=by
 rw[aGW];simp only[dH,Am,An,or_false];by_cases W:kind="part"
 .rw[Ib W,Ic (by simp[W])];rfl
 rw[Ia W];by_cases h1:kind="join"
 .rw[Ib h1,Ic (by simp[h1])];rfl
 rw[Ia h1];by_cases h2:kind="forfeit"
 .rw[Ib h2,Ic (by simp[h2])];rfl
 rw[Ia h2];by_cases z:kind="measure"
 .rw[Ib z,Ic (by simp[z])];rfl
 rw[Ia z];by_cases D:kind="mend"
 .rw[Ib D,Ic (by simp[D])];rfl
 rw[Ia D];by_cases J:kind="alone"
 .rw[Ib J,Ic (by simp[J])];rfl
 rw[Ia J];by_cases O:kind="breach"
 .rw[Ib O,Ic (by simp[O])];rfl
 rw[Ia O];by_cases B:kind="view"
 .rw[Ib B,Ic (by simp[B])];rfl
 rw[Ia B];rw[Ie (by simp[W,h1,h2,z,D,J,O,B])];rfl
theorem aIS{P:Ar}{w:AQ}{K:Af}{mg:Str->Option Ab}{base:A8}{D O z Z W B Y J:Ah}{d0:AC}(G0:cN P w K mg base CX0 6 D d0 ["rest"] (fG aAr))(k0:Az K (.ref D)=true)(b0:dX K d0 ["rest"] []){d1:AC}(G1:cN P w K mg base CX0 6 O d1 ["rest"] (fG wK))(k1:Az K (.ref O)=true)(b1:dX K d1 ["rest"] []){d2:AC}(G2:cN P w K mg base CX0 6 z d2 ["rest"] (fG fT))(k2:Az K (.ref z)=true)(b2:dX K d2 ["rest"] []){d3:AC}(G3:cN P w K mg base CX0 6 Z d3 ["rest"] (fG iR))(k3:Az K (.ref Z)=true)(b3:dX K d3 ["rest"] []){d4:AC}(G4:cN P w K mg base CX0 6 W d4 ["rest"] (fG lE))(k4:Az K (.ref W)=true)(b4:dX K d4 ["rest"] []){d5:AC}(G5:cN P w K mg base CX0 6 B d5 ["rest"] (fG lD))(k5:Az K (.ref B)=true)(b5:dX K d5 ["rest"] []){d6:AC}(G6:cN P w K mg base CX0 6 Y d6 ["rest"] (fG gK))(k6:Az K (.ref Y)=true)(b6:dX K d6 ["rest"] []){d7:AC}(G7:cN P w K mg base CX0 6 J d7 ["rest"] (fG lA))(k7:Az K (.ref J)=true)(b7:dX K d7 ["rest"] []):
  ∀(kind:Str) (v:V),gQ (fmV D O z Z W B Y J) (AL kind)=some v->∃(a:Ah) (fd:AC),v=.ref a/\cN P w K mg base CX0 6 a fd ["rest"] (fG (dI kind))/\Az K (.ref a)=true/\dX K fd ["rest"] []:=by
 intro kind v h;rw[aGW]at h;by_cases h0:kind="part"
 .rw[Ib h0]at h;cases h;subst h0;have e:dI "part"=aAr:=by funext ds;unfold dI;rw[Ib rfl]
  exact⟨D,d0,rfl,by rw[e];exact G0,k0,b0⟩
 rw[Ia h0]at h;by_cases h1:kind="join"
 .rw[Ib h1]at h;cases h;subst h1;have e:dI "join"=wK:=by funext ds;unfold dI;rw[Ia (by decide),Ib rfl]
  exact⟨O,d1,rfl,by rw[e];exact G1,k1,b1⟩
 rw[Ia h1]at h;by_cases h2:kind="forfeit"
 .rw[Ib h2]at h;cases h;subst h2;have e:dI "forfeit"=fT:=by funext ds;unfold dI;rw[Ia (by decide),Ia (by decide),Ib rfl]
  exact⟨z,d2,rfl,by rw[e];exact G2,k2,b2⟩
 rw[Ia h2]at h;by_cases h3:kind="measure"
 .rw[Ib h3]at h;cases h;subst h3;have e:dI "measure"=iR:=by funext ds;unfold dI;rw[Ia (by decide),Ia (by decide),Ia (by decide),Ib rfl]
  exact⟨Z,d3,rfl,by rw[e];exact G3,k3,b3⟩
 rw[Ia h3]at h;by_cases h4:kind="mend"
 .rw[Ib h4]at h;cases h;subst h4;have e:dI "mend"=lE:=by funext ds;unfold dI;rw[Ia (by decide),Ia (by decide),Ia (by decide),Ia (by decide),Ib rfl]
  exact⟨W,d4,rfl,by rw[e];exact G4,k4,b4⟩
 rw[Ia h4]at h;by_cases h5:kind="alone"
 .rw[Ib h5]at h;cases h;subst h5;have e:dI "alone"=lD:=by funext ds;unfold dI;rw[Ia (by decide),Ia (by decide),Ia (by decide),Ia (by decide),Ia (by decide),Ib rfl]
  exact⟨B,d5,rfl,by rw[e];exact G5,k5,b5⟩
 rw[Ia h5]at h;by_cases h6:kind="breach"
 .rw[Ib h6]at h;cases h;subst h6;have e:dI "breach"=gK:=by funext ds;unfold dI;rw[Ia (by decide),Ia (by decide),Ia (by decide),Ia (by decide),Ia (by decide),Ia (by decide),Ib rfl]
  exact⟨Y,d6,rfl,by rw[e];exact G6,k6,b6⟩
 rw[Ia h6]at h;by_cases h7:kind="view"
 .rw[Ib h7]at h;cases h;subst h7;have e:dI "view"=lA:=by funext ds;unfold dI;rw[Ia (by decide),Ia (by decide),Ia (by decide),Ia (by decide),Ia (by decide),Ia (by decide),Ia (by decide)]
  exact⟨J,d7,rfl,by rw[e];exact G7,k7,b7⟩
 rw[Ia h7]at h;cases h
inductive aIT(K:Af)(n:Str)(st:BQ):Prop
 | mk (f:_) (q0:AB K mainGlobals n=some (some (.ref f))) (q1:(∃ oc od kV dc pm an cd ct sl,K.lookup f=some ⟨oc,od,.func (BJ n n (fE st) (d9 st) (aM st) .none kV dc pm an cd ct),sl⟩/\BP K cd n=true)) (q2:Az K (.ref f)=true):aIT K n st
def Dx(K:Af)(n:Str)(st:BQ):Prop:=aIT K n st
theorem cU{K:Af}{h:A8}{mg:Str->Option Ab}{n:Str}{st:BQ}(d:Dx K n st)(X:K.In h)(G:h.Ns mainGlobals mg):∃ f fd,Fun K n n st f fd/\mg n=some (.ref f)/\Az K (.ref f)=true:=by
 obtain⟨f,a,⟨_,_,_,_,_,_,_,_,_,l,c⟩,k⟩:=d;exact⟨f,_,i5 l c k,AO X G a,k⟩
theorem all_mk{l:Fg}{w:AQ}{K:Af}{h:A8}{mg:Str->Option Ab}{fa:Ah}(X:K.In h)(G:h.Ns mainGlobals mg)(hfa:mg "law"=some (.ref fa))
  {fF0:Ah} {odF0 anF0:Option Ah} {slF0:Array (Option Ab)} {ocF0 kVF0 dcF0 pmF0 cdF0 ctF0:Ab} {fF1:Ah} {odF1 anF1:Option Ah} {slF1:Array (Option Ab)} {ocF1 kVF1 dcF1 pmF1 cdF1 ctF1:Ab} {fF2:Ah} {odF2 anF2:Option Ah} {slF2:Array (Option Ab)} {ocF2 kVF2 dcF2 pmF2 cdF2 ctF2:Ab} {fF3:Ah} {odF3 anF3:Option Ah} {slF3:Array (Option Ab)} {ocF3 kVF3 dcF3 pmF3 cdF3 ctF3:Ab} {fF4:Ah} {odF4 anF4:Option Ah} {slF4:Array (Option Ab)} {ocF4 kVF4 dcF4 pmF4 cdF4 ctF4:Ab} {fF5:Ah} {odF5 anF5:Option Ah} {slF5:Array (Option Ab)} {ocF5 kVF5 dcF5 pmF5 cdF5 ctF5:Ab} {fF6:Ah} {odF6 anF6:Option Ah} {slF6:Array (Option Ab)} {ocF6 kVF6 dcF6 pmF6 cdF6 ctF6:Ab} {fF7:Ah} {odF7 anF7:Option Ah} {slF7:Array (Option Ab)} {ocF7 kVF7 dcF7 pmF7 cdF7 ctF7:Ab} {fL:Ah} {odL anL:Option Ah} {slL:Array (Option Ab)} {ocL kVL dcL pmL cdL ctL:Ab}
  {t_LONGEST:Tok}
  {t_LAST_DAY:Tok}
  {t_FEWEST_LANDS:Tok}
  {t_MOST_LANDS:Tok}
  {t_MOST_PART_ACRES:Tok}
  {t_MOST_INCHES:Tok}
  {t_MOST_PENCE:Tok}
  {t_MOST_SPADES:Tok}
  {t_ROW_DEPTH:Tok}
  {t_FORMS:Ah} {eF:Nat} {xk0 xk1 xk2 xk3 xk4 xk5 xk6 xk7:Tok}
  {cDykeError cClash cNoBreach cNoField cNoInch cNoMend cNoName cNoOrder cNoRoll cNoText cNoThen cTooMany cTwice cNoRow:Ah}
  (aDykeError:AB K mainGlobals "DykeError"=some (some (.ref cDykeError)))
  (aClash:AB K mainGlobals "Clash"=some (some (.ref cClash)))
  (aNoBreach:AB K mainGlobals "NoBreach"=some (some (.ref cNoBreach)))
  (aNoField:AB K mainGlobals "NoField"=some (some (.ref cNoField)))
  (aNoInch:AB K mainGlobals "NoInch"=some (some (.ref cNoInch)))
  (aNoMend:AB K mainGlobals "NoMend"=some (some (.ref cNoMend)))
  (aNoName:AB K mainGlobals "NoName"=some (some (.ref cNoName)))
  (aNoOrder:AB K mainGlobals "NoOrder"=some (some (.ref cNoOrder)))
  (aNoRoll:AB K mainGlobals "NoRoll"=some (some (.ref cNoRoll)))
  (aNoText:AB K mainGlobals "NoText"=some (some (.ref cNoText)))
  (aNoThen:AB K mainGlobals "NoThen"=some (some (.ref cNoThen)))
  (aTooMany:AB K mainGlobals "TooMany"=some (some (.ref cTooMany)))
  (aTwice:AB K mainGlobals "Twice"=some (some (.ref cTwice)))
  (aNoRow:AB K mainGlobals "NoRow"=some (some (.ref cNoRow)))
  (zxNoRow:PySem.W.excIn K cNoRow [.type "ValueError",.type "Exception",.type "BaseException",.type "object"] "ValueError.__new__"=true) (zeNoRow:PySem.W.exmOne K (.ref cNoRow) (.ref cDykeError)=some true)
  (zfNoRow:aDn K cNoRow [cNoRow] [true] [cClash,cNoBreach,cNoField,cNoInch,cNoMend,cNoName,cNoOrder,cNoRoll,cNoText,cNoThen]=true) (zgNoRow:aDn K cNoRow [cNoRow] [true] [cTooMany,cTwice]=true)
  (aF0:AB K mainGlobals "fits_part"=some (some (.ref fF0))) (lF0:K.lookup fF0=some ⟨ocF0,odF0,.func (BJ "fits_part" "fits_part" (fE pM) (d9 pM) (aM pM) .none kVF0 dcF0 pmF0 anF0 cdF0 ctF0),slF0⟩) (cF0:BP K cdF0 "fits_part"=true) (kF0:Az K (.ref fF0)=true)
  (aF1:AB K mainGlobals "fits_join"=some (some (.ref fF1))) (lF1:K.lookup fF1=some ⟨ocF1,odF1,.func (BJ "fits_join" "fits_join" (fE pN) (d9 pN) (aM pN) .none kVF1 dcF1 pmF1 anF1 cdF1 ctF1),slF1⟩) (cF1:BP K cdF1 "fits_join"=true) (kF1:Az K (.ref fF1)=true)
  (aF2:AB K mainGlobals "fits_forfeit"=some (some (.ref fF2))) (lF2:K.lookup fF2=some ⟨ocF2,odF2,.func (BJ "fits_forfeit" "fits_forfeit" (fE iI) (d9 iI) (aM iI) .none kVF2 dcF2 pmF2 anF2 cdF2 ctF2),slF2⟩) (cF2:BP K cdF2 "fits_forfeit"=true) (kF2:Az K (.ref fF2)=true)
  (aF3:AB K mainGlobals "fits_measure"=some (some (.ref fF3))) (lF3:K.lookup fF3=some ⟨ocF3,odF3,.func (BJ "fits_measure" "fits_measure" (fE iJ) (d9 iJ) (aM iJ) .none kVF3 dcF3 pmF3 anF3 cdF3 ctF3),slF3⟩) (cF3:BP K cdF3 "fits_measure"=true) (kF3:Az K (.ref fF3)=true)
  (aF4:AB K mainGlobals "fits_mend"=some (some (.ref fF4))) (lF4:K.lookup fF4=some ⟨ocF4,odF4,.func (BJ "fits_mend" "fits_mend" (fE pO) (d9 pO) (aM pO) .none kVF4 dcF4 pmF4 anF4 cdF4 ctF4),slF4⟩) (cF4:BP K cdF4 "fits_mend"=true) (kF4:Az K (.ref fF4)=true)
  (aF5:AB K mainGlobals "fits_alone"=some (some (.ref fF5))) (lF5:K.lookup fF5=some ⟨ocF5,odF5,.func (BJ "fits_alone" "fits_alone" (fE lT) (d9 lT) (aM lT) .none kVF5 dcF5 pmF5 anF5 cdF5 ctF5),slF5⟩) (cF5:BP K cdF5 "fits_alone"=true) (kF5:Az K (.ref fF5)=true)
  (aF6:AB K mainGlobals "fits_breach"=some (some (.ref fF6))) (lF6:K.lookup fF6=some ⟨ocF6,odF6,.func (BJ "fits_breach" "fits_breach" (fE jN) (d9 jN) (aM jN) .none kVF6 dcF6 pmF6 anF6 cdF6 ctF6),slF6⟩) (cF6:BP K cdF6 "fits_breach"=true) (kF6:Az K (.ref fF6)=true)
  (aF7:AB K mainGlobals "fits_view"=some (some (.ref fF7))) (lF7:K.lookup fF7=some ⟨ocF7,odF7,.func (BJ "fits_view" "fits_view" (fE pP) (d9 pP) (aM pP) .none kVF7 dcF7 pmF7 anF7 cdF7 ctF7),slF7⟩) (cF7:BP K cdF7 "fits_view"=true) (kF7:Az K (.ref fF7)=true)
  (aL:AB K mainGlobals "law"=some (some (.ref fL))) (lL:K.lookup fL=some ⟨ocL,odL,.func (BJ "law" "law" (fE vH) (d9 vH) (aM vH) .none kVL dcL pmL anL cdL ctL),slL⟩) (cL:BP K cdL "law"=true) (kL:Az K (.ref fL)=true)
  (z_isinstance:AB K mainGlobals "isinstance"=some none)
  (z_str:AB K mainGlobals "str"=some none)
  (z_len:AB K mainGlobals "len"=some none)
  (z_all:AB K mainGlobals "all"=some none)
  (z_int:AB K mainGlobals "int"=some none)
  (z_bool:AB K mainGlobals "bool"=some none)
  (z_tuple:AB K mainGlobals "tuple"=some none)
  (z_set:AB K mainGlobals "set"=some none)
  (z_list:AB K mainGlobals "list"=some none)
  (z_sorted:AB K mainGlobals "sorted"=some none)
  (z_abs:AB K mainGlobals "abs"=some none)
  (z_range:AB K mainGlobals "range"=some none)
  (z_min:AB K mainGlobals "min"=some none)
  (z_repr:AB K mainGlobals "repr"=some none)
  (z_ValueError:AB K mainGlobals "ValueError"=some none)
  (q_LONGEST:AB K mainGlobals "LONGEST"=some (some (.int 8 t_LONGEST)))
  (q_LAST_DAY:AB K mainGlobals "LAST_DAY"=some (some (.int 9999 t_LAST_DAY)))
  (q_FEWEST_LANDS:AB K mainGlobals "FEWEST_LANDS"=some (some (.int 2 t_FEWEST_LANDS)))
  (q_MOST_LANDS:AB K mainGlobals "MOST_LANDS"=some (some (.int 6 t_MOST_LANDS)))
  (q_MOST_PART_ACRES:AB K mainGlobals "MOST_PART_ACRES"=some (some (.int 10000000 t_MOST_PART_ACRES)))
  (q_MOST_INCHES:AB K mainGlobals "MOST_INCHES"=some (some (.int 10000000 t_MOST_INCHES)))
  (q_MOST_PENCE:AB K mainGlobals "MOST_PENCE"=some (some (.int 1000000000 t_MOST_PENCE)))
  (q_MOST_SPADES:AB K mainGlobals "MOST_SPADES"=some (some (.int 1000000 t_MOST_SPADES)))
  (q_ROW_DEPTH:AB K mainGlobals "ROW_DEPTH"=some (some (.int 3 t_ROW_DEPTH)))
  (q_FORMS:AB K mainGlobals "FORMS"=some (some (.ref t_FORMS)))
  (lFm:K.lookup t_FORMS=some { cls:=.type "dict",data:=.dict #[⟨Bv w.params "part",.str "part" xk0,.ref fF0⟩,⟨Bv w.params "join",.str "join" xk1,.ref fF1⟩,⟨Bv w.params "forfeit",.str "forfeit" xk2,.ref fF2⟩,⟨Bv w.params "measure",.str "measure" xk3,.ref fF3⟩,⟨Bv w.params "mend",.str "mend" xk4,.ref fF4⟩,⟨Bv w.params "alone",.str "alone" xk5,.ref fF5⟩,⟨Bv w.params "breach",.str "breach" xk6,.ref fF6⟩,⟨Bv w.params "view",.str "view" xk7,.ref fF7⟩] eF }) (hzF:(t_FORMS==sysModules)=false)
  (zIN:Dx K "is_name" qU)
  (zNB:Dx K "is_number" pK)
  (zIW:Dx K "is_whole" uF)
  (zRI:Dx K "is_rising" qV)
  (zPT:Dx K "is_part" xW)
  (zAP:Dx K "all_parts" lQ)
  (zAN:Dx K "all_names" lR)
  (zRP:Dx K "are_parts" lS)
  (zRL:Dx K "are_lands" pL)
  (zIC:Dx K "is_inch" xX)
  (zIR:Dx K "is_row" aBb)
  (zAT:Dx K "as_tuples" kY)
  (zIO:Dx K "in_order" uG)
  (zRO:Dx K "row_of" xY)
  (zP:Dx K "_law_pen" aHt)
  (zT:Dx K "_law_take" aBZ)
  (zN:Dx K "_law_names" xZ)
  (zSo:Dx K "_law_sorts" aBc)
  (zNu:Dx K "_law_number" x8)
  (zSm:Dx K "_law_some" aB0)
  (zRo:Dx K "_law_row_of" x9)
  (zSa:Dx K "_law_same" aBd)
  (zlN:Dx K "_law_is_name" kZ)
  (zlW:Dx K "_law_whole" yA)
  (zlP:Dx K "_law_is_part" uH)
  (zlR:Dx K "_law_rise" uI)
  (zlL:Dx K "_law_is_placed" uJ)
  (zlI:Dx K "_law_is_row" yB)
  (zMa:Dx K "_law_made" wG)
  (zOd:Dx K "_law_odd" aHu)
  (zFa:Dx K "_law_far" aHv)
  (zBP:Dx K "_law_bent_parts" aBe)
  (zSi:Dx K "_law_with_sign" aB1)
  (zBe:Dx K "_law_bent" aB2)
  (zTu:Dx K "_law_turned" qW)
  (zLi:Dx K "_law_listed" qX)
  (zH:Dx K "_law_heard" aBf)
  (zR:Dx K "_law_right" yC)
  :∃ fd:AC,(∀(s:Ac) (v:Ab),FC s fd ⟨[v],[]⟩ [("_law_script",v)])/\∀ base:A8,K.In base->base.Ns mainGlobals mg->cN l.prog w K mg base CX0 11 fa fd ["_law_script"] (aCx K):=by
 have e:=hfa.symm.trans (AO X G aL);cases e;have FF0:=i5 (st:=pM) lF0 cF0 kF0;have mF0:=AO X G aF0;have bF0:=FF0.binds (ps:=["rest"]) fun _ _ _ _ _ _ us hl=>by obtain⟨_,rfl⟩:=gD hl;rfl
 have FF1:=i5 (st:=pN) lF1 cF1 kF1;have mF1:=AO X G aF1;have bF1:=FF1.binds (ps:=["rest"]) fun _ _ _ _ _ _ us hl=>by obtain⟨_,rfl⟩:=gD hl;rfl
 have FF2:=i5 (st:=iI) lF2 cF2 kF2;have mF2:=AO X G aF2;have bF2:=FF2.binds (ps:=["rest"]) fun _ _ _ _ _ _ us hl=>by obtain⟨_,rfl⟩:=gD hl;rfl
 have FF3:=i5 (st:=iJ) lF3 cF3 kF3;have mF3:=AO X G aF3;have bF3:=FF3.binds (ps:=["rest"]) fun _ _ _ _ _ _ us hl=>by obtain⟨_,rfl⟩:=gD hl;rfl
 have FF4:=i5 (st:=pO) lF4 cF4 kF4;have mF4:=AO X G aF4;have bF4:=FF4.binds (ps:=["rest"]) fun _ _ _ _ _ _ us hl=>by obtain⟨_,rfl⟩:=gD hl;rfl
 have FF5:=i5 (st:=lT) lF5 cF5 kF5;have mF5:=AO X G aF5;have bF5:=FF5.binds (ps:=["rest"]) fun _ _ _ _ _ _ us hl=>by obtain⟨_,rfl⟩:=gD hl;rfl
 have FF6:=i5 (st:=jN) lF6 cF6 kF6;have mF6:=AO X G aF6;have bF6:=FF6.binds (ps:=["rest"]) fun _ _ _ _ _ _ us hl=>by obtain⟨_,rfl⟩:=gD hl;rfl
 have FF7:=i5 (st:=pP) lF7 cF7 kF7;have mF7:=AO X G aF7;have bF7:=FF7.binds (ps:=["rest"]) fun _ _ _ _ _ _ us hl=>by obtain⟨_,rfl⟩:=gD hl;rfl
 have FL:=i5 (st:=vH) lL cL kL;have mL:=AO X G aL;have bL:=FL.binds (ps:=["_law_script"]) fun _ _ _ _ _ _ us hl=>by obtain⟨_,rfl⟩:=gD hl;rfl
 have n_isinstance:=Bn X G z_isinstance;have n_str:=Bn X G z_str;have n_len:=Bn X G z_len;have n_all:=Bn X G z_all;have n_int:=Bn X G z_int;have n_bool:=Bn X G z_bool;have n_tuple:=Bn X G z_tuple;have n_set:=Bn X G z_set;have n_list:=Bn X G z_list;have n_sorted:=Bn X G z_sorted;have n_abs:=Bn X G z_abs;have n_range:=Bn X G z_range;have n_min:=Bn X G z_min;have n_repr:=Bn X G z_repr;have n_ValueError:=Bn X G z_ValueError;have g_LONGEST:=AO X G q_LONGEST;have g_LAST_DAY:=AO X G q_LAST_DAY;have g_FEWEST_LANDS:=AO X G q_FEWEST_LANDS;have g_MOST_LANDS:=AO X G q_MOST_LANDS;have g_MOST_PART_ACRES:=AO X G q_MOST_PART_ACRES;have g_MOST_INCHES:=AO X G q_MOST_INCHES;have g_MOST_PENCE:=AO X G q_MOST_PENCE;have g_MOST_SPADES:=AO X G q_MOST_SPADES;have g_ROW_DEPTH:=AO X G q_ROW_DEPTH;have g_FORMS:=AO X G q_FORMS;refine⟨BJ "law" "law" (fE vH) (d9 vH) (aM vH) .none kVL dcL pmL anL cdL ctL,fun s v=>.of_eq rfl,fun base _ _=>?_⟩;obtain⟨_,_,FIN,mIN,kIN⟩:=cU zIN X G;have bIN:=FIN.binds (ps:=["thing"]) fun _ _ _ _ _ _ us hl=>by obtain⟨_,rfl⟩:=gD hl;rfl
 obtain⟨_,_,FNB,mNB,kNB⟩:=cU zNB X G;have bNB:=FNB.binds (ps:=["thing"]) fun _ _ _ _ _ _ us hl=>by obtain⟨_,rfl⟩:=gD hl;rfl
 obtain⟨_,_,FIW,mIW,kIW⟩:=cU zIW X G;have bIW:=FIW.binds (ps:=["thing","least","most"]) fun _ _ _ _ _ _ us hl=>by obtain⟨_,_,_,rfl⟩:=aCy hl;rfl
 obtain⟨_,_,FRI,mRI,kRI⟩:=cU zRI X G;have bRI:=FRI.binds (ps:=["things"]) fun _ _ _ _ _ _ us hl=>by obtain⟨_,rfl⟩:=gD hl;rfl
 obtain⟨_,_,FPT,mPT,kPT⟩:=cU zPT X G;have bPT:=FPT.binds (ps:=["thing"]) fun _ _ _ _ _ _ us hl=>by obtain⟨_,rfl⟩:=gD hl;rfl
 obtain⟨_,_,FAP,mAP,kAP⟩:=cU zAP X G;have bAP:=FAP.binds (ps:=["thing"]) fun _ _ _ _ _ _ us hl=>by obtain⟨_,rfl⟩:=gD hl;rfl
 obtain⟨_,_,FAN,mAN,kAN⟩:=cU zAN X G;have bAN:=FAN.binds (ps:=["thing"]) fun _ _ _ _ _ _ us hl=>by obtain⟨_,rfl⟩:=gD hl;rfl
 obtain⟨_,_,FRP,mRP,kRP⟩:=cU zRP X G;have bRP:=FRP.binds (ps:=["thing"]) fun _ _ _ _ _ _ us hl=>by obtain⟨_,rfl⟩:=gD hl;rfl
 obtain⟨_,_,FRL,mRL,kRL⟩:=cU zRL X G;have bRL:=FRL.binds (ps:=["thing"]) fun _ _ _ _ _ _ us hl=>by obtain⟨_,rfl⟩:=gD hl;rfl
 obtain⟨_,_,FIC,mIC,kIC⟩:=cU zIC X G;have bIC:=FIC.binds (ps:=["thing"]) fun _ _ _ _ _ _ us hl=>by obtain⟨_,rfl⟩:=gD hl;rfl
 obtain⟨_,_,FIR,mIR,kIR⟩:=cU zIR X G;have bIR:=FIR.binds (ps:=["thing"]) fun _ _ _ _ _ _ us hl=>by obtain⟨_,rfl⟩:=gD hl;rfl
 obtain⟨_,_,FAT,mAT,kAT⟩:=cU zAT X G;have bAT:=FAT.binds (ps:=["thing","deep"]) fun _ _ _ _ _ _ us hl=>by obtain⟨_,_,rfl⟩:=rJ hl;rfl
 obtain⟨_,_,FIO,mIO,kIO⟩:=cU zIO X G;have bIO:=FIO.binds (ps:=["thing"]) fun _ _ _ _ _ _ us hl=>by obtain⟨_,rfl⟩:=gD hl;rfl
 obtain⟨_,_,FRO,mRO,kRO⟩:=cU zRO X G;have bRO:=FRO.binds (ps:=["thing"]) fun _ _ _ _ _ _ us hl=>by obtain⟨_,rfl⟩:=gD hl;rfl
 obtain⟨_,_,FP,mP,kP⟩:=cU zP X G;have bP:=FP.binds (ps:=["_law_script"]) fun _ _ _ _ _ _ us hl=>by obtain⟨_,rfl⟩:=gD hl;rfl
 obtain⟨_,_,FT,mT,kT⟩:=cU zT X G;have bT:=FT.binds (ps:=["_law_pen_here","_law_many"]) fun _ _ _ _ _ _ us hl=>by obtain⟨_,_,rfl⟩:=rJ hl;rfl
 obtain⟨_,_,FN,mN,kN⟩:=cU zN X G;have bN:=FN.binds (ps:=["_law_pen_here","_law_many"]) fun _ _ _ _ _ _ us hl=>by obtain⟨_,_,rfl⟩:=rJ hl;rfl
 obtain⟨_,_,FSo,mSo,kSo⟩:=cU zSo X G;have bSo:=FSo.binds (ps:=["_law_pen_here","_law_fields","_law_rows"]) fun _ _ _ _ _ _ us hl=>by obtain⟨_,_,_,rfl⟩:=aCy hl;rfl
 obtain⟨_,_,FNu,mNu,kNu⟩:=cU zNu X G;have bNu:=FNu.binds (ps:=["_law_pen_here","_law_bottom","_law_most"]) fun _ _ _ _ _ _ us hl=>by obtain⟨_,_,_,rfl⟩:=aCy hl;rfl
 obtain⟨_,_,FSm,mSm,kSm⟩:=cU zSm X G;have bSm:=FSm.binds (ps:=["_law_pen_here","_law_names_here","_law_many"]) fun _ _ _ _ _ _ us hl=>by obtain⟨_,_,_,rfl⟩:=aCy hl;rfl
 obtain⟨_,_,FRo,mRo,kRo⟩:=cU zRo X G;have bRo:=FRo.binds (ps:=["_law_pen_here","_law_word","_law_name","_law_day","_law_sorts_here"]) fun _ _ _ _ _ _ us hl=>by obtain⟨_,_,_,_,_,rfl⟩:=aIU hl;rfl
 obtain⟨_,_,FSa,mSa,kSa⟩:=cU zSa X G;have bSa:=FSa.binds (ps:=["_law_found","_law_owed"]) fun _ _ _ _ _ _ us hl=>by obtain⟨_,_,rfl⟩:=rJ hl;rfl
 obtain⟨_,_,FlN,mlN,klN⟩:=cU zlN X G;have blN:=FlN.binds (ps:=["_law_thing"]) fun _ _ _ _ _ _ us hl=>by obtain⟨_,rfl⟩:=gD hl;rfl
 obtain⟨_,_,FlW,mlW,klW⟩:=cU zlW X G;have blW:=FlW.binds (ps:=["_law_thing","_law_bottom","_law_most"]) fun _ _ _ _ _ _ us hl=>by obtain⟨_,_,_,rfl⟩:=aCy hl;rfl
 obtain⟨_,_,FlP,mlP,klP⟩:=cU zlP X G;have blP:=FlP.binds (ps:=["_law_thing"]) fun _ _ _ _ _ _ us hl=>by obtain⟨_,rfl⟩:=gD hl;rfl
 obtain⟨_,_,FlR,mlR,klR⟩:=cU zlR X G;have blR:=FlR.binds (ps:=["_law_things","_law_judge","_law_at"]) fun _ _ _ _ _ _ us hl=>by obtain⟨_,_,_,rfl⟩:=aCy hl;rfl
 obtain⟨_,_,FlL,mlL,klL⟩:=cU zlL X G;have blL:=FlL.binds (ps:=["_law_thing"]) fun _ _ _ _ _ _ us hl=>by obtain⟨_,rfl⟩:=gD hl;rfl
 obtain⟨_,_,FlI,mlI,klI⟩:=cU zlI X G;have blI:=FlI.binds (ps:=["_law_thing"]) fun _ _ _ _ _ _ us hl=>by obtain⟨_,rfl⟩:=gD hl;rfl
 obtain⟨_,_,FMa,mMa,kMa⟩:=cU zMa X G;have bMa:=FMa.binds (ps:=["_law_thing"]) fun _ _ _ _ _ _ us hl=>by obtain⟨_,rfl⟩:=gD hl;rfl
 obtain⟨_,_,FOd,mOd,kOd⟩:=cU zOd X G;have bOd:=FOd.binds (ps:=["_law_pen_here","_law_part"]) fun _ _ _ _ _ _ us hl=>by obtain⟨_,_,rfl⟩:=rJ hl;rfl
 obtain⟨_,_,FFa,mFa,kFa⟩:=cU zFa X G;have bFa:=FFa.binds (ps:=["_law_pen_here","_law_row_here"]) fun _ _ _ _ _ _ us hl=>by obtain⟨_,_,rfl⟩:=rJ hl;rfl
 obtain⟨_,_,FBP,mBP,kBP⟩:=cU zBP X G;have bBP:=FBP.binds (ps:=["_law_pen_here","_law_some_here"]) fun _ _ _ _ _ _ us hl=>by obtain⟨_,_,rfl⟩:=rJ hl;rfl
 obtain⟨_,_,FSi,mSi,kSi⟩:=cU zSi X G;have bSi:=FSi.binds (ps:=["_law_pen_here","_law_row_here"]) fun _ _ _ _ _ _ us hl=>by obtain⟨_,_,rfl⟩:=rJ hl;rfl
 obtain⟨_,_,FBe,mBe,kBe⟩:=cU zBe X G;have bBe:=FBe.binds (ps:=["_law_pen_here","_law_row_here"]) fun _ _ _ _ _ _ us hl=>by obtain⟨_,_,rfl⟩:=rJ hl;rfl
 obtain⟨_,_,FTu,mTu,kTu⟩:=cU zTu X G;have bTu:=FTu.binds (ps:=["_law_pen_here","_law_some_here"]) fun _ _ _ _ _ _ us hl=>by obtain⟨_,_,rfl⟩:=rJ hl;rfl
 obtain⟨_,_,FLi,mLi,kLi⟩:=cU zLi X G;have bLi:=FLi.binds (ps:=["_law_pen_here","_law_row_here"]) fun _ _ _ _ _ _ us hl=>by obtain⟨_,_,rfl⟩:=rJ hl;rfl
 obtain⟨_,_,FH,mH,kH⟩:=cU zH X G;have bH:=FH.binds (ps:=["_law_thing"]) fun _ _ _ _ _ _ us hl=>by obtain⟨_,rfl⟩:=gD hl;rfl
 obtain⟨_,_,FR,mR,kR⟩:=cU zR X G;have bR:=FR.binds (ps:=["_law_thing"]) fun _ _ _ _ _ _ us hl=>by obtain⟨_,rfl⟩:=gD hl;rfl
 have mDykeError:=AO X G aDykeError;have mClash:=AO X G aClash;have mNoBreach:=AO X G aNoBreach;have mNoField:=AO X G aNoField;have mNoInch:=AO X G aNoInch;have mNoMend:=AO X G aNoMend;have mNoName:=AO X G aNoName;have mNoOrder:=AO X G aNoOrder;have mNoRoll:=AO X G aNoRoll;have mNoText:=AO X G aNoText;have mNoThen:=AO X G aNoThen;have mTooMany:=AO X G aTooMany;have mTwice:=AO X G aTwice;have mNoRow:=AO X G aNoRow;have T:Txt K mg:=⟨n_isinstance,n_str,n_len,n_all,n_int,n_bool,n_tuple,n_set,⟨_,g_LONGEST⟩,⟨_,g_LAST_DAY⟩,⟨_,g_FEWEST_LANDS⟩,⟨_,g_MOST_LANDS⟩,⟨_,g_MOST_PART_ACRES⟩,⟨_,g_MOST_INCHES⟩,⟨_,g_MOST_PENCE⟩,⟨_,g_MOST_SPADES⟩⟩
 have GT:=aFR (P:=l.prog) (w:=w) (base:=base) FT n_len n_abs;have GIN:=aFW (aC4 (P:=l.prog) (w:=w) (base:=base) FIN T) aC5;have GNB:=aFX (P:=l.prog) (w:=w) (base:=base) FNB T;have GIW:=aBi FIW ⟨_,_,GNB,mNB,kNB,bNB⟩;have GRI:=aDa (P:=l.prog) (w:=w) (base:=base) FRI T n_list n_sorted;have GPT:=aFY FPT T ⟨_,_,GIN,mIN,kIN,bIN⟩ ⟨_,_,GIW,mIW,kIW,bIW⟩;have GIC:=aFZ FIC T ⟨_,_,GIW,mIW,kIW,bIW⟩;have GAP:=aF9 FAP T ⟨_,_,GPT,mPT,kPT,bPT⟩;have GAN:=aF8 FAN T ⟨_,_,GIN,mIN,kIN,bIN⟩;have GRP:=aGd FRP T ⟨_,_,GAP,mAP,kAP,bAP⟩ ⟨_,_,GRI,mRI,kRI,bRI⟩;have GRL:=aGc FRL T ⟨_,_,GAN,mAN,kAN,bAN⟩ ⟨_,_,GRI,mRI,kRI,bRI⟩;have GF0:=aEM FF0 T ⟨_,_,GIN,mIN,kIN,bIN⟩ ⟨_,_,GRP,mRP,kRP,bRP⟩;have GF1:=aEN FF1 T ⟨_,_,GIN,mIN,kIN,bIN⟩ ⟨_,_,GRL,mRL,kRL,bRL⟩;have GF2:=aAo FF2 T ⟨_,_,GAN,mAN,kAN,bAN⟩;have GF3:=aAn FF3 T ⟨_,_,GIN,mIN,kIN,bIN⟩ ⟨_,_,GIW,mIW,kIW,bIW⟩;have GF4:=aEJ FF4 T ⟨_,_,GAN,mAN,kAN,bAN⟩;have GF5:=aC8 FF5 T ⟨_,_,GIN,mIN,kIN,bIN⟩;have GF6:=aBm FF6 T ⟨_,_,GIN,mIN,kIN,bIN⟩ ⟨_,_,GIW,mIW,kIW,bIW⟩ ⟨_,_,GIC,mIC,kIC,bIC⟩;have GF7:=aEH FF7 T ⟨_,_,GIN,mIN,kIN,bIN⟩ ⟨_,_,GIC,mIC,kIC,bIC⟩;have GIR:=aEO FIR T (aGw lFm) (aH1 fF0 fF1 fF2 fF3 fF4 fF5 fF6 fF7) hzF g_FORMS (aIR fF0 fF1 fF2 fF3 fF4 fF5 fF6 fF7) (aIS GF0 kF0 bF0 GF1 kF1 bF1 GF2 kF2 bF2 GF3 kF3 bF3 GF4 kF4 bF4 GF5 kF5 bF5 GF6 kF6 bF6 GF7 kF7 bF7) ⟨_,_,GIN,mIN,kIN,bIN⟩ ⟨_,_,GIW,mIW,kIW,bIW⟩;have GAT2:=aBp FAT T n_list mAT kAT bAT (aBp FAT T n_list mAT kAT bAT (aHN (P:=l.prog) (w:=w) (base:=base) FAT T n_list mAT kAT bAT));have mAT2:=mAT;have kAT2:=kAT;have bAT2:=bAT
 have GAT:=aBp FAT T n_list mAT kAT bAT GAT2;have GIO:=aHP FIO T n_sorted ⟨_,_,GAP,mAP,kAP,bAP⟩ ⟨_,_,GAN,mAN,kAN,bAN⟩;have GRO:=aDg FRO ⟨_,g_ROW_DEPTH⟩ mNoRow zxNoRow GAT mAT kAT bAT GIO mIO kIO bIO GIR mIR kIR bIR;have GN:=aEC FN n_len n_range n_min ⟨_,_,GT,mT,kT,bT⟩;have GSo:=aEV FSo ⟨_,_,GT,mT,kT,bT⟩ ⟨_,_,GN,mN,kN,bN⟩;have GNu:=aHO FNu n_min ⟨_,_,GT,mT,kT,bT⟩;have GSm:=aGh FSm n_list n_range n_sorted n_len ⟨_,_,GT,mT,kT,bT⟩;have GRo:=aE1 FRo n_len n_tuple ⟨_,_,GT,mT,kT,bT⟩ ⟨_,_,GNu,mNu,kNu,bNu⟩ ⟨_,_,GSm,mSm,kSm,bSm⟩;have GSa:=aFm (P:=l.prog) (w:=w) (mg:=mg) (base:=base) FSa;have GlN:=aE6 (P:=l.prog) (w:=w) (base:=base) FlN T;have GlW:=aDh (P:=l.prog) (w:=w) (base:=base) FlW T;have GlP:=aBt FlP T ⟨_,_,GlN,mlN,klN,blN⟩ ⟨_,_,GlW,mlW,klW,blW⟩;have GlR:=aE8 FlR T n_sorted GlN mlN klN blN GlP mlP klP blP;have GlL:=aBu FlL T ⟨_,_,GlN,mlN,klN,blN⟩ ⟨_,_,GlW,mlW,klW,blW⟩;have GlI:=aDj FlI T mlP GlN mlN klN blN GlW mlW klW blW GlL mlL klL blL GlR mlR klR blR;have GMa:=aGq FMa n_len n_tuple n_list n_isinstance n_str n_all n_sorted ⟨_,_,GlI,mlI,klI,blI⟩ ⟨_,_,GlP,mlP,klP,blP⟩ ⟨_,_,GlN,mlN,klN,blN⟩;have GOd:=aHU FOd n_len n_str ⟨_,_,GT,mT,kT,bT⟩;have GFa:=aHV FFa n_len ⟨_,_,GT,mT,kT,bT⟩;have GSi:=aGs FSi n_len n_range n_isinstance n_str ⟨_,_,GT,mT,kT,bT⟩;have GBP:=aFi FBP n_len n_int n_isinstance n_tuple ⟨_,_,GT,mT,kT,bT⟩ ⟨_,_,GOd,mOd,kOd,bOd⟩;have GBe:=aGu FBe n_len n_range n_list n_isinstance n_tuple ⟨_,_,GT,mT,kT,bT⟩ ⟨_,_,GSi,mSi,kSi,bSi⟩ ⟨_,_,GFa,mFa,kFa,bFa⟩ ⟨_,_,GBP,mBP,kBP,bBP⟩ ⟨_,_,GOd,mOd,kOd,bOd⟩
 have GTu:=aDl FTu n_list n_range n_len ⟨_,_,GT,mT,kT,bT⟩;have GLi:=aDm FLi n_len n_range n_list n_isinstance n_tuple n_tuple ⟨_,_,GT,mT,kT,bT⟩ ⟨_,_,GTu,mTu,kTu,bTu⟩;have GH:=aFl FH n_isinstance n_ValueError mDykeError mClash mNoBreach mNoField mNoInch mNoMend mNoName mNoOrder mNoRow mNoText mNoThen mTooMany mTwice mNoRoll zeNoRow zfNoRow zgNoRow GRO mRO kRO bRO;have GR:=aDo FR n_repr ⟨_,_,GMa,mMa,kMa,bMa⟩ ⟨_,_,GH,mH,kH,bH⟩ ⟨_,_,GSa,mSa,kSa,bSa⟩ ⟨_,_,GIR,mIR,kIR,bIR⟩ ⟨_,_,GlI,mlI,klI,blI⟩;exact aH0 FL n_range n_all n_isinstance n_tuple ⟨_,_,(aHE FP n_list),mP,kP,bP⟩ ⟨_,_,GSo,mSo,kSo,bSo⟩ ⟨_,_,GRo,mRo,kRo,bRo⟩ ⟨_,_,GT,mT,kT,bT⟩ ⟨_,_,GNu,mNu,kNu,bNu⟩ ⟨_,_,GBe,mBe,kBe,bBe⟩ ⟨_,_,GIR,mIR,kIR,bIR⟩ ⟨_,_,GR,mR,kR,bR⟩ ⟨_,_,GLi,mLi,kLi,bLi⟩
theorem walk{l:Fg}{q:Ar}{loose:List Str}{XP:(Str->Option Ab)->A8->Prop}{YP:AQ->A8->Prop}{d:DefRec}{K:Params->Af}(hn:l.most=some 63)(hdf:d.params.defaults=[])
  (hY:∀(w:AQ) (h:A8),YP w h->(K w.params).In h)
  (F:∀(w:AQ) (mg:Str->Option Ab) (fa:Ah) (h:A8),(K w.params).In h->h.Ns mainGlobals mg->mg d.name=some (.ref fa)->
   ∃ fd:AC,(∀(s:Ac) (u:Ab),FC s fd ⟨[u],[]⟩ [("_law_script",u)])/\∀ base:A8,(K w.params).In base->base.Ns mainGlobals mg->cN l.prog w (K w.params) mg base CX0 11 fa fd ["_law_script"] (aCx (K w.params))):
  PySem.W.WalkO q loose XP YP l.row.toRowW d [] (fun f vs=>Gn f vs):=
 L2.walk_of (n:=63) (k:=11) (x:="_law_script") (CX:=fun _=>CX0) (sp:=fun w=>aCx (K w.params)) hn (by decide) hdf ⟨rfl,by decide,by decide,rfl⟩ hY F (fun _ _ a ns hl _ hS=>⟨a,ns,rfl,hS,hl,fun _=>rfl⟩) fun _ _ _ _ _ z=>z
end K04
end
namespace PySem.W.Fast
def tw6531661995700113794:=0
def tw11713762110651291890:=0
def tw14413772040863810666:=0
def tw14013192549057489793:=0
def tw5832668942701791192:=0
def tw8864889115695945274:=0
def tw15627594024245242152:=0
def tw13076054390126123205:=0
def tw6263513246356001054:=0
def tw4726038651794579939:=0
def tw1001045578609746103:=0
def tw3285530454886859614:=0
def tw11755208268040988376:=0
def tw6800284546705872618:=0
def tw7292850088567741691:=0
def tw1604024518679922171:=0
def tw18332299484407119801:=0
def tw12550902100453467971:=0
def tw547157661309292676:=0
def tw5898089067593813705:=0
def tw3332347178936210109:=0
def tw7909966696977807216:=0
def tw3424081292602341508:=0
def tw17001353057100333339:=0
def tw51749385300457163:=0
def tw18097073737883650238:=0
def tw10410358470915529777:=0
def tw6936706255864144787:=0
def tw6470986452579126336:=0
def tw15835492231594896185:=0
def tw4836996042993379592:=0
def tw6743540604519043549:=0
def tw12764173471259813986:=0
def tw12174344931573505282:=0
def tw3077861059903882005:=0
def tw10306168082931079607:=0
def tw17073815512066855559:=0
def tw2731914200258801216:=0
def tw6312569694957788923:=0
def tw8420570367562113554:=0
def tw10380871314644943817:=0
def tw10028993553547370057:=0
def tw2076610324044620334:=0
def tw8830482082686226970:=0
def tw10955806955106137044:=0
def tw14760364240792749534:=0
def tw13563563523825667851:=0
def tw7208601697584075876:=0
def tw13864575886308036118:=0
def tw17770612932856748860:=0
def tw13074491938655506016:=0
def tw1162704553333916113:=0
def tw6483320492159396938:=0
def tw17615418613777402597:=0
def tw4373786323638548154:=0
def tw6934864943274555525:=0
def tw15720926675732429638:=0
def tw5322546299665648524:=0
def tw17106271531026373201:=0
def tw17486238213536953167:=0
def tw9105807283195383474:=0
def tw7120154026563434150:=0
def tw1837761780541621588:=0
def tw9939796201340191556:=0
def tw14215805783529024759:=0
def tw14857575124178661817:=0
def tw6290504097915751403:=0
def tw5084328496487554976:=0
def tw4497928734872158913:=0
def tw15354853834869458640:=0
def tw14999073724828764827:=0
def tw7900040446248576472:=0
def tw12190097862477129110:=0
def tw3955453848022661725:=0
def tw7230280872437502133:=0
def tw4346326773447773333:=0
def tw9809968825977664421:=0
def tw7387488871262168491:=0
def tw11923584804989172121:=0
def tw6811614699284570181:=0
def tw10948900672830341401:=0
def tw9663124079225301661:=0
def tw13912893669343685222:=0
def tw4084540224981181536:=0
def tw9757109100953610015:=0
def tw1617109080133890559:=0
def tw8946222495151698405:=0
def tw143204978477323514:=0
def tw18309126451202717771:=0
def tw7515014477296820160:=0
def tw1529993785891921206:=0
def tw8286140214529970703:=0
def tw2495711759453590916:=0
def tw15714228074661487964:=0
def tw15834129187234883060:=0
def tw4073672768834991688:=0
def tw405631817872258390:=0
def tw11646165570361825700:=0
def tw16664204663737364945:=0
def tw7366724722780947087:=0
def tw16898819627441567709:=0
def tw17238530383946234889:=0
def tw16439498157730983641:=0
def tw14314421785070751552:=0
def tw5765500513520695160:=0
def tw3453665122151554993:=0
def tw17313629653134867530:=0
def tw16640761321984171676:=0
def tw10153740310628172950:=0
def tw332667201933805335:=0
def tw3402278935528893089:=0
def tw2949100908120156542:=0
def tw8011152461073591368:=0
def tw16527626620608364470:=0
def tw8747151024602792279:=0
def tw1833666204415516799:=0
def tw14939889062332659350:=0
def tw10908615451928237190:=0
def tw10467634914363251170:=0
def tw16340407077807513838:=0
def tw6457650154161056989:=0
def tw17731448823956575003:=0
def tw17114965098026509160:=0
def tw12749999275176077692:=0
def tw11462285473790682570:=0
def tw15926360053250046333:=0
def tw1784871073269809808:=0
def tw7172396245995525413:=0
def tw12176794086898721498:=0
def tw17329406868826743491:=0
def tw13983413511686693411:=0
def tw13824983797203767479:=0
def tw10785953647249966649:=0
def tw7298086542362760251:=0
def tw15631309788785550038:=0
def tw4598159085636448457:=0
def tw12433595193443894560:=0
def tw16367844583100325271:=0
def tw390431967376642721:=0
def tw7600478198777342662:=0
def tw9357508511490232777:=0
def tw9486848263206712479:=0
def tw10111359704292788545:=0
def tw14935946291003721626:=0
def tw5938290307821970652:=0
def tw15261237964926891702:=0
def tw2738012847344079088:=0
def tw6926703537264954751:=0
def tw2583271468514906987:=0
def tw7894833513295551959:=0
def tw16351109403675481002:=0
def tw7462154794999075483:=0
def tw14428839810475341676:=0
def tw7919633150418844751:=0
def tw12807893133251095454:=0
def tw18146896306816807123:=0
def tw3660205681046452115:=0
def tw1387438859704301562:=0
def tw13967754151531567791:=0
def tw16585491467177557338:=0
def tw1438507758655423055:=0
def tw1509052619758829521:=0
def tw13461380762574956968:=0
def tw5592833925657013112:=0
def tw2867957758470836496:=0
def tw10863300858172703670:=0
def tw7915672700980209500:=0
def tw7433683762280657255:=0
def tw12824234393046433383:=0
def tw8222176128342559342:=0
def tw3941856315306815419:=0
def tw3803230107336928192:=0
def tw14437368021005021041:=0
def tw13459161374705358299:=0
def tw8435151155525471837:=0
def tw1691689614702711883:=0
def tw145934261950808201:=0
def tw9090101381401422422:=0
def tw7397141532866417466:=0
def tw15371108326703221673:=0
def tw5806789228829954778:=0
def tw900258810562966984:=0
def tw10584079605313121776:=0
def tw15197766727797418344:=0
def tw6468883937392923313:=0
def tw15310017002964548986:=0
def tw13738411779418287999:=0
def tw8442111061143168305:=0
def tw8451343618937088985:=0
def tw15855686576895991715:=0
def tw13193516366311071545:=0
def tw10250781172176853876:=0
def tw4193051948279314685:=0
def tw9932061982734731085:=0
def tw9941771443582354141:=0
def tw16342623426848156931:=0
def tw10200170983852911590:=0
def tw1760300196652903701:=0
def tw15932731205549858469:=0
def tw5771309896297842712:=0
def tw8186555231184763814:=0
def tw7688352842285321938:=0
def tw15870530764763084169:=0
def tw1273916570305086597:=0
def tw344264834668955883:=0
def tw11309489977100019848:=0
def tw12258841586845070556:=0
def tw10717585021023084844:=0
def tw10894225674702243943:=0
def tw7928649577350434458:=0
def tw14119885329353728365:=0
def tw8949402368294595496:=0
def tw699130583583443809:=0
def tw14588241835230829146:=0
def tw14144545741917671662:=0
def tw15861250742219934328:=0
def tw13821510753903188516:=0
def tw3466182964016480583:=0
def tw10945210845388720291:=0
def tw778895583537615677:=0
def tw10707746158870609021:=0
def tw2989804985380802168:=0
def tw403489616213374849:=0
def tw10505483138680880459:=0
def tw10380104226296016320:=0
def tw9929402716509166275:=0
def tw3731736920466278333:=0
def tw4105005259040610518:=0
def tw13762702222556662258:=0
def tw9445464006039634885:=0
def tw12270310563238427281:=0
def tw7337586965729679064:=0
def tw15516508550687015904:=0
def tw9444938629046676552:=0
def tw17292467748588309682:=0
def tw2788366802393098949:=0
def tw6109460198763649229:=0
def tw7275612195691485825:=0
def tw17884160322513165439:=0
def tw16536839757038883865:=0
def tw6719347800379752534:=0
def tw14894318832431926509:=0
def tw15029614060787177340:=0
def tw1277615438930698357:=0
def tw8342040826402929715:=0
def tw18192528042281335185:=0
def tw9231044972318447727:=0
def tw13768196308589187842:=0
def tw4956858463651085244:=0
def tw996854894160511509:=0
def tw11619252491965439310:=0
def tw8793142776018804477:=0
def tw3029038934598523895:=0
def tw12320049066559174384:=0
def tw12012385031678443903:=0
def tw17252644427846444060:=0
def tw13365993863373655419:=0
def tw3234533399716259462:=0
def tw12965299960190131400:=0
def tw18119788887214418546:=0
def tw10891460968662597791:=0
def tw11674650729639332972:=0
def tw2155183500837690824:=0
def tw4209397139925113746:=0
def tw4864545920621494678:=0
def tw3386714429689365738:=0
def tw3913002644263017898:=0
def tw17573477820171998385:=0
def tw3784124965655087558:=0
def tw12412416276643729529:=0
def tw14232441994881443286:=0
def tw2370250874839627371:=0
def tw3085613176749011240:=0
def tw8993112719107589438:=0
def tw964370313429451130:=0
def tw137607566426723880:=0
def tw6489184865651038310:=0
def tw6228555228023434127:=0
def tw9790617515652952264:=0
def tw11056835919592471702:=0
def tw9649014674437044769:=0
def tw17267556053837676841:=0
def tw12432372872799992253:=0
def tw7466395823340053909:=0
def tw8573127061271626181:=0
def tw15870026448952473053:=0
def tw2906816259770526352:=0
def tw2956857803486091884:=0
def tw15714217581164170507:=0
def tw9404564802922553931:=0
def tw3390289948800853057:=0
def tw17446766790237656083:=0
def tw9462637367786980127:=0
def tw13874958516673268085:=0
def tw18389909018839560085:=0
def tw3116610187586956740:=0
def tw15814467444232869585:=0
def tw6129024060190782837:=0
def tw2581601988766552958:=0
def tw11227024541698020341:=0
def tw8222238286943082035:=0
def tw2600930771132845835:=0
def tw11351074349817067729:=0
def tw5060002737891977357:=0
def tw11154706634318552576:=0
def tw13772809568362842925:=0
def tw3438737940202624247:=0
def tw12033779813915492478:=0
def tw4151093210282409323:=0
def tw14838622821646835343:=0
def tw16240481937830921850:=0
def tw13694782369595394548:=0
def tw9032137573193254934:=0
def tw14829213996004702263:=0
def tw16014845616756939367:=0
def tw8667752287754167295:=0
def tw11284011801415653889:=0
def tw1462630461674316541:=0
def tw12889031495305164600:=0
def tw15357558341921966534:=0
def tw8314334208460038249:=0
def tw3207590418413177401:=0
def tw5629387424298582529:=0
def tw6633928223040943710:=0
def tw13225001688972565409:=0
def tw9025345840332418733:=0
def tw7518831242185058379:=0
def tw10892685863683614769:=0
def tw4096086820136411996:=0
def tw12236085341851690261:=0
def tw14827313790626385770:=0
def tw9161571513384376994:=0
def tw15336824004343382088:=0
def tw7139702516753632751:=0
def tw3073478007512954509:=0
def tw7591716475218124634:=0
def tw13565831769731941967:=0
def tw2685722858066898745:=0
def tw12611308655078994461:=0
def tw3874631407651279987:=0
def tw3837500258999296668:=0
def tw9514089520493172258:=0
def tw9348989124983664530:=0
def tw3794632567484298931:=0
def tw6285976084376978409:=0
def tw17569288045988920162:=0
def tw11534032183131964761:=0
def tw6454626772229254871:=0
def tw11231225929276479631:=0
def tw4181220265077944780:=0
def tw11728574545040583038:=0
def tw12839695678852006207:=0
def tw1935941574230721648:=0
def tw5210539371909198898:=0
def tw8995142038328053023:=0
def tw14669225995436346497:=0
def tw9785489716616452339:=0
def tw9182742310281848841:=0
def tw6931910159190623252:=0
def tw5249487666944674045:=0
def tw8992966583895916479:=0
def tw11956102290094034813:=0
def tw5206644622511226728:=0
def tw11345188100383929067:=0
def tw18004303216415909504:=0
def tw3574883138600483790:=0
def tw2747140602071569745:=0
def tw5822132926837091729:=0
def tw14811216954603218153:=0
def tw12248564327313644408:=0
def tw9018357331252725084:=0
def tw11742131539274802519:=0
def tw5566085153057432296:=0
def tw13468088699589892326:=0
def tw7594231540669202299:=0
def tw15637771986952456824:=0
def tw8594188676889572662:=0
def tw11075874593905126771:=0
def tw11247714743320465118:=0
def tw4130657222552357712:=0
def tw6431165330429670503:=0
def tw11556311589487587548:=0
def tw15701542128629682733:=0
def tw16107141503407165126:=0
def tw2769889094314913109:=0
def tw13936427111986025307:=0
def tw10331148240485026765:=0
def tw8001914507423075183:=0
def tw13002801283936617120:=0
def tw10276577946351586132:=0
def tw4256157975451435217:=0
def tw13364841134771194990:=0
def tw6532330777362197136:=0
def tw14640043278452016174:=0
def tw12412299552206800929:=0
def tw8648330534093807808:=0
def tw94258168798519939:=0
def tw9972649280169657034:=0
def tw11861021470966670536:=0
def tw3958900328997702872:=0
def tw8839173675995480404:=0
def tw6494086721294191639:=0
def tw16914274217448010217:=0
def tw8397125152287232818:=0
def tw7705105088785962893:=0
def tw18182216664192860140:=0
def tw12096431718001168502:=0
def tw10042461774660281786:=0
def tw1203913468913515661:=0
def tw10788715766317755056:=0
def tw15008868189974612645:=0
def tw6785829911509426965:=0
def tw4392553975929310142:=0
def tw4748938290567722705:=0
def tw16305132826544965725:=0
def tw8359685741282543560:=0
def tw13535425305274316823:=0
def tw6058790607376793657:=0
def tw12656423553470897556:=0
def tw4795767552240831068:=0
def tw2364428834501300429:=0
def tw14918667421424858231:=0
def tw9026501386943118879:=0
def tw3657088680157013917:=0
def tw6405133643036270126:=0
def tw15320867728769908219:=0
def tw1977258586122640455:=0
def tw16870413999313954293:=0
def tw12320573838690712337:=0
def tw11392939235578198661:=0
def tw4998182410297098448:=0
def tw564039460895771149:=0
def tw7845387107957319122:=0
def tw5613289041984823979:=0
def tw14115904493151736301:=0
def tw12462081529892764210:=0
def tw13942613033495549967:=0
def tw8926002608091447553:=0
def tw12817074619955650377:=0
def tw3430782292557444059:=0
def tw515253745977671108:=0
def tw671320540904113095:=0
def tw5103706532456123504:=0
def tw5100575692075184912:=0
def tw11678085205945784232:=0
def tw98979381318080442:=0
def tw12392967926750849577:=0
def tw6786920573874078142:=0
def tw757754853218723388:=0
def tw8210501069991915580:=0
def tw10775445025458122835:=0
def tw12929984958680562292:=0
def tw12274473858593602630:=0
def tw11022321209230893969:=0
def tw10545092297900955068:=0
def tw8572457439990141635:=0
def tw5191419247579577231:=0
def tw6209757573162062512:=0
def tw248436093116070038:=0
def tw8108131596895485467:=0
def tw5955742205860658736:=0
def tw5057963311579541784:=0
def tw4573640540210508944:=0
def tw4629842877755518624:=0
def tw11427701720200878370:=0
def tw5514716585832538284:=0
def tw16937505671416971647:=0
def tw8505003245092520035:=0
def tw8237619326436037286:=0
def tw18421961913890666937:=0
def tw16942370419890115671:=0
def tw7174116837506144564:=0
def tw15698838924909802254:=0
def tw7293868226153572127:=0
def tw6206674223824129763:=0
def tw16745849542823819011:=0
def tw9115252692302033614:=0
def tw1622067280779586969:=0
def tw7071952009822976056:=0
def tw18036414099276704527:=0
def tw690622695816449028:=0
def tw10092755466300050840:=0
def tw3481370117041846448:=0
def tw6262701508848236601:=0
def tw1796252558470151306:=0
def tw15820007405328848649:=0
def tw6773323468100076610:=0
def tw3569526922405112045:=0
def tw5719398052533104918:=0
def tw12276706855914652389:=0
def tw1057443031399277361:=0
def tw15865569789355857607:=0
def tw1138637285630427044:=0
def tw8872485436050802707:=0
def tw17966641042261146954:=0
def tw15937302344363670648:=0
def tw10317562104659546352:=0
def tw8644328356117754184:=0
def tw635853789143264399:=0
def tw12457378731817178842:=0
def tw16566598362177653532:=0
def tw15476255563128233576:=0
def tw2250344007972731237:=0
def tw17647533753368005995:=0
def tw2575104476776093837:=0
def tw7219675442116856070:=0
def tw7946489501455689821:=0
def tw10067149436064789372:=0
def tw2801048117270461019:=0
def tw3509892872882155350:=0
def tw10482645053478436211:=0
def tw4068471957650896597:=0
def tw4590732938485729359:=0
def tw5884208045134696762:=0
def tw11454019131839301307:=0
def tw3754729081280790610:=0
def tw13100151231913074414:=0
def tw17632870875656810503:=0
def tw2190067779502083552:=0
def tw17743262670039136990:=0
def tw18391557878101544196:=0
def tw458943023822132698:=0
def tw12944526638639450554:=0
def tw7388331804849568449:=0
def tw7070937690588511082:=0
def tw14866257041967720662:=0
def tw11195247084952065968:=0
def tw11052018538654997872:=0
def tw8071314579712764800:=0
def tw9420959955147127481:=0
def tw10630954329018010882:=0
def tw8486223696962706951:=0
def tw14234393958727243971:=0
def tw10002161163990051468:=0
def tw7776194248399695468:=0
def tw3393118360412835878:=0
def tw14755452957517595153:=0
def tw16070526835614135848:=0
def tw4542139833528329727:=0
def tw12868622110420393813:=0
def tw16565000109032031377:=0
def tw988521269146297117:=0
def tw16944339412987397926:=0
def tw4703055731882941596:=0
def tw12410054884305220969:=0
def tw12591893009267383862:=0
def tw10625921869448787501:=0
def tw5599720199134807597:=0
def tw2244238751415595857:=0
def tw9244130359107544931:=0
def tw8444725223299099648:=0
def tw13643291376302971740:=0
def tw920535904026592739:=0
def tw9118466180969649307:=0
def tw5518275270630738710:=0
def tw787556279862262395:=0
def tw13435073244645445656:=0
def tw5129627656709625057:=0
def tw18326094339921968731:=0
def tw15353277283209445921:=0
def tw17408897732295747501:=0
def tw3986695586904487784:=0
def tw493452905883078046:=0
def tw6734843374348812503:=0
def tw3743791927088642122:=0
def tw9193956559088985460:=0
def tw10401083654940775570:=0
def tw10781264674256643461:=0
def tw7000238772058713116:=0
def tw960891005964242182:=0
def tw327347231684764375:=0
def tw3994955664329609523:=0
def tw10144724866513954435:=0
def tw10221391550257296052:=0
def tw12461403756931670108:=0
def tw3985216223319920909:=0
def tw8876059261674650585:=0
def tw16969528024176578105:=0
def tw3373878293779660400:=0
def tw4956469766303423968:=0
def tw5034907317898282092:=0
def tw15790740197489448072:=0
def tw18035480015525726119:=0
def tw17782544134114638561:=0
def tw9023026056321560014:=0
def tw17879418550173459268:=0
def tw1894949758834296006:=0
def tw5996186376642792622:=0
def tw12779312580018768818:=0
end PySem.W.Fast
open PySem PySem.W PyProof.Rows
set_option maxRecDepth 100000 in
set_option maxHeartbeats 0 in
theorem PySem.Challenge.cw_dykelengths_k04_rows_bent_holds : PySem.Challenge.rw_dykelengths_k04_rows_bent.Holds := by
 w_on;o_law;k_head;(case hw=>w_witness2)
 k_fill
 refine K04.walk (l:=PySem.Challenge.rw_dykelengths_k04_rows_bent) rfl rfl (fun w h Y=>PySem.W.kIn_of Y) ?F
 case F=>
  intro w mg fa h KX G hmg
  refine' K04.all_mk KX G hmg ?aDykeError ?aClash ?aNoBreach ?aNoField ?aNoInch ?aNoMend ?aNoName ?aNoOrder ?aNoRoll ?aNoText ?aNoThen ?aTooMany ?aTwice ?aNoRow ?zxNoRow ?zeNoRow ?zfNoRow ?zgNoRow ?aF0 ?lF0 ?cF0 ?kF0 ?aF1 ?lF1 ?cF1 ?kF1 ?aF2 ?lF2 ?cF2 ?kF2 ?aF3 ?lF3 ?cF3 ?kF3 ?aF4 ?lF4 ?cF4 ?kF4 ?aF5 ?lF5 ?cF5 ?kF5 ?aF6 ?lF6 ?cF6 ?kF6 ?aF7 ?lF7 ?cF7 ?kF7 ?aL ?lL ?cL ?kL ?z_isinstance ?z_str ?z_len ?z_all ?z_int ?z_bool ?z_tuple ?z_set ?z_list ?z_sorted ?z_abs ?z_range ?z_min ?z_repr ?z_ValueError ?q_LONGEST ?q_LAST_DAY ?q_FEWEST_LANDS ?q_MOST_LANDS ?q_MOST_PART_ACRES ?q_MOST_INCHES ?q_MOST_PENCE ?q_MOST_SPADES ?q_ROW_DEPTH ?q_FORMS ?lFm ?hzF ?zIN ?zNB ?zIW ?zRI ?zPT ?zAP ?zAN ?zRP ?zRL ?zIC ?zIR ?zAT ?zIO ?zRO ?zP ?zT ?zN ?zSo ?zNu ?zSm ?zRo ?zSa ?zlN ?zlW ?zlP ?zlR ?zlL ?zlI ?zMa ?zOd ?zFa ?zBP ?zSi ?zBe ?zTu ?zLi ?zH ?zR
  case aDykeError|aClash|aNoBreach|aNoField|aNoInch|aNoMend|aNoName|aNoOrder|aNoRoll|aNoText|aNoThen|aTooMany|aTwice|aNoRow=>k_is
  case zxNoRow|zeNoRow|zfNoRow|zgNoRow=>kernel_rfl
  case aF0|lF0|cF0|kF0|aF1|lF1|cF1|kF1|aF2|lF2|cF2|kF2|aF3|lF3|cF3|kF3|aF4|lF4|cF4|kF4|aF5|lF5|cF5|kF5|aF6|lF6|cF6|kF6|aF7|lF7|cF7|kF7|aL|lL|cL|kL|z_isinstance|z_str|z_len|z_all|z_int|z_bool|z_tuple|z_set|z_list|z_sorted|z_abs|z_range|z_min|z_repr|z_ValueError|q_LONGEST|q_LAST_DAY|q_FEWEST_LANDS|q_MOST_LANDS|q_MOST_PART_ACRES|q_MOST_INCHES|q_MOST_PENCE|q_MOST_SPADES|q_ROW_DEPTH|q_FORMS|lFm=>k_is
  case hzF=>first | rfl | decide
  case zIN|zNB|zIW|zRI|zPT|zAP|zAN|zRP|zRL|zIC|zIR|zAT|zIO|zRO|zP|zT|zN|zSo|zNu|zSm|zRo|zSa|zlN|zlW|zlP|zlR|zlL|zlI|zMa|zOd|zFa|zBP|zSi|zBe|zTu|zLi|zH|zR=>exact ⟨_,by k_is,⟨_,_,_,_,_,_,_,_,_,by k_is,by k_is⟩,by k_is⟩
