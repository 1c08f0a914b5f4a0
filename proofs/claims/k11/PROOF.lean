import PyProof.Rows.All
import Wide.All
import OpenK.AllK
import Wide.FinOn
import Lean
import PyProof.EqAt
import PyProof.EqKinds
import PyProof.TupleCall
import KE.KIntText
import KE.KDictList
import PyProof.StationsW
import PyProof.ExcClass2
import OpenK.KRaise
import OpenK.KOwn
import KE.KTryMore
import PyProof.NsDelKeeps
import PyProof.Rows.Catch
import PyProof.ExcArgs
import PyProof.AttrMissHeap
import KE.KDictOf
import KE.KPairComp
import PyProof.P3In
import KE.KSortTup
import PySem.Challenge.RW_dykelengths_k11_lands_joined
set_option compiler.extract_closed false
set_option genSizeOf false
set_option bootstrap.genMatcherCode false
set_option linter.all false
set_option maxRecDepth 100000
set_option Elab.async false
set_option maxHeartbeats 16000000
noncomputable section
local macro_rules
|`(tactic|omega)=>`(tactic|lia)
local macro_rules
|`(tactic|decide)=>`(tactic|decide +kernel)
open List renaming length_map->Aa,getElem?_eq_getElem->Ai,getElem?_eq_some_iff->Al,mem_cons->An,mem_cons_of_mem->Ao,mem_cons_self->Ap,map_cons->Aq,map_append->Ar,getElem?_map->Au,length_append->Av,size_toArray->Aw,take_add_one->AA,not_mem_nil->AC,append_assoc->AF,length_take->AJ,mem_singleton->AK,mem_map->AL,take_length->AN,mem_append->AO,mem_of_getElem?->AQ,length_cons->AR,mem_append_right->AS,range->A3,nodup_cons->A5,append_nil->A6,all_eq_true->A7,take_of_length_le->A9,mem_map_of_mem->Ba,foldl_cons->Bh,getElem_mem->Bk,mem_iff_getElem->Bp,getElem?_of_mem->Bq,nodup_append->Bu,replicate->Bw,length_filter_le->BE,mem_append_left->BG,mem_filter->BL,lookup_cons->BM,any_eq_true->BN,getElem?_take->BP,take_append_drop->BQ,getElem?_append_right->BV,filter_cons->BW,mem_of_mem_take->BY,length_drop->B3,length_singleton->B5,getElem?_append_left->B8,forIn_cons->Cf,foldl_append->Cp,filter_congr->Cq,drop_zero->Cr,length->Ct,pairwise_cons->Cz,sum_cons->CD,mem_range->CH,filter_cons_of_neg->CK,length_set->CN,replicate_succ->CQ,filter_append->CU,perm_append_comm->CY,getElem?_eq_none->CZ,mem_of_mem_drop->C5,filter_cons_of_pos->Dc,map_nil->Dh,map_map->Di,any_cons->Do,flatten_cons->Ds,lookup->Dz,getD_eq_getElem?_getD->DA,pairwise_iff_getElem->DH,mem_or_eq_of_mem_set->DI,range_succ->DL,find?_cons->DM,getElem?_drop->DO,reverse_perm->DZ,pairwise_map->D0,drop_eq_nil_of_le->D5,drop_drop->D6,zipIdx_cons->Ee,getElem_inj->Ef,filter_nil->Eo,dropLast_concat_getLast->Ep,reverse_append->Es,map_congr_left->Et,filterMap_cons->Eu,perm_append_comm_assoc->Ey,zip_cons_cons->EK,nodup_nil->EL,nodup_iff_pairwise_ne->EM,drop_eq_getElem_cons->EV,zip_nil_left->E3,filter->E4,getLast_mem->Fk,getElem?_set_self->Ft,foldl->Fu,filter_eq_nil_iff->Fv,drop_of_length_le->Fw,zipIdx_nil->FC,of_mem_zip->FF,nil_append->FG,dropLast_eq_take->FS,take_zero->FZ,range'->F0,pairwise_append->F1,not_lt->F2,lt_irrefl->F3,forIn_nil->F4,take_succ_cons->Gk,mergeSort_perm->Gm,getElem_idxOf->Gv,take_sublist->GQ,mem_range'_1->GT,map_set->GV,length_range->GX,getElem_take->GZ,mem_flatten->Hc,getElem_zip->Hd,all_toArray->He,length_nil->Hk,map_take->HB,all_cons->HC,take->HI,any_map->HJ
open PySem renaming wpAny_bind->Ab,Value->Ac,Shared->Ae,Addr->Af,wpAny_pure->Ag,Program->AE,Around->AV,World->AW,wpAny_ite_false->AX,boot_len->A1,PyData->Bc,FuncData->Be,Expr->Bi,Heap->Bl,wpAny_holding->Bx,Paired->BI,strKind->BX,mem_of_lookup->B2,wpAny_ite_true->B7,wpAny_newObj_type->Ce,wpAny_rule->Ck,sizeLine_eq->Co,wpAny_typeOf->Cv,Stmt->Cw,wpAny_mono->CI,wpAny_call_entry->CJ,codeAny_builtin->C8,wpAny_truthy_bool->C9,Scope->De,SetTable->Dj,wpAny_Call_Name_kw->Dr,wpAny_passesOwn->Dv,wpAny_newList->DV,tupleKind_room_in1->D8,wpAny_getItem_str_slice->Ec,wpAny_pyIter_list->Eg,codeAny_mono->Eh,NameKind->Ek,wpAny_typeNameOfWhole_keyiter->EC,Arguments->Fd,call_meets->Fe,wpAny_of_eq->Fq,sizeLine_eq->Fs,wpAny_typeNameOf_keyiter->Fx,wpAny_standAt->Fy,plainId_quiet->Fz,wpAny_isInstance->FU,wpAny_callSpecial?_slot->FV,wpAny_call->F5,Keyword->Ga,IsPart->Gb,wpAny_loadPart'->Gc,wpAny_execs_nil->Ge,post_val_or_str->Gf,typeIs_str->Hf,call_meetsIn->Hn,GenState->Hu,BindsTo->Hv,noFill_tuple_add->Hw,Fin->HA,Within->HD,typeIs_int->HL,Result->HN,wpAny_attempt->HU,seq_tuple_add->HW,call->HY,DictEntry->Ic,concat_meets->Ig,wpAny_field->Ii,seqIndex_of->Ij,Model->Il,CmpOp->Io
open Sum renaming inr->Ad,inl->Cs
open PySem.W renaming Frag->Ah,keepIn->A4,nsIn->By,mg_none_of->BA,findIn->BH,fnOf->Cc,emptyDict->Cm,codeIn->CC,instObj->C1,mg_of->C4,hasDictIn->EI,plainGet->EY,callWith_K->F9,plainOver->Gp,methodObj->Gr,codeHdIn->GG,takerIn->G4,makesIn->G6,OpenLaw->G7,lookIn->Hi,isFn->Hx,kas_first_eq->Ie,codeHd_of_K->Ik
open Nat renaming le_refl->Aj,le_trans->Ay,ne_of_lt->AI,lt_of_lt_of_le->A2,zero_le->A8,le_of_lt->BU,add_sub_cancel'->Ca,lt_succ_of_lt->CL,add_sub_cancel_left->CM,le_of_not_lt->CT,lt_of_le_of_lt->CW,lt_irrefl->C7,le_succ->Dg,sub_zero->Dk,add_zero->Dl,lt_succ_self->DF,lt_or_ge->DG,min_eq_left->DN,ne_of_gt->D9,le_of_eq->Ea,max_eq_right->Ej,min_le_left->Er,min_eq_right->Fo,zero_add->FB,lt_trans->G8,lt_of_succ_lt->G9,le_of_lt_succ->Hb,not_lt->Hz,add_assoc->HG
open PySem.Heap renaming get?_push_of_some->Ak,lt_size->Ax,get?_push_size->AH,get?_update_ne->BR,size_update->CA,size_push->CV,SameBut->Ez,get?_push_ne->E6,get?_update_self->FT
open Bool renaming false_ne_true->Am,and_eq_true->BC,false_eq_true->CB,eq_iff_iff->CO,and_false->D7,eq_false_iff->E7,true_and->Fc
open Or renaming inl->Az,inr->DT
open PyProof.Rows renaming wpS_bind->AB,wpS_pure->AM,Keyed->A0,SortSt->Bn,wpS_forRange->B1,slot_tuple_getitem->B4,SortKind->Cn,wpS_mono->C2,wpS_modify->C3,listUpdate_at->Dw,shownAll_eq_map->DY,StrsAre->Ei,boot_sum->EU,wpS_get->EW,AllBare->E8,IsTup->Fh,plain_sorted->F6,entry_sorted->F7,wpS_lift->Gx,seqEpoch_at->Gy,kind_sorted->Gz,args_list_sort->GF,size_push'->Hg,assignInOrder_cons->Hh,listItems_at->Hl,collect_list->Hm,args_sorted1->Ho,IntsAre->Ht,sortedHeap_old->HM,sortedHeap_at->HV
open Array renaming toList_append->AD,length_toList->AY,getElem?_toList->AZ,perm_iff_toList_perm->Bb,getElem?_eq_getElem->Br,toList_push->BB,toList_reverse->Cj,mapM_eq_mapM_toList->Cu,toList_map->Fi,size_extract->Gs
open PySem.Value renaming ref->AG,type->Bt,str->Bz,int->BS,none->DK,isStrOf->Gi,bool->HX
open Option renaming map_eq_some_iff->AU,isSome_iff_exists->Bf,some->BD,map_some->Fn,isSome_map->Gu
open PySem.F renaming plainAttrs_list->Bd,type_list_append->BZ,slot_list_append->B0,slot_dict_keyiterator_next->DJ,type_list_pop->DW,slot_list_pop->DX,args_tuple_add_2->ER,called_set->ET,plainAttrs_dict->EZ,entry_tuple_add->E1,slot_tuple_add->Fg,slot_dict_get->Fl,slot_list_getattribute->Fp
open PySem.Obj renaming mapSeq->Bg,mapFields->HE,putSet->Ih
open PySem.PassesOwn renaming never->Bj
open PySem.Paired renaming length->Bm,snoc->Cg
open PySem.NameKind renaming free->Bo,cell->Eb
open PySem.PyData renaming hasDictAll->Bs,keyHash->BF,str->BO,shown->Cd,depth->DS,showable->En,strOk->Fj,hasDict->FQ
open PySem.Str renaming ofString->Bv,length_append->C6
open List.Perm renaming append_left->BJ,append_right->Da,trans->DD,eq_of_pairwise->ED
open Int renaming mul_le_mul_of_nonneg_right->BK,toNat_natCast->Cb,natCast_add->CP,lt_of_le_of_lt->C0,toNat_of_nonneg->Dd,emod_nonneg->DP,ediv_nonneg->DQ,emod_lt_of_pos->DR,zero_add->EE,mul_lt_mul_of_pos_right->EF,eq_of_mul_eq_mul_right->ES,le_refl->E9,add_mul->Fb,mul_comm->FJ,ediv_le_of_le_mul->FW,ofNat->Gn,ofNat_lt->HP,mul_add->Ia
open List.Pairwise renaming nil->B6,of_map->E5,map->FH
open False renaming elim->B9
open PySem.Builtin.List renaming listItems->Ci,listTooLong->Du,listExtendWith->Ed,listUpdate->EA
open Ne renaming symm->Cy
open PySem.Around renaming under_plainId->CF,under->Gw
open ForInStep renaming yield->CG
open PySem.SetTable renaming fresh->CS,grown->Dp
open PySem.Calls renaming callWith_builtin->Df,call_function_entry->DE,spliced_cons->EG,evalArgs_plain->FX,spliced_nil->GK
open PyProof.Rows.F renaming plain_set_update_loop->Dm
open PySem.Builtin.Slice renaming slicePlaces->Dn,sliceAdjust->El
open PySem.Heap.SameBut renaming update->Dq
open PySem.Builtin.Tuple renaming tupleExact->Dt
open True renaming intro->Dy
open List.Sublist renaming nodup->DB
open Array.Perm renaming refl->DC
open List.Nodup renaming length_le_of_subset->DU
open PySem.SeqAt.EqAt renaming str_str->Em,same->EX,int_int->FK
open Classical renaming byContradiction->Ew
open PySem.Txt renaming slice->EH,slice_le->FA
open Prod renaming ext->EJ
open PySem.Data renaming set->EN,seq->EO,fields->HR
open PySem.StrLaws renaming join_length_le->Ff
open PySem.Shared renaming TypeIs->F8
open PyProof.Rows.SortSt renaming mk'->Hj
open PySem.Walks renaming list->Hq
open PySem.SeqAt renaming EqAt->Hr
open PySem.Moved renaming mono->Hs
open PySem.Code renaming isFrame->HK
open PySem.Flow renaming ret->HQ
open PUnit renaming unit->HZ
open Except renaming ok->Ib
open Iff renaming trans->Im
theorem Ip{c:Prop}{h:Decidable c}(n:¬c){α:Sort u}{t e:α}:ite c t e=e:=if_neg n
theorem Iq{c:Prop}{h:Decidable c}(n:c){α:Sort u}{t e:α}:ite c t e=t:=if_pos n
theorem Ir{p:Prop}[s:Decidable p](h:p):decide p=true:=decide_eq_true h
theorem Is{p:Prop}[s:Decidable p](h:¬p):decide p=false:=decide_eq_false h
theorem Iu{p:Prop}[s:Decidable p](h:decide p=true):p:=of_decide_eq_true h
theorem Iv{α:Sort u}{β:Sort v}{γ:Sort w}{f:α->β->γ}:∀a b,f a b=f a b:=fun _ _=>rfl
abbrev Iw:=List (PySem.Addr×PySem.Obj)
namespace L2
open PySem PySem.Spec PyProof.Rows
variable{P:AE}{w:AW}{H H':Hp}{h h':Bl}{e:Bi}{X:Cx}{im:List (Af×Obj)}{σ:St}{s:Ae}{pos:Pos}{E:Ac->Ae->Prop}{te:TE}{A:AV}{C f:Af}{es:List Bi}
inductive Ex3{α β γ:Type}(p:α->β->γ->Prop):Prop
 | mk (a:α) (b:β) (c:γ) (h:p a b c):Ex3 p
inductive Aw3(a b c:Prop):Prop
 | mk (h:a) (i:b) (j:c):Aw3 a b c
inductive Aw6(a b c d e f:Prop):Prop
 | mk (h:a) (i:b) (j:c) (k:d) (l:e) (m:f):Aw6 a b c d e f
theorem aF3{α:Type}{F:List α}(h:F.length=1):∃ G,F=[G]:=by
 cases F with
 | nil=>simp at h
 | cons G J=>
  cases J with
  | nil=>exact⟨G,rfl⟩
  | cons _ _=>simp at h
theorem lM{α:Type}{F:List α}(h:F.length=2):∃ G a1,F=[G,a1]:=by
 cases F with
 | nil=>simp at h
 | cons G J=>
  cases J with
  | nil=>simp at h
  | cons a1 O=>
   cases O with
   | nil=>exact⟨G,a1,rfl⟩
   | cons _ _=>simp at h
theorem aC4{α:Type}{F:List α}(h:F.length=3):∃ G a1 a2,F=[G,a1,a2]:=by
 cases F with
 | nil=>simp at h
 | cons G J=>
  cases J with
  | nil=>simp at h
  | cons a1 Y=>
   cases Y with
   | nil=>simp at h
   | cons a2 O=>
    cases O with
    | nil=>exact⟨G,a1,a2,rfl⟩
    | cons _ _=>simp at h
theorem aIP{α:Type}{F:List α}(h:F.length=4):∃ G a1 a2 a3,F=[G,a1,a2,a3]:=by
 cases F with
 | nil=>simp at h
 | cons G J=>
  cases J with
  | nil=>simp at h
  | cons a1 Z=>
   cases Z with
   | nil=>simp at h
   | cons a2 O=>
    cases O with
    | nil=>simp at h
    | cons a3 Y=>
     cases Y with
     | nil=>exact⟨G,a1,a2,a3,rfl⟩
     | cons _ _=>simp at h
theorem aJQ{α:Type}{F:List α}(h:F.length=5):∃ G a1 a2 a3 a4,F=[G,a1,a2,a3,a4]:=by
 cases F with
 | nil=>simp at h
 | cons G J=>
  cases J with
  | nil=>simp at h
  | cons a1 r1=>
   cases r1 with
   | nil=>simp at h
   | cons a2 O=>
    cases O with
    | nil=>simp at h
    | cons a3 Z=>
     cases Z with
     | nil=>simp at h
     | cons a4 Y=>
      cases Y with
      | nil=>exact⟨G,a1,a2,a3,a4,rfl⟩
      | cons _ _=>simp at h
abbrev Key:=Sum Int Str
def oJ:Key->Ac->Bool
 | .inl k,v=>Value.isInt k v
 | .inr x,v=>Gi x v
def aHH(w:AW):Key->Int
 | .inl k=>hashInt k
 | .inr x=>hashStr w x
theorem c6:∀{k:Key}{v:Ac},oJ k v=true->(∃ i t,k=Cs i/\v=BS i t)\/(∃ x t,k=Ad x/\v=Bz x t)
 | .inl i,v,h=>by
  obtain⟨t,e⟩:=Value.isInt_shape (k:=i) (v:=v) h;exact .inl ⟨i,t,rfl,e⟩
 | .inr x,v,h=>by
  obtain⟨t,e⟩:=Value.isStrOf_shape (x:=x) (v:=v) h;exact .inr ⟨x,t,rfl,e⟩
theorem aC5(i:Int)(t:Tok):oJ (.inl i) (.int i t)=true:=by simp[oJ,Value.isInt]
theorem aC6(x:Str)(t:Tok):oJ (.inr x) (.str x t)=true:=by simp[oJ,Gi]
theorem aHI(a b:Int):decide ((Cs a:Key)=Cs b)=(a==b):=by
 by_cases e:a=b
 .subst e;simp
 .have h:¬ (Cs a:Key)=Cs b:=fun q=>e (Cs.inj q);rw[Is h];exact(beq_eq_false_iff_ne.mpr e).symm
theorem aHJ(a b:Str):decide ((Ad a:Key)=Ad b)=decide (a=b):=by
 by_cases e:a=b
 .subst e;simp
 .have h:¬ (Ad a:Key)=Ad b:=fun q=>e (Ad.inj q);rw[Is h,Is e]
theorem aHK(a:Int)(b:Str):decide ((Cs a:Key)=Ad b)=false:=Is (fun q=>nomatch q)
theorem aHL(a:Str)(b:Int):decide ((Ad a:Key)=Cs b)=false:=Is (fun q=>nomatch q)
def cA(prog:AE)(w:AW):PySem.KeyKind prog w Key where
 is:=oJ
 hash:=aHH w
 inj:=fun v a b ha hb=>by
  rcases c6 ha with⟨i,t,rfl,rfl⟩|⟨x,t,rfl,rfl⟩
  .rcases c6 hb with⟨j,u,rfl,e⟩|⟨y,u,rfl,e⟩
   .injection e with e1 _;rw[e1]
   .exact nomatch e
  .rcases c6 hb with⟨j,u,rfl,e⟩|⟨y,u,rfl,e⟩
   .exact nomatch e
   .injection e with e1 _;rw[e1]
 byValue:=fun k v h=>by
  rcases c6 h with⟨i,t,rfl,rfl⟩|⟨x,t,rfl,rfl⟩<;>rfl
 pyHash:=fun hv h=>by
  rcases c6 hv with⟨i,t,rfl,rfl⟩|⟨x,t,rfl,rfl⟩
  .exact wpAny_pyHash_int h
  .exact wpAny_pyHash_str h
 eqBool:=fun hu hv h=>by
  rcases c6 hu with⟨i,t,rfl,rfl⟩|⟨x,t,rfl,rfl⟩
  .rcases c6 hv with⟨j,u,rfl,rfl⟩|⟨y,u,rfl,rfl⟩
   .rw[aHI]at h;exact wpAny_eqBool_int h
   .rw[aHK]at h;exact SeqAt.EqAt.int_str i t y u _ _ _ _ h
  .rcases c6 hv with⟨j,u,rfl,rfl⟩|⟨y,u,rfl,rfl⟩
   .rw[aHL]at h;exact SeqAt.EqAt.str_int x t j u _ _ _ _ h
   .rw[aHJ]at h;exact wpAny_eqBool_str h
 «strs»:=fun k x t v h=>by
  rcases c6 h with⟨i,u,rfl,e⟩|⟨y,u,rfl,e⟩
  .exact nomatch e
  .injection e with e1 _;subst e1;cases v<;>rfl
theorem yJ(prog:AE)(w:AW)(i:Int)(t:Tok):(cA prog w).is (.inl i) (.int i t)=true:=aC5 i t
theorem yK(prog:AE)(w:AW)(x:Str)(t:Tok):(cA prog w).is (.inr x) (.str x t)=true:=aC6 x t
inductive V where
 | non|bl (b:Bool)|int (i:Int)|str (x:Str)|byt (b:Array UInt8)|flt (b:UInt64)|ref (a:Af)|ty (n:String)
 deriving DecidableEq
def cC:V->Ac->Prop
 | .non,u=>u=DK
 | .bl b,u=>u=HX b
 | .int i,u=>∃ t,u=BS i t
 | .str x,u=>∃ t,u=Bz x t
 | .byt b,u=>∃ t,u=Value.bytes b t
 | .flt b,u=>∃ t,u=Value.float b t
 | .ref a,u=>u=AG a
 | .ty n,u=>u=Bt n
abbrev bU:List V->List Ac->Prop:=BI cC
theorem bU.length{xs:List V}{F:List Ac}(r:bU xs F):xs.length=F.length:=Bm r
theorem bU.get:∀{xs:List V}{F:List Ac}{i:Nat}{x:V},bU xs F->xs[i]?=some x->∃ u,F[i]?=some u/\cC x u
 | _,_,_,_,.nil,e=>by simp at e
 | _,_,0,_,.cons r _,e=>by simp at e;subst e;exact⟨_,rfl,r⟩
 | _,_,i+1,x,.cons _ t,e=>by
  obtain⟨u,h1,h2⟩:=bU.get (i:=i) (x:=x) t (by simpa using e);exact⟨u,by simpa using h1,h2⟩
theorem bU.set{x:V}{u:Ac}(r:cC x u):∀{xs:List V}{F:List Ac} (i:Nat),bU xs F->bU (xs.set i x) (F.set i u)
 | _,_,_,.nil=>.nil
 | _,_,0,.cons _ t=>.cons r t
 | _,_,i+1,.cons q t=>.cons q (bU.set r i t)
theorem bU.append:∀{xs ys:List V}{F ws:List Ac},bU xs F->bU ys ws->bU (xs++ys) (F++ws)
 | _,_,_,_,.nil,s=>s
 | _,_,_,_,.cons r t,s=>.cons r (bU.append t s)
theorem bU.take:∀{xs:List V}{F:List Ac} (n:Nat),bU xs F->bU (xs.take n) (F.take n)
 | _,_,0,_=>.nil
 | _,_,_+1,.nil=>.nil
 | _,_,n+1,.cons r t=>.cons r (bU.take n t)
theorem bU.drop:∀{xs:List V}{F:List Ac} (n:Nat),bU xs F->bU (xs.drop n) (F.drop n)
 | _,_,0,r=>r
 | _,_,_+1,.nil=>.nil
 | _,_,n+1,.cons _ t=>bU.drop n t
def lN:Option V->Option Ac->Prop
 | some v,some u=>cC v u
 | none,none=>True
 | _,_=>False
def KV{κ:Type}:List (κ×V)->List (κ×Ac)->Prop:=BI fun(p:κ×V) (q:κ×Ac)=>p.1=q.1/\cC p.2 q.2
def kV:Key->V
 | .inl i=>.int i
 | .inr x=>.str x
inductive HO where
  | lst (xs:List V)
  | tup (xs:List V)
  | dK (ip:List (Key×V))|dT (ip:List (List Key×V))
  | set (S:Int->Bool) (n:Nat)
  | ins (C dx:Af) (fs:List (Str×V))
  | own (x:Af)
  | xd (fs:List (Str×V))
  | met (f x:Af)
  | rng (lo hi:Int)
  | frz (o:Obj) (u:HO)
  | tbl (ps:Array Ac)
  | ext (φ:Bl->Prop)
abbrev Hp:=Af->Option HO
def upd(H:Hp)(a:Af)(o:HO):Hp:=fun b=>if b=a then some o else H b
theorem aA{H:Hp}{a:Af}{o:HO}:upd H a o a=some o:=by unfold upd;rw[Iq rfl]
theorem aG{H:Hp}{a b:Af}{o:HO}(h:b≠a):upd H a o b=H b:=by unfold upd;rw[Ip h]
theorem aF4{H:Hp}{a:Af}{o u:HO}:upd (upd H a o) a u=upd H a u:=by
 funext b;unfold upd;split<;>rfl
theorem bS{H:Hp}{a b:Af}{o u:HO}(h:H a=some o)(h':H b=some u)(d:o≠u):a≠b:=by
 intro e;subst e;rw[h]at h';exact d (BD.inj h')
theorem aH{H:Hp}{a b:Af}{o:HO}(h:H a=some o)(h':H b=none):a≠b:=by
 intro e;subst e;rw[h]at h';cases h'
section
variable(P:AE)(w:AW)
def lO(h:Bl)(a:Af)(items:Array Ac):Prop:=∃ o,h.get? a=some o/\(o.cls=.type "tuple"/\∃ n,o.data=.seq items n)/\o.dict=none
theorem lO.tup{h:Bl}{a:Af}{items:Array Ac}(x:lO h a items):Fh h a items:=by
 obtain⟨o,e,c,_⟩:=x;exact⟨o,e,c⟩
instance lO.coe{h:Bl}{a:Af}{items:Array Ac}:Coe (lO h a items) (Fh h a items):=⟨lO.tup⟩
theorem lO.lt{h:Bl}{a:Af}{items:Array Ac}(x:lO h a items):a<h.objs.size:=x.tup.lt
def cR(H:Hp)(h:Bl)(a:Af):HO->Prop
 | .lst xs=>xs.length<=sizeLine/\∃(its:List Ac) (n:Nat),bU xs its/\h.get? a=some { cls:=.type "list",data:=.seq its.toArray n }
 | .tup xs=>xs.length<=sizeLine/\∃ its:List Ac,bU xs its/\lO h a its.toArray
 | .dK ip=>ip.length<=sizeLine/\(a==sysModules)=false/\∃ vs,KV ip vs/\h.DictOf (cA P w) a vs
 | .dT ip=>ip.length<=sizeLine/\(a==sysModules)=false/\∃ xs:List (List Key×Af×Ac),
   BI (fun(p:List Key×V) (q:List Key×Af×Ac)=>p.1=q.1/\H q.2.1=some (.tup (p.1.map kV))/\cC p.2 q.2.2) ip xs/\
   ∃ o es ep,h.get? a=some o/\o.ExactDict/\o.data=.dict es ep/\es.toList=xs.map (entryOfKey (tupleKind (cA P w)))/\(xs.map (·.1)).Nodup
 | .set S n=>h.SetOf (intKind P w) a S n
 | .ins C dx fs=>H dx=some (.own a)/\fs.length<=1000/\dx≠a/\h.get? a=some (C1 C dx)/\
   ∃ mA,h.Ns1 dx mA/\(∀ f,lN (fs.lookup f) (mA f))/\HD mA (fs.map (·.1))
 | .own _=>∃ o,h.get? a=some o
 | .xd fs=>∃ mA,h.Ns1 a mA/\∀ f,lN (fs.lookup f) (mA f)
 | .rng lo hi=>∃ t u v,h.get? a=some { cls:=.type "range",data:=.fields #[.int lo t,.int hi u,.int 1 v] }
 | .frz o u=>h.get? a=some o/\cR H h a u
 | .tbl ps=>h.get? a=some { cls:=.none,data:=.fields ps }
 | .met f x=>h.get? a=some (Gr (.ref f) (.ref x))
 | .ext φ=>φ h/\(∃ o,h.get? a=some o)/\∀ h1 h2:Bl,φ h1->(∀ o,h1.get? a=some o->h2.get? a=some o)->φ h2
def HOk(H:Hp)(h:Bl):Prop:=∀ a o,H a=some o->cR P w H h a o
end
section
variable{a:Af}{o:HO}
theorem cR.lt(x:cR P w H h a o):a<h.objs.size:=by
 cases o with
 | lst xs=>obtain⟨_,_,_,_,e⟩:=x;exact Ax e
 | tup xs=>obtain⟨_,_,_,p⟩:=x;exact p.lt
 | dK ip=>obtain⟨_,_,_,_,o,_,_,e,_⟩:=x;exact Ax e
 | dT ip=>obtain⟨_,_,_,_,o,_,_,e,_⟩:=x;exact Ax e
 | set S n=>obtain⟨o,_,_,_,e,_⟩:=x;exact Ax e
 | ins C dx fs=>obtain⟨_,_,_,e,_⟩:=x;exact Ax e
 | own y=>obtain⟨_,e⟩:=x;exact Ax e
 | xd fs=>obtain⟨_,⟨_,_,_,e,_⟩,_⟩:=x;exact Ax e
 | rng lo hi=>obtain⟨_,_,_,e⟩:=x;exact Ax e
 | frz ob u=>obtain⟨e,_⟩:=x;exact Ax e
 | tbl ps=>exact Ax (show h.get? a=some _ from x)
 | met f y=>exact Ax (show h.get? a=some _ from x)
 | ext φ=>obtain⟨_,⟨_,e⟩,_⟩:=x;exact Ax e
theorem Paired.mapP{α β:Type}{F G:α->β->Prop}:∀{l₁:List α}{l₂:List β},BI F l₁ l₂->(∀ a b,F a b->G a b)->BI G l₁ l₂
 | _,_,.nil,_=>.nil
 | _,_,.cons r t,f=>.cons (f _ _ r) (Paired.mapP t f)
theorem cR.stay(x:cR P w H h a o)(k:∀ b u,(b=a\/H b=some (.own a))->h.get? b=some u->h'.get? b=some u)
  (ho:∀ b,H b=some (.own a)->H' b=some (.own a)) (ht:∀ b xs,H b=some (.tup xs)->H' b=some (.tup xs)):cR P w H' h' a o:=by
 induction o with
 | lst xs=>obtain⟨z,its,n,r,e⟩:=x;exact⟨z,its,n,r,k _ _ (.inl rfl) e⟩
 | tup xs=>obtain⟨z,its,r,ob,e,c⟩:=x;exact⟨z,its,r,ob,k _ _ (.inl rfl) e,c⟩
 | dK ip=>obtain⟨z,y,vs,r,ob,es,ep,e,c⟩:=x;exact⟨z,y,vs,r,ob,es,ep,k _ _ (.inl rfl) e,c⟩
 | dT ip=>
  obtain⟨z,y,xs,r,ob,es,ep,e,c⟩:=x;exact⟨z,y,xs,Paired.mapP r fun p q z=>⟨z.1,ht _ _ z.2.1,z.2.2⟩,ob,es,ep,k _ _ (.inl rfl) e,c⟩
 | set S n=>obtain⟨ob,es,ep,t,e,c⟩:=x;exact⟨ob,es,ep,t,k _ _ (.inl rfl) e,c⟩
 | ins C dx fs=>
  obtain⟨d,z,ne,e,mA,⟨od,es,ep,e2,c⟩,r⟩:=x;exact⟨ho _ d,z,ne,k _ _ (.inl rfl) e,mA,⟨od,es,ep,k _ _ (.inr d) e2,c⟩,r⟩
 | own y=>obtain⟨ob,e⟩:=x;exact⟨ob,k _ _ (.inl rfl) e⟩
 | xd fs=>obtain⟨mA,⟨od,es,ep,e,c⟩,r⟩:=x;exact⟨mA,⟨od,es,ep,k _ _ (.inl rfl) e,c⟩,r⟩
 | rng lo hi=>obtain⟨t,u,v,e⟩:=x;exact⟨t,u,v,k _ _ (.inl rfl) e⟩
 | frz ob u F=>obtain⟨e,q⟩:=x;exact⟨k _ _ (.inl rfl) e,F q⟩
 | tbl ps=>
  have e:h.get? a=some { cls:=.none,data:=.fields ps }:=x;show h'.get? a=some { cls:=.none,data:=.fields ps };exact k a _ (.inl rfl) e
 | met f y=>
  have e:h.get? a=some (Gr (.ref f) (.ref y)):=x;show h'.get? a=some (Gr (.ref f) (.ref y));exact k a _ (.inl rfl) e
 | ext φ=>obtain⟨p,⟨o,e⟩,st⟩:=x;exact⟨st _ _ p fun o q=>k _ _ (.inl rfl) q,⟨o,k _ _ (.inl rfl) e⟩,st⟩
theorem HOk.lt(x:HOk P w H h)(e:H a=some o):a<h.objs.size:=(x a o e).lt
theorem HOk.fresh(x:HOk P w H h)(e:h.objs.size<=a):H a=none:=by
 cases q:H a with
 | none=>rfl
 | some u=>exact absurd (A2 (x.lt q) e) (C7 _)
theorem HOk.kept(x:HOk P w H h)(k:∀ b u,h.get? b=some u->h'.get? b=some u):HOk P w H h':=fun a o e=>
 (x a o e).stay (fun b u _ q=>k b u q) (fun _ q=>q) fun _ _ q=>q
theorem HOk.laid(x:HOk P w H h)(k:∀ b u,h.get? b=some u->h'.get? b=some u)(G:h.objs.size<=a)(new:cR P w (upd H a o) h' a o):HOk P w (upd H a o) h':=fun b u e=>by
 have hn:=x.fresh G;by_cases F:b=a
 .subst F;rw[aA]at e;cases e;exact new
 .rw[aG F]at e;exact(x b u e).stay (fun c v _ q=>k c v q) (fun c q=>by rw[aG (aH q hn)];exact q) fun c xs q=>by rw[aG (aH q hn)];exact q
end
def Rd(H:Hp)(a:Af)(u:HO):Prop:=H a=some u\/∃ o,H a=some (.frz o u)
theorem Rd.ok{P:AE}{w:AW}{H:Hp}{h:Bl}{a:Af}{u:HO}(r:Rd H a u)(x:HOk P w H h):cR P w H h a u:=by
 rcases r with r|⟨o,r⟩
 .exact x a u r
 .obtain⟨_,q⟩:=x a _ r;exact q
def Mut:Option HO->Prop
 | some (.lst _)=>True
 | some (.dK _)=>True
 | some (.dT _)=>True
 | some (.set _ _)=>True
 | some (.ins _ _ _)=>True
 | some (.ext _)=>True
 | _=>False
section
variable{x e:Af}{o':HO}
theorem HOk.write(ok:HOk P w H h)(O:Mut (H x))(he:e=x\/H e=some (.own x))(k:∀ b u,b≠e->h.get? b=some u->h'.get? b=some u)(Z:∃ u,h'.get? e=some u)
  (new:cR P w (upd H x o') h' x o'):HOk P w (upd H x o') h':=fun b u q=>by
 have G:∀ c y,H c=some (.own y)->c≠x:=fun c y r z=>by subst z;rw[r]at O;exact O
 have J:∀ c xs,H c=some (.tup xs)->c≠x:=fun c xs r z=>by subst z;rw[r]at O;exact O
 by_cases Y:b=x
 .subst Y;rw[aA]at q;cases q;exact new
 .rw[aG Y]at q;by_cases F:b=e
  .have q':H b=some (.own x):=by
    rcases he with z|z
    .exact absurd (F.trans z) Y
    .rw[F];exact z
   rw[q]at q';cases q';obtain⟨v,hv⟩:=Z;exact⟨v,by rw[F];exact hv⟩
  .refine(ok b u q).stay (fun c v hc r=>k c v ?_ r) (fun c r=>by rw[aG (G c b r)];exact r) fun c xs r=>by rw[aG (J c xs r)];exact r
   rcases hc with rfl|hc
   .exact F
   .rintro rfl;rcases he with z|z
    .exact G c b hc z
    .rw[hc]at z;cases z;exact Y rfl
end
structure Un(fs ex:List Af)(H H':Hp)(h h':Bl):Prop where
 keep:∀ b o,h.get? b=some o->H b=none->b∉fs->b∉ex->h'.get? b=some o
 slot:∀ b o,h.get? b=some o->H b=none->b∈fs->b∉ex->∃ sl,h'.get? b=some { o with slots:=sl }
 free:∀ b o,h.get? b=some o->H b=none->b∉ex->H' b=none
 there:∀ b o,h.get? b=some o->b∉ex->∃ o',h'.get? b=some o'
 tups:∀ b xs,H b=some (.tup xs)->H' b=some (.tup xs)
 frzs:∀ b o u,H b=some (.frz o u)->H' b=some (.frz o u)
 tbls:∀ b ps,H b=some (.tbl ps)->∃ more,H' b=some (.tbl (ps++more))
section
variable{fs jo ex ex':List Af}{H1 H2:Hp}{h1 h2:Bl}{a x e:Af}{o:HO}
theorem Un.any(u:Un fs ex H H1 h h1){b:Af}{ob:Obj}(q:h.get? b=some ob)(n:H b=none)(F:b∉ex):∃ sl,h1.get? b=some { ob with slots:=sl }:=by
 by_cases G:b∈fs
 .exact u.slot b ob q n G F
 .exact⟨ob.slots,u.keep b ob q n G F⟩
theorem Un.kept(k:∀ b u,h.get? b=some u->h'.get? b=some u):Un fs ex H H h h':=
 ⟨fun b ob q _ _ _=>k b ob q,fun b ob q _ _ _=>⟨ob.slots,k b ob q⟩,fun _ _ _ n _=>n,fun b ob q _=>⟨ob,k b ob q⟩,fun _ _ q=>q,fun _ _ _ q=>q,fun _ ps q=>⟨#[],by rw[q];simp⟩⟩
theorem Un.refl:Un fs ex H H h h:=Un.kept fun _ _ q=>q
theorem Un.laid(k:∀ b u,h.get? b=some u->h'.get? b=some u)(F:h.objs.size<=a)(hn:H a=none):Un fs ex H (upd H a o) h h' where
 keep:=fun b u q _ _ _=>k b u q
 slot:=fun b u q _ _ _=>⟨u.slots,k b u q⟩
 free:=fun b u q n _=>by rw[aG (AI (A2 (Ax q) F))];exact n
 there:=fun b u q _=>⟨u,k b u q⟩
 tups:=fun b xs q=>by rw[aG (aH q hn)];exact q
 frzs:=fun b u xs q=>by rw[aG (aH q hn)];exact q
 tbls:=fun b ps q=>⟨#[],by rw[aG (aH q hn),q];simp⟩
theorem Un.write(G:Mut (H x))(Z:e=x\/H e=some (.own x))(k:∀ b u,b≠e->h.get? b=some u->h'.get? b=some u)(J:∃ u,h'.get? e=some u):Un fs ex H (upd H x o) h h':=by
 have O:∀ b,H b=none->b≠x:=fun b n z=>by subst z;rw[n]at G;exact G
 have Y:∀ b,H b=none->b≠e:=fun b n z=>by
  subst z;rcases Z with r|r
  .exact O b n r
  .rw[n]at r;cases r
 have hm:∀ b u,H b=some u->¬ Mut (some u)->b≠x:=fun b u q nm z=>by subst z;rw[q]at G;exact nm G
 refine⟨fun b u q n _ _=>k b u (Y b n) q,fun b u q n _ _=>⟨u.slots,k b u (Y b n) q⟩,fun b u q n _=>by rw[aG (O b n)];exact n,fun b u q _=>?_,
  fun b xs q=>by rw[aG (hm b _ q fun z=>z)];exact q,fun b u xs q=>by rw[aG (hm b _ q fun z=>z)];exact q,fun b ps q=>⟨#[],by rw[aG (hm b _ q fun z=>z),q];simp⟩⟩
 by_cases F:b=e
 .subst F;exact J
 .exact⟨u,k b u F q⟩
end
def trk(h:Bl)(H:Hp):List Af:=(A3 h.objs.size).filter fun a=>(H a).isSome
def wU(h:Bl)(H:Hp):Bl:=PySem.W.hideAll h (trk h H)
theorem aC7(h:Bl)(H:Hp):(wU h H).objs.size=h.objs.size:=PySem.W.hideAll_size _ _
theorem sG{h:Bl}{H:Hp}{b:Af}{o:Obj}(e:h.get? b=some o)(n:H b=none):(wU h H).get? b=some o:=
 PySem.W.hideAll_get _ e fun hm=>by
  have q:(H b).isSome=true:=(BL.mp hm).2;rw[n]at q;simp at q
theorem aF5{h:Bl}{H:Hp}{b:Af}{o:Obj}(e:(wU h H).get? b=some o):h.get? b=some o/\H b=none:=by
 have F:h.get? b=some o:=PySem.W.of_hideAll (trk h H) e;refine⟨F,?_⟩;cases q:H b with
 | none=>rfl
 | some x=>
  have hm:b∈trk h H:=BL.mpr ⟨CH.mpr (Ax F),by simp[q]⟩;have z:(wU h H).get? b=none:=PySem.W.hideAll_none (trk h H) hm;rw[z]at e;cases e
def aF6(g h:Bl)(L:Af):List (Af×Obj):=(A3 h.objs.size).filterMap fun a=>if a=L\/(g.get? a).isSome=true then none else(h.get? a).map fun o=>(a,o)
def cE(g h:Bl)(L d:Af):List (Af×Obj):=(aF6 g h L).filter fun p=>decide (p.1≠d)
structure Mod(K:Ah)(mg:Str->Option Ac)(base:Bl):Prop where
 kin:K.In base
 glob:base.Ns mainGlobals mg
 blt:∃ mb,base.Ns builtinsNs mb/\∀ x:Str,x≠"__name__"->mb x=bootBuiltins x
 nolimit:base.NoLimit
structure Cx where
 prog:AE
 w:AW
 K:Ah
 mg:Str->Option Ac
 base:Bl
 A:AV
 N:List Str
 s₀:Ae
 H₀:Hp
 env:Env
 outer:List Env
 stack:List Env
 ex:List Af
 fn:Str->Bool
 calm:Bool
 pn:List (Af×Obj)
 xe:Ac->Ae->Prop
def frs(l:List Env):List Af:=l.filterMap (·.frame)
abbrev Cx.fs(X:Cx):List Af:=frs X.outer
def Vis(sc:De)(x:Str):Prop:=sc.names.lookup x=some .local\/sc.names.lookup x=some .cell\/sc.names.lookup x=some .free
def Loc(sc:De)(x:Str):Prop:=sc.names.lookup x=some .local\/sc.names.lookup x=some .cell
def aJR(env:Env)(h:Bl)(m:Str->Option Ac)(x:Str)(u:Ac):Prop:=
 (env.kindOf x=some .local/\m x=some u)\/((env.kindOf x=some .cell\/env.kindOf x=some .free)/\∃ c,env.cells.lookup x=some c/\h.IsCell c (some u))
structure Cx.Ok(X:Cx):Prop where
 mod:Mod X.K X.mg X.base
 kind:X.env.scope.kind=.function
 glob:X.env.globals=mainGlobals
 blt:X.env.builtins=builtinsNs
 above:X.s₀.heap.objs.size<=X.env.locals
 inj:∀ x y c,X.env.cells.lookup x=some c->X.env.cells.lookup y=some c->x=y
 has:∀ x,(X.env.kindOf x=some .cell\/X.env.kindOf x=some .free)->∃ c,X.env.cells.lookup x=some c
 cab:∀ x c,X.fn x=true->X.env.cells.lookup x=some c->X.s₀.heap.objs.size<=c
 hd:X.calm=true->X.A.handled=none
 frames:X.A.frames=some X.stack
 stk:X.stack=X.outer\/(X.stack=X.env::X.outer/\X.env.frame=some X.env.locals)
 exf:∀ b∈X.ex,b≠X.env.locals/\∀ x c,X.env.cells.lookup x=some c->c≠b
 bs:∀ b o,X.base.get? b=some o->X.s₀.heap.get? b=some o/\X.H₀ b=none
 bsz:X.base.objs.size<=X.s₀.heap.objs.size
 noex:∀ b o,X.base.get? b=some o->b∉X.ex
 exfs:∀ b∈X.ex,b∉X.fs
 funs:X.s₀.heap.FunFrames X.base X.outer
 frf:∀ b∈X.fs,X.H₀ b=none
structure Inv(X:Cx)(im:List (Af×Obj))(σ:List (Option V))(H:Hp)(s:Ae):Prop where
 ok:X.Ok
 os:s.os=X.s₀.os
 bare:E8 s.gens
 base:Un X.fs X.ex X.H₀ H X.s₀.heap s.heap
 loc:∃ m,s.heap.Ns X.env.locals m/\∀(i:Nat) (x:Str) (v:V),X.N[i]?=some x->σ[i]?=some (some v)->Vis X.env.scope x->∃ u,cC v u/\aJR X.env s.heap m x u
 cell:∀ x c,X.env.cells.lookup x=some c->∃ v,s.heap.IsCell c v
 free:H X.env.locals=none
 freeC:∀ x c,X.env.cells.lookup x=some c->H c=none
 pin:∀ p∈X.pn++im,s.heap.get? p.1=some p.2/\H p.1=none/\p.1≠X.env.locals/\p.1∉X.fs/\∀ v,p.2.data≠.cell v
 hok:HOk X.prog X.w H s.heap
 len:σ.length=X.N.length
section
variable{σ:List (Option V)}
theorem Cx.Ok.nofr(ok:X.Ok){b:Af}{o:Obj}(e:X.base.get? b=some o):b∉X.fs:=fun F=>by
 have:=(ok.funs.mem F).1;rw[e]at this;cases this
theorem Inv.bs(I:Inv X im σ H s):∀ b o,X.base.get? b=some o->s.heap.get? b=some o/\H b=none:=fun b o e=>
 ⟨I.base.keep b o (I.ok.bs b o e).1 (I.ok.bs b o e).2 (I.ok.nofr e) (I.ok.noex b o e),I.base.free b o (I.ok.bs b o e).1 (I.ok.bs b o e).2 (I.ok.noex b o e)⟩
theorem Inv.bk(I:Inv X im σ H s):∀ b o,X.base.get? b=some o->s.heap.get? b=some o:=fun b o e=>(I.bs b o e).1
theorem Inv.mod(I:Inv X im σ H s):Mod X.K X.mg X.base:=I.ok.mod
theorem Inv.kIn(I:Inv X im σ H s):X.K.In s.heap:=I.ok.mod.kin.keeps I.bk
theorem Inv.nolimit(I:Inv X im σ H s):s.heap.NoLimit:=I.ok.mod.nolimit.keeps I.bk
theorem Inv.lt(I:Inv X im σ H s):X.env.locals<s.heap.objs.size:=let ⟨_,hn,_⟩:=I.loc;hn.lt
theorem Inv.sz(I:Inv X im σ H s):X.s₀.heap.objs.size<=s.heap.objs.size:=Ay I.ok.above (BU I.lt)
theorem Inv.nofs(I:Inv X im σ H s){a:Af}(h:s.heap.objs.size<=a):a∉X.fs:=fun F=>by
 obtain⟨_,o,ho,_⟩:=I.ok.funs.mem F;exact absurd (A2 (Ax ho) (Ay I.sz h)) (C7 _)
theorem Inv.cne(I:Inv X im σ H s):∀ x c,X.env.cells.lookup x=some c->c≠X.env.locals:=fun x c e z=>by
 obtain⟨v,o,ho,hd⟩:=I.cell x c e;obtain⟨m,⟨o',es,ep,ho',hd',_⟩,_⟩:=I.loc;rw[z,ho']at ho;cases ho;rw[hd']at hd;cases hd
theorem Inv.funs(I:Inv X im σ H s):s.heap.FunFrames X.base X.outer:=by
 have all:∀(l:List Env),(∀ b∈frs l,b∈X.fs)->X.s₀.heap.FunFrames X.base l->s.heap.FunFrames X.base l:=by
  intro l
  induction l with
  | nil=>intro _ _;trivial
  | cons env r J=>
   intro hs hl;obtain⟨hk,⟨L,o,hf,hn,ho,hd⟩,hr⟩:=hl;have F:L∈X.fs:=hs L (by unfold frs;rw[Eu,hf];exact Ap);obtain⟨sl,e⟩:=I.base.slot L o ho (I.ok.frf L F) F fun z=>I.ok.exfs L z F;exact⟨hk,⟨L,_,hf,hn,e,hd⟩,J (fun b G=>hs b (by unfold frs;rw[Eu,hf];exact Ao _ G)) hr⟩
 exact all X.outer (fun _ G=>G) I.ok.funs
theorem Inv.stack(I:Inv X im σ H s):s.heap.FunFrames X.base X.stack:=by
 rcases I.ok.stk with e|⟨e,F⟩
 .rw[e];exact I.funs
 .rw[e];obtain⟨m,hn,_⟩:=I.loc;refine .cons (by rw[I.ok.kind];decide) F hn ?_ I.funs;exact Heap.get?_none_of_le (Ay I.ok.bsz I.ok.above)
theorem Inv.stkSub(I:Inv X im σ H s):∀ b∈frs X.stack,b∈X.env.locals::X.fs:=fun b F=>by
 rcases I.ok.stk with e|⟨e,G⟩
 .rw[e]at F;exact Ao _ F
 .rw[e]at F;unfold frs at F;rw[Eu,G]at F;exact F
theorem Inv.stkFree(I:Inv X im σ H s):∀ b∈frs X.stack,H b=none:=fun b F=>by
 rcases An.mp (I.stkSub b F)with e|F
 .rw[e];exact I.free
 .obtain⟨_,o,ho,_⟩:=I.ok.funs.mem F;exact I.base.free b o ho (I.ok.frf b F) fun z=>I.ok.exfs b z F
theorem Inv.step{g':Array Hu}{t':Nat}{d':Drawn}{ch:List Af}(I:Inv X im σ H s)
  (G:∀ b∈ch,(b∈X.ex\/X.s₀.heap.objs.size<=b)/\b≠X.env.locals/\(∀ x c,X.env.cells.lookup x=some c->c≠b)/\∀ p∈X.pn++im,p.1≠b)
  (keep:∀ b o,b≠X.env.locals->b∉X.fs->b∉ch->s.heap.get? b=some o->H b=none->h'.get? b=some o)
  (slot:∀ b o,b≠X.env.locals->b∈X.fs->b∉ch->s.heap.get? b=some o->H b=none->∃ sl,h'.get? b=some { o with slots:=sl }) (free:∀ b o,b∉ch->s.heap.get? b=some o->H b=none->H' b=none)
  (there:∀ b o,b∉ch->s.heap.get? b=some o->∃ o',h'.get? b=some o')
  (tups:∀ b xs,H b=some (.tup xs)->H' b=some (.tup xs)) (frzs:∀ b o u,H b=some (.frz o u)->H' b=some (.frz o u)) (tbls:∀ b ps,H b=some (.tbl ps)->∃ more,H' b=some (.tbl (ps++more)))
  (ns:∀ m,s.heap.Ns X.env.locals m->h'.Ns X.env.locals m) (hok:HOk X.prog X.w H' h') (hg:E8 g'):
  Inv X im σ H' { s with heap:=h',gens:=g',drawn:=d',toks:=t' }:=by
 have ad:∀ b o,X.s₀.heap.get? b=some o->b≠X.env.locals:=fun b o e=>AI (A2 (Ax e) I.ok.above);have Z:∀ b o,X.s₀.heap.get? b=some o->b∉X.ex->b∉ch:=fun b o e F hb=>by
  rcases(G b hb).1 with z|z
  .exact F z
  .exact absurd (A2 (Ax e) z) (C7 _)
 have J:∀ x c,X.env.cells.lookup x=some c->∀ v,s.heap.IsCell c v->h'.IsCell c v:=fun x c e v ⟨o,ho,hd⟩=>by
  have O:c∉ch:=fun z=>(G c z).2.2.1 x c e rfl;by_cases hc:c∈X.fs
  .obtain⟨sl,q⟩:=slot c o (I.cne x c e) hc O ho (I.freeC x c e);exact⟨_,q,hd⟩
  .exact⟨o,keep c o (I.cne x c e) hc O ho (I.freeC x c e),hd⟩
 refine⟨I.ok,I.os,hg,⟨fun b o e n hb F=>?_,fun b o e n hb F=>?_,fun b o e n F=>?_,fun b o e F=>?_,fun b xs e=>tups b xs (I.base.tups b xs e),fun b o xs e=>frzs b o xs (I.base.frzs b o xs e),fun b ps e=>?_⟩,?_,fun x c e=>?_,?_,fun x c e=>?_,fun p hp=>?_,hok,I.len⟩
 .exact keep b o (ad b o e) hb (Z b o e F) (I.base.keep b o e n hb F) (I.base.free b o e n F)
 .obtain⟨sl,Y⟩:=I.base.slot b o e n hb F;obtain⟨sl',e2⟩:=slot b _ (ad b o e) hb (Z b o e F) Y (I.base.free b o e n F);exact⟨sl',e2⟩
 .obtain⟨o',Y⟩:=I.base.there b o e F;exact free b o' (Z b o e F) Y (I.base.free b o e n F)
 .obtain⟨o',Y⟩:=I.base.there b o e F;exact there b o' (Z b o e F) Y
 .obtain⟨m1,Y⟩:=I.base.tbls b ps e;obtain⟨m2,e2⟩:=tbls b _ Y;exact⟨m1++m2,by rw[e2,Array.append_assoc]⟩
 .obtain⟨m,hn,hl⟩:=I.loc;refine⟨m,ns m hn,fun i x v Y e2 e3=>?_⟩;obtain⟨u,r,l⟩:=hl i x v Y e2 e3;refine⟨u,r,?_⟩;rcases l with l|⟨k,c,e,z⟩
  .exact .inl l
  .exact .inr ⟨k,c,e,J x c e _ z⟩
 .obtain⟨v,z⟩:=I.cell x c e;exact⟨v,J x c e v z⟩
 .obtain⟨m,⟨o,_,_,ho,_⟩,_⟩:=I.loc;exact free _ o (fun z=>(G _ z).2.1 rfl) ho I.free
 .obtain⟨v,o,ho,hd⟩:=I.cell x c e;exact free c o (fun z=>(G c z).2.2.1 x c e rfl) ho (I.freeC x c e)
 .obtain⟨e,n,ne,nf,d⟩:=I.pin p hp;have O:p.1∉ch:=fun z=>(G p.1 z).2.2.2 p hp rfl;exact⟨keep p.1 p.2 ne nf O e n,free p.1 p.2 O e n,ne,nf,d⟩
theorem Inv.un{t':Nat}(I:Inv X im σ H s)(u:Un X.fs [] H H' s.heap h')(hok:HOk X.prog X.w H' h'):Inv X im σ H' { s with heap:=h',toks:=t' }:=by
 obtain⟨m,⟨o,es,ep,ho,r⟩,_⟩:=id I.loc;obtain⟨sl,hL⟩:=u.any ho I.free (by simp);exact I.step (g':=s.gens) (d':=s.drawn) (ch:=[]) (fun _ z=>nomatch z) (fun b o _ F _ e n=>u.keep b o e n F (by simp)) (fun b o _ F _ e n=>u.slot b o e n F (by simp)) (fun b o _ e n=>u.free b o e n (by simp)) (fun b o _ e=>u.there b o e (by simp)) u.tups u.frzs u.tbls (fun G hm=>by
  obtain⟨o',es',ep',ho',r'⟩:=hm;rw[ho]at ho';cases ho';exact⟨_,es',ep',hL,r'⟩) hok I.bare
theorem Inv.call{g':Array Hu}{t':Nat}{d':Drawn}{ch:List Af}(I:Inv X im σ H s)(u:Un (frs X.stack) ch H H' s.heap h')(hok:HOk X.prog X.w H' h')(J:E8 g')
  (F:∀ b∈ch,(b∈X.ex\/X.s₀.heap.objs.size<=b)/\b≠X.env.locals/\(∀ x c,X.env.cells.lookup x=some c->c≠b)/\∀ p∈X.pn++im,p.1≠b):
  Inv X im σ H' { s with heap:=h',gens:=g',drawn:=d',toks:=t' }:=by
 obtain⟨m,⟨o,es,ep,ho,r⟩,_⟩:=id I.loc;obtain⟨sl,G⟩:=u.any ho I.free fun z=>(F _ z).2.1 rfl;exact I.step (ch:=ch) F (fun b o G O hc e n=>u.keep b o e n (fun z=>(An.mp (I.stkSub b z)).elim G O) hc) (fun b o _ _ hc e n=>u.any e n hc) (fun b o hc e n=>u.free b o e n hc) (fun b o hc e=>u.there b o e hc) u.tups u.frzs u.tbls (fun Y hm=>by
  obtain⟨o',es',ep',ho',r'⟩:=hm;rw[ho]at ho';cases ho';exact⟨_,es',ep',G,r'⟩) hok J
theorem Inv.turned{t':Nat}{it:Af}(I:Inv X im σ H s)(k:∀ b o,b≠it->s.heap.get? b=some o->h'.get? b=some o)(hn:H it=none)(G:it≠X.env.locals)
  (h1:it∈X.ex\/X.s₀.heap.objs.size<=it) (h2:∀ x c,X.env.cells.lookup x=some c->c≠it) (J:∀ p∈X.pn++im,p.1≠it):Inv X im σ H { s with heap:=h',toks:=t' }:=by
 have F:∀ b u,H b=some u->b≠it:=fun b u e z=>by rw[z,hn]at e;cases e
 refine I.step (g':=s.gens) (d':=s.drawn) (ch:=[it]) (fun b O=>?_) (fun b o _ _ hc e _=>k b o (fun z=>hc (by simp[z])) e) (fun b o _ _ hc e _=>⟨o.slots,k b o (fun z=>hc (by simp[z])) e⟩) (fun _ _ _ _ n=>n)
  (fun b o hc e=>⟨o,k b o (fun z=>hc (by simp[z])) e⟩) (fun _ _ e=>e) (fun _ _ _ e=>e) (fun b ps e=>⟨#[],by rw[e];simp⟩) (fun m hm=>?_) (fun b u e=>?_) I.bare
 .have e:b=it:=by simpa using O
  subst e;exact⟨h1,G,h2,J⟩
 .obtain⟨o,es,ep,ho,r⟩:=hm;exact⟨o,es,ep,k _ o (Cy G) ho,r⟩
 .refine(I.hok b u e).stay (fun c v hc q=>k c v ?_ q) (fun _ q=>q) fun _ _ q=>q;rcases hc with z|z
  .rw[z];exact F b u e
  .exact F c _ z
theorem Inv.tok(I:Inv X im σ H s)(t:Nat):Inv X im σ H { s with toks:=t }:=I.un (h':=s.heap) (t':=t) Un.refl I.hok
theorem Inv.kept{t':Nat}(I:Inv X im σ H s)(k:∀ b u,s.heap.get? b=some u->h'.get? b=some u):Inv X im σ H { s with heap:=h',toks:=t' }:=I.un (Un.kept k) (I.hok.kept k)
theorem Inv.laid{a:Af}{o:HO}{t':Nat}(I:Inv X im σ H s)(k:∀ b u,s.heap.get? b=some u->h'.get? b=some u)(F:s.heap.objs.size<=a)(new:cR X.prog X.w (upd H a o) h' a o):
  Inv X im σ (upd H a o) { s with heap:=h',toks:=t' }:=I.un (Un.laid k F (I.hok.fresh F)) (I.hok.laid k F new)
theorem Inv.write{x e:Af}{o:HO}{t':Nat}(I:Inv X im σ H s)(G:Mut (H x))(J:e=x\/H e=some (.own x))(k:∀ b u,b≠e->s.heap.get? b=some u->h'.get? b=some u)(F:∃ u,h'.get? e=some u)
  (new:cR X.prog X.w (upd H x o) h' x o):Inv X im σ (upd H x o) { s with heap:=h',toks:=t' }:=I.un (Un.write G J k F) (I.hok.write G J k F new)
theorem Inv.pins_of{F:List (Af×Obj)}(I:Inv X im σ H s)(h:∀ p∈F,s.heap.get? p.1=some p.2/\H p.1=none/\p.1≠X.env.locals/\p.1∉X.fs/\∀ v,p.2.data≠.cell v):Inv X F σ H s:=
 ⟨I.ok,I.os,I.bare,I.base,I.loc,I.cell,I.free,I.freeC,fun p G=>(AO.mp G).elim (fun z=>I.pin p (BG _ z)) (h p),I.hok,I.len⟩
theorem yL{N:List Str}(hN:N.Nodup){i j:Nat}{x:Str}(a:N[i]?=some x)(b:N[j]?=some x):i=j:=by
 obtain⟨h1,e1⟩:=Al.mp a;obtain⟨h2,e2⟩:=Al.mp b;exact(Ef hN).mp (e1.trans e2.symm)
theorem vJ{M:Il}{A:AV}{E:Ac->Ae->Prop}{i:Nat}{x:Str}{v:V}{u:Ac}{Q:Unit->Ae->Prop}(I:Inv X im σ H s)(hN:X.N.Nodup)(hi:X.N[i]?=some x)(J:Loc X.env.scope x)(r:cC v u)
  (h:∀ s',Inv X im (σ.set i (some v)) H s'->(∃ a,Ez a s.heap s'.heap/\(a=X.env.locals\/X.env.cells.lookup x=some a))->Q () s') (hf:X.fn x=true\/X.env.scope.names.lookup x=some .local:=by first|exact .inl rfl|exact .inr rfl|assumption):wpAny M A (storeName X.env x u) Q E s:=by
 obtain⟨m,hn,hl⟩:=id I.loc;have af:(X.env.scope.kind==.class||(X.env.scope.kind==.module&&X.env.locals != X.env.globals))=false:=by rw[I.ok.kind];rfl
 have ae:i<σ.length:=by rw[I.len];exact(Al.mp hi).1
 have cne:=I.cne;have F:∀{a:Af} {h':Bl},(∃ o,s.heap.get? a=some o/\H a=none)->Ez a s.heap h'->HOk X.prog X.w H h':=fun{a h'} ha hs b ob e=>by
  obtain⟨_,_,hfree⟩:=ha;refine(I.hok b ob e).stay (fun c w' hc q=>(hs.2 c ?_).trans q) (fun _ q=>q) fun _ _ q=>q;rintro rfl;rcases hc with rfl|hc
  .rw[hfree]at e;cases e
  .rw[hfree]at hc;cases hc
 rcases J with Y|Y
 .refine wpAny_storeName_local Y hn (fun h' aj hs=>?_) af;obtain⟨oL,_,_,hoL,_⟩:=id hn;refine h _ ⟨I.ok,I.os,I.bare,⟨fun b o e n hb J=>?_,fun b o e n hb J=>?_,I.base.free,fun b o e J=>?_,I.base.tups,I.base.frzs,I.base.tbls⟩,⟨_,aj,fun j y v' G O e3=>?_⟩,fun y c e=>?_,I.free,I.freeC,fun p hp=>?_,F ⟨oL,hoL,I.free⟩ hs,by simpa using I.len⟩ ⟨_,hs,.inl rfl⟩
  .exact(hs.2 b (AI (A2 (Ax e) I.ok.above))).trans (I.base.keep b o e n hb J)
  .obtain⟨sl,G⟩:=I.base.slot b o e n hb J;exact⟨sl,(hs.2 b (AI (A2 (Ax e) I.ok.above))).trans G⟩
  .obtain⟨o',G⟩:=I.base.there b o e J;exact⟨o',(hs.2 b (AI (A2 (Ax e) I.ok.above))).trans G⟩
  .by_cases hj:j=i
   .subst hj;rw[hi]at G;cases G;rw[Ft ae]at O;cases O;exact⟨u,r,.inl ⟨Y,by simp⟩⟩
   .rw[List.getElem?_set_ne (Cy hj)]at O;obtain⟨u',r',q⟩:=hl j y v' G O e3;refine⟨u',r',?_⟩;rcases q with⟨k,e⟩|⟨k,c,e,z⟩
    .refine .inl ⟨k,?_⟩;have:y≠x:=fun e=>hj (yL hN G (e▸hi));simp[this,e]
    .exact .inr ⟨k,c,e,z.sameBut hs (cne y c e)⟩
  .obtain⟨w',z⟩:=I.cell y c e;exact⟨w',z.sameBut hs (cne y c e)⟩
  .obtain⟨e,n,ne,nf,d⟩:=I.pin p hp;exact⟨(hs.2 p.1 ne).trans e,n,ne,nf,d⟩
 .have Z:X.fn x=true:=by
   rcases hf with z|z
   .exact z
   .rw[z]at Y;cases Y
  obtain⟨c,hc⟩:=I.ok.has x (.inl Y);obtain⟨w',z⟩:=I.cell x c hc;refine wpAny_storeName_cell I.ok.kind Y hc z (fun h' ad hs=>?_);obtain⟨oc,hoc,hocd⟩:=id z;refine h { s with heap:=h' } ⟨I.ok,I.os,I.bare,⟨fun b o e n hb J=>?_,fun b o e n hb J=>?_,I.base.free,fun b o e J=>?_,I.base.tups,I.base.frzs,I.base.tbls⟩,⟨m,hn.sameBut hs (Cy (cne x c hc)),fun j y v' G O e3=>?_⟩,fun y c' e=>?_,I.free,I.freeC,fun p hp=>?_,F ⟨oc,hoc,I.freeC x c hc⟩ hs,by simpa using I.len⟩ ⟨c,hs,.inr hc⟩
  .exact(hs.2 b (AI (A2 (Ax e) (I.ok.cab x c Z hc)))).trans (I.base.keep b o e n hb J)
  .obtain⟨sl,G⟩:=I.base.slot b o e n hb J;exact⟨sl,(hs.2 b (AI (A2 (Ax e) (I.ok.cab x c Z hc)))).trans G⟩
  .obtain⟨o',G⟩:=I.base.there b o e J;exact⟨o',(hs.2 b (AI (A2 (Ax e) (I.ok.cab x c Z hc)))).trans G⟩
  .by_cases hj:j=i
   .subst hj;rw[hi]at G;cases G;rw[Ft ae]at O;cases O;exact⟨u,r,.inr ⟨.inl Y,c,hc,ad⟩⟩
   .rw[List.getElem?_set_ne (Cy hj)]at O;obtain⟨u',r',q⟩:=hl j y v' G O e3;refine⟨u',r',?_⟩;rcases q with q|⟨k,c',e,z'⟩
    .exact .inl q
    .refine .inr ⟨k,c',e,z'.sameBut hs ?_⟩;rintro rfl;exact hj (yL hN G (I.ok.inj _ _ _ e hc▸hi))
  .by_cases ag:c'=c
   .subst ag;exact⟨_,ad⟩
   .obtain⟨w2,z2⟩:=I.cell y c' e;exact⟨w2,z2.sameBut hs ag⟩
  .obtain⟨e,n,ne,nf,d⟩:=I.pin p hp;refine⟨(hs.2 p.1 ?_).trans e,n,ne,nf,d⟩;intro q;rw[q,hoc]at e;have q':oc=p.2:=BD.inj e;exact d w' (by rw[<- q'];exact hocd)
theorem lP{M:Il}{A:AV}{E:Ac->Ae->Prop}{i:Nat}{x:Str}{v:V}{u:Ac}{Q:Unit->Ae->Prop}(I:Inv X im σ H s)(hN:X.N.Nodup)(hi:X.N[i]?=some x)(F:Loc X.env.scope x)(r:cC v u)
  (h:∀ s',Inv X im (σ.set i (some v)) H s'->Q () s') (G:X.fn x=true\/X.env.scope.names.lookup x=some .local:=by first|exact .inl rfl|exact .inr rfl|assumption):wpAny M A (storeName X.env x u) Q E s:=
 vJ I hN hi F r (fun s' J _=>h s' J) G
theorem Inv.call'{s':Ae}{ch:List Af}(I:Inv X im σ H s)(ho:s'.os=s.os)(u:Un (frs X.stack) ch H H' s.heap s'.heap)(hok:HOk X.prog X.w H' s'.heap)(G:E8 s'.gens)
  (F:∀ b∈ch,(b∈X.ex\/X.s₀.heap.objs.size<=b)/\b≠X.env.locals/\(∀ x c,X.env.cells.lookup x=some c->c≠b)/\∀ p∈X.pn++im,p.1≠b):Inv X im σ H' s':=by
 obtain⟨h',g',d',t',o'⟩:=s';have e:o'=s.os:=ho;subst e;exact I.call (g':=g') (t':=t') (d':=d') u hok G F
end
abbrev XK:=Ac->Option Af->Hp->Prop
abbrev St:=List (Option V)
abbrev VK:=V->Hp->Prop
abbrev TE:=St->Hp->VK->Prop
abbrev TT:=St->Hp->(Bool->Hp->Prop)->Prop
abbrev TA:=St->Hp->(List V->Hp->Prop)->Prop
structure Ends where
 nx:St->Hp->Prop
 rt:VK
 bk:St->Hp->Prop:=fun _ _=>False
 ct:St->Hp->Prop:=fun _ _=>False
abbrev TS:=Ends->St->Hp->Prop
inductive aIQ(X:Cx)(im:List (Af×Obj))(σ:St)(Q:VK)(u:Ac)(s':Ae):Prop
 | mk (v:_) (H':_) (q0:Inv X im σ H' s') (q1:cC v u) (q2:Q v H'):aIQ X im σ Q u s'
def EP(X:Cx)(im:List (Af×Obj))(σ:St)(Q:VK)(u:Ac)(s':Ae):Prop:=aIQ X im σ Q u s'
def TP(X:Cx)(im:List (Af×Obj))(σ:St)(Q:Bool->Hp->Prop)(b:Bool)(s':Ae):Prop:=∃ H',Inv X im σ H' s'/\Q b H'
inductive aIR(X:Cx)(im:List (Af×Obj))(σ:St)(Q:List V->Hp->Prop)(us:List Ac)(s':Ae):Prop
 | mk (vs:_) (H':_) (q0:Inv X im σ H' s') (q1:bU vs us) (q2:Q vs H'):aIR X im σ Q us s'
def AP(X:Cx)(im:List (Af×Obj))(σ:St)(Q:List V->Hp->Prop)(us:List Ac)(s':Ae):Prop:=aIR X im σ Q us s'
def SP(X:Cx)(im:List (Af×Obj))(D:Ends)(f:Flow)(s':Ae):Prop:=
 match f with
 | .next=>∃ σ' H',Inv X im σ' H' s'/\D.nx σ' H'
 | .brk=>∃ σ' H',Inv X im σ' H' s'/\D.bk σ' H'
 | .cont=>∃ σ' H',Inv X im σ' H' s'/\D.ct σ' H'
 | .ret u=>∃ v σ' H',Inv X im σ' H' s'/\cC v u/\D.rt v H'
structure PE(X:Cx)(e:Bi)(t:TE):Prop where
 run:
  ∀(im:List (Af×Obj)) (s:Ae) (σ:St) (H:Hp) (Q:VK),Inv X im σ H s->t σ H Q->wpAny (model X.prog X.w) X.A (eval e X.env) (EP X im σ Q) X.xe s
instance{X:Cx}{e:Bi}{t:TE}:CoeFun (PE X e t) (fun _=>
 ∀(im:List (Af×Obj)) (s:Ae) (σ:St) (H:Hp) (Q:VK),Inv X im σ H s->t σ H Q->wpAny (model X.prog X.w) X.A (eval e X.env) (EP X im σ Q) X.xe s):=⟨fun h=>h.run⟩
structure PT(X:Cx)(e:Bi)(t:TT):Prop where
 run:
  ∀(im:List (Af×Obj)) (s:Ae) (σ:St) (H:Hp) (Q:Bool->Hp->Prop),Inv X im σ H s->t σ H Q->wpAny (model X.prog X.w) X.A (isTrue e X.env (eval e X.env)) (TP X im σ Q) X.xe s
instance{X:Cx}{e:Bi}{t:TT}:CoeFun (PT X e t) (fun _=>
 ∀(im:List (Af×Obj)) (s:Ae) (σ:St) (H:Hp) (Q:Bool->Hp->Prop),Inv X im σ H s->t σ H Q->wpAny (model X.prog X.w) X.A (isTrue e X.env (eval e X.env)) (TP X im σ Q) X.xe s):=⟨fun h=>h.run⟩
structure PW(X:Cx)(e:Bi)(t:TT):Prop where
 run:
  ∀(whole:Sem Ac) (im:List (Af×Obj)) (s:Ae) (σ:St) (H:Hp) (Q:Bool->Hp->Prop),Inv X im σ H s->t σ H Q->wpAny (model X.prog X.w) X.A (isTrue e X.env whole) (TP X im σ Q) X.xe s
instance{X:Cx}{e:Bi}{t:TT}:CoeFun (PW X e t) (fun _=>
 ∀(whole:Sem Ac) (im:List (Af×Obj)) (s:Ae) (σ:St) (H:Hp) (Q:Bool->Hp->Prop),Inv X im σ H s->t σ H Q->wpAny (model X.prog X.w) X.A (isTrue e X.env whole) (TP X im σ Q) X.xe s):=⟨fun h=>h.run⟩
theorem PW.pt{X:Cx}{e:Bi}{t:TT}(h:PW X e t):PT X e t:=⟨h.run _⟩
structure PA(X:Cx)(es:List Bi)(t:TA):Prop where
 run:
  ∀(pos:Pos) (im:List (Af×Obj)) (s:Ae) (σ:St) (H:Hp) (Q:List V->Hp->Prop),Inv X im σ H s->t σ H Q->wpAny (model X.prog X.w) X.A (spliced (backTo pos (starEach es X.env))) (AP X im σ Q) X.xe s
instance{X:Cx}{es:List Bi}{t:TA}:CoeFun (PA X es t) (fun _=>
 ∀(pos:Pos) (im:List (Af×Obj)) (s:Ae) (σ:St) (H:Hp) (Q:List V->Hp->Prop),Inv X im σ H s->t σ H Q->wpAny (model X.prog X.w) X.A (spliced (backTo pos (starEach es X.env))) (AP X im σ Q) X.xe s):=⟨fun h=>h.run⟩
structure PS(X:Cx)(st:Cw)(t:TS):Prop where
 run:
  ∀(im:List (Af×Obj)) (s:Ae) (σ:St) (H:Hp) (D:Ends),Inv X im σ H s->t D σ H->wpAny (model X.prog X.w) X.A (exec st X.env) (SP X im D) X.xe s
instance{X:Cx}{st:Cw}{t:TS}:CoeFun (PS X st t) (fun _=>
 ∀(im:List (Af×Obj)) (s:Ae) (σ:St) (H:Hp) (D:Ends),Inv X im σ H s->t D σ H->wpAny (model X.prog X.w) X.A (exec st X.env) (SP X im D) X.xe s):=⟨fun h=>h.run⟩
structure PSs(X:Cx)(st:List Cw)(t:TS):Prop where
 run:
  ∀(im:List (Af×Obj)) (s:Ae) (σ:St) (H:Hp) (D:Ends),Inv X im σ H s->t D σ H->wpAny (model X.prog X.w) X.A (execs st X.env) (SP X im D) X.xe s
instance{X:Cx}{st:List Cw}{t:TS}:CoeFun (PSs X st t) (fun _=>
 ∀(im:List (Af×Obj)) (s:Ae) (σ:St) (H:Hp) (D:Ends),Inv X im σ H s->t D σ H->wpAny (model X.prog X.w) X.A (execs st X.env) (SP X im D) X.xe s):=⟨fun h=>h.run⟩
theorem thn{α:Type}{t:Sem α}{Q F:α->Ae->Prop}{M:Il}{A:AV}{E:Ac->Ae->Prop}{s:Ae}(h:wpAny M A t Q E s)(G:∀ a s,Q a s->F a s):wpAny M A t F E s:=CI h G fun _ _ x=>x
section
inductive aDR(i:Nat)(σ:St)(H:Hp)(Q:VK):Prop
 | mk (v:_) (q0:σ[i]?=some (some v)) (q1:Q v H):aDR i σ H Q
def aIS(i:Nat):TE:=fun σ H Q=>aDR i σ H Q
def tC(v:V):TE:=fun _ H Q=>Q v H
theorem aHM{i:Nat}{x:Str}{pos:Pos}(hN:X.N[i]?=some x)(hv:Vis X.env.scope x)(hd:(x==("__debug__":Str))=false:=by decide)(G:(x==("__classdict__":Str))=false:=by decide):PE X (.Name x pos) (aIS i):=by
 constructor;intro im s σ H Q I h;obtain⟨v,e,h⟩:=h;obtain⟨m,hn,hl⟩:=I.loc;obtain⟨u,r,l⟩:=hl i x v hN e hv;have fin:EP X im σ Q u s:=⟨v,H,I,r,h⟩
 rcases l with⟨F,hm⟩|⟨F,c,hc,hcell⟩
 .exact wpAny_Name (wpAny_loadName_local I.ok.kind F hn hm fin) hd
 .rcases F with F|F
  .exact wpAny_Name (wpAny_loadName_cell I.ok.kind F hc hcell fin) hd
  .exact wpAny_Name (wpAny_loadName_free I.ok.kind F hc hcell fin G) hd
theorem aD{i j pos}:PE X (.Constant (.int i) j pos) (tC (.int i)):=⟨fun _ _ _ H _ I h=>wpAny_Constant_int ⟨.int i,H,I.tok _,⟨_,rfl⟩,h⟩⟩
theorem aHd{b j pos}:PE X (.Constant (.bool b) j pos) (tC (.bl b)):=⟨fun _ _ _ H _ I h=>Constant_bool ⟨.bl b,H,I,rfl,h⟩⟩
theorem aO{x j pos}:PE X (.Constant (.str x) j pos) (tC (.str x)):=⟨fun _ _ _ H _ I h=>Calls.Constant_str ⟨.str x,H,I.tok _,⟨_,rfl⟩,h⟩⟩
def Gl(X:Cx)(x:Str):Prop:=X.env.kindOf x=some .globalImplicit
theorem wV{E:Ac->Ae->Prop}{im:List (Af×Obj)}{s:Ae}{σ:St}{H:Hp}{x:Str}{u:Ac}{pos:Pos}{Q:Ac->Ae->Prop}(I:Inv X im σ H s)(F:Gl X x)(hm:X.mg x=some u)(h:Q u s)
  (hd:(x==("__debug__":Str))=false:=by decide):wpAny (model X.prog X.w) X.A (eval (.Name x pos) X.env) Q E s:=
 Calls.Name_function_global I.ok.kind F (Calls.loadGlobal_global (by rw[I.ok.glob];exact I.mod.glob.keeps I.bk) hm h) hd
theorem wW{E:Ac->Ae->Prop}{im:List (Af×Obj)}{s:Ae}{σ:St}{H:Hp}{x:Str}{u:Ac}{pos:Pos}{Q:Ac->Ae->Prop}(I:Inv X im σ H s)(F:Gl X x)(hm:X.mg x=none)(hv:bootBuiltins x=some u)(h:Q u s)
  (hn:x≠"__name__":=by decide) (hd:(x==("__debug__":Str))=false:=by decide):wpAny (model X.prog X.w) X.A (eval (.Name x pos) X.env) Q E s:=by
 obtain⟨mb,h1,h2⟩:=I.mod.blt;exact Calls.Name_function_global I.ok.kind F (Calls.loadGlobal_builtin (by rw[I.ok.glob];exact I.mod.glob.keeps I.bk) hm (by rw[I.ok.blt];exact h1.keeps I.bk) ((h2 x hn).trans hv) h) hd
theorem aF7{x:Str}{v:V}{u:Ac}{pos:Pos}(F:Gl X x)(hm:X.mg x=some u)(r:cC v u)(hd:(x==("__debug__":Str))=false:=by decide):PE X (.Name x pos) (tC v):=
 ⟨fun _ _ _ H _ I h=>wV I F hm ⟨v,H,I,r,h⟩ hd⟩
variable{a b:Bi}{ta tb:TE}
structure PC(X:Cx)(op:Io)(a b:Bi)(t:TE):Prop where
 run:
  ∀(im:List (Af×Obj)) (s:Ae) (σ:St) (H:Hp) (Q:VK),Inv X im σ H s->t σ H Q->
   wpAny (model X.prog X.w) X.A (eval a X.env) (fun v s₁=>wpAny (model X.prog X.w) X.A (eval b X.env) (fun u s₂=>wpAny (model X.prog X.w) X.A (compareOp op v u) (EP X im σ Q) X.xe s₂) X.xe s₁) X.xe s
instance{X:Cx}{op:Io}{a b:Bi}{t:TE}:CoeFun (PC X op a b t) (fun _=>
 ∀(im:List (Af×Obj)) (s:Ae) (σ:St) (H:Hp) (Q:VK),Inv X im σ H s->t σ H Q->
  wpAny (model X.prog X.w) X.A (eval a X.env) (fun v s₁=>wpAny (model X.prog X.w) X.A (eval b X.env) (fun u s₂=>wpAny (model X.prog X.w) X.A (compareOp op v u) (EP X im σ Q) X.xe s₂) X.xe s₁) X.xe s):=⟨fun h=>h.run⟩
inductive As{α:Type}(f:α->V)(x:V)(Q:α->Prop):Prop
 | mk (c:α) (h:x=f c) (q:Q c):As f x Q
def tB(t:TE):TT:=fun σ H Q=>t σ H fun x H1=>As V.bl x fun c=>Q c H1
theorem aAW{op:Io}{t:TE}(h:PC X op a b t)(h1:behindInMarks op b=false:=by first|exact nobehind _ (by decide) (by decide)|rfl):PE X (.Compare a [op] [b] pos) t:=⟨fun im s σ H Q I hw=>wpAny_Compare1 (h im s σ H Q I hw) h1⟩
theorem nQ{op:Io}{t:TE}(h:PC X op a b t)(h1:behindInMarks op b=false:=by first|exact nobehind _ (by decide) (by decide)|rfl):PT X (.Compare a [op] [b] pos) (tB t):=by
 constructor;intro im s σ H Q I hw;refine wpAny_isTrue_Compare1 (thn (h im s σ H _ I hw) fun v s1 h1=>thn h1 fun u s2 h2=>thn h2 fun c O ⟨x,H1,G,J,F⟩=>?_) h1;obtain⟨d,rfl,q⟩:=F;cases J;exact C9 ⟨H1,G,q⟩
theorem wX{e:Bi}{t:TE}(h:PE X e t)(J:∀ F,isTrue e X.env F=(do let v <- F;standAt e.pos;holding [v] (truthy v)):=by intro _;rfl):PT X e (tB t):=by
 constructor;intro im s σ H Q I hw;refine isTrue_plain (thn (h im s σ H _ I hw) fun v s1 ⟨x,H1,O,Y,G⟩=>?_) (J _);obtain⟨d,rfl,q⟩:=G;cases Y;exact C9 ⟨H1,O,q⟩
variable{tA jp:TT}{cE:List Bi}
def aJS(t u:TT):TT:=fun σ H Q=>t σ H fun c H1=>if c=true then u σ H1 Q else Q false H1
def tOr(t u:TT):TT:=fun σ H Q=>t σ H fun c H1=>if c=true then Q true H1 else u σ H1 Q
def aJT(t:TT):TT:=fun σ H Q=>t σ H fun c H1=>Q (!c) H1
theorem gJ(ha:PT X a tA):PW X (.BoolOp .And [a] pos) tA:=by
 constructor;intro wh im s σ H Q I h;refine isTrue_and (thn (ha im s σ H Q I h) fun c s1 e=>?_);cases c with
 | true=>exact isTrue_and_nil e
 | false=>exact e
theorem aAX(ha:PT X a tA):PW X (.BoolOp .Or [a] pos) tA:=by
 constructor;intro wh im s σ H Q I h;refine isTrue_or (thn (ha im s σ H Q I h) fun c s1 e=>?_);cases c with
 | false=>exact isTrue_or_nil e
 | true=>exact e
theorem gS(ha:PT X a tA)(J:PW X (.BoolOp .And (b::cE) pos) jp):PW X (.BoolOp .And (a::b::cE) pos) (aJS tA jp):=by
 constructor;intro wh im s σ H Q I h;refine isTrue_and (thn (ha im s σ H _ I h) fun c s1 ⟨H1,G,F⟩=>?_);cases c with
 | true=>exact J wh im s1 σ H1 Q G F
 | false=>exact⟨H1,G,F⟩
theorem aDS(ha:PT X a tA)(J:PW X (.BoolOp .Or (b::cE) pos) jp):PW X (.BoolOp .Or (a::b::cE) pos) (tOr tA jp):=by
 constructor;intro wh im s σ H Q I h;refine isTrue_or (thn (ha im s σ H _ I h) fun c s1 ⟨H1,G,F⟩=>?_);cases c with
 | true=>exact⟨H1,G,F⟩
 | false=>exact J wh im s1 σ H1 Q G F
theorem aDT(ha:PT X a tA):PT X (.UnaryOp .Not a pos) (aJT tA):=by
 constructor;intro im s σ H Q I h;exact isTrue_not (ha im s σ H (fun c H1=>Q (!c) H1) I h)
def aIT(ta tb:TE):TE:=fun σ H Q=>ta σ H fun x H1=>As V.bl x fun c=>if c=true then tb σ H1 Q else Q (.bl false) H1
theorem aDU{op}{t:TE}(h:PE X a t):PE X (.BoolOp op [a] pos) t:=⟨fun im s σ H Q I hw=>BoolOp_one (h im s σ H Q I hw)⟩
theorem aDV(ha:PE X a ta)(J:PE X (.BoolOp .And (b::cE) pos) tb):PE X (.BoolOp .And (a::b::cE) pos) (aIT ta tb):=by
 constructor;intro im s σ H Q I h;refine BoolOp_and (thn (ha im s σ H _ I h) fun v s1 ⟨x,H1,G,O,F⟩=>?_);obtain⟨c,rfl,F⟩:=F;cases O;refine C9 ?_;cases c with
 | true=>exact J im s1 σ H1 Q G F
 | false=>exact⟨.bl false,H1,G,rfl,F⟩
end
def SqL(K:Ah)(H:Hp)(a:Af)(xs:List V):Prop:=
 Rd H a (.lst xs)\/
  ∃(o:Obj) (its:Array Ac) (n:Nat),K.lookup a=some o/\o.cls=.type "list"/\o.dict=none/\o.data=.seq its n/\its.size<=sizeLine/\bU xs its.toList
def SqT(K:Ah)(H:Hp)(a:Af)(xs:List V):Prop:=
 Rd H a (.tup xs)\/
  ∃(o:Obj) (its:Array Ac) (n:Nat),K.lookup a=some o/\o.cls=.type "tuple"/\o.data=.seq its n/\its.size<=sizeLine/\bU xs its.toList
def aJU:Ac->Option V
 | .none=>some .non
 | .bool b=>some (.bl b)
 | .int i _=>some (.int i)
 | .str x _=>some (.str x)
 | .bytes b _=>some (.byt b)
 | .float b _=>some (.flt b)
 | .ref a=>some (.ref a)
 | .type n=>some (.ty n)
 | _=>none
theorem cC.abs{x:V}{u:Ac}(r:cC x u):aJU u=some x:=by
 cases x with
 | non=>cases r;rfl
 | bl _=>cases r;rfl
 | int _=>obtain⟨t,rfl⟩:=r;rfl
 | str _=>obtain⟨t,rfl⟩:=r;rfl
 | byt _=>obtain⟨t,rfl⟩:=r;rfl
 | flt _=>obtain⟨t,rfl⟩:=r;rfl
 | ref _=>cases r;rfl
 | ty _=>cases r;rfl
theorem cC.inj{x y:V}{u:Ac}(r:cC x u)(q:cC y u):x=y:=BD.inj (r.abs.symm.trans q.abs)
theorem bU.inj:∀{xs ys:List V}{F:List Ac},bU xs F->bU ys F->xs=ys
 | _,_,_,.nil,.nil=>rfl
 | _,_,_,.cons r t,.cons G t'=>by rw[r.inj G,bU.inj t t']
section
variable{a:Af}{xs ys:List V}
theorem aU{K:Ah}(h:H a=some (.lst xs)):SqL K H a xs:=.inl (.inl h)
theorem aN{K:Ah}(h:H a=some (.tup xs)):SqT K H a xs:=.inl (.inl h)
theorem Inv.list(I:Inv X im σ H s)(h:SqL X.K H a xs):∃ its:List Ac,bU xs its/\PlainL s.heap a its.toArray/\xs.length<=sizeLine:=by
 rcases h with h|⟨o,its,n,F,hc,hd,hs,hz,r⟩
 .obtain⟨z,its,n,r,e⟩:=h.ok I.hok;exact⟨its,r,⟨_,n,e,rfl,rfl,rfl⟩,z⟩
 .refine⟨its.toList,r,⟨o,n,I.kIn a o F,hc,hd,by simpa using hs⟩,?_⟩;have e:=r.length;simp only[AY]at e;omega
theorem Inv.tuple(I:Inv X im σ H s)(h:SqT X.K H a xs):∃ its:List Ac,bU xs its/\Fh s.heap a its.toArray/\xs.length<=sizeLine:=by
 rcases h with h|⟨o,its,n,F,hc,hs,hz,r⟩
 .obtain⟨z,its,r,p⟩:=h.ok I.hok;exact⟨its,r,p.tup,z⟩
 .refine⟨its.toList,r,⟨o,I.kIn a o F,hc,n,by simpa using hs⟩,?_⟩;have e:=r.length;simp only[AY]at e;omega
theorem Inv.list_inj(I:Inv X im σ H s)(h:SqL X.K H a xs)(h':SqL X.K H a ys):xs=ys:=by
 obtain⟨its,r,⟨o,n,e,_,_,d⟩,_⟩:=I.list h;obtain⟨its',r',⟨o',n',e',_,_,d'⟩,_⟩:=I.list h';rw[e]at e';cases e';rw[d]at d';injection d' with d1 _;have:its=its':=by simpa using congrArg Array.toList d1
 subst this;exact r.inj r'
theorem Inv.tuple_inj(I:Inv X im σ H s)(h:SqT X.K H a xs)(h':SqT X.K H a ys):xs=ys:=by
 obtain⟨its,r,⟨o,e,_,n,d⟩,_⟩:=I.tuple h;obtain⟨its',r',⟨o',e',_,n',d'⟩,_⟩:=I.tuple h';rw[e]at e';cases e';rw[d]at d';injection d' with d1 _;have:its=its':=by simpa using congrArg Array.toList d1
 subst this;exact r.inj r'
end
abbrev Cx.wish(X:Cx)(E:Ac->Ae->Prop):Cx:={ X with xe:=E }
abbrev Cx.nox(X:Cx):Cx:=X.wish fun _ _=>False
theorem Cx.Ok.wish{X:Cx}(ok:X.Ok)(E:Ac->Ae->Prop):(X.wish E).Ok:=
 ⟨ok.mod,ok.kind,ok.glob,ok.blt,ok.above,ok.inj,ok.has,ok.cab,ok.hd,ok.frames,ok.stk,ok.exf,ok.bs,ok.bsz,ok.noex,ok.exfs,ok.funs,ok.frf⟩
theorem Cx.Ok.unwish{X:Cx}{E:Ac->Ae->Prop}(ok:(X.wish E).Ok):X.Ok:=
 ⟨ok.mod,ok.kind,ok.glob,ok.blt,ok.above,ok.inj,ok.has,ok.cab,ok.hd,ok.frames,ok.stk,ok.exf,ok.bs,ok.bsz,ok.noex,ok.exfs,ok.funs,ok.frf⟩
theorem Inv.wish(I:Inv X im σ H s)(E:Ac->Ae->Prop):Inv (X.wish E) im σ H s:=⟨I.ok.wish E,I.os,I.bare,I.base,I.loc,I.cell,I.free,I.freeC,I.pin,I.hok,I.len⟩
theorem Inv.unwish(I:Inv (X.wish E) im σ H s):Inv X im σ H s:=⟨I.ok.unwish,I.os,I.bare,I.base,I.loc,I.cell,I.free,I.freeC,I.pin,I.hok,I.len⟩
theorem SP.unwish{D:Ends}{f:Flow}{s':Ae}(h:SP (X.wish E) im D f s'):SP X im D f s':=by
 cases f with
 | next=>obtain⟨σ',H',I,q⟩:=h;exact⟨σ',H',I.unwish,q⟩
 | brk=>obtain⟨σ',H',I,q⟩:=h;exact⟨σ',H',I.unwish,q⟩
 | cont=>obtain⟨σ',H',I,q⟩:=h;exact⟨σ',H',I.unwish,q⟩
 | ret u=>obtain⟨v,σ',H',I,r,q⟩:=h;exact⟨v,σ',H',I.unwish,r,q⟩
theorem PSs.nox{st:List Cw}{t:TS}(h:PSs X.nox st t):PSs X st t:=⟨fun im s σ H D I hw=>
 CI (h im s σ H D (I.wish _) hw) (fun _ _ q=>q.unwish) fun _ _ z=>B9 z⟩
section
variable{st:Cw}{cE:List Cw}{t u:TS}
def aIU:TS:=fun D σ H=>D.nx σ H
def aHN(t u:TS):TS:=fun D σ H=>t { D with nx:=u D } σ H
theorem bF:PSs X [] aIU:=⟨fun _ _ σ H _ I h=>Ge ⟨σ,H,I,h⟩⟩
theorem aB(h1:PS X st t)(h2:PSs X cE u):PSs X (st::cE) (aHN t u):=by
 constructor;intro im s σ H D I h;refine wpAny_execs_cons (thn (h1 im s σ H { D with nx:=u D } I h) fun f s1 q=>?_);cases f with
 | next=>
  obtain⟨σ',H',I',q⟩:=q;exact h2 im s1 σ' H' D I' q
 | ret v=>exact q
 | brk=>exact q
 | cont=>exact q
theorem aM(h1:PS X st t):PSs X [st] t:=by
 constructor;intro im s σ H D I h;refine wpAny_execs_cons (thn (h1 im s σ H D I h) fun f s1 q=>?_);cases f with
 | next=>exact Ge q
 | ret v=>exact q
 | brk=>exact q
 | cont=>exact q
theorem Inv.quiet{im:List (Af×Obj)}{σ:St}{H:Hp}{s:Ae}(I:Inv X im σ H s):interactive X.env=false:=by simp[interactive,I.ok.kind]
def aIV(te:TE):TS:=fun D σ H=>te σ H fun _ H1=>D.nx σ H1
theorem dP(G:PE X e te)(hs:swapsWith e none pos.line X.env=pure false:=by rfl):PS X (.Expr e pos) (aIV te):=by
 constructor;intro im s σ H D I h;exact wpAny_Expr_any (thn (G im s σ H _ I h) fun v s1 ⟨x,H1,J,O,F⟩=>⟨σ,H1,J,F⟩) I.quiet hs
def aJV(te:TE):TS:=fun D σ H=>te σ H D.rt
theorem bT(G:PE X e te):PS X (.Return (some e) pos) (aJV te):=by
 constructor;intro im s σ H D I h;exact wpAny_Return_some (thn (G im s σ H _ I h) fun v s1 ⟨x,H1,J,O,F⟩=>⟨x,σ,H1,J,O,F⟩)
def aJW(c:TT)(t u:TS):TS:=fun D σ H=>c σ H fun b H1=>if b=true then t D σ H1 else u D σ H1
theorem cD{c:Bi}{a b:List Cw}{tc:TT}(hc:PT X c tc)(ha:PSs X a t)(J:PSs X b u):PS X (.If c a b pos) (aJW tc t u):=by
 constructor;intro im s σ H D I h;refine wpAny_If (thn (hc im s σ H _ I h) fun d s1 ⟨H1,G,F⟩=>?_);cases d with
 | true=>exact ha im s1 σ H1 D G F
 | false=>exact J im s1 σ H1 D G F
end
abbrev TG:=V->St->Hp->(St->Hp->Prop)->Prop
abbrev TGs:=List V->St->Hp->(St->Hp->Prop)->Prop
structure PG(X:Cx)(target:Bi)(t:TG):Prop where
 run:
  ∀(im:List (Af×Obj)) (s:Ae) (σ:St) (H:Hp) (v:V) (u:Ac) (Q:St->Hp->Prop),Inv X im σ H s->cC v u->t v σ H Q->
   wpAny (model X.prog X.w) X.A (assign target X.env u) (fun _ s'=>∃ σ' H',Inv X im σ' H' s'/\Q σ' H') X.xe s
instance{X:Cx}{target:Bi}{t:TG}:CoeFun (PG X target t) (fun _=>
 ∀(im:List (Af×Obj)) (s:Ae) (σ:St) (H:Hp) (v:V) (u:Ac) (Q:St->Hp->Prop),Inv X im σ H s->cC v u->t v σ H Q->
  wpAny (model X.prog X.w) X.A (assign target X.env u) (fun _ s'=>∃ σ' H',Inv X im σ' H' s'/\Q σ' H') X.xe s):=⟨fun h=>h.run⟩
structure PGs(X:Cx)(ts:List Bi)(t:TGs):Prop where
 run:
  ∀(im:List (Af×Obj)) (s:Ae) (σ:St) (H:Hp) (vs:List V) (us:List Ac) (Q:St->Hp->Prop),Inv X im σ H s->bU vs us->t vs σ H Q->
   wpAny (model X.prog X.w) X.A (assignInOrder ((assignEach ts X.env).map (·.2)) us) (fun _ s'=>∃ σ' H',Inv X im σ' H' s'/\Q σ' H') X.xe s
instance{X:Cx}{ts:List Bi}{t:TGs}:CoeFun (PGs X ts t) (fun _=>
 ∀(im:List (Af×Obj)) (s:Ae) (σ:St) (H:Hp) (vs:List V) (us:List Ac) (Q:St->Hp->Prop),Inv X im σ H s->bU vs us->t vs σ H Q->
  wpAny (model X.prog X.w) X.A (assignInOrder ((assignEach ts X.env).map (·.2)) us) (fun _ s'=>∃ σ' H',Inv X im σ' H' s'/\Q σ' H') X.xe s):=⟨fun h=>h.run⟩
abbrev aHO:=V->V->V->Hp->(Hp->Prop)->Prop
def aIW(X:Cx)(t:aHO):Prop:=
 ∀(im:List (Af×Obj)) (s:Ae) (σ:St) (H:Hp) (o i v:V) (ov iv u:Ac) (Q:Hp->Prop),Inv X im σ H s->cC o ov->cC i iv->cC v u->t o i v H Q->
  wpAny (model X.prog X.w) X.A (setItem ov iv u) (fun _ s'=>∃ H',Inv X im σ H' s'/\Q H') X.xe s
abbrev TIp:=V->V->Hp->VK->Prop
def PIp(X:Cx)(op:Operator)(t:TIp):Prop:=
 ∀(im:List (Af×Obj)) (s:Ae) (σ:St) (H:Hp) (x y:V) (v u:Ac) (Q:VK),Inv X im σ H s->cC x v->cC y u->t x y H Q->
  wpAny (model X.prog X.w) X.A (inplaceOp op v u) (EP X im σ Q) X.xe s
def aS(i:Nat):TG:=fun v σ H Q=>Q (σ.set i (some v)) H
theorem aV{i:Nat}{x:Str}(hN:X.N.Nodup)(hi:X.N[i]?=some x)(F:Loc X.env.scope x)(G:X.fn x=true\/X.env.scope.names.lookup x=some .local:=by first|exact .inl rfl|exact .inr rfl|assumption):PG X (.Name x pos) (aS i):=by
 constructor;intro im s σ H v u Q I r h;exact wpAny_assign_Name (lP I hN hi F r (fun s' J=>⟨_,H,J,h⟩) G)
def rF:TGs:=fun vs σ H Q=>vs=[]/\Q σ H
inductive aBP(t:TG)(u:TGs)(vs:List V)(σ:St)(H:Hp)(Q:(St->Hp->Prop)):Prop
 | mk (v:_) (r:_) (q0:vs=v::r) (q1:t v σ H fun σ' H'=>u r σ' H' Q):aBP t u vs σ H Q
def dH(t:TG)(u:TGs):TGs:=fun vs σ H Q=>aBP t u vs σ H Q
theorem dX:PGs X [] rF:=by
 constructor;intro im s σ H vs F Q I r h;obtain⟨e,h⟩:=h;subst e;cases r;exact assignInOrder_nil ⟨σ,H,I,h⟩
theorem bK{e:Bi}{es:List Bi}{t:TG}{u:TGs}(h1:PG X e t)(h2:PGs X es u)
  (hs:(assignEach (e::es) X.env).map (·.2)=assign e X.env::(assignEach es X.env).map (·.2):=by rfl):PGs X (e::es) (dH t u):=by
 constructor;intro im s σ H vs Y Q I r h;obtain⟨v,vr,e1,h⟩:=h;subst e1;cases r with
 | cons r O=>
  rw[hs];refine Hh (thn (h1 im s σ H _ _ _ I r h) fun _ s1 ⟨J,H1,G,F⟩=>?_);exact h2 im s1 J H1 _ _ Q G O F
inductive aDW(K:Ah)(n:Nat)(t:TGs)(v:V)(σ:St)(H:Hp)(Q:(St->Hp->Prop)):Prop
 | mk (a:_) (xs:_) (q0:v=.ref a) (q1:SqT K H a xs) (q2:xs.length=n) (q3:t xs σ H Q):aDW K n t v σ H Q
def rG(K:Ah)(n:Nat)(t:TGs):TG:=fun v σ H Q=>aDW K n t v σ H Q
theorem f6{es:List Bi}{k:Nat}{t:TGs}{n:Nat}(hc:X.calm=true)(h:PGs X es t)
  (hn:(assignEach es X.env).length=n:=by rfl) (F:(assignEach es X.env).findIdx? (·.1)=none:=by rfl):PG X (.Tuple es k pos) (rG X.K n t):=by
 constructor;intro im s σ H v u Q I r hw;obtain⟨a,xs,e1,hq,hl,hw⟩:=hw;subst e1;cases r;obtain⟨its,rv,ht,hz⟩:=I.tuple hq;refine assign_Tuple_tuple (I.ok.hd hc) ht (by simp[hn,<- hl,rv.length]) F fun h' G=>?_;have J:Inv X im σ H { s with heap:=h' }:=I.kept (t':=s.toks) fun b o e=>G b o (AI (Ax e)) e;exact h im _ σ H xs _ Q J (by simpa using rv) hw
def aJX(to ti:TE)(t:aHO):TG:=fun v σ H Q=>to σ H fun o H1=>ti σ H1 fun i H2=>t o i v H2 fun H3=>Q σ H3
theorem nS{o i:Bi}{to J:TE}{t:aHO}(ho:PE X o to)(hi:PE X i J)(hs:aIW X t)
  (ha:∀ v,assign (.Subscript o i pos) X.env v=(do
   let F <- holding [v] (eval o X.env)
   let G <- holding [v,F] (eval i X.env)
   standAt pos
   holding [v,F,G] (setItem F G v)
   release [v,F,G] []):=by intro _;rfl):PG X (.Subscript o i pos) (aJX to J t):=by
 constructor;intro im s σ H v u Q I r h;rw[ha];refine Ab (Bx (thn (ho im s σ H _ I h) fun F s1 ⟨x,H1,I1,r1,Z⟩=>?_));refine Ab (Bx (thn (hi im s1 σ H1 _ I1 Z) fun G s2 ⟨y,H2,O,r2,q2⟩=>?_));refine Ab (Fy (Ab (Bx (thn (hs im s2 σ H2 x y v F G u _ O r1 r2 r q2) fun _ s3 ⟨Y,I3,q3⟩=>?_))));exact wpAny_release ⟨σ,Y,I3,q3⟩
def aHP(te:TE)(g:TG):TS:=fun D σ H=>te σ H fun x H1=>g x σ H1 D.nx
theorem iR{tg e:Bi}{te:TE}{g:TG}(J:PE X e te)(F:PG X tg g)(hs:swapsWithSole [tg] e pos.line X.env=pure false:=by rfl)(hw:swappedStores [tg] e X.env=pure none:=by rfl)
  (h1:(assignEach [tg] X.env).map (·.2)=[assign tg X.env]:=by rfl):PS X (.Assign [tg] e pos) (aHP te g):=by
 constructor;intro im s σ H D I h;refine wpAny_Assign_stores (thn (J im s σ H _ I h) fun v s1 ⟨x,H1,O,Y,G⟩=>?_) hs hw;rw[h1];exact thn (F im s1 σ H1 x v _ O Y G) fun _ s2 q=>q
theorem aR{i:Nat}{x:Str}{e:Bi}{te:TE}{jl:Pos}(hN:X.N.Nodup)(hi:X.N[i]?=some x)(G:Loc X.env.scope x)(O:PE X e te)(hs:swapsWith e (some (.Name x jl)) pos.line X.env=pure false:=by rfl)(hf:X.fn x=true\/X.env.scope.names.lookup x=some .local:=by first|exact .inl rfl|exact .inr rfl|assumption):
  PS X (.Assign [.Name x jl] e pos) (aHP te (aS i)):=by
 constructor;intro im s σ H D I h;refine wpAny_Assign_Name (thn (O im s σ H _ I h) fun v s1 ⟨y,H1,Y,Z,J⟩=>?_) hs;exact lP Y hN hi G Z (fun s2 F=>⟨_,H1,F,J⟩) hf
def aJY(i j:Nat)(ta:TA):TS:=fun D σ H=>ta σ H fun vs H1=>∃ v w,vs=[v,w]/\D.nx ((σ.set i (some v)).set j (some w)) H1
theorem aDX{i j:Nat}{x y:Str}{a b:Bi}{ta:TA}{Z py pt:Pos}{kt k2 pt2}(hc:X.calm=true)(hN:X.N.Nodup)(hi:X.N[i]?=some x)(hj:X.N[j]?=some y)(J:i≠j)
  (hx:X.env.scope.names.lookup x=some .local) (hy:X.env.scope.names.lookup y=some .local) (ha:PA X [a,b] ta)
  (hw:swappedStores [.Tuple [.Name x Z,.Name y py] kt pt] (.Tuple [a,b] k2 pt2) X.env=pure (some [x,y]))
  (hs:swapsWithSole [.Tuple [.Name x Z,.Name y py] kt pt] (.Tuple [a,b] k2 pt2) pos.line X.env=pure false:=by rfl):
  PS X (.Assign [.Tuple [.Name x Z,.Name y py] kt pt] (.Tuple [a,b] k2 pt2) pos) (aJY i j ta):=by
 constructor;intro im s σ H D I h;rw[exec_Assign_arm];refine Ab (Fy ?_);rw[hs];refine Ab (Ag ?_);rw[Ip (by decide)];refine Ab (Tuple_ (thn (ha _ im s σ H _ I h) fun us s1 ⟨vs,H1,I1,r1,Y⟩=>?_));obtain⟨v,w,e1,Y⟩:=Y;subst e1;obtain⟨F,G,rfl,rv,rw'⟩:∃ F G,us=[F,G]/\cC v F/\cC w G:=by
  cases r1 with
  | cons p q=>
   cases q with
   | cons p' q'=>
    cases q';exact⟨_,_,rfl,p,p'⟩
 refine Ce ?_ (by show 2<=sizeLine;decide);have I2:Inv X im σ H1 { s1 with heap:=s1.heap.push { cls:=.type "tuple",data:=.seq [F,G].toArray } }:=I1.kept (t':=s1.toks) fun b o e=>Ak _ e;rw[hw];refine Ab (Ag ?_);show wpAny (model X.prog X.w) X.A (do rule "assign.swapped-stores";let items <- unpackItems (.ref s1.heap.objs.size) 2 none;assignInOrder [fun v=>bindName X.env y v,fun v=>bindName X.env x v] items.reverse;pure Flow.next) _ _ _;refine Ab (Ck (Ab (unpackItems_tuple (items:=#[F,G]) (I.ok.hd hc) (IsTup.new s1.heap _) fun h' O=>?_)));have I3:=I2.kept (h':=h') (t':=s1.toks) fun b o e=>O b o (AI (Ax e)) e;show wpAny _ _ (assignInOrder [fun v=>bindName X.env y v,fun v=>bindName X.env x v] [G,F] >>= fun _=>pure Flow.next) _ _ _;refine Ab (Hh (wpAny_bindName (lP I3 hN hj (.inl hy) rw' (fun s2 I4=>?_) (.inr hy))));refine Hh (wpAny_bindName (lP I4 hN hi (.inl hx) rv (fun s3 I5=>assignInOrder_nil (Ag ?_)) (.inr hx)));rw[List.set_comm _ _ (Cy J)]at I5;exact⟨_,H1,I5,Y⟩
inductive aDY(i:Nat)(te:TE)(ti:TIp)(D:Ends)(σ:St)(H:Hp):Prop
 | mk (x:_) (q0:σ[i]?=some (some x)) (q1:te σ H fun y H1=>ti x y H1 fun z H2=>D.nx (σ.set i (some z)) H2):aDY i te ti D σ H
def aJZ(i:Nat)(te:TE)(ti:TIp):TS:=fun D σ H=>aDY i te ti D σ H
theorem aDZ{i:Nat}{x:Str}{e:Bi}{te:TE}{op:Operator}{O:TIp}{jl:Pos}(hN:X.N.Nodup)(hi:X.N[i]?=some x)(G:Loc X.env.scope x)(he:PE X e te)(ho:PIp X op O)(hf:X.fn x=true\/X.env.scope.names.lookup x=some .local:=by first|exact .inl rfl|exact .inr rfl|assumption):
  PS X (.AugAssign (.Name x jl) op e pos) (aJZ i te O):=by
 constructor;intro im s σ H D I h;obtain⟨v,e1,h⟩:=h;obtain⟨m,hn,hl⟩:=I.loc;have J:Vis X.env.scope x:=by rcases G with k|k;exact .inl k;exact .inr (.inl k)
 obtain⟨u,r,l⟩:=hl i x v hi e1 J;refine wpAny_AugAssign_Name ?_;have go:wpAny (model X.prog X.w) X.A (eval e X.env) (fun w Z=>wpAny (model X.prog X.w) X.A (inplaceOp op u w) (fun r s₃=>wpAny (model X.prog X.w) X.A (storeName X.env x r) (fun _=>SP X im D .next) X.xe s₃) X.xe Z) X.xe s:=by
  refine thn (he im s σ H _ I h) fun w s1 ⟨y,H1,I1,r1,q1⟩=>?_;refine thn (ho im s1 σ H1 v y u w _ I1 r r1 q1) fun z s2 ⟨zv,H2,Y,r2,q2⟩=>?_;exact lP Y hN hi G r2 (fun s3 I3=>⟨_,H2,I3,q2⟩) hf
 rcases l with⟨F,hm⟩|⟨F,c,hc,hcell⟩
 .exact wpAny_loadName_local I.ok.kind F hn hm go
 .rcases F with F|F
  .exact wpAny_loadName_cell I.ok.kind F hc hcell go
  .rcases G with k|k
   .have:X.env.scope.names.lookup x=some .free:=F;rw[k]at this;cases this
   .have:X.env.scope.names.lookup x=some .free:=F;rw[k]at this;cases this
def ipI(f:Int->Int->Int):TIp:=fun x y H Q=>∃ i j,x=.int i/\y=.int j/\Q (.int (f i j)) H
theorem aD0:PIp X .Add (ipI fun i j=>i+j):=by
 intro im s σ H x y v u Q I G F h;obtain⟨i,j,e1,e2,q⟩:=h;subst e1;subst e2;obtain⟨t,rfl⟩:=G;obtain⟨t',rfl⟩:=F;exact iadd_int ⟨.int _,H,I.tok _,⟨_,rfl⟩,q⟩
inductive yM(c:TT)(tb:TS)(D:Ends)(σ:St)(H:Hp):Prop
 | mk (W:Nat->St->Hp->Prop) (q0:(∃ m,W m σ H)) (q1:∀ m σ H,W m σ H->
 c σ H fun b H1=>if b=true then∃ N:St->Hp->Prop,(∀ σ' H',N σ' H'->∃ m',m'<m/\W m' σ' H')/\tb { D with nx:=N,ct:=N,bk:=D.nx } σ H1 else D.nx σ H1):yM c tb D σ H
def aHQ(c:TT)(tb:TS):TS:=fun D σ H=>yM c tb D σ H
theorem aD1{c:Bi}{F:List Cw}{tc:TT}{tb:TS}(Z:PassesOwn (model X.prog X.w) X.A X.env X.xe)(hc:PT X c tc)(hb:PSs X F tb):PS X (.While c F [] pos) (aHQ tc tb):=by
 constructor;intro im s σ H D I h;obtain⟨W,⟨m0,w0⟩,turn⟩:=h;refine wpAny_While (codeAny_whileLoop (fun n s'=>∃ σ' H',Inv X im σ' H' s'/\W n σ' H') ?_ m0 ⟨σ,H,I,w0⟩);rintro n s1 ⟨J,H1,I1,w1⟩;refine Dv Z (thn (hc im s1 J H1 _ I1 (turn n J H1 w1)) fun b s2 ⟨H2,Y,G⟩=>?_);cases b with
 | true=>
  obtain⟨N,hN,G⟩:=G;rw[Iq rfl];refine Dv Z (thn (hb im s2 J H2 _ Y G) fun f s3 O=>?_);cases f with
  | next=>
   obtain⟨σ3,H3,I3,n3⟩:=O;obtain⟨m',hm,w3⟩:=hN σ3 H3 n3;exact⟨m',hm,σ3,H3,I3,w3⟩
  | cont=>
   obtain⟨σ3,H3,I3,n3⟩:=O;obtain⟨m',hm,w3⟩:=hN σ3 H3 n3;exact⟨m',hm,σ3,H3,I3,w3⟩
  | brk=>exact O
  | ret v=>exact O
 | false=>
  rw[Ip Am];exact Ge ⟨J,H2,Y,G⟩
structure It where
 go:Nat->Hp->Prop
 yld:Nat->Hp->V->Hp->Prop
 stop:Nat->Hp->Prop
def lH(X:Cx)(im:List (Af×Obj))(H:Hp)(b:Af):Prop:=
 H b=none/\b≠X.env.locals/\b∉X.fs/\(b∈X.ex\/X.s₀.heap.objs.size<=b)/\(∀ x c,X.env.cells.lookup x=some c->c≠b)/\∀ p∈X.pn++im,p.1≠b
theorem Inv.fpOk{X:Cx}{im:List (Af×Obj)}{σ:St}{H H':Hp}{s:Ae}{b:Af}(I:Inv X im σ H s)(F:s.heap.objs.size<=b)(hn:H' b=none):lH X im H' b:=by
 refine⟨hn,D9 (A2 I.lt F),I.nofs F,.inr (Ay I.sz F),fun x c e z=>?_,fun p G z=>?_⟩
 .obtain⟨v,q⟩:=I.cell x c e;exact absurd (A2 q.lt (by rw[z];exact F)) (C7 _)
 .exact absurd (A2 (Ax (I.pin p G).1) (by rw[z];exact F)) (C7 _)
structure aC8(P:AE)(w:AW)(K:Ah)(tg:Bi)(J:It)(fp:List Af)(it:Af)(tn:Nat->Bl->Prop):Prop where
 mem:it∈fp
 obj:∀ i h,tn i h->∀ b∈fp,∃ o,h.get? b=some o/\∀ v,o.data≠.cell v
 keep:∀ i h h',tn i h->(∀ b∈fp,∀ o,h.get? b=some o->h'.get? b=some o)->tn i h'
 item:∀(X:Cx),X.prog=P->X.w=w->X.K=K->X.calm=true->∀(i:Nat) (im:List (Af×Obj)) (s:Ae) (σ:St) (H:Hp) (E:Ac->Ae->Prop),Inv X im σ H s->(∀ b∈fp,lH X im H b)->tn i s.heap->J.go i H->
  wpAny (model P w) X.A (pyNext (.ref it)) (fun r s1=>∃ u,r=some u/\
   wpAny (model P w) X.A (letOwnedTupleGo tg (.ref it) u) (fun _ s2=>∃ x H',Inv X im σ H' s2/\cC x u/\J.yld i H x H'/\tn (i+1) s2.heap/\∀ b∈fp,H' b=none) E s1) E s
 done:∀(X:Cx),X.prog=P->X.w=w->X.K=K->X.calm=true->∀(i:Nat) (im:List (Af×Obj)) (s:Ae) (σ:St) (H:Hp) (E:Ac->Ae->Prop),Inv X im σ H s->(∀ b∈fp,lH X im H b)->tn i s.heap->J.stop i H->
  wpAny (model P w) X.A (pyNext (.ref it)) (fun r s1=>r=none/\Inv X im σ H s1) E s
 self:∀(A:AV) (i:Nat) (s:Ae) (Q:Ac->Ae->Prop) (E:Ac->Ae->Prop),tn i s.heap->Q (.ref it) s->wpAny (model P w) A (pyIter (.ref it)) Q E s
abbrev TI:=St->Hp->(It->Hp->Prop)->Prop
inductive aHe(X:Cx)(im:List (Af×Obj))(σ:St)(tg:Bi)(R:It->Hp->Prop)(itv:Ac)(s2:Ae):Prop
 | mk (it:Af) (fp:List Af) (tn:Nat->Bl->Prop) (J:It) (H':Hp) (q0:itv=.ref it) (q1:Inv X im σ H' s2) (q2:aC8 X.prog X.w X.K tg J fp it tn) (q3:tn 0 s2.heap) (q4:(∀ b∈fp,lH X im H' b)) (q5:R J H'):aHe X im σ tg R itv s2
def PIE(X:Cx)(im:List (Af×Obj))(σ:St)(tg:Bi)(R:It->Hp->Prop)(itv:Ac)(s2:Ae):Prop:=aHe X im σ tg R itv s2
structure PI(X:Cx)(tg iter:Bi)(wi:TI):Prop where
 run:
  ∀(im:List (Af×Obj)) (s:Ae) (σ:St) (H:Hp) (R:It->Hp->Prop),Inv X im σ H s->wi σ H R->
   wpAny (model X.prog X.w) X.A (eval iter X.env) (fun v s1=>wpAny (model X.prog X.w) X.A (pyIter v) (PIE X im σ tg R) X.xe s1) X.xe s
instance{X:Cx}{tg iter:Bi}{wi:TI}:CoeFun (PI X tg iter wi) (fun _=>
 ∀(im:List (Af×Obj)) (s:Ae) (σ:St) (H:Hp) (R:It->Hp->Prop),Inv X im σ H s->wi σ H R->
  wpAny (model X.prog X.w) X.A (eval iter X.env) (fun v s1=>wpAny (model X.prog X.w) X.A (pyIter v) (PIE X im σ tg R) X.xe s1) X.xe s):=⟨fun h=>h.run⟩
theorem aD2{M : Il}{A : AV}{E : Ac -> Ae -> Prop}{s : Ae}{tg : Bi}{it : Af}{u : Ac}{o : Obj}{n : String}{vs : Array Ac}{Q : Unit -> Ae -> Prop}(ho : s.heap.get? it = some o)(hc : o.cls = .type n)(hd : o.data = .fields vs)
    (hn : ["enumerate", "zip", "dict_itemiterator", "dict_reverseitemiterator", "odict_iterator", "itertools.zip_longest", "itertools.pairwise"].contains n = false) (F : Q () s) : wpAny M A (letOwnedTupleGo tg (.ref it) u) Q E s := by
  unfold letOwnedTupleGo;cases tg<;>first
    | exact Ag F
    | (cases u<;>first
        | exact Ag F
        | (refine Ab (wpAny_load ho ?_)
           rw[hc, hd];show wpAny M A (if (["enumerate", "zip", "dict_itemiterator", "dict_reverseitemiterator", "odict_iterator", "itertools.zip_longest", "itertools.pairwise"].contains n&&vs[0]?==some (rawInt _)) = true then _ else _) Q E s;rw[Ip (by intro h;rw[hn, Bool.false_and]at h;cases h)];exact Ag F))
def Itl(K:Ah)(a:Af):It:=
 ⟨fun i H=>∃ xs x,SqL K H a xs/\xs[i]?=some x,fun i H x H'=>H'=H/\∀ xs,SqL K H a xs->xs[i]?=some x,fun i H=>∃ xs,SqL K H a xs/\xs.length<=i⟩
def Itt(K:Ah)(a:Af):It:=
 ⟨fun i H=>∃ xs x,SqT K H a xs/\xs[i]?=some x,fun i H x H'=>H'=H/\∀ xs,SqT K H a xs->xs[i]?=some x,fun i H=>∃ xs,SqT K H a xs/\xs.length<=i⟩
def Itr(lo:Int)(n:Nat):It:=⟨fun i _=>i<n,fun i H x H'=>H'=H/\x=.int (lo+i),fun i _=>n<=i⟩
theorem aC9{P:AE}{w:AW}{K:Ah}{tg:Bi}(a it:Af):aC8 P w K tg (Itl K a) [it] it (fun i h=>h.IsListIter it a i) where
 mem:=by simp
 obj:=fun i h st b F=>by
  have e:b=it:=by simpa using F
  subst e;obtain⟨o,e,c,d⟩:=st;exact⟨o,e,fun v z=>by rw[d]at z;cases z⟩
 keep:=fun i h h' st k=>st.at fun o e=>k it (by simp) o e
 item:=by
  intro X Z hw O hc i im s σ H E I J st Y;subst Z hw O;obtain⟨xs,x,hq,hx⟩:=Y;obtain⟨its,rv,p,hz⟩:=I.list hq;obtain⟨u,hu,ru⟩:=rv.get hx;obtain⟨f0,f1,f2,f3,f4,f5⟩:=J it (by simp);refine wpAny_pyNext_list_item st p.isList (x:=u) (by simpa using hu) fun h' G sb=>?_;have I1:Inv X im σ H { s with heap:=h' }:=I.turned (t':=s.toks) (fun b o F e=>(sb.2 b F).trans e) f0 f1 f3 f4 f5;obtain⟨o,e,c,d⟩:=id G;exact⟨u,rfl,aD2 (s:={ s with heap:=h' }) e c d (by decide) ⟨x,H,I1,ru,⟨rfl,fun ys hy=>by rw[I.list_inj hy hq];exact hx⟩,G,fun b F=>(J b F).1⟩⟩
 done:=by
  intro X Z hw O hc i im s σ H E I J st Y;subst Z hw O;obtain⟨xs,hq,hx⟩:=Y;obtain⟨its,rv,p,hz⟩:=I.list hq;obtain⟨f0,f1,f2,f3,f4,f5⟩:=J it (by simp);have hl:=rv.length;exact wpAny_pyNext_list_end (I.ok.hd hc) st p.isList (by simp;omega) fun h' eb=>⟨rfl,I.turned (t':=s.toks) (fun b o F e=>eb b o F e) f0 f1 f3 f4 f5⟩
 self:=fun _ _ _ _ _ st h=>wpAny_pyIter_listiter st h
theorem aAY{P:AE}{w:AW}{K:Ah}{tg:Bi}(a it:Af):aC8 P w K tg (Itt K a) [it] it (fun i h=>h.IsTupleIter it a i) where
 mem:=by simp
 obj:=fun i h st b F=>by
  have e:b=it:=by simpa using F
  subst e;obtain⟨o,e,c,d⟩:=st;exact⟨o,e,fun v z=>by rw[d]at z;cases z⟩
 keep:=fun i h h' st k=>st.at fun o e=>k it (by simp) o e
 item:=by
  intro X Z hw O hc i im s σ H E I J st Y;subst Z hw O;obtain⟨xs,x,hq,hx⟩:=Y;obtain⟨its,rv,p,hz⟩:=I.tuple hq;obtain⟨u,hu,ru⟩:=rv.get hx;obtain⟨f0,f1,f2,f3,f4,f5⟩:=J it (by simp);refine wpAny_pyNext_tuple_item st (show s.heap.IsTuple a its.toArray from p) (x:=u) (by simpa using hu) fun h' G sb=>?_;have I1:Inv X im σ H { s with heap:=h' }:=I.turned (t':=s.toks) (fun b o F e=>(sb.2 b F).trans e) f0 f1 f3 f4 f5;obtain⟨o,e,c,d⟩:=id G;exact⟨u,rfl,aD2 (s:={ s with heap:=h' }) e c d (by decide) ⟨x,H,I1,ru,⟨rfl,fun ys hy=>by rw[I.tuple_inj hy hq];exact hx⟩,G,fun b F=>(J b F).1⟩⟩
 done:=by
  intro X Z hw O hc i im s σ H E I J st Y;subst Z hw O;obtain⟨xs,hq,hx⟩:=Y;obtain⟨its,rv,p,hz⟩:=I.tuple hq;obtain⟨f0,f1,f2,f3,f4,f5⟩:=J it (by simp);have hl:=rv.length;exact wpAny_pyNext_tuple_end (I.ok.hd hc) st (show s.heap.IsTuple a its.toArray from p) (by simp;omega) fun h' eb=>⟨rfl,I.turned (t':=s.toks) (fun b o F e=>eb b o F e) f0 f1 f3 f4 f5⟩
 self:=fun _ _ _ _ _ st h=>wpAny_pyIter_tupleiter st h
theorem aAZ{P:AE}{w:AW}{K:Ah}{tg:Bi}(it:Af)(lo:Int)(n:Nat):aC8 P w K tg (Itr lo n) [it] it (fun i h=>IsRangeIter h it (lo+(i:Nat)*1) ((n:Int)-(i:Nat)) 1) where
 mem:=by simp
 obj:=fun i h st b F=>by
  have e:b=it:=by simpa using F
  subst e;exact⟨_,st,fun v z=>by
   have z':HR _=Data.cell v:=z;cases z'⟩
 keep:=fun i h h' st k=>k it (by simp) _ st
 item:=by
  intro X Z hw O hc i im s σ H E I J st Y;subst Z hw O;obtain⟨f0,f1,f2,f3,f4,f5⟩:=J it (by simp);have W:=Walks.range (prog:=X.prog) (w:=X.w) (I.ok.hd hc) it lo 1 n;refine W.item i s _ _ Y st fun v h' tk hv G kk=>?_;obtain⟨t,rfl⟩:=hv;have I1:Inv X im σ H { s with heap:=h',toks:=tk }:=I.turned (fun b o F e=>kk b o (by simpa using F) e) f0 f1 f3 f4 f5;refine⟨_,rfl,aD2 (s:={ s with heap:=h',toks:=tk }) (n:="range_iterator") G rfl rfl (by decide) ⟨.int (lo+i),H,I1,⟨t,?_⟩,⟨rfl,rfl⟩,G,fun b F=>(J b F).1⟩⟩;rw[Int.mul_one]
 done:=by
  intro X Z hw O hc i im s σ H E I J st Y;subst Z hw O;obtain⟨f0,f1,f2,f3,f4,f5⟩:=J it (by simp);exact wpAny_pyNext_range_end (I.ok.hd hc) st (by have:n<=i:=Y;omega) fun h' eb=>⟨rfl,I.turned (t':=s.toks) (fun b o F e=>eb b o F e) f0 f1 f3 f4 f5⟩
 self:=fun _ _ _ _ _ st h=>wpAny_pyIter_rangeiter st h
section
variable{tg:Bi}
def aIX(K:Ah)(tl:TE):TI:=fun σ H R=>tl σ H fun x H1=>As V.ref x fun a=>(∃ xs,SqL K H1 a xs)/\R (Itl K a) H1
def aJ0(K:Ah)(tl:TE):TI:=fun σ H R=>tl σ H fun x H1=>As V.ref x fun a=>(∃ xs,SqT K H1 a xs)/\R (Itt K a) H1
theorem g8{l:Bi}{tl:TE}(hl:PE X l tl):PI X tg l (aIX X.K tl):=by
 constructor;intro im s σ H R I h;refine thn (hl im s σ H _ I h) fun v s1 ⟨x,H1,F,J,G⟩=>?_;obtain⟨a,e,⟨xs,hq⟩,q⟩:=G;subst e;cases J;obtain⟨its,rv,p,hz⟩:=F.list hq;refine Eg p.isList ?_;refine⟨s1.heap.objs.size,[s1.heap.objs.size],_,_,H1,rfl,F.kept (t':=s1.toks) fun b o e=>Ak _ e,aC9 a _,⟨_,AH _ rfl,rfl,rfl⟩,fun b O=>?_,q⟩;have e:b=s1.heap.objs.size:=by simpa using O
 subst e;exact F.fpOk (Aj _) (F.hok.fresh (Aj _))
theorem dQ{l:Bi}{tl:TE}(hl:PE X l tl):PI X tg l (aJ0 X.K tl):=by
 constructor;intro im s σ H R I h;refine thn (hl im s σ H _ I h) fun v s1 ⟨x,H1,F,J,G⟩=>?_;obtain⟨a,e,⟨xs,hq⟩,q⟩:=G;subst e;cases J;obtain⟨its,rv,p,hz⟩:=F.tuple hq;refine wpAny_pyIter_tuple (show s1.heap.IsTuple a its.toArray from p) ?_;refine⟨s1.heap.objs.size,[s1.heap.objs.size],_,_,H1,rfl,F.kept (t':=s1.toks) fun b o e=>Ak _ e,aAY a _,⟨_,AH _ rfl,rfl,rfl⟩,fun b O=>?_,q⟩;have e:b=s1.heap.objs.size:=by simpa using O
 subst e;exact F.fpOk (Aj _) (F.hok.fresh (Aj _))
theorem aD3{im:List (Af×Obj)}{σ:St}{H:Hp}{s:Ae}{R:It->Hp->Prop}{E:Ac->Ae->Prop}{lo hi:Int}{t u v:Tok}{tk:Nat}(I:Inv X im σ H s)(h1:-(2^62)<=lo)(h2:lo<2^62)(G:-(2^62)<=hi)(Y:hi<2^62)
  (q:R (Itr lo (hi-lo).toNat) H):wpAny (model X.prog X.w) X.A (pyIter (.ref s.heap.objs.size)) (PIE X im σ tg R) E { s with heap:=s.heap.push { cls:=.type "range",data:=.fields #[.int lo t,.int hi u,.int 1 v] },toks:=tk }:=by
 refine wpAny_pyIter_range (IsRange.new ..) (small_one h1 h2 G Y) ?_;have F:Inv X im σ H { s with heap:=s.heap.push { cls:=.type "range",data:=.fields #[.int lo t,.int hi u,.int 1 v] },toks:=tk }:=I.kept fun b o e=>Ak _ e;refine⟨(s.heap.push { cls:=.type "range",data:=.fields #[.int lo t,.int hi u,.int 1 v] }).objs.size,[(s.heap.push { cls:=.type "range",data:=.fields #[.int lo t,.int hi u,.int 1 v] }).objs.size],_,_,H,rfl,
  F.kept (t':=tk) fun b o e=>Ak _ e,aAZ _ lo (hi-lo).toNat,?_,fun b Z=>?_,q⟩
 .have O:lo+((0:Nat):Int)*1=lo:=by simp
  have J:(((hi-lo).toNat:Nat):Int)-((0:Nat):Int)=Builtin.Range.rangeSize lo hi 1:=by rw[rangeSize_one];split<;>omega
  show IsRangeIter _ _ (lo+((0:Nat):Int)*1) ((((hi-lo).toNat:Nat):Int)-((0:Nat):Int)) 1;rw[O,J];exact AH _ rfl
 .have e:b=(s.heap.push { cls:=.type "range",data:=.fields #[.int lo t,.int hi u,.int 1 v] }).objs.size:=by simpa using Z
  subst e;exact F.fpOk (Aj _) (F.hok.fresh (Aj _))
def aIY(ta:TA):TI:=fun σ H R=>ta σ H fun vs H1=>∃ j:Int,vs=[.int j]/\-(2^62)<=j/\j<2^62/\R (Itr 0 j.toNat) H1
theorem eB{a:Bi}{ta:TA}{p pos:Pos}(G:Gl X "range")(hm:X.mg "range"=none)(ha:PA X [a] ta)(hs:starEach [a] X.env=[(false,eval a X.env)]:=by rfl):PI X tg (.Call (.Name "range" p) [a] [] pos) (aIY ta):=by
 constructor;intro im s σ H R I h;refine Call_ (wW I G hm boot_range (PyProof.Rows.callWith_type1 (thn (ha pos im s σ H _ I h) fun Z s1 ⟨vs,H1,J,Y,F⟩=>?_) hs rfl));obtain⟨j,e,F,q2,q⟩:=F;subst e;cases Y with
 | cons r O=>
  cases O;obtain⟨t,rfl⟩:=r;exact call_range_1 (aD3 J (by omega) (by omega) F q2 (by simpa using q))
def aJ1(wi:TI)(g:TG)(tb:TS):TS:=fun D σ H=>wi σ H fun J H1=>∃ W:Nat->Nat->St->Hp->Prop,(∃ m,W 0 m σ H1)/\∀ i m σ H,W i m σ H->
 (J.stop i H/\D.nx σ H)\/(J.go i H/\∃ N:St->Hp->Prop,(∀ σ' H',N σ' H'->∃ m',m'<m/\W (i+1) m' σ' H')/\∀ x H',J.yld i H x H'->g x σ H' fun σ2 H2=>tb { D with nx:=N,ct:=N,bk:=D.nx } σ2 H2)
def nU(fp:List Af)(h:Bl):List (Af×Obj):=fp.filterMap fun b=>(h.get? b).map fun o=>(b,o)
theorem kH{fp:List Af}{h:Bl}{b:Af}{o:Obj}(F:b∈fp)(e:h.get? b=some o):(b,o)∈nU fp h:=List.mem_filterMap.mpr ⟨b,F,by rw[e];rfl⟩
theorem vK{fp:List Af}{h:Bl}{p:Af×Obj}(F:p∈nU fp h):p.1∈fp/\h.get? p.1=some p.2:=by
 obtain⟨b,hb,e⟩:=List.mem_filterMap.mp F;cases q:h.get? b with
 | none=>rw[q]at e;cases e
 | some o=>
  rw[q]at e;have G:(b,o)=p:=BD.inj e;subst G;exact⟨hb,q⟩
theorem Inv.pinned{im:List (Af×Obj)}{σ:St}{H:Hp}{s:Ae}{fp:List Af}(I:Inv X im σ H s)(G:∀ b∈fp,lH X im H b)(ho:∀ b∈fp,∃ o,s.heap.get? b=some o/\∀ v,o.data≠.cell v):Inv X (im++nU fp s.heap) σ H s:=
 I.pins_of fun p F=>(AO.mp F).elim (fun z=>I.pin p (AS _ z)) fun z=>by
  obtain⟨hb,e⟩:=vK z;obtain⟨f0,f1,f2,_⟩:=G p.1 hb;obtain⟨o,e',d⟩:=ho p.1 hb;rw[e]at e';cases e';exact⟨e,f0,f1,f2,d⟩
theorem Inv.unpinned{im pl:List (Af×Obj)}{σ:St}{H:Hp}{s:Ae}(I:Inv X (im++pl) σ H s):Inv X im σ H s:=I.pins_of fun p F=>I.pin p (AS _ (BG _ F))
theorem dY{Y:Bi}{ab:List Cw}{wi:TI}{g:TG}{tb:TS}{pos:Pos}(hp:PassesOwn (model X.prog X.w) X.A X.env X.xe)(hc:X.calm=true)(hi:PI X tg Y wi)(hg:PG X tg g)(hb:PSs X ab tb)
  (hs:∀ x,foldedSetIterable Y X.env x=pure x:=by intro _;rfl):PS X (.For tg Y ab [] pos) (aJ1 wi g tb):=by
 constructor;intro im s σ H D I h;refine wpAny_For (thn (hi im s σ H _ I h) fun v s1 h1=>thn h1 fun aI s2 h2=>?_) hs;obtain⟨it,fp,tn,J,H2,e,I2,T,st2,f2,W,⟨m0,w0⟩,turn⟩:=h2;subst e;have F:∀{H':Hp},(∀ b∈fp,H' b=none)->∀ b∈fp,lH X im H' b:=fun hn b hb=>⟨hn b hb,(f2 b hb).2⟩
 refine codeAny_forLoop_any (fun n s'=>∃ i σ' H',Inv X im σ' H' s'/\tn i s'.heap/\(∀ b∈fp,H' b=none)/\W i n σ' H') ?_ m0 ⟨0,σ,H2,I2,st2,fun b hb=>(f2 b hb).1,w0⟩;rintro n s3 ⟨i,σ3,H3,I3,ag,ai,w3⟩;rcases turn i n σ3 H3 w3 with⟨stop,qn⟩|⟨go,N,hN,step⟩
 .refine Dv hp (thn (T.done X rfl rfl rfl hc i im s3 σ3 H3 X.xe I3 (F ai) ag stop) fun r s4 ⟨hr,I4⟩=>?_);subst hr;exact Ge ⟨σ3,H3,I4,qn⟩
 .refine Dv hp (thn (T.item X rfl rfl rfl hc i im s3 σ3 H3 X.xe I3 (F ai) ag go) fun r s4 ⟨u,hr,h4⟩=>?_);subst hr;refine Dv hp (thn h4 fun _ s5 ⟨x,H5,I5,r5,y5,ae,an⟩=>?_);have ao:=I5.pinned (F an) (T.obj _ _ ae);refine Dv hp (thn (hg _ s5 σ3 H5 x u _ ao r5 (step x H5 y5)) fun _ s6 ⟨σ6,H6,I6,q6⟩=>?_);refine Dv hp (thn (hb _ s6 σ6 H6 _ I6 q6) fun f s7 q7=>?_);have Z:∀{G:St} {O:Hp},Inv X (im++nU fp s5.heap) G O s7->N G O->∃ m,m<n/\∃ i σ' H',Inv X im σ' H' s7/\tn i s7.heap/\(∀ b∈fp,H' b=none)/\W i m σ' H':=fun{G O} I7 n7=>by
   obtain⟨m',hm,w7⟩:=hN G O n7;refine⟨m',hm,i+1,G,O,I7.unpinned,T.keep _ _ _ ae fun b hb o e=>(I7.pin (b,o) (AS _ (AS _ (kH hb e)))).1,fun b hb=>?_,w7⟩;obtain⟨o,e,d⟩:=T.obj _ _ ae b hb;exact(I7.pin (b,o) (AS _ (AS _ (kH hb e)))).2.1
  cases f with
  | next=>obtain⟨G,O,I7,n7⟩:=q7;exact Z I7 n7
  | cont=>obtain⟨G,O,I7,n7⟩:=q7;exact Z I7 n7
  | brk=>obtain⟨G,O,I7,q7⟩:=q7;exact⟨G,O,I7.unpinned,q7⟩
  | ret v=>obtain⟨x7,G,O,I7,r7,q7⟩:=q7;exact⟨x7,G,O,I7.unpinned,r7,q7⟩
end
theorem jU{K:Ah}{a:Af}{xs:List V}{g:TG}{tb:TS}{D:Ends}{σ:St}{H:Hp}(F:Nat->St->Hp->Prop)(Z:F 0 σ H)(hl:∀ i σ H,i<=xs.length->F i σ H->SqL K H a xs)
  (hs:∀ i x σ H,xs[i]?=some x->F i σ H->g x σ H fun J H2=>tb { D with nx:=F (i+1),ct:=F (i+1),bk:=D.nx } J H2) (hd:∀ σ H,F xs.length σ H->D.nx σ H):
  ∃ W:Nat->Nat->St->Hp->Prop,(∃ m,W 0 m σ H)/\∀ i m σ H,W i m σ H->
   ((Itl K a).stop i H/\D.nx σ H)\/((Itl K a).go i H/\∃ N:St->Hp->Prop,(∀ O H',N O H'->∃ Y,Y<m/\W (i+1) Y O H')/\∀ x H',(Itl K a).yld i H x H'->g x σ H' fun J H2=>tb { D with nx:=N,ct:=N,bk:=D.nx } J H2):=by
 refine⟨fun i m σ H=>m=xs.length-i/\i<=xs.length/\F i σ H,⟨xs.length,by simp,A8 _,Z⟩,?_⟩;rintro i m σ H ⟨rfl,hi,p⟩;have q:=hl i σ H hi p;by_cases G:i<xs.length
 .refine .inr ⟨⟨xs,xs[i],q,by simp[G]⟩,F (i+1),fun O H' p'=>⟨xs.length-(i+1),by omega,rfl,G,p'⟩,fun x H' y=>?_⟩;obtain⟨e,y⟩:=y;subst e;exact hs i x σ _ (y xs q) p
 .have e:i=xs.length:=by omega
  subst e;exact .inl ⟨⟨xs,q,Aj _⟩,hd σ H p⟩
theorem iM{K:Ah}{a:Af}{xs:List V}{g:TG}{tb:TS}{D:Ends}{σ:St}{H:Hp}(F:Nat->St->Hp->Prop)(Z:F 0 σ H)(hl:∀ i σ H,i<=xs.length->F i σ H->SqT K H a xs)
  (hs:∀ i x σ H,xs[i]?=some x->F i σ H->g x σ H fun J H2=>tb { D with nx:=F (i+1),ct:=F (i+1),bk:=D.nx } J H2) (hd:∀ σ H,F xs.length σ H->D.nx σ H):
  ∃ W:Nat->Nat->St->Hp->Prop,(∃ m,W 0 m σ H)/\∀ i m σ H,W i m σ H->
   ((Itt K a).stop i H/\D.nx σ H)\/((Itt K a).go i H/\∃ N:St->Hp->Prop,(∀ O H',N O H'->∃ Y,Y<m/\W (i+1) Y O H')/\∀ x H',(Itt K a).yld i H x H'->g x σ H' fun J H2=>tb { D with nx:=N,ct:=N,bk:=D.nx } J H2):=by
 refine⟨fun i m σ H=>m=xs.length-i/\i<=xs.length/\F i σ H,⟨xs.length,by simp,A8 _,Z⟩,?_⟩;rintro i m σ H ⟨rfl,hi,p⟩;have q:=hl i σ H hi p;by_cases G:i<xs.length
 .refine .inr ⟨⟨xs,xs[i],q,by simp[G]⟩,F (i+1),fun O H' p'=>⟨xs.length-(i+1),by omega,rfl,G,p'⟩,fun x H' y=>?_⟩;obtain⟨e,y⟩:=y;subst e;exact hs i x σ _ (y xs q) p
 .have e:i=xs.length:=by omega
  subst e;exact .inl ⟨⟨xs,q,Aj _⟩,hd σ H p⟩
theorem mU{lo:Int}{n:Nat}{g:TG}{tb:TS}{D:Ends}{σ:St}{H:Hp}(G:Nat->St->Hp->Prop)(Z:G 0 σ H)
  (hs:∀ i σ H,i<n->G i σ H->g (.int (lo+i)) σ H fun J H2=>tb { D with nx:=G (i+1),ct:=G (i+1),bk:=D.nx } J H2) (hd:∀ σ H,G n σ H->D.nx σ H):
  ∃ W:Nat->Nat->St->Hp->Prop,(∃ m,W 0 m σ H)/\∀ i m σ H,W i m σ H->
   ((Itr lo n).stop i H/\D.nx σ H)\/((Itr lo n).go i H/\∃ N:St->Hp->Prop,(∀ O H',N O H'->∃ Y,Y<m/\W (i+1) Y O H')/\∀ x H',(Itr lo n).yld i H x H'->g x σ H' fun J H2=>tb { D with nx:=N,ct:=N,bk:=D.nx } J H2):=by
 refine⟨fun i m σ H=>m=n-i/\i<=n/\G i σ H,⟨n,by simp,A8 _,Z⟩,?_⟩;rintro i m σ H ⟨rfl,hi,p⟩;by_cases F:i<n
 .refine .inr ⟨F,G (i+1),fun O H' p'=>⟨n-(i+1),by omega,rfl,F,p'⟩,fun x H' y=>?_⟩;obtain⟨e,y⟩:=y;subst e y;exact hs i σ _ F p
 .have e:i=n:=by omega
  subst e;exact .inl ⟨Aj _,hd σ H p⟩
abbrev R2:=V->V->Hp->VK->Prop
def OpR(X:Cx)(f:Ac->Ac->Sem Ac)(r:R2):Prop:=
 ∀(im:List (Af×Obj)) (s:Ae) (σ:St) (H:Hp) (x y:V) (v u:Ac) (Q:VK),Inv X im σ H s->cC x v->cC y u->r x y H Q->
  wpAny (model X.prog X.w) X.A (f v u) (EP X im σ Q) X.xe s
def UnR(X:Cx)(f:Ac->Sem Ac)(r:V->Hp->VK->Prop):Prop:=
 ∀(im:List (Af×Obj)) (s:Ae) (σ:St) (H:Hp) (x:V) (v:Ac) (Q:VK),Inv X im σ H s->cC x v->r x H Q->
  wpAny (model X.prog X.w) X.A (f v) (EP X im σ Q) X.xe s
def fF(X:Cx)(f:Ac)(r:List V->Hp->VK->Prop):Prop:=
 ∀(im:List (Af×Obj)) (s:Ae) (σ:St) (H:Hp) (xs:List V) (us:List Ac) (Q:VK),Inv X im σ H s->bU xs us->r xs H Q->
  wpAny (model X.prog X.w) X.A (call f us) (EP X im σ Q) X.xe s
def aJ2(X:Cx)(r:V->Hp->(Bool->Hp->Prop)->Prop):Prop:=
 ∀(im:List (Af×Obj)) (s:Ae) (σ:St) (H:Hp) (x:V) (v:Ac) (Q:Bool->Hp->Prop),Inv X im σ H s->cC x v->r x H Q->
  wpAny (model X.prog X.w) X.A (truthy v) (TP X im σ Q) X.xe s
def tOp(r:R2)(ta tb:TE):TE:=fun σ H Q=>ta σ H fun x H1=>tb σ H1 fun y H2=>r x y H2 Q
def tUn(r:V->Hp->VK->Prop)(ta:TE):TE:=fun σ H Q=>ta σ H fun x H1=>r x H1 Q
inductive aIZ(C:Int->Int->Prop)(g:Int->Int->V)(x:V)(y:V)(H:Hp)(Q:VK):Prop
 | mk (i:_) (j:_) (q0:x=.int i) (q1:y=.int j) (q2:C i j) (q3:Q (g i j) H):aIZ C g x y H Q
def rI(C:Int->Int->Prop)(g:Int->Int->V):R2:=fun x y H Q=>aIZ C g x y H Q
inductive aHf(g:Int->Int->V)(x:V)(y:V)(H:Hp)(Q:VK):Prop
 | mk (i:_) (j:_) (q0:x=.int i) (q1:y=.int j) (q2:Q (g i j) H):aHf g x y H Q
def rI0(g:Int->Int->V):R2:=fun x y H Q=>aHf g x y H Q
inductive aI0(g:Int->V)(x:V)(H:Hp)(Q:VK):Prop
 | mk (i:_) (q0:x=.int i) (q1:Q (g i) H):aI0 g x H Q
def rU(g:Int->V):V->Hp->VK->Prop:=fun x H Q=>aI0 g x H Q
section
variable{a b c:Bi}{ta tb tc:TE}
theorem aHR(ha:PE X a ta)(hb:PE X b tb){im:List (Af×Obj)}{s:Ae}{σ:St}{H:Hp}{R:V->V->Hp->Prop}(I:Inv X im σ H s)
  (h:ta σ H fun x H1=>tb σ H1 fun y H2=>R x y H2) {Q:Ac->Ae->Prop} {f:Ac->Ac->Sem Ac}
  (hf:∀ v u s2 x y H2,Inv X im σ H2 s2->cC x v->cC y u->R x y H2->wpAny (model X.prog X.w) X.A (f v u) Q X.xe s2):
  wpAny (model X.prog X.w) X.A (eval a X.env) (fun v Z=>wpAny (model X.prog X.w) X.A (eval b X.env) (fun u G=>wpAny (model X.prog X.w) X.A (f v u) Q X.xe G) X.xe Z) X.xe s:=by
 refine thn (ha im s σ H _ I h) fun v s1 ⟨x,H1,Y,r1,J⟩=>?_;refine thn (hb im s1 σ H1 _ Y J) fun u s2 ⟨y,H2,F,r2,O⟩=>?_;exact hf v u s2 x y H2 F r1 r2 O
theorem aY{op:Operator}{r:R2}(ho:OpR X (binaryOp op) r)(ha:PE X a ta)(O:PE X b tb):PE X (.BinOp a op b pos) (tOp r ta tb):=by
 constructor;intro im s σ H Q I h;exact wpAny_BinOp (aHR ha O I h fun v u s2 x y H2 F J G q=>ho im s2 σ H2 x y v u Q F J G q)
theorem jA{op:UnaryOp}{r:V->Hp->VK->Prop}(ho:UnR X (unaryOp op) r)(ha:PE X a ta):PE X (.UnaryOp op a pos) (tUn r ta):=by
 constructor;intro im s σ H Q I h;exact UnaryOp_ (thn (ha im s σ H _ I h) fun v s1 ⟨x,H1,G,J,F⟩=>ho im s1 σ H1 x v Q G J F)
theorem opI{f:Ac->Ac->Sem Ac}{C:Int->Int->Prop}{g:Int->Int->Int}
  (F:∀(i j:Int) (t u:Tok) (s:Ae) (Q:Ac->Ae->Prop) (E:Ac->Ae->Prop),C i j->Q (.int (g i j) s.toks) { s with toks:=s.toks+1 }->wpAny (model X.prog X.w) X.A (f (.int i t) (.int j u)) Q E s):
  OpR X f (rI C fun i j=>.int (g i j)):=by
 intro im s σ H x y v u Q I J G h;obtain⟨i,j,rfl,rfl,hc,q⟩:=h;obtain⟨t,rfl⟩:=J;obtain⟨t',rfl⟩:=G;exact F i j t t' s _ _ hc ⟨.int (g i j),H,I.tok _,⟨_,rfl⟩,q⟩
theorem aI1{f:Ac->Ac->Sem Ac}{g:Int->Int->Int}
  (F:∀(i j:Int) (t u:Tok) (s:Ae) (Q:Ac->Ae->Prop) (E:Ac->Ae->Prop),Q (.int (g i j) s.toks) { s with toks:=s.toks+1 }->wpAny (model X.prog X.w) X.A (f (.int i t) (.int j u)) Q E s):
  OpR X f (rI0 fun i j=>.int (g i j)):=by
 intro im s σ H x y v u Q I J G h;obtain⟨i,j,rfl,rfl,q⟩:=h;obtain⟨t,rfl⟩:=J;obtain⟨t',rfl⟩:=G;exact F i j t t' s _ _ ⟨.int (g i j),H,I.tok _,⟨_,rfl⟩,q⟩
theorem aHS{f:Ac->Ac->Sem Ac}{g:Int->Int->Bool}
  (F:∀(i j:Int) (t u:Tok) (s:Ae) (Q:Ac->Ae->Prop) (E:Ac->Ae->Prop),Q (.bool (g i j)) s->wpAny (model X.prog X.w) X.A (f (.int i t) (.int j u)) Q E s):
  OpR X f (rI0 fun i j=>.bl (g i j)):=by
 intro im s σ H x y v u Q I J G h;obtain⟨i,j,rfl,rfl,q⟩:=h;obtain⟨t,rfl⟩:=J;obtain⟨t',rfl⟩:=G;exact F i j t t' s _ _ ⟨.bl (g i j),H,I,rfl,q⟩
def aJ3(i j:Int):Prop:=0<j/\j<1073741824
def aJ4(i j:Int):Prop:=0<=j/\j<=1000000/\i.natAbs<2^64
def aF8(i j:Int):Prop:=(-(2^64)<i/\i<2^64)\/(-(2^64)<j/\j<2^64)
theorem aF8.ok{i j:Int}(h:aF8 i j):IntMulOk i j:=by
 rcases h with⟨h1,h2⟩|⟨h1,h2⟩
 .exact .of_left (intBits_le_64 h1 h2)
 .exact .of_right (intBits_le_64 h1 h2)
theorem cQ:OpR X (binaryOp .Add) (rI0 fun i j=>.int (i+j)):=aI1 fun _ _ _ _ _ _ _ q=>add_int q
theorem kK:OpR X (binaryOp .Sub) (rI0 fun i j=>.int (i-j)):=aI1 fun _ _ _ _ _ _ _ q=>sub_int q
theorem dZ:OpR X (binaryOp .Mult) (rI aF8 fun i j=>.int (i*j)):=opI fun _ _ _ _ _ _ _ hc q=>mul_int q hc.ok
theorem mV:OpR X (binaryOp .FloorDiv) (rI aJ3 fun i j=>.int (i/j)):=opI fun i j _ _ _ _ _ hc q=>by
 have h1:(0:Int)<j:=hc.1;have h2:j<1073741824:=hc.2;exact floordiv_int (by omega) (by rw[Int.fdiv_eq_ediv_of_nonneg i (by omega)];exact q) (.inl (PyProof.noPylong_small (by omega)))
theorem eO:OpR X (binaryOp .Mod) (rI (fun _ j=>0<j) fun i j=>.int (i%j)):=opI fun i j _ _ _ _ _ hc q=>by
 have h1:(0:Int)<j:=hc;exact mod_int' (by omega) (by rw[Int.fmod_eq_emod_of_nonneg i (by omega)];exact q)
theorem sH:OpR X (binaryOp .Pow) (rI aJ4 fun i j=>.int (i^j.toNat)):=opI fun _ _ _ _ _ _ _ hc q=>pow_int_small hc.1 hc.2.1 hc.2.2 q
theorem unI{f:Ac->Sem Ac}{g:Int->Int}
  (F:∀(i:Int) (t:Tok) (s:Ae) (Q:Ac->Ae->Prop) (E:Ac->Ae->Prop),Q (.int (g i) s.toks) { s with toks:=s.toks+1 }->wpAny (model X.prog X.w) X.A (f (.int i t)) Q E s):
  UnR X f (rU fun i=>.int (g i)):=by
 intro im s σ H x v Q I G h;obtain⟨i,rfl,q⟩:=h;obtain⟨t,rfl⟩:=G;exact F i t s _ _ ⟨.int (g i),H,I.tok _,⟨_,rfl⟩,q⟩
theorem gL:UnR X (unaryOp .USub) (rU fun i=>.int (-i)):=unI fun _ _ _ _ _ q=>neg_int q
end
def aI2:V->V->Bool
 | .non,.non=>true|.non,.int _=>true|.int _,.non=>true|.non,.bl _=>true|.bl _,.non=>true|.non,.str _=>true|.str _,.non=>true
 | .int _,.int _=>true|.bl _,.bl _=>true|.str _,.str _=>true|.byt _,.byt _=>true
 | .int _,.str _=>true|.str _,.int _=>true|.bl _,.str _=>true|.str _,.bl _=>true
 | _,_=>false
def rEq:R2:=fun x y H Q=>aI2 x y=true/\Q (.bl (decide (x=y))) H
def rNe:R2:=fun x y H Q=>aI2 x y=true/\Q (.bl (!decide (x=y))) H
theorem aBQ{i j:Int}:decide (V.int i=V.int j)=(i==j):=by
 rw[CO];simp
theorem aD4{i j:Bool}:decide (V.bl i=V.bl j)=(i==j):=by
 rw[CO];simp
theorem aBR{i j:Str}:decide (V.str i=V.str j)=(i==j):=by
 rw[CO];simp
theorem aBS{i j:Array UInt8}:decide (V.byt i=V.byt j)=(i.toList==j.toList):=by
 rw[CO];cases i;cases j;simp
section
variable{a b c:Bi}{ta tb tc:TE}
theorem cU{im:List (Af×Obj)}{σ:St}{H:Hp}{s:Ae}{Q:VK}{k F:Bool}(I:Inv X im σ H s)(q:Q (.bl k) H)(e:k=F):EP X im σ Q (.bool F) s:=by
 subst e;exact⟨.bl k,H,I,rfl,q⟩
theorem cV:OpR X (compareOp .Eq) rEq:=by
 intro im s σ H x y v u Q I G F h;obtain⟨hs,q⟩:=h;cases x with
 | non=>
  cases G;cases y with
  | non=>cases F;exact PySem.EqNone.eq_none_none (cU I q (by simp))
  | bl j=>cases F;exact PySem.EqNone.eq_none_bool (cU I q (by simp))
  | int j=>obtain⟨t',rfl⟩:=F;exact PySem.EqNone.eq_none_int (cU I q (by simp))
  | str j=>obtain⟨t',rfl⟩:=F;exact PySem.EqNone.eq_none_str (cU I q (by simp))
  | _=>exact absurd (show false=true from hs) Am
 | bl i=>
  cases G;cases y with
  | non=>cases F;exact PySem.EqNone.eq_bool_none (cU I q (by simp))
  | bl j=>cases F;exact eq_bool (cU I q aD4)
  | str j=>obtain⟨t',rfl⟩:=F;exact PySem.EqMixed.eq_bool_str (cU I q (by simp))
  | _=>exact absurd (show false=true from hs) Am
 | int i=>
  obtain⟨t,rfl⟩:=G;cases y with
  | non=>cases F;exact PySem.EqNone.eq_int_none (cU I q (by simp))
  | int j=>obtain⟨t',rfl⟩:=F;exact eq_int (cU I q aBQ)
  | str j=>obtain⟨t',rfl⟩:=F;exact PySem.EqMixed.eq_int_str (cU I q (by simp))
  | _=>exact absurd (show false=true from hs) Am
 | str i=>
  obtain⟨t,rfl⟩:=G;cases y with
  | non=>cases F;exact PySem.EqNone.eq_str_none (cU I q (by simp))
  | bl j=>cases F;exact PySem.EqMixed.eq_str_bool (cU I q (by simp))
  | int j=>obtain⟨t',rfl⟩:=F;exact PySem.EqMixed.eq_str_int (cU I q (by simp))
  | str j=>obtain⟨t',rfl⟩:=F;exact eq_str (cU I q aBR)
  | _=>exact absurd (show false=true from hs) Am
 | byt i=>
  obtain⟨t,rfl⟩:=G;cases y with
  | byt j=>obtain⟨t',rfl⟩:=F;exact PySem.W.eq_bytes (cU I q aBS)
  | _=>exact absurd (show false=true from hs) Am
 | _=>cases y<;>exact absurd (show false=true from hs) Am
theorem vL:OpR X (compareOp .NotEq) rNe:=by
 intro im s σ H x y v u Q I G F h;obtain⟨hs,q⟩:=h;cases x with
 | non=>
  cases G;cases y with
  | non=>cases F;exact PySem.EqNone.ne_none_none (cU I q (by simp))
  | bl j=>cases F;exact PySem.EqNone.ne_none_bool (cU I q (by simp))
  | int j=>obtain⟨t',rfl⟩:=F;exact PySem.EqNone.ne_none_int (cU I q (by simp))
  | str j=>obtain⟨t',rfl⟩:=F;exact PySem.EqNone.ne_none_str (cU I q (by simp))
  | _=>exact absurd (show false=true from hs) Am
 | bl i=>
  cases G;cases y with
  | non=>cases F;exact PySem.EqNone.ne_bool_none (cU I q (by simp))
  | bl j=>cases F;exact ne_bool (cU I q (congrArg not aD4))
  | str j=>obtain⟨t',rfl⟩:=F;exact PySem.EqMixed.ne_bool_str (cU I q (by simp))
  | _=>exact absurd (show false=true from hs) Am
 | int i=>
  obtain⟨t,rfl⟩:=G;cases y with
  | non=>cases F;exact PySem.EqNone.ne_int_none (cU I q (by simp))
  | int j=>obtain⟨t',rfl⟩:=F;exact ne_int (cU I q (congrArg not aBQ))
  | str j=>obtain⟨t',rfl⟩:=F;exact PySem.EqMixed.ne_int_str (cU I q (by simp))
  | _=>exact absurd (show false=true from hs) Am
 | str i=>
  obtain⟨t,rfl⟩:=G;cases y with
  | non=>cases F;exact PySem.EqNone.ne_str_none (cU I q (by simp))
  | bl j=>cases F;exact PySem.EqMixed.ne_str_bool (cU I q (by simp))
  | int j=>obtain⟨t',rfl⟩:=F;exact PySem.EqMixed.ne_str_int (cU I q (by simp))
  | str j=>obtain⟨t',rfl⟩:=F;exact ne_str (cU I q (congrArg not aBR))
  | _=>exact absurd (show false=true from hs) Am
 | byt i=>
  obtain⟨t,rfl⟩:=G;cases y with
  | byt j=>obtain⟨t',rfl⟩:=F;exact PySem.W.ne_bytes (cU I q (congrArg not aBS))
  | _=>exact absurd (show false=true from hs) Am
 | _=>cases y<;>exact absurd (show false=true from hs) Am
theorem qQ:OpR X (compareOp .Lt) (rI0 fun i j=>.bl (decide (i<j))):=aHS fun _ _ _ _ _ _ _ q=>lt_int q
theorem aBT:OpR X (compareOp .Gt) (rI0 fun i j=>.bl (decide (j<i))):=aHS fun _ _ _ _ _ _ _ q=>gt_int q
theorem aI3:OpR X (compareOp .GtE) (rI0 fun i j=>.bl (decide (j<=i))):=aHS fun _ _ _ _ _ _ _ q=>ge_int q
theorem bJ(b:Bi){op:Io}(h:op≠.In:=by decide)(h2:op≠.NotIn:=by decide):behindInMarks op b=false:=by
 have G:(op==CmpOp.In)=false:=by cases op<;>first|rfl|exact absurd rfl h
 have F:(op==CmpOp.NotIn)=false:=by cases op<;>first|rfl|exact absurd rfl h2
 cases b<;>simp[behindInMarks,G,F]
theorem kQ{op:Io}{r:R2}(ho:OpR X (compareOp op) r)(ha:PE X a ta)(O:PE X b tb)(hm:behindInMarks op b=false):PE X (.Compare a [op] [b] pos) (tOp r ta tb):=by
 constructor;intro im s σ H Q I h;exact wpAny_Compare1 (aHR ha O I h fun v u s2 x y H2 F J G q=>ho im s2 σ H2 x y v u Q F J G q) hm
def aI4(t:TE):TT:=fun σ H Q=>t σ H fun x H'=>As V.bl x fun k=>Q k H'
theorem aZ{op:Io}{r:R2}(ho:OpR X (compareOp op) r)(ha:PE X a ta)(hb:PE X b tb)(hm:behindInMarks op b=false):PT X (.Compare a [op] [b] pos) (aI4 (tOp r ta tb)):=by
 constructor;intro im s σ H Q I h;refine wpAny_isTrue_Compare1 (thn (ha im s σ H _ I h) fun v s1 ⟨x,H1,Y,r1,J⟩=>thn (hb im s1 σ H1 _ Y J) fun u s2 ⟨y,H2,F,r2,O⟩=>
  thn (ho im s2 σ H2 x y v u _ F r1 r2 O) fun c s3 ⟨z,G,Z,r3,k,e,q3⟩=>?_) hm
 subst e;cases r3;exact C9 ⟨G,Z,q3⟩
def aI5(K:Ah)(x:V)(H:Hp)(k:Bool):Prop:=
 match x with
 | .non=>k=false
 | .bl b=>k=b
 | .int i=>k=(i != 0)
 | .str y=>y.length<=sizeLine/\k=((y.length:Int) != 0)
 | .byt y=>y.size<=sizeLine/\k=((y.size:Int) != 0)
 | .ref p=>(∃ xs,SqL K H p xs/\k=!xs.isEmpty)\/(∃ xs,SqT K H p xs/\k=!xs.isEmpty)\/∃ ip,H p=some (.dK ip)/\k=!ip.isEmpty
 | _=>False
theorem aA0{κ:Type}{ip:List (κ×V)}{vs:List (κ×Ac)}(r:KV ip vs):(!vs.isEmpty)=!ip.isEmpty:=by
 cases r<;>rfl
theorem sI{xs:List V}{its:List Ac}(r:bU xs its):(!its.toArray.isEmpty)=!xs.isEmpty:=by
 cases r<;>simp
theorem nV:(sizeLine:Nat)<2^63:=by rw[Fs];decide
theorem aHT:aJ2 X (fun x H Q=>∃ k,aI5 X.K x H k/\Q k H):=by
 intro im s σ H x v Q I J h;obtain⟨k,e,q⟩:=h;have hl:=nV;have hs:sizeLine=16777216:=Fs;cases x with
 | non=>
  cases J;have F:k=false:=e;subst F;exact truthy_none ⟨H,I,q⟩
 | bl b=>
  cases J;have F:k=b:=e;subst F;exact C9 ⟨H,I,q⟩
 | int i=>
  obtain⟨t,rfl⟩:=J;have F:k=(i != 0):=e;subst F;exact PySem.P.truthy_int ⟨H,I,q⟩
 | str y=>
  obtain⟨t,rfl⟩:=J;obtain⟨hy,F⟩:y.length<=sizeLine/\k=((y.length:Int) != 0):=e;subst F;exact PySem.P.truthy_str (by omega) ⟨H,I.tok _,q⟩
 | byt y=>
  obtain⟨t,rfl⟩:=J;obtain⟨hy,F⟩:y.size<=sizeLine/\k=((y.size:Int) != 0):=e;subst F;exact PySem.W.truthy_bytes (by omega) ⟨H,I.tok _,q⟩
 | ref p=>
  cases J;have F:(∃ xs,SqL X.K H p xs/\k=!xs.isEmpty)\/(∃ xs,SqT X.K H p xs/\k=!xs.isEmpty)\/∃ ip,H p=some (.dK ip)/\k=!ip.isEmpty:=e;rcases F with⟨xs,hx,F⟩|⟨xs,hx,F⟩|⟨ip,hx,F⟩
  .subst F;obtain⟨its,r,pl,hz⟩:=I.list hx;have G:=r.length;exact wpAny_truthy_list pl.isList (by simp only[Aw];omega) ⟨H,I.tok _,by rw[sI r];exact q⟩
  .subst F;obtain⟨its,r,pl,hz⟩:=I.tuple hx;have G:=r.length;exact truthy_tuple pl (by simp only[Aw];omega) ⟨H,I.tok _,by rw[sI r];exact q⟩
  .subst F;obtain⟨hz,hS,vs,r,m⟩:ip.length<=sizeLine/\(p==sysModules)=false/\∃ vs,KV ip vs/\s.heap.DictOf (cA X.prog X.w) p vs:=I.hok p _ hx;have G:ip.length=vs.length:=Bm r;exact wpAny_truthy_dict hS m (by omega) ⟨H,I.tok _,by rw[aA0 r];exact q⟩
 | _=>exact(show False from e).elim
theorem aD5(ha:PE X a ta)(J:∀ F,isTrue a X.env F=(do let v <- F;standAt a.pos;holding [v] (truthy v))):
  PT X a (fun σ H Q=>ta σ H fun x H'=>∃ k,aI5 X.K x H' k/\Q k H'):=by
 constructor;intro im s σ H Q I h;exact isTrue_plain (thn (ha im s σ H _ I h) fun v s1 ⟨x,H1,O,Y,G⟩=>aHT im s1 σ H1 x v Q O Y G) (J _)
inductive lQ(x:V)(y:V)(H:Hp)(Q:VK):Prop
 | mk (i:_) (j:_) (q0:x=.str i) (q1:y=.str j) (q2:i.length+j.length<=sizeLine) (q3:Q (.str (i++j)) H):lQ x y H Q
def wY:V->V->Hp->VK->Prop:=fun x y H Q=>lQ x y H Q
theorem iS:OpR X (binaryOp .Add) wY:=by
 intro im s σ H x y v u Q I G F h;obtain⟨i,j,rfl,rfl,hz,q⟩:=h;obtain⟨t,rfl⟩:=G;obtain⟨J,rfl⟩:=F;exact add_str (fun J tk=>⟨.str (i++j),H,I.tok _,⟨_,rfl⟩,q⟩) hz
theorem fG{x:V}{F:List Ac}(r:bU [x] F):∃ u,F=[u]/\cC x u:=by
 cases r with
 | cons J G=>cases G;exact⟨_,rfl,J⟩
theorem aHg{x y:V}{F:List Ac}(r:bU [x,y] F):∃ u G,F=[u,G]/\cC x u/\cC y G:=by
 cases r with
 | cons Z J=>
  cases J with
  | cons Y O=>cases O;exact⟨_,_,rfl,Z,Y⟩
inductive oK(xs:List V)(H:Hp)(Q:VK):Prop
 | mk (i:_) (q0:xs=[.int i]) (q1:Q (.int (if i<0 then -i else i)) H):oK xs H Q
def aA1:List V->Hp->VK->Prop:=fun xs H Q=>oK xs H Q
theorem sJ:fF X (.builtin "abs") aA1:=by
 intro im s σ H xs F Q I r h;obtain⟨i,rfl,q⟩:=h;obtain⟨u,rfl,t,rfl⟩:=fG r;exact call_abs_int fun u tk=>⟨.int (if i<0 then -i else i),H,I.tok _,⟨_,rfl⟩,q⟩
inductive nF(xs:List V)(H:Hp)(Q:VK):Prop
 | mk (i:_) (j:_) (q0:xs=[.int i,.int j]) (q1:Q (.int (if j>i then j else i)) H):nF xs H Q
def yN:List V->Hp->VK->Prop:=fun xs H Q=>nF xs H Q
theorem vM(hc:X.calm=true):fF X (.builtin "max") yN:=by
 intro im s σ H xs G Q I r h;obtain⟨i,j,rfl,q⟩:=h;obtain⟨u,w',rfl,⟨t,rfl⟩,⟨t',rfl⟩⟩:=aHg r;refine max_two_ints (I.ok.hd hc) fun h' tk k=>⟨_,H,I.kept k,?_,q⟩
 by_cases F:j>i
 .rw[Iq F,Iq F];exact⟨_,rfl⟩
 .rw[Ip F,Ip F];exact⟨_,rfl⟩
inductive nG(xs:List V)(H:Hp)(Q:VK):Prop
 | mk (i:_) (j:_) (q0:xs=[.int i,.int j]) (q1:Q (.int (if j<i then j else i)) H):nG xs H Q
def yO:List V->Hp->VK->Prop:=fun xs H Q=>nG xs H Q
theorem mX(hc:X.calm=true):fF X (.builtin "min") yO:=by
 intro im s σ H xs G Q I r h;obtain⟨i,j,rfl,q⟩:=h;obtain⟨u,w',rfl,⟨t,rfl⟩,⟨t',rfl⟩⟩:=aHg r;refine min_two_ints (I.ok.hd hc) fun h' tk k=>⟨_,H,I.kept k,?_,q⟩
 by_cases F:j<i
 .rw[Iq F,Iq F];exact⟨_,rfl⟩
 .rw[Ip F,Ip F];exact⟨_,rfl⟩
theorem pZ:fF X (.type "int") (fun xs H Q=>(∃ i,xs=[.int i]/\Q (.int i) H)\/∃ k,xs=[.bl k]/\Q (.int (if k then 1 else 0)) H):=by
 intro im s σ H xs F Q I r h;rcases h with⟨i,rfl,q⟩|⟨k,rfl,q⟩
 .obtain⟨u,rfl,t,rfl⟩:=fG r;exact call_int_int ⟨.int i,H,I,⟨_,rfl⟩,q⟩
 .obtain⟨u,rfl,r1⟩:=fG r;cases r1;exact call_int_bool ⟨.int (if k then 1 else 0),H,I.tok _,⟨_,rfl⟩,q⟩
end
structure aDa(h:Bl)(x dx C:Af)(mA:Str->Option Ac):Prop where
 obj:h.get? x=some (C1 C dx)
 ns:h.Ns1 dx mA
 ne:dx≠x
theorem aDb{h:Bl}{dx:Af}{mA:Str->Option Ac}(n:h.Ns1 dx mA):∃ od,h.get? dx=some od/\∀ name,Hi name od=some (mA name):=by
 obtain⟨o,es,ep,ho,hd,hk,_,hm⟩:=n;refine⟨o,ho,fun name=>?_⟩;have e:=hm name;unfold nsFind findBy at e;rw[<- Array.find?_toList]at e;unfold Hi;rw[hd];dsimp only;split
 .rename_i y q;rw[q]at e;exact congrArg some e
 .rename_i q;rw[q]at e;have a:es.toList.any (·.refKey)=false:=by
   rw[List.any_eq_false];intro y F;obtain⟨z,t,hkey⟩:=hk y (Array.mem_toList_iff.mp F);simp[DictEntry.refKey,hkey]
  have a':¬ es.toList.any (·.refKey)=true:=by rw[a];exact Am
  rw[Ip a'];exact congrArg some e
theorem aDa.look{h:Bl}{x dx C:Af}{mA:Str->Option Ac}(I:aDa h x dx C mA):∃ od,PySem.W.InstAt h x (C1 C dx) C (some od)/\∀ name,Hi name od=some (mA name):=
 let ⟨od,ho,hl⟩:=aDb I.ns
 ⟨od,⟨I.obj,rfl,rfl,ho⟩,hl⟩
section
variable{prog:AE}{K:Ah}{x dx:Af}{mA:Str->Option Ac}{name:Str}{v:Ac}
theorem aF9{F:Bool}{Q:Ac->Ae->Prop}(X:K.In s.heap)(I:aDa s.heap x dx C mA)(O:EY K C name=true)(Y:EI K C=true)
  (ha:BH K (.ref C) name=some none) (hv:mA name=some v) (G:PySem.W.handedIn v=true) (h:Q v { s with toks:=s.toks+1 }):
  wpAny (model prog w) A (getAttr (.ref x) name F) Q E s:=by
 obtain⟨od,J,hl⟩:=I.look;exact PySem.W.get_value X J (PySem.W.plainGet_of O).1 (PySem.W.findObj_own Y ha rfl (by rw[hl,hv])) G h
theorem aGa{ns:List Str}{Q:Unit->Ae->Prop}(X:K.In s.heap)(I:aDa s.heap x dx C mA)
  (hs:BH K (.ref C) "__setattr__"=some (some (.builtin "object.__setattr__"))) (Y:Gp K C=true) (ht:G4 K C name=some none) (Z:EI K C=true)
  (hw:HD mA ns) (hsz:ns.length<=sizeLine)
  (h:∀ h',aDa h' x dx C (fun y=>if y=name then some v else mA y)->Ez dx s.heap h'->Q () { s with heap:=h',toks:=s.toks+2 }):
  wpAny (model prog w) A (setAttr (.ref x) name v) Q E s:=by
 obtain⟨od,J,hl⟩:=I.look;refine PySem.W.set_plain X J hs (PySem.W.osa_open (s:={ s with toks:=s.toks+1 }) (r:=none) X J Y ht fun b=>?_);obtain⟨cd,hc,hd'⟩:=PySem.W.any_some Z;have O:s.heap.get? x=some ⟨.ref C,some dx,.plain,#[]⟩:=I.obj;refine Ab (Ag (Ab (Ab (wpAny_loadPart O (Ab (PySem.W.Looks.here (s:={ s with toks:=s.toks+1 }) (PySem.W.looks_clsIn X hc) ?_))))));rw[hd'];refine Ag (a:=some dx) (Ab (Ag (Ab ?_)));refine wpAny_nsSet1 (s:={ s with toks:=s.toks+1 }) I.ns fun h' G F=>?_;obtain⟨oD,esD,epD,hoD,hdD,hcD⟩:=G.count (PySem.Within.cons name v hw);refine Ab (wpAny_lookBehind hoD (by rw[hdD];exact pastItsLine_dict (Ay hcD (by rw[AR];omega))) ?_);exact Ag (h _ ⟨(F.2 _ (Cy I.ne)).trans I.obj,G,I.ne⟩ F)
theorem aD6{R:HN->Ae->Prop}{vs:List Ac}{F:List (Str×Ac)}(X:K.In s.heap)(hm:G6 K C=true)
  (hi:BH K (.ref C) "__init__"=some (some (.ref f))) (G:PySem.W.typeIn K (.ref f)=some (.type "function"))
  (h:codeAny (model prog w) (A.under (.builtin "type.__call__" ⟨.ref C::vs,F⟩)) (.call (.ref f) ⟨.ref (s.heap.objs.size+1)::vs,F⟩) (PySem.W.InitBack (s.heap.objs.size+1) R)
   { s with heap:=(s.heap.push Cm).push (C1 C s.heap.objs.size) }):
  codeAny (model prog w) A (.call (.ref C) ⟨vs,F⟩) R s:=by
 obtain⟨hh,g,d,t,os⟩:=s;exact PySem.W.make_core (PySem.W.makes_of X hm) (PySem.W.looks_findIn X hi) (fun self=>PySem.W.bind_fn X self G) (.inl rfl) h
end
def f7(f:Str)(v:V):List (Str×V)->List (Str×V)
 | []=>[(f,v)]
 | (g,x)::r=>if g=f then(g,v)::r else(g,x)::f7 f v r
theorem qR(f g:Str)(v:V):∀ fs:List (Str×V),(f7 f v fs).lookup g=if g=f then some v else fs.lookup g
 | []=>by
  show Dz g [(f,v)]=_;by_cases h:g=f
  .have F:(g==f)=true:=beq_iff_eq.mpr h;simp only[Dz,F,Iq h]
  .have F:(g==f)=false:=beq_eq_false_iff_ne.mpr h;simp only[Dz,F,Ip h]
 | (k,x)::r=>by
  have J:=qR f g v r;rw[show f7 f v ((k,x)::r)=(if k=f then(k,v)::r else(k,x)::f7 f v r) from rfl];by_cases G:k=f
  .rw[Iq G];by_cases h:g=k
   .have F:(g==k)=true:=beq_iff_eq.mpr h;simp only[Dz,F,Iq (h.trans G)]
   .have F:(g==k)=false:=beq_eq_false_iff_ne.mpr h;simp only[Dz,F,Ip (fun e:g=f=>h (e.trans G.symm))]
  .rw[Ip G];by_cases h:g=k
   .have F:(g==k)=true:=beq_iff_eq.mpr h;simp only[Dz,F,Ip (fun e:g=f=>G (h.symm.trans e))]
   .have F:(g==k)=false:=beq_eq_false_iff_ne.mpr h;simp only[Dz,F];exact J
theorem p4(f:Str)(v:V):∀ fs:List (Str×V),f∈(f7 f v fs).map (·.1)/\∀ g,g∈fs.map (·.1)->g∈(f7 f v fs).map (·.1)
 | []=>⟨by simp[f7],fun g h=>by simp at h⟩
 | (k,x)::r=>by
  obtain⟨i1,i2⟩:=p4 f v r;rw[show f7 f v ((k,x)::r)=(if k=f then(k,v)::r else(k,x)::f7 f v r) from rfl];by_cases F:k=f
  .rw[Iq F];subst F;exact⟨by simp,fun g h=>by simpa using h⟩
  .rw[Ip F];refine⟨?_,fun g h=>?_⟩
   .rw[Aq];exact Ao _ i1
   .rw[Aq]at h ⊢;rcases An.mp h with e|e
    .exact An.mpr (.inl e)
    .exact Ao _ (i2 g e)
theorem qS(f:Str)(v:V):∀ fs:List (Str×V),(f7 f v fs).length<=fs.length+1
 | []=>by simp[f7]
 | (k,x)::r=>by
  have G:=qS f v r;rw[show f7 f v ((k,x)::r)=(if k=f then(k,v)::r else(k,x)::f7 f v r) from rfl];by_cases F:k=f
  .rw[Iq F,AR,AR];omega
  .rw[Ip F,AR,AR];omega
theorem lN.some_of{v:V}{o:Option Ac}(r:lN (some v) o):∃ u,o=some u/\cC v u:=by
 cases o with
 | none=>exact(show False from r).elim
 | some u=>exact⟨u,rfl,r⟩
theorem aDc{v:V}{u:Ac}(r:cC v u):PySem.W.handedIn u=true:=by
 cases v with
 | non=>cases(show u=DK from r);rfl
 | bl b=>cases(show u=HX b from r);rfl
 | int i=>obtain⟨t,e⟩:=(show∃ t,u=BS i t from r);cases e;rfl
 | str x=>obtain⟨t,e⟩:=(show∃ t,u=Bz x t from r);cases e;rfl
 | byt b=>obtain⟨t,e⟩:=(show∃ t,u=Value.bytes b t from r);cases e;rfl
 | flt b=>obtain⟨t,e⟩:=(show∃ t,u=Value.float b t from r);cases e;rfl
 | ref a=>cases(show u=AG a from r);rfl
 | ty n=>cases(show u=Bt n from r);rfl
section
variable{a dx:Af}{fs jo:List (Str×V)}
theorem aBU(hok:HOk P w H h)(e:H a=some (.ins C dx fs)):∃ mA,aDa h a dx C mA/\(∀ f,lN (fs.lookup f) (mA f))/\HD mA (fs.map (·.1))/\fs.length<=1000/\H dx=some (.own a):=by
 obtain⟨d,z,ne,ob,mA,n,r,q⟩:=(show cR P w H h a (.ins C dx fs) from hok a _ e)
 exact⟨mA,⟨ob,n,ne⟩,r,q,z,d⟩
end
structure Cls(K:Ah)(C:Af):Prop where
 pg:EY K C Str.empty=true
 hd:EI K C=true
 po:Gp K C=true
 sa:BH K (.ref C) "__setattr__"=some (some (.builtin "object.__setattr__"))
theorem Cls.get{K:Ah}{C:Af}(c:Cls K C)(f:Str):EY K C f=true:=c.pg
def iT(K:Ah)(C:Af)(f:Str):Prop:=BH K (.ref C) f=some none
theorem iT.taker{K:Ah}{C:Af}{f:Str}(n:iT K C f):G4 K C f=some none:=by
 unfold G4;rw[show BH K (.ref C) f=some none from n];rfl
structure Con(K:Ah)(C:Af)(f:Str)(v:V)(u:Ac):Prop where
 at_:BH K (.ref C) f=some (some u)
 rel:cC v u
 get:PySem.W.specialIn K u "__get__"=some none
 cp:PySem.W.copiedNames.contains f=false
structure aKI(K:Ah)(C:Af)(m:Str)(f:Af):Prop where
 at_:BH K (.ref C) m=some (some (.ref f))
 fn:Hx K (.ref f)=true
 kp:A4 K (.ref f)=true
section
variable{a dx:Af}{fs:List (Str×V)}{f:Str}{v:V}
theorem aA2{b:Bool}{Q:Ac->Ae->Prop}(I:Inv X im σ H s)(e:H a=some (.ins C dx fs))(c:Cls X.K C)(n:iT X.K C f)(l:fs.lookup f=some v)
  (h:∀ u s',Inv X im σ H s'->cC v u->Q u s'):wpAny (model X.prog X.w) A (getAttr (.ref a) f b) Q E s:=by
 obtain⟨mA,O,r,_,_,_⟩:=aBU I.hok e;obtain⟨u,hu,ru⟩:=lN.some_of (v:=v) (o:=mA f) (by rw[<- l];exact r f);exact aF9 I.kIn O (c.get f) c.hd n hu (aDc ru) (h u _ (I.tok _) ru)
theorem aA3{y:V}{u:Ac}{Q:Unit->Ae->Prop}(I:Inv X im σ H s)(e:H a=some (.ins C dx fs))(c:Cls X.K C)(n:iT X.K C f)(hl:fs.length<1000)(J:cC y u)
  (h:∀ s',Inv X im σ (upd H a (.ins C dx (f7 f y fs))) s'->Q () s'):wpAny (model X.prog X.w) A (setAttr (.ref a) f u) Q E s:=by
 obtain⟨mA,O,r,wi,_,ho⟩:=aBU I.hok e;have hz:(fs.map (·.1)).length<=sizeLine:=by rw[Aa,Fs];omega
 refine aGa I.kIn O c.sa c.po n.taker c.hd wi hz fun h' F Y=>h _ ?_;have hd:∃ o,h'.get? dx=some o:=let ⟨o,_,_,e',_⟩:=F.ns;⟨o,e'⟩
 refine I.write (x:=a) (e:=dx) (by rw[e];exact Dy) (.inr ho) (fun b q Z z=>(Y.2 b Z).trans z) hd ?_;refine⟨by rw[aG O.ne];exact ho,?_,O.ne,F.obj,_,F.ns,fun g=>?_,fun g G=>?_⟩
 .have:=qS f y fs;omega
 .show lN ((f7 f y fs).lookup g) (if g=f then some u else mA g);rw[qR];by_cases q:g=f
  .rw[Iq q,Iq q];exact J
  .rw[Ip q,Ip q];exact r g
 .by_cases q:g=f
  .rw[q];exact(p4 f y fs).1
  .refine(p4 f y fs).2 g (wi g fun z=>G ?_);show(if g=f then some u else mA g)=none;rw[Ip q];exact z
theorem Inv.made(I:Inv X im σ H s):Inv X im σ (upd (upd H s.heap.objs.size (.own (s.heap.objs.size+1))) (s.heap.objs.size+1) (.ins C s.heap.objs.size []))
  { s with heap:=(s.heap.push Cm).push (C1 C s.heap.objs.size) }:=by
 have F:(s.heap.push Cm).get? s.heap.objs.size=some Cm:=AH s.heap rfl;have G:((s.heap.push Cm).push (C1 C s.heap.objs.size)).get? (s.heap.objs.size+1)=some (C1 C s.heap.objs.size):=by
  have:=AH (s.heap.push Cm) (o:=C1 C s.heap.objs.size) rfl
  rwa [CV]at this
 have Z:(s.heap.push Cm).Ns s.heap.objs.size (fun _=>none):=⟨Cm,#[],_,F,rfl,(fun e O=>absurd O (by simp)),fun _=>rfl⟩
 have Y:=I.laid (a:=s.heap.objs.size) (o:=.own (s.heap.objs.size+1)) (h':=s.heap.push Cm) (t':=s.toks) (fun b u q=>Ak _ q) (Aj _) ⟨_,F⟩;refine Y.laid (a:=s.heap.objs.size+1) (o:=.ins C s.heap.objs.size []) (t':=s.toks) (fun b u q=>Ak _ q) (Ea (CV _ _)) ?_;have ne:s.heap.objs.size≠s.heap.objs.size+1:=AI (DF _);refine⟨by rw[aG ne,aA],A8 _,ne,G,fun _=>none,(Heap.Ns1.of_empty Z).at fun o q=>Ak _ q,fun _=>Dy,fun y J=>absurd rfl J⟩
theorem aGb{prog:AE}{w:AW}{env:Env}{e:Bi}{f:Str}{pos:Pos}{s:Ae}{Q:Ac->Ae->Prop}(G:attributeBase e f env (eval e env)=eval e env)
  (h:wpAny (model prog w) A (eval e env) (fun o F=>wpAny (model prog w) A (getAttr o f true) Q E F) E s):wpAny (model prog w) A (eval (.Attribute e f pos) env) Q E s:=
 Attribute_any_ h (by rw[arm_eval_Attribute,G])
end
def aI6(K:Ah)(ta:TE)(f:Str):TE:=fun σ H Q=>ta σ H fun x H1=>∃ a C dx fs v,x=.ref a/\H1 a=some (.ins C dx fs)/\Cls K C/\iT K C f/\fs.lookup f=some v/\Q v H1
def aJ5(K:Ah)(ta tv:TE)(f:Str):TS:=fun D σ H=>tv σ H fun y H1=>ta σ H1 fun x H2=>∃ a C dx fs,x=.ref a/\H2 a=some (.ins C dx fs)/\Cls K C/\iT K C f/\fs.length<1000/\
 D.nx σ (upd H2 a (.ins C dx (f7 f y fs)))
section
variable{o value:Bi}{f:Str}{jl tpos:Pos}{ta tv:TE}
theorem d6(G:PE X e ta)(hb:attributeBase e f X.env (eval e X.env)=eval e X.env):PE X (.Attribute e f pos) (aI6 X.K ta f):=by
 constructor;intro im s σ H Q I h;refine aGb hb (thn (G im s σ H _ I h) fun u s1 ⟨x,H1,J,O,a,C,dx,fs,v,ex,Z,c,n,l,q⟩=>?_);subst ex;obtain rfl:u=AG a:=O;exact aA2 J Z c n l fun u' s2 F Y=>⟨v,H1,F,Y,q⟩
theorem sK(ha:PE X o ta)(hv:PE X value tv)(hs:swapsWith value (some (.Attribute o f jl)) pos.line X.env=pure false):PS X (.Assign [.Attribute o f jl] value pos) (aJ5 X.K ta tv f):=by
 constructor;intro im s σ H D I h;refine plainObj_wpAny_Assign_Attribute (thn (hv im s σ H _ I h) fun u s1 ⟨y,H1,O,Y,q⟩=>thn (ha im s1 σ H1 _ O q) fun G s2 ⟨x,H2,F,Z,a,C,dx,fs,ex,ea,c,n,l,J⟩=>?_) hs;subst ex;obtain rfl:G=AG a:=Z;exact aA3 F ea c n l Y fun s3 I3=>⟨σ,_,I3,J⟩
end
section
variable{Q:Ac->Ae->Prop}{c:Ac}{b:Bool}
inductive sM(K:Ah)(H:Hp):V->Ac->Prop where
 | non:sM K H .non (.type "NoneType")
 | bl (x:Bool):sM K H (.bl x) (.type "bool")
 | int (i:Int):sM K H (.int i) (.type "int")
 | str (x:Str):sM K H (.str x) (.type "str")
 | flt (x:UInt64):sM K H (.flt x) (.type "float")
 | lst {a:Af} {xs:List V} (e:H a=some (.lst xs)):sM K H (.ref a) (.type "list")
 | frz {a:Af} {o:Obj} {xs:List V} (e:H a=some (.frz o (.lst xs))):sM K H (.ref a) (.type "list")
 | tup {a:Af} {xs:List V} (e:H a=some (.tup xs)):sM K H (.ref a) (.type "tuple")
 | dK {a:Af} {ip:List (Key×V)} (e:H a=some (.dK ip)):sM K H (.ref a) (.type "dict")
 | dT {a:Af} {ip:List (List Key×V)} (e:H a=some (.dT ip)):sM K H (.ref a) (.type "dict")
 | ins {a C dx:Af} {fs:List (Str×V)} (e:H a=some (.ins C dx fs)) (cl:Cls K C) (ha:BH K (.ref C) "__class__"=some (some (.builtin "object.__class__")))
   (hn:PySem.W.specialIn K (.builtin "object.__class__") "__get__"=some (some (.builtin "getset_descriptor.__get__"))) (htk:PySem.W.takesIn K (.builtin "object.__class__")=some true)
   (hm:PySem.W.mroIn K C (.type "object")=some true):sM K H (.ref a) (.ref C)
end
structure dC(k:Nat)(A:AV):Prop where
 hd:A.handled=none
 dp:A.depth+3*k+5<recursionLimit
 un:A.units+16*k+200<cLine
 gd:A.guards=some []
theorem dC.mono{j k:Nat}{A:AV}(r:dC k A)(h:j<=k):dC j A:=⟨r.hd,by have:=r.dp;omega,by have:=r.un;omega,r.gd⟩
theorem dC.deeper{k:Nat}{A:AV}(r:dC (k+1) A)(env:Env):dC k (A.deeper env):=
 ⟨r.hd,by have:=r.dp;show A.depth+1+3*k+5<_;omega,by have:=r.un;show A.units+3+16*k+200<_;omega,r.gd⟩
theorem dC.in1{k:Nat}{A:AV}(r:dC (k+1) A):dC k A.in1:=
 ⟨r.hd,by have:=r.dp;show A.depth+3*k+5<_;omega,by have:=r.un;show A.units+1+16*k+200<_;omega,r.gd⟩
theorem aA4{A:AV}{C:Af}{G:List Ac}{F:List (Str×Ac)}:(A.under (.builtin "type.__call__" ⟨.ref C::G,F⟩)).depth=A.depth+1:=by
 first|rfl|simp[Gw,Code.weight,Code.isCreation,Code.isGuard,Code.isCaller,Code.frames,HK,guardIds]
theorem aA5{A:AV}{C:Af}{G:List Ac}{F:List (Str×Ac)}:(A.under (.builtin "type.__call__" ⟨.ref C::G,F⟩)).units=A.units+1:=by
 first|rfl|simp[Gw,Code.cUnits,Code.frames,HK]
theorem yP{A:AV}{C:Af}{F:List Ac}{G:List (Str×Ac)}:(A.under (.builtin "type.__call__" ⟨.ref C::F,G⟩)).guards=A.guards:=by
 first|rfl|(cases A;rename_i a b c g e;cases g<;>first|rfl|simp[Gw,Code.guards,Code.isGuard,guardIds,pushGuards])
theorem dC.make{k:Nat}{A:AV}(r:dC (k+1) A)(C:Af)(F:List Ac)(G:List (Str×Ac)):dC k (A.under (.builtin "type.__call__" ⟨.ref C::F,G⟩)):=
 ⟨r.hd,by have:=r.dp;rw[aA4];omega,by have:=r.un;rw[aA5];omega,yP.trans r.gd⟩
theorem dC.depth{k:Nat}{A:AV}(r:dC k A):A.depth<recursionLimit:=by have:=r.dp;omega
theorem dC.units{k:Nat}{A:AV}(r:dC k A):A.units+64<cLine:=by have:=r.un;omega
def aHU:TA:=fun _ H Q=>Q [] H
def aBV(ta:TE)(tr:TA):TA:=fun σ H Q=>ta σ H fun x H1=>tr σ H1 fun xs H2=>Q (x::xs) H2
section
variable{t:TA}
theorem aE:PA X [] aHU:=⟨fun _ _ _ _ H Q I h=>GK ⟨[],H,I,.nil,h⟩⟩
theorem aGc(ha:PE X e te)(G:PA X es t)(hs:starEach (e::es) X.env=(false,eval e X.env)::starEach es X.env:=by rfl):PA X (e::es) (aBV te t):=by
 constructor;intro pos im s σ H Q I h;rw[hs];show wpAny _ _ (spliced ((false,eval e X.env)::backTo pos (starEach es X.env))) _ _ s;refine EG (thn (ha im s σ H _ I h) fun u s1 ⟨x,H1,Y,r1,J⟩=>?_);exact thn (G pos im s1 σ H1 _ Y J) fun us s2 ⟨xs,H2,F,Z,O⟩=>⟨x::xs,H2,F,.cons r1 Z,O⟩
def aJ6(t:TA):TE:=fun σ H Q=>t σ H fun xs H1=>xs.length<=sizeLine/\∀ p,H1 p=none->Q (.ref p) (upd H1 p (.tup xs))
def aJ7(t:TA):TE:=fun σ H Q=>t σ H fun xs H1=>xs.length<=sizeLine/\∀ p,H1 p=none->Q (.ref p) (upd H1 p (.lst xs))
theorem cO{x1}(h:PA X es t):PE X (.Tuple es x1 pos) (aJ6 t):=by
 constructor;intro im s σ H Q I J;refine wpAny_Tuple_spliced (thn (h pos im s σ H _ I J) fun G s1 ⟨xs,H1,F,r,z,q⟩=>⟨by rw[<- r.length];exact z,?_⟩);have O:H1 s1.heap.objs.size=none:=F.hok.fresh (Aj _);refine⟨.ref s1.heap.objs.size,upd H1 s1.heap.objs.size (.tup xs),F.laid (t':=s1.toks) (fun b u e=>Ak _ e) (Aj _) ?_,rfl,q _ O⟩;exact⟨z,G,r,⟨_,AH _ rfl,⟨rfl,_,rfl⟩,rfl⟩⟩
theorem dA(h:PA X es t):PE X (.List es pos) (aJ7 t):=by
 constructor;intro im s σ H Q I J;refine wpAny_List_spliced (thn (h pos im s σ H _ I J) fun G s1 ⟨xs,H1,F,r,z,q⟩=>⟨by rw[<- r.length];exact z,?_⟩);have O:H1 s1.heap.objs.size=none:=F.hok.fresh (Aj _);refine⟨.ref s1.heap.objs.size,upd H1 s1.heap.objs.size (.lst xs),F.laid (t':=s1.toks) (fun b u e=>Ak _ e) (Aj _) ?_,rfl,q _ O⟩;exact⟨z,G,0,r,AH _ rfl⟩
end
abbrev Sp:=List V->Hp->VK->XK->Prop
abbrev CXT:=List Env->Hp->Ae->XK->Ac->Ae->Prop
structure aA6(P:AE)(w:AW)(K:Ah)(mg:Str->Option Ac)(base:Bl)(A:AV)(outer:List Env)(s:Ae)(H:Hp):Prop where
 frames:A.frames=some outer
 mod:Mod K mg base
 bs:∀ b o,base.get? b=some o->s.heap.get? b=some o/\H b=none
 bsz:base.objs.size<=s.heap.objs.size
 funs:s.heap.FunFrames base outer
 frf:∀ b∈frs outer,H b=none
 hok:HOk P w H s.heap
 bare:E8 s.gens
inductive aI7(outer:List Env)(P:AE)(w:AW)(H:Hp)(s:Ae)(Q:VK)(u:Ac)(s':Ae):Prop
 | mk (v:_) (H':_) (q0:s'.os=s.os) (q1:E8 s'.gens) (q2:Un (frs outer) [] H H' s.heap s'.heap) (q3:HOk P w H' s'.heap) (q4:cC v u) (q5:Q v H'):aI7 outer P w H s Q u s'
def CE(outer:List Env)(P:AE)(w:AW)(H:Hp)(s:Ae)(Q:VK)(u:Ac)(s':Ae):Prop:=aI7 outer P w H s Q u s'
def CR(CX:CXT)(outer:List Env)(P:AE)(w:AW)(H:Hp)(s:Ae)(Q:VK)(E:XK)(r:HN)(s':Ae):Prop:=
 match r with
 | .ok (.ret u)=>CE outer P w H s Q u s'
 | .ok _=>False
 | .error e=>CX outer H s E e s'
structure cW(P:AE)(w:AW)(K:Ah)(mg:Str->Option Ac)(base:Bl)(CX:CXT)(k:Nat)(f:Af)(fd:Be)(ps:List Str)(sp:Sp):Prop where
 len:∀ vs H Q E,sp vs H Q E->vs.length=ps.length
 run:∀(A:AV) (outer:List Env) (s:Ae) (H:Hp) (args:Args) (us:List Ac) (vs:List V) (Q:VK) (E:XK),dC k A->aA6 P w K mg base A outer s H->Hv s fd args (ps.zip us)->bU vs us->sp vs H Q E->
  codeAny (model P w) A (.call (.ref f) args) (CR CX outer P w H s Q E) s
theorem cW.mono{P:AE}{w:AW}{K:Ah}{mg:Str->Option Ac}{base:Bl}{CX:CXT}{j k:Nat}{f:Af}{fd:Be}{ps:List Str}{sp:Sp}(F:cW P w K mg base CX j f fd ps sp)(h:j<=k):
  cW P w K mg base CX k f fd ps sp:=⟨F.len,fun A outer s H G O vs Q E J=>F.run A outer s H G O vs Q E (J.mono h)⟩
theorem aA6.make{P:AE}{w:AW}{K:Ah}{mg:Str->Option Ac}{base:Bl}{A:AV}{outer:List Env}{s:Ae}{H:Hp}(e:aA6 P w K mg base A outer s H)(C:Af)(F:List Ac)(G:List (Str×Ac)):
  aA6 P w K mg base (A.under (.builtin "type.__call__" ⟨.ref C::F,G⟩)) outer s H:=⟨by first|exact e.frames|(simpa[Gw,Code.envs,HK,pushEnvs]using e.frames),e.mod,e.bs,e.bsz,e.funs,e.frf,e.hok,e.bare⟩
section
variable{s':Ae}
theorem Inv.env0(I:Inv X im σ H s):aA6 X.prog X.w X.K X.mg X.base X.A X.stack s H:=
 ⟨I.ok.frames,I.ok.mod,I.bs,Ay I.ok.bsz I.sz,I.stack,I.stkFree,I.hok,I.bare⟩
theorem Inv.after{Q:VK}{u:Ac}(I:Inv X im σ H s)(h:CE X.stack X.prog X.w H s Q u s'):EP X im σ Q u s':=by
 obtain⟨v,H',os,bare,un,hok,r,q⟩:=h;obtain⟨hh,g,d,t,os'⟩:=s';obtain rfl:os'=s.os:=os;exact⟨v,H',I.call (h':=hh) (g':=g) (d':=d) (t':=t) (ch:=[]) un hok bare (fun b z=>absurd z (by simp)),r,q⟩
end
def aHh(sp:Sp)(dvs:List V)(E:XK)(t:TA):TE:=fun σ H Q=>t σ H fun vs H1=>sp (vs++dvs) H1 Q E
def aI8(C:Af)(sp:Sp)(dvs:List V)(E:XK)(t:TA):TE:=fun σ H Q=>t σ H fun vs H1=>∀ x dx,H1 x=none->H1 dx=none->dx≠x->
 sp (.ref x::(vs++dvs)) (upd (upd H1 dx (.own x)) x (.ins C dx [])) (fun v H2=>v=.non/\Q (.ref x) H2) E
def fH(K:Ah)(fd:Be)(ps:List Str)(ds:List Ac):Prop:=
 ∀(s:Ae) (us:List Ac),K.In s.heap->(us++ds).length=ps.length->Hv s fd ⟨us,[]⟩ (ps.zip (us++ds))
theorem fH.all{K:Ah}{fd:Be}{ps:List Str}(h:∀ F:List Ac,F.length=ps.length->bindArgs fd ⟨F,[]⟩=pure (ps.zip F)):fH K fd ps []:=fun s F _ hl=>by
 rw[A6]at hl ⊢;exact .of_eq (h F hl)
def sO(CX:CXT)(X:Cx)(E:XK):Prop:=∀(im:List (Af×Obj)) (σ:St) (H:Hp) (s:Ae) (e:Ac) (s':Ae),Inv X im σ H s->CX X.stack H s E e s'->X.xe e s'
section
variable{CX:CXT}{k:Nat}{fd:Be}{ps:List Str}{sp:Sp}{dvs:List V}{ds:List Ac}{E:XK}{x m:Str}{p jh:Pos}{o:Bi}{ta:TE}{t:TA}
theorem aD7{im:List (Af×Obj)}{σ:St}{H:Hp}{s:Ae}{Q:VK}{G:List Ac}{vs:List V}(F:cW X.prog X.w X.K X.mg X.base CX k f fd ps sp)(Y:dC k X.A)(hb:fH X.K fd ps ds)(hd:bU dvs ds)(Z:sO CX X E)
  (I:Inv X im σ H s) (r:bU vs G) (h:sp (vs++dvs) H Q E):wpAny (model X.prog X.w) X.A (call (.ref f) G) (EP X im σ Q) X.xe s:=by
 have O:bU (vs++dvs) (G++ds):=r.append hd;have hl:(G++ds).length=ps.length:=by rw[<- O.length];exact F.len _ _ _ _ h
 refine F5 (Eh (F.run X.A X.stack s H ⟨G,[]⟩ (G++ds) (vs++dvs) Q E Y I.env0 (hb s G I.kIn hl) O h) fun r s' J=>?_);cases r with
 | error e=>exact Z im σ H s e s' I J
 | ok fl=>
  cases fl with
  | ret u=>exact I.after J
  | next=>exact B9 J
  | brk=>exact B9 J
  | cont=>exact B9 J
theorem cP(F:cW X.prog X.w X.K X.mg X.base CX k f fd ps sp)(Z:dC k X.A)(Y:Gl X x)(hm:X.mg x=some (.ref f))(hk:A4 X.K (.ref f)=true)(hb:fH X.K fd ps ds)(hd:bU dvs ds)(hx:sO CX X E)
  (ha:PA X (e::es) t) (G:(x==("__debug__":Str))=false:=by decide) (he:starEach (e::es) X.env=(false,eval e X.env)::starEach es X.env:=by rfl) (J:(backTo pos (starEach es X.env)).any (·.1)=false:=by rfl):
  PE X (.Call (.Name x p) (e::es) [] pos) (aHh sp dvs E t):=by
 constructor;intro im s σ H Q I h;refine Dr (wV I Y hm ?_ G);refine F9 (h₀:=X.base) I.ok.mod.kin hk (thn (ha pos im s σ H _ I h) fun us s1 ⟨vs,H1,O,r,q⟩=>⟨O.kIn,?_⟩) he J;exact aD7 F Z hb hd hx O r q
structure Mk(K:Ah)(C f:Af):Prop where
 makes:G6 K C=true
 init:BH K (.ref C) "__init__"=some (some (.ref f))
 fn:Hx K (.ref f)=true
 kp:A4 K (.ref C)=true
theorem aD8{im:List (Af×Obj)}{σ:St}{H:Hp}{s:Ae}{Q:VK}{J:List Ac}{vs:List V}(M:Mk X.K C f)(F:cW X.prog X.w X.K X.mg X.base CX k f fd ps sp)(hr:dC (k+1) X.A)(hb:fH X.K fd ps ds)(hd:bU dvs ds)
  (hx:sO CX X E) (I:Inv X im σ H s) (r:bU vs J)
  (h:∀ x dx,H x=none->H dx=none->dx≠x->sp (.ref x::(vs++dvs)) (upd (upd H dx (.own x)) x (.ins C dx [])) (fun v H2=>v=.non/\Q (.ref x) H2) E):
  wpAny (model X.prog X.w) X.A (call (.ref C) J) (EP X im σ Q) X.xe s:=by
 have Z:=h (s.heap.objs.size+1) s.heap.objs.size (I.hok.fresh (Dg _)) (I.hok.fresh (Aj _)) (AI (DF _));have O:=Inv.made (C:=C) I;have Y:bU (V.ref (s.heap.objs.size+1)::(vs++dvs)) (AG (s.heap.objs.size+1)::(J++ds)):=.cons rfl (r.append hd);have hl:(AG (s.heap.objs.size+1)::J++ds).length=ps.length:=by
  have e:=Y.length;rw[F.len _ _ _ _ Z]at e;exact e.symm
 refine F5 (aD6 (f:=f) I.kIn M.makes M.init (beq_iff_eq.mp M.fn) (Eh (F.run _ X.stack _ _ ⟨AG (s.heap.objs.size+1)::J,[]⟩ (AG (s.heap.objs.size+1)::(J++ds)) _ _ E (hr.make C J [])
  (O.env0.make C J []) (hb _ (AG (s.heap.objs.size+1)::J) O.kIn hl) Y Z) fun r s' G=>?_))
 cases r with
 | error e=>exact hx im σ _ _ e s' O G
 | ok fl=>
  cases fl with
  | ret u=>
   obtain⟨v,H',I3,rv,ev,q3⟩:=O.after G;subst ev;exact⟨rv,⟨V.ref (s.heap.objs.size+1),H',I3,rfl,q3⟩⟩
  | next=>exact B9 G
  | brk=>exact B9 G
  | cont=>exact B9 G
theorem aGd(M:Mk X.K C f)(F:cW X.prog X.w X.K X.mg X.base CX k f fd ps sp)(Z:dC (k+1) X.A)(Y:Gl X x)(hm:X.mg x=some (.ref C))(hb:fH X.K fd ps ds)(hd:bU dvs ds)(hx:sO CX X E)
  (ha:PA X (e::es) t) (G:(x==("__debug__":Str))=false:=by decide) (he:starEach (e::es) X.env=(false,eval e X.env)::starEach es X.env:=by rfl) (J:(backTo pos (starEach es X.env)).any (·.1)=false:=by rfl):
  PE X (.Call (.Name x p) (e::es) [] pos) (aI8 C sp dvs E t):=by
 constructor;intro im s σ H Q I h;refine Dr (wV I Y hm ?_ G);refine F9 (h₀:=X.base) I.ok.mod.kin M.kp (thn (ha pos im s σ H _ I h) fun us s1 ⟨vs,H1,O,r,q⟩=>⟨O.kIn,?_⟩) he J;exact aD8 M F Z hb hd hx O r q
end
structure PK(X:Cx)(jm:List Ga)(t:TA):Prop where
 run:
  ∀(pos:Pos) (im:List (Af×Obj)) (s:Ae) (σ:St) (H:Hp) (Q:List V->Hp->Prop),Inv X im σ H s->t σ H Q->wpAny (model X.prog X.w) X.A (evalAll ((backToKw pos (keywordEach jm X.env)).map (·.2))) (AP X im σ Q) X.xe s
instance{X:Cx}{jm:List Ga}{t:TA}:CoeFun (PK X jm t) (fun _=>
 ∀(pos:Pos) (im:List (Af×Obj)) (s:Ae) (σ:St) (H:Hp) (Q:List V->Hp->Prop),Inv X im σ H s->t σ H Q->wpAny (model X.prog X.w) X.A (evalAll ((backToKw pos (keywordEach jm X.env)).map (·.2))) (AP X im σ Q) X.xe s):=⟨fun h=>h.run⟩
section
variable{CX:CXT}{k:Nat}{fd:Be}{ps ks:List Str}{sp:Sp}{E:XK}{x m:Str}{p jh kpos:Pos}{o:Bi}{jm:List Ga}{ta:TE}{t tk:TA}{nm:Option Str}
theorem aHV:PK X [] aHU:=⟨fun _ _ _ _ H Q I h=>wpAny_evalAll_nil ⟨[],H,I,.nil,h⟩⟩
theorem aGe(ha:PE X e te)(G:PK X jm t):PK X (⟨nm,e,kpos⟩::jm) (aBV te t):=by
 constructor;intro pos im s σ H Q I h;show wpAny _ _ (evalAll ((do let v <- eval e X.env;standAt pos;pure v)::(backToKw pos (keywordEach jm X.env)).map (·.2))) _ _ s
 refine wpAny_evalAll_cons (Ab (thn (ha im s σ H _ I h) fun u s1 ⟨x,H1,Y,r1,J⟩=>Ab (Fy (Ag ?_))));exact thn (G pos im s1 σ H1 _ Y J) fun us s2 ⟨xs,H2,F,Z,O⟩=>⟨x::xs,H2,F,.cons r1 Z,O⟩
structure aJ8(K:Ah)(fd:Be)(ps ks:List Str)(g:List Ac->List Ac->List Ac)(gV:List V->List V->List V):Prop where
 to:∀(s:Ae) (us ws:List Ac),K.In s.heap->(g us ws).length=ps.length->Hv s fd ⟨us,ks.zip ws⟩ (ps.zip (g us ws))
 rel:∀{vs:List V} {us:List Ac} {zs:List V} {ws:List Ac},bU vs us->bU zs ws->bU (gV vs zs) (g us ws)
variable{g:List Ac->List Ac->List Ac}{gV:List V->List V->List V}
end
structure cB(N P:List Str)(sc:De):Prop where
 kind:sc.kind=.function
 co:sc.isCoroutine=false
 gen:sc.isGenerator=false
 nd:N.Nodup
 pre:N.take P.length=P
 par:∀ x∈P,sc.names.lookup x=some .local\/sc.names.lookup x=some .cell
 nofree:∀ y∈sc.names,y.2≠.free
theorem vN{kindOf:Str->Option Ek}{x:Str}:∀{binds:List (Str×Ac)}{m:Str->Option Ac},(∀ v,(x,v)∉binds)->bindL kindOf binds m x=m x
 | [],_,_=>rfl
 | (n,v)::r,m,h=>by
  unfold bindL;rw[vN fun w hw=>h w (Ao _ hw)];split
  .have:x≠n:=by rintro rfl;exact h v Ap
   simp[this]
  .rfl
theorem vO{kindOf:Str->Option Ek}{x:Str}:∀{binds:List (Str×Ac)}{m:Str->Option Ac},(∀ v,(x,v)∉binds)->bindC kindOf binds m x=m x
 | [],_,_=>rfl
 | (n,v)::r,m,h=>by
  unfold bindC;rw[vO fun w hw=>h w (Ao _ hw)];split
  .rfl
  .have:x≠n:=by rintro rfl;exact h v Ap
   simp[this]
theorem p5{kindOf:Str->Option Ek}{x:Str}{v:Ac}:∀{P:List Str}{vs:List Ac}{i:Nat}{m:Str->Option Ac},P.Nodup->P[i]?=some x->vs[i]?=some v->kindOf x=some .local->
  bindL kindOf (P.zip vs) m x=some v
 | [],_,_,_,_,h,_,_=>by simp at h
 | _::_,[],_,_,_,_,h,_=>by simp at h
 | p::P,w::vs,0,m,nd,h1,h2,F=>by
  simp at h1 h2;subst h1;subst h2;show bindL kindOf ((p,w)::P.zip vs) m p=_;unfold bindL;rw[vN fun v hv=>(A5.mp nd).1 (FF hv).1,Iq F];simp
 | p::P,w::vs,i+1,m,nd,h1,h2,F=>by
  show bindL kindOf ((p,w)::P.zip vs) m x=_;unfold bindL;exact p5 (i:=i) (A5.mp nd).2 (by simpa using h1) (by simpa using h2) F
theorem vP{kindOf:Str->Option Ek}{x:Str}{v:Ac}:∀{P:List Str}{vs:List Ac}{i:Nat}{m:Str->Option Ac},P.Nodup->P[i]?=some x->vs[i]?=some v->kindOf x≠some .local->
  bindC kindOf (P.zip vs) m x=some v
 | [],_,_,_,_,h,_,_=>by simp at h
 | _::_,[],_,_,_,_,h,_=>by simp at h
 | p::P,w::vs,0,m,nd,h1,h2,F=>by
  simp at h1 h2;subst h1;subst h2;show bindC kindOf ((p,w)::P.zip vs) m p=_;unfold bindC;rw[vO fun v hv=>(A5.mp nd).1 (FF hv).1,Ip F];simp
 | p::P,w::vs,i+1,m,nd,h1,h2,F=>by
  show bindC kindOf ((p,w)::P.zip vs) m x=_;unfold bindC;exact vP (i:=i) (A5.mp nd).2 (by simpa using h1) (by simpa using h2) F
def start(N:List Str)(vs:List V):St:=vs.map some++Bw (N.length-vs.length) none
def aA7(CX:CXT)(P:AE)(w:AW)(K:Ah)(mg:Str->Option Ac)(base:Bl)(N:List Str)(qual:Str)(scope:De)(f:Af)(cd:Ac)(A:AV)(outer:List Env)(s:Ae)(H:Hp)(E:XK):Cx where
 prog:=P
 w:=w
 K:=K
 mg:=mg
 base:=base
 A:=A.deeper (envOfC qual scope s.heap.objs.size f cd)
 N:=N
 s₀:=s
 H₀:=H
 env:=envOfC qual scope s.heap.objs.size f cd
 outer:=outer
 stack:=envOfC qual scope s.heap.objs.size f cd::outer
 ex:=[]
 calm:=true
 fn:=fun _=>true
 pn:=[]
 xe:=fun e s'=>wpAny (model P w) (A.deeper (envOfC qual scope s.heap.objs.size f cd)) (leaving (envOfC qual scope s.heap.objs.size f cd) e) (fun _ s''=>CX outer H s E e s'') (fun e' s''=>CX outer H s E e' s'') s'
theorem yQ{sc:De}{n:Nat}{x:Str}(h:sc.names.lookup x=some .cell):∃ c,(cellsFrom n sc.names []).lookup x=some c:=by
 have q:=PySem.W.cellsFrom_some sc.names n [] (.inl h);exact Bf.mp q
theorem aDd{CX:CXT}{P:AE}{w:AW}{K:Ah}{mg:Str->Option Ac}{base:Bl}{N ps:List Str}{qual:Str}{scope:De}{f:Af}{cd:Ac}{A:AV}{outer:List Env}{s s1:Ae}{H:Hp}{E:XK}{Z:List Ac}{vs:List V}
  (S:cB N ps scope) (hd:A.handled=none) (F:aA6 P w K mg base A outer s H) (hl:vs.length=ps.length) (r:bU vs Z)
  (x:InCallC s s.heap.objs.size (bindL (envOfC qual scope s.heap.objs.size f cd).kindOf (ps.zip Z) fun _=>none) (cellsFrom (s.heap.objs.size+1) scope.names []) (bindC (envOfC qual scope s.heap.objs.size f cd).kindOf (ps.zip Z) fun _=>none) s1):
  Inv (aA7 CX P w K mg base N qual scope f cd A outer s H E) [] (start N vs) H s1:=by
 have aa:ps.length<=N.length:=by have:=congrArg Ct S.pre;rw[AJ]at this;omega
 obtain⟨h1,tk,rfl,hk⟩:=x.done;have G:∀ b:Af,b∉(aA7 CX P w K mg base N qual scope f cd A outer s H E).ex:=fun b z=>absurd (show b∈([]:List Af) from z) (by simp);refine⟨⟨F.mod,S.kind,rfl,rfl,Aj _,fun y z c h1 h2=>?_,fun y J=>?_,fun y c _ h=>?_,fun _=>hd,Around.frames_deeper F.frames,.inr ⟨rfl,rfl⟩,fun b z=>absurd z (G b),F.bs,F.bsz,fun b _ _=>G b,fun b z=>absurd z (G b),F.funs,F.frf⟩,
  rfl,F.bare,Un.kept hk,⟨_,x.toInCall.ns,fun i y v h1 h2 h3=>?_⟩,fun y c h=>⟨_,x.cell y c h⟩,F.hok.fresh (Aj _),fun y c h=>?_,fun p O=>absurd (show p∈([]:List (Af×Obj)) from O) (by simp),F.hok.kept hk,?_⟩
 .exact name_of_addr x.apart (B2 h1) (B2 h2)
 .have J:scope.names.lookup y=some .cell\/scope.names.lookup y=some .free:=J;rcases J with J|J
  .exact yQ J
  .exact absurd rfl (S.nofree _ (B2 J))
 .exact BU (x.above y c (B2 h))
 .have hi:i<vs.length:=by
   unfold start at h2;by_cases hi:i<vs.length
   .exact hi
   .rw[BV (by simpa using hi)]at h2;rw[List.getElem?_replicate]at h2;split at h2<;>cases h2
  have ha:vs[i]?=some v:=by
   unfold start at h2;rw[B8 (by simpa using hi),Au]at h2;cases e:vs[i]? with
   | none=>rw[e]at h2;cases h2
   | some a=>rw[e]at h2;cases h2;rfl
  obtain⟨u,hu,rv⟩:=r.get ha;have O:ps[i]?=some y:=by
   rw[<- S.pre,List.getElem?_take_of_lt (by omega)];exact h1
  have Y:ps.Nodup:=by rw[<- S.pre];exact S.nd.sublist (GQ _ _)
  refine⟨u,rv,?_⟩;rcases S.par y (AQ O)with k|k
  .exact .inl ⟨k,p5 Y O hu k⟩
  .obtain⟨c,e⟩:=yQ (n:=s.heap.objs.size+1) k;refine .inr ⟨.inl k,c,e,?_⟩;have q:=x.cell y c e;rw[vP Y O hu (by show scope.names.lookup y≠_;rw[k];decide)]at q;exact q
 .exact F.hok.fresh (BU (x.above y c (B2 h)))
 .unfold start;show _=N.length;rw[Av,Aa,List.length_replicate];omega
theorem aHi{CX:CXT}{P:AE}{w:AW}{K:Ah}{mg:Str->Option Ac}{base:Bl}{k:Nat}{f:Af}{name qual:Str}{G:Fd}{O:List Cw}{scope:De}{dV kV aa pm F ct oc:Ac}{an od:Option Af}
  {ag:Array (Option Ac)} {N ps:List Str} {sp:Sp} (lk:K.lookup f=some ⟨oc,od,.func (Cc name qual G O scope dV kV aa pm an F ct),ag⟩) (ah:CC K F qual=true) (S:cB N ps scope)
  (len:∀ vs H Q E,sp vs H Q E->vs.length=ps.length)
  (Z:∀(A:AV) (outer:List Env) (s:Ae) (H:Hp) (vs:List V) (Q:VK) (E:XK),dC k (A.deeper (envOfC qual scope s.heap.objs.size f F))->sp vs H Q E->
   ∃ t,PSs (aA7 CX P w K mg base N qual scope f F A outer s H E) O t/\t { nx:=fun _ H'=>Q .non H',rt:=Q } (start N vs) H):
  cW P w K mg base CX (k+1) f (Cc name qual G O scope dV kV aa pm an F ct) ps sp:=by
 refine⟨len,fun A outer s H al us vs Q E hr e0 hb r ab=>?_⟩;have hl:=len _ _ _ _ ab;have KX:K.In s.heap:=e0.mod.kin.keeps fun b o e=>(e0.bs b o e).1;have ai:s.heap.NoLimit:=e0.mod.nolimit.keeps fun b o e=>(e0.bs b o e).1;have Y:∀ y∈ps.zip us,scope.names.lookup y.1=some .local\/(scope.names.lookup y.1=some .cell/\((cellsFrom (s.heap.objs.size+1) scope.names []).lookup y.1).isSome=true):=fun⟨n,v⟩ hy=>by
  rcases S.par n (FF hy).1 with q|q
  .exact .inl q
  .exact .inr ⟨q,PySem.W.cellsFrom_some _ _ _ (.inl q)⟩
 refine codeAny_call_function hr.depth (KX _ _ lk) rfl S.co S.gen rfl (PySem.W.codeRec_of KX ah) (hb _ _ _ _ ?_);refine wpAny_newFunctionEnv_cells S.kind Y fun env he s1 x=>?_;subst he;refine⟨ai.keeps x.toInCall.keep,codeAny_func ?_⟩;obtain⟨t,ht,hq⟩:=Z A outer s H vs Q E (hr.deeper _) ab;have I:Inv (aA7 CX P w K mg base N qual scope f F A outer s H E) [] (start N vs) H s1:=aDd S hr.hd e0 hl r x;refine CI (ht [] s1 (start N vs) H _ I hq) (fun fl s' hs=>?_) fun e s' hs=>hs;have fin:∀{σ':St} {H':Hp} {v:V} {u:Ac},Inv (aA7 CX P w K mg base N qual scope f F A outer s H E) [] σ' H' s'->cC v u->Q v H'->CE outer P w H s Q u s':=
  fun{σ' H' v u} J rv q=>⟨v,H',J.os,J.bare,J.base,J.hok,rv,q⟩
 cases fl with
 | ret u=>
  obtain⟨v,σ',H',J,rv,q⟩:=hs;exact fin J rv q
 | next=>
  obtain⟨σ',H',J,q⟩:=hs;exact fin (v:=V.non) (u:=DK) J rfl q
 | brk=>
  obtain⟨_,_,_,q⟩:=hs;exact B9 q
 | cont=>
  obtain⟨_,_,_,q⟩:=hs;exact B9 q
section
variable{x:Str}{p:Pos}{t:TA}{id T:String}{r:List V->Hp->VK->Prop}
def tCB(r:List V->Hp->VK->Prop)(t:TA):TE:=fun σ H Q=>t σ H fun vs H1=>r vs H1 Q
theorem aX(hc:fF X (.builtin id) r)(J:Gl X x)(hm:X.mg x=none)(hv:bootBuiltins x=some (.builtin id))(ha:PA X (e::es) t)(hn:x≠"__name__":=by decide)(F:(x==("__debug__":Str))=false:=by decide)
  (Y:starEach (e::es) X.env=(false,eval e X.env)::starEach es X.env:=by rfl) (G:(backTo pos (starEach es X.env)).any (·.1)=false:=by rfl):PE X (.Call (.Name x p) (e::es) [] pos) (tCB r t):=by
 constructor;intro im s σ H Q I h;refine Dr (wW I J hm hv ?_ hn F);exact PyProof.Rows.callWith_builtin1 (thn (ha pos im s σ H _ I h) fun us s1 ⟨vs,H1,Z,r1,O⟩=>hc im s1 σ H1 vs us Q Z r1 O) Y G
theorem c8(hc:fF X (.type T) r)(J:Gl X x)(hm:X.mg x=none)(hv:bootBuiltins x=some (.type T))(ha:PA X (e::es) t)(hn:x≠"__name__":=by decide)(F:(x==("__debug__":Str))=false:=by decide)
  (Y:starEach (e::es) X.env=(false,eval e X.env)::starEach es X.env:=by rfl) (G:(backTo pos (starEach es X.env)).any (·.1)=false:=by rfl):PE X (.Call (.Name x p) (e::es) [] pos) (tCB r t):=by
 constructor;intro im s σ H Q I h;refine Dr (wW I J hm hv ?_ hn F);exact PyProof.Rows.callWith_type1 (thn (ha pos im s σ H _ I h) fun us s1 ⟨vs,H1,Z,r1,O⟩=>hc im s1 σ H1 vs us Q Z r1 O) Y G
end
end L2
namespace HT
open PySem PyProof.Rows
theorem eqAt_int(A:AV)(s:Ae)(a:Int)(t:Tok)(c:Int)(u:Tok):∃ e,Hr A s (.int a t) (.int c u) e/\(e=true↔a=c):=
 ⟨(a==c),FK a t c u,by simp⟩
section
open PySem.SeqAt
open PySem.AutoSeq1 (wpAny_loadPart')
open PySem.MeetsSeq PySem.MeetsSeq2 PySem.MeetsSeq3
end
section
variable{prog:AE}{w:AW}{A:AV}{E:Ac->Ae->Prop}{s:Ae}
theorem cat_tup{t b:Af}{vs ws:List Ac}{Q:Ac->Ae->Prop}(ht:Fh s.heap t vs.toArray)(F:Fh s.heap b ws.toArray)(hv:vs≠[])
  (h1:ws=[]->Q (.ref t) s) (h2:ws≠[]->Q (.ref s.heap.objs.size) { s with heap:=s.heap.push { cls:=.type "tuple",data:=.seq (vs++ws).toArray } })
  (hsz:vs.length+ws.length<=sizeLine):wpAny (model prog w) A (binaryOp .Add (.ref t) (.ref b)) Q E s:=by
 obtain⟨⟨cls,dd,data,sl⟩,ho,hc,n,hd⟩:=id ht;obtain⟨⟨cls2,dd2,data2,sl2⟩,ho2,hc2,n2,hd2⟩:=id F;simp only at hc hd hc2 hd2;subst hc hd hc2 hd2;have e:vs.toArray++ws.toArray=(vs++ws).toArray:=by simp
 by_cases hw:ws=[]
 .exact Ig ⟨_,ho,rfl⟩ ⟨_,ho2,rfl⟩ Hw HW Fg E1 (ER _ _)
   (tuple_addW1 t b vs.toArray ws.toArray n n2 dd dd2 sl sl2 (by simpa using hv) (by simp[hw])) ⟨ho,ho2,h1 hw⟩
 .refine Ig ⟨_,ho,rfl⟩ ⟨_,ho2,rfl⟩ Hw HW Fg E1 (ER _ _)
   (tuple_addW2 t b vs.toArray ws.toArray n n2 dd dd2 sl sl2 (by simpa using hv) (by simpa using hw) (by rw[Aw,Aw];exact hsz)) ⟨ho,ho2,?_⟩
  rw[e];exact h2 hw
def sIx(n d:Nat):Option Int->Nat
 | none=>d
 | some v=>if v<0 then(v+(n:Int)).toNat else min v.toNat n
theorem sIx_none(n d:Nat):sIx n d none=d:=rfl
theorem sIx_nat(n d k:Nat):sIx n d (some (k:Int))=min k n:=by
 show(if (k:Int)<0 then((k:Int)+(n:Int)).toNat else min (k:Int).toNat n)=min k n;rw[Ip (by omega),Cb]
theorem aHW(n d:Nat)(hd:d<=n)(o:Option Int):sIx n d o<=n:=by
 cases o with
 | none=>exact hd
 | some v=>
  show(if v<0 then(v+(n:Int)).toNat else min v.toNat n)<=n;by_cases hv:v<0
  .rw[Iq hv];omega
  .rw[Ip hv];exact Nat.min_le_right _ _
theorem aBW(v:Int)(n d:Nat):(if v<0 then max (v+(n:Int)) 0 else min v (n:Int))=((sIx n d (some v):Nat):Int):=by
 show(if v<0 then max (v+(n:Int)) 0 else min v (n:Int))=(((if v<0 then(v+(n:Int)).toNat else min v.toNat n):Nat):Int)
 by_cases hv:v<0
 .simp only[Iq hv];omega
 .simp only[Ip hv];omega
theorem aA8(lo hi:Option Int)(n:Nat):El lo hi 1 (n:Int)=(((sIx n 0 lo:Nat):Int),((sIx n n hi:Nat):Int)):=by
 have h1:¬ ((1:Int)<0):=by omega
 unfold El;simp only[h1,if_false];refine EJ ?_ ?_
 .cases lo with
  | none=>rfl
  | some v=>exact aBW v n 0
 .cases hi with
  | none=>rfl
  | some v=>exact aBW v n n
theorem aA9(i j:Nat):Dn (i:Int) (j:Int) 1=j-i:=by
 unfold Dn;have h1:(1:Int)>0:=by omega
 simp only[h1,if_true,Int.ediv_one];split<;>omega
theorem sQ{v:Ac}{o:Option Int}{Q:Option Int->Ae->Prop}(p:Gb v o)(h:Q o s):wpAny (model prog w) A (Builtin.Slice.slicePartIndex v) Q E s:=by
 cases p with
 | none=>exact slicePart_none h
 | int i t=>exact slicePart_int h
theorem sliceApplied_gen{sl:Af}{F G:Ac}{lo hi:Option Int}{n:Nat}{Q:Int×Int×Nat->Ae->Prop}(hs:s.heap.IsSliceOf sl F G .none)(pl:Gb F lo)(J:Gb G hi)
  (h:Q (((sIx n 0 lo:Nat):Int),1,sIx n n hi-sIx n 0 lo) s):wpAny (model prog w) A (Builtin.Slice.sliceApplied (.ref sl) (pure (n:Int))) Q E s:=by
 obtain⟨os,hos,hcs,hds⟩:=id hs;unfold Builtin.Slice.sliceApplied Builtin.Slice.sliceFields;refine Ab (Ab (Ii hos hds (x:=F) rfl (Ab (Ii hos hds (x:=G) rfl (Ab (Ii hos hds (x:=.none) rfl (Ag ?_)))))));refine Ab (slicePart_none ?_);show wpAny _ _ (if ((1:Int)==0)=true then _ else _) _ _ s;rw[Ip (by decide)];refine Ab (sQ pl (Ab (sQ J (Ab (Ag ?_)))));show wpAny _ _ (match El lo hi 1 (n:Int)with|(lo,hi)=>pure (lo,(1:Int),Dn lo hi 1)) _ _ s;rw[aA8 lo hi n];show wpAny _ _ (pure (((sIx n 0 lo:Nat):Int),(1:Int),Dn ((sIx n 0 lo:Nat):Int) ((sIx n n hi:Nat):Int) 1)) _ _ s;rw[aA9];exact Ag h
theorem aD9(xs:Array Ac)(i k:Nat):((A3 k).filterMap fun(m:Nat)=>xs[((i:Int)+(m:Int)*1).toNat]?).toArray=((xs.toList.drop i).take k).toArray:=by
 have e:(fun(m:Nat)=>xs[((i:Int)+(m:Int)*1).toNat]?)=fun m=>xs[i+m]?:=by
  funext m;have:((i:Int)+(m:Int)*1).toNat=i+m:=by omega
  rw[this]
 rw[e];have:=pick_run xs i k;rw[List.filterMap_map]at this;have F:((fun x=>xs[x]?) ∘ fun x=>i+x)=fun m=>xs[i+m]?:=rfl;rw[F]at this;rw[this]
theorem getItem_tuple_cut{t sl:Af}{items:Array Ac}{O Y:Ac}{lo hi:Option Int}{Q:Ac->Ae->Prop}(ht:Fh s.heap t items)(hs:s.heap.IsSliceOf sl O Y .none)(pl:Gb O lo)(Z:Gb Y hi)
  (hw:¬ (sIx items.size 0 lo=0/\sIx items.size items.size hi=items.size))
  (h:Q (.ref s.heap.objs.size) { s with heap:=s.heap.push { cls:=.type "tuple",data:=.seq ((items.toList.drop (sIx items.size 0 lo)).take (sIx items.size items.size hi-sIx items.size 0 lo)).toArray } })
  (hsz:items.size<=sizeLine):wpAny (model prog w) A (getItem (.ref t) (.ref sl)) Q E s:=by
 have F:sizeOk (.seq ((items.toList.drop (sIx items.size 0 lo)).take (sIx items.size items.size hi-sIx items.size 0 lo)).toArray):=by
  show((items.toList.drop (sIx items.size 0 lo)).take (sIx items.size items.size hi-sIx items.size 0 lo)).toArray.size<=sizeLine;rw[Aw,AJ,B3,AY];omega
 have hj:sIx items.size items.size hi<=items.size:=aHW _ _ (Aj _) hi;obtain⟨os,hos,hcs,hds⟩:=id hs;have G:s.TypeIs (.ref sl) "slice":=⟨os,hos,hcs⟩
 unfold getItem
 try with_reducible refine Bx ?_
 first|refine Ab (Ag ?_)|skip
 refine Ab (wpAny_sequenceKey ht.typeIs (by decide) ?_);refine Ab (FV (name:=Bv "__getitem__") ht.typeIs B4
  (CJ B4 ht.typeIs entry_tuple_getitem ?_ (args_tuple_getitem _ _)))
 show wpAny _ _ (Builtin.Tuple.tupleItemsOf (.ref t) >>= _) _ _ s;refine Ab (tupleItemsOf_ ht ?_);refine Ab (Cv G ?_);rw[Iq (by decide)];refine Ab (sliceApplied_gen hs pl Z ?_);have J:¬ ((((sIx items.size 0 lo:Nat):Int)==0&&(1:Int)==1&&(sIx items.size items.size hi-sIx items.size 0 lo)==items.size)=true):=by
  intro q;rw[BC,BC]at q;have q1:((sIx items.size 0 lo:Nat):Int)=0:=eq_of_beq q.1.1;have q2:sIx items.size items.size hi-sIx items.size 0 lo=items.size:=eq_of_beq q.2;exact hw ⟨by omega,by omega⟩
 show wpAny _ _ (if (((sIx items.size 0 lo:Nat):Int)==0&&(1:Int)==1&&(sIx items.size items.size hi-sIx items.size 0 lo)==items.size)=true then _ else _) _ _ s;rw[Ip J,aD9]
 first
  | exact Ab (m:=Dt _) (Ce (Ag ⟨_,rfl,Ag h⟩) F)
  | exact Ab (m:=Dt _) (Ce (Ab (Ag (Ag ⟨_,rfl,Ag h⟩))) F)
  | exact Ab (Ab (m:=Dt _) (Ce (Ag (Ag ⟨_,rfl,Ag h⟩)) F))
  | exact Ab (Ab (m:=Dt _) (Ce (Ag ⟨_,rfl,Ag h⟩) F))
end
end HT
namespace L2
open PySem PySem.Spec PyProof.Rows
variable{X:Cx}{e:Bi}{pos:Pos}{im:List (Af×Obj)}{σ:St}{H:Hp}{s:Ae}{A:AV}{E:Ac->Ae->Prop}
abbrev TO:=St->Hp->(Option Int->Hp->Prop)->Prop
structure PO(X:Cx)(e:Option Bi)(t:TO):Prop where
 run:
  ∀(im:List (Af×Obj)) (s:Ae) (σ:St) (H:Hp) (Q:Option Int->Hp->Prop),Inv X im σ H s->t σ H Q->
   wpAny (model X.prog X.w) X.A (evalPart e X.env) (fun u s'=>∃ o H',Inv X im σ H' s'/\Gb u o/\Q o H') X.xe s
instance{X:Cx}{e:Option Bi}{t:TO}:CoeFun (PO X e t) (fun _=>
 ∀(im:List (Af×Obj)) (s:Ae) (σ:St) (H:Hp) (Q:Option Int->Hp->Prop),Inv X im σ H s->t σ H Q->
  wpAny (model X.prog X.w) X.A (evalPart e X.env) (fun u s'=>∃ o H',Inv X im σ H' s'/\Gb u o/\Q o H') X.xe s):=⟨fun h=>h.run⟩
def aGf:TO:=fun _ H Q=>Q none H
def aI9(t:TE):TO:=fun σ H Q=>t σ H fun x H1=>As V.int x fun i=>Q (some i) H1
theorem aBa{ns:List Int}:∀{F:List Ac},bU (ns.map V.int) F->Ht F ns:=by
 induction ns with
 | nil=>intro F r;rw[Dh]at r;cases r;exact .nil
 | cons n ns G=>
  intro F r;rw[Aq]at r;cases r with
  | cons O J=>
   obtain⟨t,e⟩:=O;subst e;exact .cons n t (G J)
section
variable{te:TE}{lo hi:Option Bi}{tl th:TO}{p2:Pos}
theorem jB:PO X none aGf:=by
 constructor;intro im s σ H Q I h;rw[evalPart_none];exact Ag ⟨none,H,I,.none,h⟩
theorem jC(h:PE X e te):PO X (some e) (aI9 te):=by
 constructor;intro im s σ H Q I hw;rw[evalPart_some];refine thn (h im s σ H _ I hw) fun u s1 ⟨x,H1,G,J,F⟩=>?_;obtain⟨i,rfl,q⟩:=F;obtain⟨t,rfl⟩:=J;exact⟨some i,H1,G,.int i t,q⟩
def SlR(X:Cx)(r:V->Option Int->Option Int->Hp->VK->Prop):Prop:=
 ∀(im:List (Af×Obj)) (s:Ae) (σ:St) (H:Hp) (x:V) (v vl vu:Ac) (lo hi:Option Int) (sl:Af) (Q:VK),Inv X im σ H s->cC x v->s.heap.IsSliceOf sl vl vu .none->Gb vl lo->Gb vu hi->r x lo hi H Q->
  ∃ T id,typeLookup (.type T) "__getitem__"=pure (some (.builtin id))/\s.TypeIs v T/\wpAny (model X.prog X.w) X.A (getItem v (.ref sl)) (EP X im σ Q) X.xe s
def tSl(r:V->Option Int->Option Int->Hp->VK->Prop)(te:TE)(tl th:TO):TE:=fun σ H Q=>te σ H fun x H1=>tl σ H1 fun l H2=>th σ H2 fun u H3=>r x l u H3 Q
theorem g9{r:V->Option Int->Option Int->Hp->VK->Prop}(Z:SlR X r)(he:PE X e te)(hl:PO X lo tl)(hu:PO X hi th):PE X (.Subscript e (.Slice lo hi none p2) pos) (tSl r te tl th):=by
 constructor;intro im s σ H Q I h;refine Subscript_ (thn (he im s σ H _ I h) fun v s1 ⟨x,H1,I1,r1,q1⟩=>?_);refine wpAny_Slice (thn (hl im s1 σ H1 _ I1 q1) fun G s2 ⟨l,H2,Y,pl,q2⟩=>thn (hu im s2 σ H2 _ Y q2) fun J F ⟨u,O,I3,pu,q3⟩=>?_);rw[evalPart_none];refine Ag ?_;have I4:Inv X im σ O { F with heap:=F.heap.push { cls:=.type "slice",data:=.fields #[G,J,.none] } }:=I3.kept (t':=F.toks) fun b ob q=>Ak _ q;obtain⟨T,id,hT,ht,hg⟩:=Z im { F with heap:=F.heap.push { cls:=.type "slice",data:=.fields #[G,J,.none] } } σ O x v G J l u F.heap.objs.size Q I4 r1 (Heap.IsSliceOf.new ..) pl pu q3;show wpAny (model X.prog X.w) X.A (subscriptTail e (.Slice lo hi none p2) v (.ref F.heap.objs.size)) (EP X im σ Q) X.xe { F with heap:=F.heap.push { cls:=.type "slice",data:=.fields #[G,J,.none] } };exact tail_any (ops:=[.ref F.heap.objs.size,v]) ht hT hg (by with_unfolding_all rfl)
def p6(xs:List V)(lo hi:Option Int):List V:=(xs.drop (HT.sIx xs.length 0 lo)).take (HT.sIx xs.length xs.length hi-HT.sIx xs.length 0 lo)
theorem qT(xs:List V)(lo hi:Option Int):(p6 xs lo hi).length<=xs.length:=by
 unfold p6;rw[AJ,B3];omega
inductive aEa(K:Ah)(x:V)(lo:Option Int)(hi:Option Int)(H:Hp)(Q:VK):Prop
 | mk (a:_) (xs:_) (q0:x=.ref a) (q1:SqT K H a xs) (q2:¬ (HT.sIx xs.length 0 lo=0/\HT.sIx xs.length xs.length hi=xs.length)) (q3:∀ p,H p=none->Q (.ref p) (upd H p (.tup (p6 xs lo hi)))):aEa K x lo hi H Q
def aJ9(K:Ah):V->Option Int->Option Int->Hp->VK->Prop:=fun x lo hi H Q=>aEa K x lo hi H Q
theorem aHX:SlR X (aJ9 X.K):=by
 intro im s σ H x v O Y lo hi sl Q I J hs pl G h;obtain⟨a,xs,rfl,hx,hw,q⟩:=h;cases J;obtain⟨its,r,ht,hz⟩:=I.tuple hx;have F:its.toArray.size=xs.length:=by rw[Aw];exact r.length.symm
 refine⟨"tuple",_,B4.lookup,ht.typeIs,HT.getItem_tuple_cut ht hs pl G (by rw[F];exact hw) ?_ (by rw[F];exact hz)⟩;rw[F];refine⟨.ref s.heap.objs.size,_,I.laid (t':=s.toks) (o:=.tup (p6 xs lo hi)) (fun b ob q=>Ak _ q) (Aj _) ?_,rfl,q _ (I.hok.fresh (Aj _))⟩;exact⟨Ay (qT xs lo hi) hz,_,(r.drop (HT.sIx xs.length 0 lo)).take (HT.sIx xs.length xs.length hi-HT.sIx xs.length 0 lo),⟨_,AH _ rfl,⟨rfl,_,rfl⟩,rfl⟩⟩
inductive aBX(K:Ah)(x:V)(y:V)(H:Hp)(Q:VK):Prop
 | mk (a:_) (b:_) (xs:_) (ys:_) (q0:x=.ref a) (q1:y=.ref b) (q2:SqT K H a xs) (q3:SqT K H b ys) (q4:xs≠[]) (q5:xs.length+ys.length<=sizeLine) (q6:(ys=[]->Q (.ref a) H)) (q7:(ys≠[]->∀ p,H p=none->Q (.ref p) (upd H p (.tup (xs++ys))))):aBX K x y H Q
def aJa(K:Ah):R2:=fun x y H Q=>aBX K x y H Q
theorem bU.nil_iff{xs:List V}{F:List Ac}(r:bU xs F):F=[]↔xs=[]:=by
 cases r with
 | nil=>simp
 | cons _ _=>simp
theorem aGg:OpR X (binaryOp .Add) (aJa X.K):=by
 intro im s σ H x y v u Q I G F h;obtain⟨a,b,xs,ys,rfl,rfl,ha,hb,hx,hz,q1,q2⟩:=h;cases G;cases F;obtain⟨its,r1,p1,_⟩:=I.tuple ha;obtain⟨its2,r2,p2,_⟩:=I.tuple hb;refine HT.cat_tup p1 p2 (fun z=>hx (r1.nil_iff.mp z)) (fun z=>⟨.ref a,H,I,rfl,q1 (r2.nil_iff.mp z)⟩) (fun z=>?_) (by rw[<- r1.length,<- r2.length];exact hz);refine⟨.ref s.heap.objs.size,_,I.laid (t':=s.toks) (o:=.tup (xs++ys)) (fun b ob q=>Ak _ q) (Aj _) ?_,rfl,q2 (fun w=>z (r2.nil_iff.mpr w)) _ (I.hok.fresh (Aj _))⟩;exact⟨by rw[Av];exact hz,_,r1.append r2,⟨_,AH _ rfl,⟨rfl,_,rfl⟩,rfl⟩⟩
end
def ixN(n:Nat)(i:Int):Option Nat:=if 0<=i then(if i<n then some i.toNat else none) else if -(n:Int)<=i then some (i+n).toNat else none
def atI{α:Type}(xs:List α)(i:Int):Option α:=(ixN xs.length i).bind fun j=>xs[j]?
theorem rP{n:Nat}{i:Int}{j:Nat}(h:ixN n i=some j):seqIndex? i n=some j/\j<n/\-(n:Int)<=i/\i<n:=by
 unfold ixN at h;by_cases F:0<=i
 .rw[Iq F]at h;by_cases h1:i<n
  .rw[Iq h1]at h;have e:i.toNat=j:=BD.inj h;exact⟨by rw[Ij F h1,e],by omega,by omega,h1⟩
  .rw[Ip h1]at h;cases h
 .rw[Ip F]at h;by_cases h1:-(n:Int)<=i
  .rw[Iq h1]at h;have e:(i+n).toNat=j:=BD.inj h;exact⟨by rw[seqIndex_neg (by omega) h1,e],by omega,h1,by omega⟩
  .rw[Ip h1]at h;cases h
theorem wZ{α:Type}{xs:List α}{i:Int}{v:α}(h:atI xs i=some v):∃ j,seqIndex? i xs.length=some j/\xs[j]?=some v/\j<xs.length/\-(xs.length:Int)<=i/\i<xs.length:=by
 unfold atI at h;cases e:ixN xs.length i with
 | none=>rw[e]at h;cases h
 | some j=>
  rw[e]at h;obtain⟨h1,h2,h3,h4⟩:=rP e;exact⟨j,h1,h,h2,h3,h4⟩
theorem fU{α:Type}{xs:List α}{j:Nat}{v:α}(h:xs[j]?=some v):atI xs (j:Int)=some v:=by
 have F:j<xs.length:=(Al.mp h).1;have e:ixN xs.length (j:Int)=some j:=by
  unfold ixN;rw[Iq (by omega),Iq (by omega)];simp
 unfold atI;rw[e];exact h
theorem hJ{α:Type}(xs:List α)(v:α):atI (xs++[v]) (-1)=some v:=by
 have hl:(xs++[v]).length=xs.length+1:=by simp
 have e:ixN (xs++[v]).length (-1)=some xs.length:=by
  unfold ixN;rw[hl,Ip (by decide),Iq (by omega)];congr 1;omega
 unfold atI;rw[e];show(xs++[v])[xs.length]?=some v;simp
def aGh(b:Bi):Prop:=∀ o i,subscripted b false o i=operate [o,i] (getItem o i)
def IxR(X:Cx)(r:R2):Prop:=
 ∀(value slice:Bi) (im:List (Af×Obj)) (s:Ae) (σ:St) (H:Hp) (x y:V) (v u:Ac) (Q:VK),Inv X im σ H s->cC x v->cC y u->r x y H Q->
  subscripted slice false v u=operate [v,u] (getItem v u)->wpAny (model X.prog X.w) X.A (subscriptTail value slice v u) (EP X im σ Q) X.xe s
def MtR(X:Cx)(id:String)(r:V->List V->Hp->VK->Prop):Prop:=
 ∀(im:List (Af×Obj)) (s:Ae) (σ:St) (H:Hp) (x:V) (xs:List V) (v:Ac) (us:List Ac) (Q:VK),Inv X im σ H s->cC x v->bU xs us->r x xs H Q->
  wpAny (model X.prog X.w) X.A (call (.builtin id) (v::us)) (EP X im σ Q) X.xe s
section
variable{a b:Bi}{ta tb:TE}
theorem aW{r:R2}(G:IxR X r)(ha:PE X a ta)(Y:PE X b tb)(hs:aGh b):PE X (.Subscript a b pos) (tOp r ta tb):=by
 constructor;intro im s σ H Q I h;exact Subscript_ (aHR ha Y I h fun v u s2 x y H2 F O J q=>G a b im s2 σ H2 x y v u Q F O J q (hs _ _))
inductive aEb(K:Ah)(x:V)(y:V)(H:Hp)(Q:VK):Prop
 | mk (p:_) (xs:_) (i:_) (v:_) (q0:x=.ref p) (q1:y=.int i) (q2:SqL K H p xs) (q3:atI xs i=some v) (q4:Q v H):aEb K x y H Q
def aEc(K:Ah):R2:=fun x y H Q=>aEb K x y H Q
inductive aEd(K:Ah)(x:V)(y:V)(H:Hp)(Q:VK):Prop
 | mk (p:_) (xs:_) (i:_) (v:_) (q0:x=.ref p) (q1:y=.int i) (q2:SqT K H p xs) (q3:atI xs i=some v) (q4:Q v H):aEd K x y H Q
def lR(K:Ah):R2:=fun x y H Q=>aEd K x y H Q
inductive aEe(x:V)(y:V)(H:Hp)(Q:VK):Prop
 | mk (z:_) (i:_) (c:_) (q0:x=.str z) (q1:y=.int i) (q2:z.length<=sizeLine) (q3:atI z.cps.toList i=some c) (q4:Q (.str ⟨#[c]⟩) H):aEe x y H Q
def aKa:R2:=fun x y H Q=>aEe x y H Q
theorem bX:IxR X (aEc X.K):=by
 intro value F im s σ H x y v u Q I Y O h hs;obtain⟨p,xs,i,z,rfl,rfl,hq,he,q⟩:=h;cases Y;obtain⟨t,rfl⟩:=O;obtain⟨its,r,pl,hz⟩:=I.list hq;obtain⟨j,h1,h2,h3,h4,h5⟩:=wZ he;obtain⟨w,ew,rw'⟩:=r.get h2;have hl:=r.length;have hn:=nV;have fin:EP X im σ Q w s:=⟨z,H,I,rw',q⟩
 by_cases J:0<=i
 .have G:i.toNat=j:=by
   rw[Ij J h5]at h1;exact BD.inj h1
  exact item_listR pl.isList J (by omega) (by rw[G];simpa using ew) fin hs
 .have G:(i+(its.toArray.size:Int)).toNat=j:=by
   rw[seqIndex_neg (by omega) h4]at h1;rw[Aw,<- hl];exact BD.inj h1
  exact subscriptTail_builtinR (x:=w) pl.isList.typeIs slot_list_getitem.lookup
   (wpAny_getItem_list_neg (Q:=fun r s'=>r=w/\EP X im σ Q r s') pl.isList (by omega) (by rw[Aw]<;>omega) (by omega) (by rw[G];simpa using ew) ⟨rfl,fin⟩) hs
theorem bC:IxR X (lR X.K):=by
 intro value F im s σ H x y v u Q I J G h hs;obtain⟨p,xs,i,z,rfl,rfl,hq,he,q⟩:=h;cases J;obtain⟨t,rfl⟩:=G;obtain⟨its,r,pl,hz⟩:=I.tuple hq;obtain⟨j,h1,h2,h3,h4,h5⟩:=wZ he;obtain⟨w,ew,rw'⟩:=r.get h2;have hl:=r.length;have hn:=nV;have fin:EP X im σ Q w s:=⟨z,H,I,rw',q⟩
 exact subscriptTail_builtinR (x:=w) pl.typeIs slot_tuple_getitem.lookup
  (getItem_tuple (j:=j) (Q:=fun r s'=>r=w/\EP X im σ Q r s') pl (by omega) (by omega) (by rw[Aw,<- hl];exact h1) (by simpa using ew) ⟨rfl,fin⟩) hs
theorem p7:IxR X aKa:=by
 intro value F im s σ H x y v u Q I Y G h hs;obtain⟨z,i,c,rfl,rfl,hz,he,q⟩:=h;obtain⟨t,rfl⟩:=Y;obtain⟨t',rfl⟩:=G;obtain⟨j,h1,h2,h3,h4,h5⟩:=wZ he;have hl:z.cps.toList.length=z.length:=by simp[Str.length]
 rw[hl]at h1 h4 h5;have hn:=nV;exact tail_any (Hf s z t) slot_str_getitem.lookup (getItem_str (c:=c) (by
  have O:decide (i < -(2^63:Int))=false:=Is (by omega);have J:decide (i ≥ 2^63)=false:=Is (by omega);rw[O,J,Bool.or_false]) (by rw[h1];simpa using h2) ⟨.str ⟨#[c]⟩,H,I.tok _,⟨_,rfl⟩,q⟩) hs
theorem aBb(its:List Ac)(n j:Nat)(u:Ac):Bg (·.setIfInBounds j u) { cls:=.type "list",data:=.seq its.toArray n }={ cls:=.type "list",data:=.seq (its.set j u).toArray n }:=by
 simp[Bg]
theorem Inv.lst{im:List (Af×Obj)}{σ:St}{H:Hp}{s:Ae}{p:Af}{xs:List V}(I:Inv X im σ H s)(h:H p=some (.lst xs)):
  ∃(its:List Ac) (n:Nat),bU xs its/\s.heap.get? p=some { cls:=.type "list",data:=.seq its.toArray n }/\xs.length<=sizeLine:=by
 obtain⟨z,its,n,r,e⟩:=I.hok p _ h;exact⟨its,n,r,e,z⟩
theorem Inv.lstUpd{im:List (Af×Obj)}{σ:St}{H:Hp}{s:Ae}{p:Af}{xs ys:List V}{its its':List Ac}{n F:Nat}{f:Obj->Obj}(I:Inv X im σ H s)(h:H p=some (.lst xs))
  (ho:s.heap.get? p=some { cls:=.type "list",data:=.seq its.toArray n }) (G:f { cls:=.type "list",data:=.seq its.toArray n }={ cls:=.type "list",data:=.seq its'.toArray F }) (r:bU ys its') (hz:ys.length<=sizeLine) (t:Nat):
  Inv X im σ (upd H p (.lst ys)) { s with heap:=s.heap.update p f,toks:=t }:=by
 have e:(s.heap.update p f).get? p=some { cls:=.type "list",data:=.seq its'.toArray F }:=by
  rw[FT f ho (by rw[G]<;>rfl),G]
 refine I.write (x:=p) (e:=p) (by rw[h];trivial) (.inl rfl) (fun b u J q=>(Heap.get?_update_other _ _ (Cy J)).trans q) ⟨_,e⟩ ?_;exact⟨hz,its',F,r,e⟩
inductive aBY(o:V)(i:V)(v:V)(H:Hp)(Q:(Hp->Prop)):Prop
 | mk (p:_) (xs:_) (k:_) (j:_) (q0:o=.ref p) (q1:i=.int k) (q2:H p=some (.lst xs)) (q3:ixN xs.length k=some j) (q4:Q (upd H p (.lst (xs.set j v)))):aBY o i v H Q
def aJb:V->V->V->Hp->(Hp->Prop)->Prop:=fun o i v H Q=>aBY o i v H Q
theorem iU:aIW X aJb:=by
 intro im s σ H o i v ov iv u Q I Y O Z h;obtain⟨p,xs,k,j,rfl,rfl,hp,hj,q⟩:=h;cases Y;obtain⟨t,rfl⟩:=O;obtain⟨its,n,r,ho,hz⟩:=I.lst hp;obtain⟨h1,h2,h3,h4⟩:=rP hj;have hl:=r.length;have hn:=nV;have J:Inv X im σ (upd H p (.lst (xs.set j v))) { s with heap:=s.heap.update p (Bg (·.setIfInBounds j u)) }:=
  I.lstUpd hp ho (aBb its n j u) (r.set Z j) (by rw[CN];exact hz) s.toks
 by_cases G:0<=k
 .have F:k.toNat=j:=by
   rw[Ij G h4]at h1;exact BD.inj h1
  exact PySem.W.ki_setAt ho G (by omega) (by rw[Aw,<- hl];exact h4) (by rw[F];exact⟨_,J,q⟩)
 .have F:(k+(its.toArray.size:Int)).toNat=j:=by
   rw[seqIndex_neg (by omega) h3]at h1;rw[Aw,<- hl];exact BD.inj h1
  exact PySem.W.ki_setBack ho (by omega) (by rw[Aw,<- hl];exact h3) (by omega) (by rw[F];exact⟨_,J,q⟩)
theorem w6(lo hi:Option Int)(n:Nat):(sliceBounds lo hi none n).1=((HT.sIx n 0 lo:Nat):Int)/\(sliceBounds lo hi none n).2.1=((HT.sIx n n hi:Nat):Int)/\(sliceBounds lo hi none n).2.2=1:=by
 refine⟨?_,?_,rfl⟩
 .cases lo with
  | none=>simp[sliceBounds,HT.sIx]
  | some i=>
   simp only[sliceBounds,HT.sIx,Option.getD_none,show(1:Int)>0 by decide,if_true];by_cases h:i<0
   .simp only[h,if_true]<;>omega
   .simp only[h,if_false]<;>omega
 .cases hi with
  | none=>simp[sliceBounds,HT.sIx]
  | some i=>
   simp only[sliceBounds,HT.sIx,Option.getD_none,show(1:Int)>0 by decide,if_true];by_cases h:i<0
   .simp only[h,if_true]<;>omega
   .simp only[h,if_false]<;>omega
theorem vC(its:List Ac)(lo hi:Option Int):slicePick its.toArray lo hi none=((its.drop (HT.sIx its.length 0 lo)).take (HT.sIx its.length its.length hi-HT.sIx its.length 0 lo)).toArray:=by
 obtain⟨h1,h2,h3⟩:=w6 lo hi its.toArray.size;unfold slicePick;rw[h1,h2,h3];simp only[sliceRange_one,pick_run,Aw]<;>rfl
inductive aEf(K:Ah)(x:V)(lo:Option Int)(hi:Option Int)(H:Hp)(Q:VK):Prop
 | mk (a:_) (xs:_) (q0:x=.ref a) (q1:SqL K H a xs) (q2:∀ p,H p=none->Q (.ref p) (upd H p (.lst (p6 xs lo hi)))):aEf K x lo hi H Q
def aKb(K:Ah):V->Option Int->Option Int->Hp->VK->Prop:=fun x lo hi H Q=>aEf K x lo hi H Q
theorem w8:SlR X (aKb X.K):=by
 intro im s σ H x v O Y lo hi sl Q I J hs pl G h;obtain⟨a,xs,rfl,hx,q⟩:=h;cases J;obtain⟨its,r,ht,hz⟩:=I.list hx;have F:=r.length;refine⟨"list",_,slot_list_getitem.lookup,ht.isList.typeIs,wpAny_getItem_list_slice ht.isList hs pl G .none (by simp) ?_ (by rw[Aw]<;>omega)⟩;rw[vC,<- F];refine⟨.ref s.heap.objs.size,_,I.laid (t':=s.toks) (o:=.lst (p6 xs lo hi)) (fun b ob q=>Ak _ q) (Aj _) ?_,rfl,q _ (I.hok.fresh (Aj _))⟩;exact⟨Ay (qT xs lo hi) hz,_,0,(r.drop (HT.sIx xs.length 0 lo)).take (HT.sIx xs.length xs.length hi-HT.sIx xs.length 0 lo),AH _ rfl⟩
def iV:V->Bool
 | .non=>true
 | .bl _=>true
 | .int _=>true
 | .str _=>true
 | _=>false
def eqV:V->V->Bool
 | .non,.non=>true
 | .bl a,.bl b=>a==b
 | .bl a,.int b=>(if a then 1 else 0)==b
 | .int a,.bl b=>a==(if b then 1 else 0)
 | .int a,.int b=>a==b
 | .str a,.str b=>a==b
 | _,_=>false
theorem aBc{A:AV}{s:Ae}{y x:V}{u v:Ac}(G:cC y u)(F:cC x v)(O:iV y=true)(J:iV x=true):Hr A s u v (eqV y x):=by
 cases y with
 | non=>
  cases G;cases x with
  | non=>cases F;exact EX _
  | bl b=>cases F;exact SeqAt.EqAt.none_bool b
  | int b=>obtain⟨t,rfl⟩:=F;exact SeqAt.EqAt.none_int b t
  | str b=>obtain⟨t,rfl⟩:=F;exact SeqAt.EqAt.none_str b t
  | _=>exact absurd (show false=true from J) Am
 | bl a=>
  cases G;cases x with
  | non=>cases F;exact SeqAt.EqAt.bool_none a
  | bl b=>cases F;exact SeqAt.EqAt.bool_bool a b
  | int b=>obtain⟨t,rfl⟩:=F;exact SeqAt.EqAt.bool_int a b t
  | str b=>obtain⟨t,rfl⟩:=F;exact SeqAt.EqAt.bool_str a b t
  | _=>exact absurd (show false=true from J) Am
 | int a=>
  obtain⟨t',rfl⟩:=G;cases x with
  | non=>cases F;exact SeqAt.EqAt.int_none a t'
  | bl b=>cases F;exact SeqAt.EqAt.int_bool a t' b
  | int b=>obtain⟨t,rfl⟩:=F;exact FK a t' b t
  | str b=>obtain⟨t,rfl⟩:=F;exact SeqAt.EqAt.int_str a t' b t
  | _=>exact absurd (show false=true from J) Am
 | str a=>
  obtain⟨t',rfl⟩:=G;cases x with
  | non=>cases F;exact SeqAt.EqAt.str_none a t'
  | bl b=>cases F;exact SeqAt.EqAt.str_bool a t' b
  | int b=>obtain⟨t,rfl⟩:=F;exact SeqAt.EqAt.str_int a t' b t
  | str b=>obtain⟨t,rfl⟩:=F;exact Em a t' b t
  | _=>exact absurd (show false=true from J) Am
 | _=>exact absurd (show false=true from O) Am
def eqU(x:V)(u:Ac):Bool:=match u with
 | .none=>eqV .non x
 | .bool b=>eqV (.bl b) x
 | .int i _=>eqV (.int i) x
 | .str z _=>eqV (.str z) x
 | _=>false
theorem aEg{x y:V}{u:Ac}(r:cC y u)(f:iV y=true):eqU x u=eqV y x:=by
 cases y with
 | non=>cases r;rfl
 | bl b=>cases r;rfl
 | int i=>obtain⟨t,rfl⟩:=r;rfl
 | str z=>obtain⟨t,rfl⟩:=r;rfl
 | _=>exact absurd (show false=true from f) Am
theorem oM{x:V}:∀{xs:List V}{F:List Ac},bU xs F->xs.all iV=true->F.any (eqU x)=xs.any fun y=>eqV y x
 | _,_,.nil,_=>rfl
 | y::xs,u::F,.cons r t,f=>by
  rw[HC,BC]at f;rw[Do,Do,aEg r f.1,oM t f.2]
theorem lS{A:AV}{s:Ae}{x:V}{v:Ac}(G:cC x v)(J:iV x=true):∀{xs:List V}{F:List Ac},bU xs F->xs.all iV=true->∀ u∈F,Hr A s u v (eqU x u)
 | _,_,.nil,_=>fun u hu=>by cases hu
 | y::xs,u::F,.cons r t,f=>fun O hu=>by
  rw[HC,BC]at f;rcases An.mp hu with rfl|hu
  .rw[aEg r f.1];exact aBc r G f.1 J
  .exact lS G J t f.2 O hu
def inV(x:V)(xs:List V):Bool:=xs.any fun y=>eqV y x
inductive aHj(K:Ah)(neg:Bool)(x:V)(y:V)(H:Hp)(Q:VK):Prop
 | mk (p:_) (xs:_) (q0:y=.ref p) (q1:(SqL K H p xs\/SqT K H p xs)) (q2:iV x=true) (q3:xs.all iV=true) (q4:Q (.bl (if neg then !inV x xs else inV x xs)) H):aHj K neg x y H Q
def rIn(K:Ah)(neg:Bool):R2:=fun x y H Q=>aHj K neg x y H Q
theorem p8:OpR X (compareOp .In) (rIn X.K false):=by
 intro im s σ H x y v u Q I G J h;obtain⟨p,xs,rfl,F,fx,fs,q⟩:=h;cases J;rcases F with F|F
 .obtain⟨its,r,pl,hz⟩:=I.list F;refine SeqAt.in_listAt (eqU x) pl.isList (fun w hw=>lS G fx r fs w (by simpa using hw)) ⟨.bl _,H,I,rfl,?_⟩;rw[show its.toArray.any (eqU x)=its.any (eqU x) by simp,oM r fs];exact q
 .obtain⟨its,r,pl,hz⟩:=I.tuple F;refine SeqAt.in_tupleAt (eqU x) pl (fun w hw=>lS G fx r fs w (by simpa using hw)) ⟨.bl _,H,I,rfl,?_⟩;rw[show its.toArray.any (eqU x)=its.any (eqU x) by simp,oM r fs];exact q
theorem kT:OpR X (compareOp .NotIn) (rIn X.K true):=by
 intro im s σ H x y v u Q I G J h;obtain⟨p,xs,rfl,F,fx,fs,q⟩:=h;cases J;rcases F with F|F
 .obtain⟨its,r,pl,hz⟩:=I.list F;refine SeqAt.notIn_listAt (eqU x) pl.isList (fun w hw=>lS G fx r fs w (by simpa using hw)) ⟨.bl _,H,I,rfl,?_⟩;rw[show its.toArray.any (eqU x)=its.any (eqU x) by simp,oM r fs];exact q
 .obtain⟨its,r,pl,hz⟩:=I.tuple F;refine SeqAt.notIn_tupleAt (eqU x) pl (fun w hw=>lS G fx r fs w (by simpa using hw)) ⟨.bl _,H,I,rfl,?_⟩;rw[show its.toArray.any (eqU x)=its.any (eqU x) by simp,oM r fs];exact q
inductive jV(K:Ah)(xs:List V)(H:Hp)(Q:VK):Prop
 | mk (p:_) (ys:_) (q0:xs=[.ref p]) (q1:(SqL K H p ys\/SqT K H p ys)) (q2:Q (.int ys.length) H):jV K xs H Q
def lT(K:Ah):List V->Hp->VK->Prop:=fun xs H Q=>jV K xs H Q
theorem bH:fF X (.builtin "len") (lT X.K):=by
 intro im s σ H xs J Q I r h;obtain⟨p,ys,rfl,G,q⟩:=h;obtain⟨u,rfl,rx⟩:=fG r;cases rx;have hn:=nV;rcases G with G|G
 .obtain⟨its,r',pl,hz⟩:=I.list G;have F:=r'.length;exact Calls.call_len_list pl.isList (by simp only[Aw]<;>omega) ⟨.int ys.length,H,I.tok _,⟨s.toks+1,by rw[Aw,F]⟩,q⟩
 .obtain⟨its,r',pl,hz⟩:=I.tuple G;have F:=r'.length;exact len_tuple pl (by simp only[Aw]<;>omega) ⟨.int ys.length,H,I.tok _,⟨s.toks+1,by rw[Aw,F]⟩,q⟩
inductive jW(xs:List V)(H:Hp)(Q:VK):Prop
 | mk (z:_) (q0:xs=[.str z]) (q1:z.length<=sizeLine) (q2:Q (.int z.length) H):jW xs H Q
def sU:List V->Hp->VK->Prop:=fun xs H Q=>jW xs H Q
theorem oO:fF X (.builtin "len") sU:=by
 intro im s σ H xs F Q I r h;obtain⟨z,rfl,hz,q⟩:=h;obtain⟨u,rfl,t,rfl⟩:=fG r;have hn:=nV;exact len_str (by omega) ⟨.int z.length,H,I.tok _,⟨_,rfl⟩,q⟩
inductive jD(K:Ah)(xs:List V)(H:Hp)(Q:VK):Prop
 | mk (p:_) (ys:_) (q0:xs=[.ref p]) (q1:((SqL K H p ys/\∀ l,H l=none->Q (.ref l) (upd H l (.tup ys)))\/(SqT K H p ys/\Q (.ref p) H))):jD K xs H Q
def rH(K:Ah):List V->Hp->VK->Prop:=fun xs H Q=>jD K xs H Q
theorem dR:fF X (.type "tuple") (rH X.K):=by
 intro im s σ H xs O Q I r h;obtain⟨p,ys,rfl,h⟩:=h;obtain⟨u,rfl,rx⟩:=fG r;cases rx;rcases h with⟨hq,q⟩|⟨hq,q⟩
 .obtain⟨its,r',pl,hz⟩:=I.list hq;have G:=r'.length;refine call_tuple_list pl.isList (fun h' kp=>?_) (by simp only[Aw]<;>omega);have F:Inv X im σ H { s with heap:=h' }:=I.kept (t':=s.toks) kp;have J:Inv X im σ (upd H h'.objs.size (.tup ys)) { s with heap:=h'.push { cls:=.type "tuple",data:=.seq its.toArray } }:=
   F.laid (t':=s.toks) (fun b o e=>Ak _ e) (Aj _) (show cR X.prog X.w _ _ _ (.tup ys) from⟨hz,its,r',⟨_,AH _ rfl,⟨rfl,_,rfl⟩,rfl⟩⟩)
  exact⟨.ref h'.objs.size,_,J,rfl,q _ (F.hok.fresh (Aj _))⟩
 .obtain⟨its,r',pl,hz⟩:=I.tuple hq;exact call_tuple_same pl ⟨.ref p,H,I,rfl,q⟩
def tyV(K:Ah)(T:String)(x:V)(H:Hp):Prop:=match x with
 | .str _=>T="str"
 | .int _=>T="int"
 | .ref p=>(T="list"/\∃ xs,SqL K H p xs)\/(T="tuple"/\∃ o,K.lookup p=some o/\o.cls=.type "tuple"/\o.dict=none)\/
   (T="dict"/\((∃ ip,H p=some (.dK ip))\/∃ ip,H p=some (.dT ip)))\/(T="set"/\∃ S n,H p=some (.set S n))\/(T="tuple"/\∃ xs,H p=some (.tup xs))
 | _=>False
theorem aEh{im:List (Af×Obj)}{σ:St}{H:Hp}{s:Ae}{T:String}{x:V}{v:Ac}(I:Inv X im σ H s)(r:cC x v)(ty:tyV X.K T x H):
  s.TypeIs v T/\∀ a,v=.ref a->∃ ob,s.heap.get? a=some ob/\ob.dict=none:=by
 cases x with
 | str z=>
  obtain⟨t,rfl⟩:=r;cases(show T="str" from ty);exact⟨Hf s z t,fun _ e=>nomatch e⟩
 | int i=>
  obtain⟨t,rfl⟩:=r;cases(show T="int" from ty);exact⟨HL s i t,fun _ e=>nomatch e⟩
 | ref p=>
  cases r;rcases ty with⟨rfl,xs,hq⟩|⟨rfl,o,hk,hc,hd⟩|⟨rfl,hk⟩|⟨rfl,S,n,hk⟩|⟨rfl,xs,hq⟩
  .obtain⟨its,_,pl,_⟩:=I.list hq;refine⟨pl.isList.typeIs,fun a e=>?_⟩;cases e;obtain⟨o,n,e,c,hd,_⟩:=pl;exact⟨o,e,hd⟩
  .refine⟨⟨o,I.kIn p o hk,hc⟩,fun a e=>?_⟩;cases e;exact⟨o,I.kIn _ o hk,hd⟩
  .have z:∃ o,s.heap.get? p=some o/\o.ExactDict:=by
    rcases hk with⟨ip,hk⟩|⟨ip,hk⟩
    .obtain⟨_,_,_,_,o,_,_,e,ex,_⟩:=I.hok p _ hk;exact⟨o,e,ex⟩
    .obtain⟨_,_,_,_,o,_,_,e,ex,_⟩:=I.hok p _ hk;exact⟨o,e,ex⟩
   obtain⟨o,e,ex⟩:=z;refine⟨⟨o,e,ex.1⟩,fun a F=>?_⟩;cases F;exact⟨o,e,ex.2.1⟩
  .obtain⟨o,_,_,_,e,ex,_⟩:=I.hok p _ hk;refine⟨⟨o,e,ex.1⟩,fun a F=>?_⟩;cases F;exact⟨o,e,ex.2.1⟩
  .obtain⟨_,_,_,o,e,⟨c,_⟩,hd⟩:=(show cR X.prog X.w H s.heap p (.tup xs) from I.hok p _ hq)
   refine⟨⟨o,e,c⟩,fun a F=>?_⟩;cases F;exact⟨o,e,hd⟩
 | _=>exact B9 ty
def aJc(K:Ah)(T:String)(r:V->List V->Hp->VK->Prop)(to:TE):TE:=fun σ H Q=>to σ H fun x H1=>tyV K T x H1/\r x [] H1 Q
def tBM(K:Ah)(T:String)(r:V->List V->Hp->VK->Prop)(to:TE)(t:TA):TE:=fun σ H Q=>to σ H fun x H1=>tyV K T x H1/\t σ H1 fun xs H2=>r x xs H2 Q
variable{o:Bi}{es:List Bi}{to:TE}{t:TA}{name:Str}{jh jb:Pos}{T id:String}{r:V->List V->Hp->VK->Prop}
theorem aBd(Z:PlainAttrs T)(slot:Slot T name id)(J:typeOf (.builtin id)=pure (.type "method_descriptor"))(hm:MtR X id r)(ho:PE X o to)
  (G:attributeBase o name X.env (eval o X.env)=eval o X.env:=by rfl) (F:(jh.endLine==jb.line)=true:=by rfl):PE X (.Call (.Attribute o name jh) [] [] jb) (aJc X.K T r to):=by
 constructor;intro im s σ H Q I h;refine wpAny_Call_method0_late G F (thn (ho im s σ H _ I h) fun v s1 ⟨x,H1,O,Y,ty,q1⟩=>?_);obtain⟨h1,h2⟩:=aEh O Y ty;exact⟨T,id,Z,slot,J,h1,h2,Df rfl (PySem.evalArgs_none (hm im s1 σ H1 x [] v [] Q O Y .nil q1))⟩
theorem lE(pa:PlainAttrs T)(slot:Slot T name id)(Y:typeOf (.builtin id)=pure (.type "method_descriptor"))(hm:MtR X id r)(ho:PE X o to)(ha:PA X (e::es) t)
  (J:attributeBase o name X.env (eval o X.env)=eval o X.env:=by rfl)
  (O:((backTo jb (starEach (e::es) X.env)).all (fun x=>!x.1)&&(backToKw jb (keywordEach [] X.env)).all (fun x=>x.1.isSome)
   && decide ((e::es).length+([]:List Ga).length+(if ([]:List Ga).isEmpty then 0 else 1)<30))=true:=by rfl)
  (G:(jh.endLine==jb.line)=true:=by rfl) (hs:starEach (e::es) X.env=(false,eval e X.env)::starEach es X.env:=by rfl) (F:(backTo jb (starEach es X.env)).any (·.1)=false:=by rfl):
  PE X (.Call (.Attribute o name jh) (e::es) [] jb) (tBM X.K T r to t):=by
 constructor;intro im s σ H Q I h;refine wpAny_Call_method_late J O G rfl (thn (ho im s σ H _ I h) fun v s1 ⟨x,H1,I1,r1,ty,q1⟩=>?_);obtain⟨h1,h2⟩:=aEh I1 r1 ty;refine⟨T,id,pa,slot,Y,h1,h2,?_⟩;have Z:=ha jb im s1 σ H1 _ I1 q1;rw[hs]at Z ⊢;refine Df (by show(false||(backTo jb (starEach es X.env)).any (·.1))=false;rw[F]<;>rfl) (FX ?_)
 exact thn Z fun us s2 ⟨vs,H2,I2,r2,q2⟩=>hm im s2 σ H2 x vs v us Q I2 r1 r2 q2
end
def MtM(X:Cx)(id:String)(r:V->List V->Hp->VK->Prop):Prop:=
 ∀(im:List (Af×Obj)) (s:Ae) (σ:St) (H:Hp) (x:V) (xs:List V) (v:Ac) (us:List Ac) (Q:VK),Inv X im σ H s->cC x v->bU xs us->r x xs H Q->
  wpAny (model X.prog X.w) X.A (call (.builtin id) (v::us)) (EP X im σ Q) X.xe s
theorem bU.one:∀{x:V}{F:List Ac},bU [x] F->∃ u,F=[u]/\cC x u
 | _,_,.cons r .nil=>⟨_,rfl,r⟩
theorem bU.zero:∀{F:List Ac},bU [] F->F=[]
 | _,.nil=>rfl
theorem bU.dropLast{xs:List V}{F:List Ac}(h:bU xs F):bU xs.dropLast F.dropLast:=by
 induction h with
 | nil=>exact .nil
 | cons r t G=>
  cases t with
  | nil=>exact .nil
  | cons q J=>exact .cons r G
theorem bU.eraseIdx:∀{xs:List V}{F:List Ac} (i:Nat),bU xs F->bU (xs.eraseIdx i) (F.eraseIdx i)
 | _,_,_,.nil=>.nil
 | _,_,0,.cons _ t=>t
 | _,_,i+1,.cons r t=>.cons r (bU.eraseIdx i t)
theorem bU.rep{xs:List V}{F:List Ac}(h:bU xs F):∀ k:Nat,bU (Bw k xs).flatten (Bw k F).flatten
 | 0=>.nil
 | k+1=>by
  rw[CQ,CQ,Ds,Ds];exact bU.append h (bU.rep h k)
theorem aBe{α:Type}(l:List α):l.eraseIdx (l.length-1)=l.dropLast:=by
 induction l with
 | nil=>rfl
 | cons a r F=>
  cases r with
  | nil=>rfl
  | cons b r=>
   have e:(a::b::r).length-1=((b::r).length-1)+1:=by
    have h1:(a::b::r).length=r.length+2:=rfl;have h2:(b::r).length=r.length+1:=rfl;omega
   rw[e,List.eraseIdx_cons_succ,F]
   all_goals rfl
theorem vQ{α:Type}:∀(l:List α) (i:Nat),(l.eraseIdx i).length<=l.length
 | [],_=>Aj _
 | _::_,0=>Dg _
 | _::r,i+1=>Nat.succ_le_succ (vQ r i)
theorem vR(its:List Ac):∀(k:Nat) (F:List Ac),
  Fu (fun G O=>G++O) F.toArray (Bw k its.toArray)=(F++(Bw k its).flatten).toArray
 | 0,F=>by simp
 | k+1,F=>by
  have e:F.toArray++its.toArray=(F++its).toArray:=by simp
  have J:(F++its)++(Bw k its).flatten=F++(Bw (k+1) its).flatten:=by
   rw[CQ,Ds,AF]
  rw[<- J,<- vR its k (F++its),<- e,CQ,Bh]
section
variable{l b:Af}{xs ys zs:List V}
theorem Inv.lset{its its':List Ac}{n:Nat}{f:Array Ac->Array Ac}{t':Nat}(I:Inv X im σ H s)(F:H l=some (.lst xs))
  (e:s.heap.get? l=some { cls:=.type "list",data:=.seq its.toArray n }) (G:f its.toArray=its'.toArray) (hv:bU ys its') (hz:ys.length<=sizeLine):
  Inv X im σ (upd H l (.lst ys)) { s with heap:=s.heap.update l (Bg f),toks:=t' }:=by
 have q:=PySem.IsL.update e f;rw[G]at q;refine I.write (x:=l) (e:=l) (by rw[F];exact trivial) (.inl rfl) (fun O u J hu=>(Heap.get?_update_other s.heap (Bg f) (Cy J)).trans hu) ⟨_,q⟩ ?_;exact⟨hz,its',_,hv,q⟩
theorem Inv.lnew{its:List Ac}{t':Nat}(I:Inv X im σ H s)(hv:bU ys its)(hz:ys.length<=sizeLine):
  Inv X im σ (upd H s.heap.objs.size (.lst ys)) { s with heap:=s.heap.push { cls:=.type "list",data:=.seq its.toArray },toks:=t' }:=
 I.laid (fun _ _ q=>Ak _ q) (Aj _) ⟨hz,its,0,hv,AH _ rfl⟩
theorem Inv.fresh(I:Inv X im σ H s):H s.heap.objs.size=none:=I.hok.fresh (Aj _)
theorem Inv.lstM(I:Inv X im σ H s)(F:H l=some (.lst xs)):xs.length<=sizeLine/\∃(its:List Ac) (n:Nat),bU xs its/\xs.length=its.length/\s.heap.get? l=some { cls:=.type "list",data:=.seq its.toArray n }:=by
 obtain⟨z,its,n,r,e⟩:=I.hok l _ F;exact⟨z,its,n,r,r.length,e⟩
theorem yR{n:Nat}(h:n<=sizeLine):Du n=false:=by
 unfold Du;exact Is (by omega)
end
inductive vS(x:V)(vs:List V)(H:Hp)(Q:VK):Prop
 | mk (l:_) (xs:_) (y:_) (q0:x=.ref l) (q1:vs=[y]) (q2:H l=some (.lst xs)) (q3:xs.length<sizeLine) (q4:Q .non (upd H l (.lst (xs++[y])))):vS x vs H Q
def aGi:V->List V->Hp->VK->Prop:=fun x vs H Q=>vS x vs H Q
theorem gE:MtM X "list.append" aGi:=by
 intro im s σ H x vs v O Q I G J h;obtain⟨l,xs,y,rfl,rfl,hH,hz,q⟩:=h;cases G;obtain⟨u,rfl,ru⟩:=J.one;obtain⟨z,its,n,r,hl,e⟩:=I.lstM hH;refine Fe F.slot_list_append ⟨_,e,rfl⟩ F.entry_list_append (F.args_list_append_2 _ _) (PySem.list_append l its.toArray n u (by rw[Aw];omega)) ⟨e,?_⟩;refine⟨.non,_,I.lset (its':=its++[u]) hH e (by simp) (r.append (.cons ru .nil)) ?_,rfl,q⟩;rw[Av,B5];omega
inductive aEi(x:V)(vs:List V)(H:Hp)(Q:VK):Prop
 | mk (l:_) (xs:_) (y:_) (q0:x=.ref l) (q1:vs=[]) (q2:H l=some (.lst xs)) (q3:xs[xs.length-1]?=some y) (q4:Q y (upd H l (.lst xs.dropLast))):aEi x vs H Q
def aKc:V->List V->Hp->VK->Prop:=fun x vs H Q=>aEi x vs H Q
theorem aEj:MtM X "list.pop" aKc:=by
 intro im s σ H x vs v Z Q I O Y h;obtain⟨l,xs,y,rfl,rfl,hH,hy,q⟩:=h;cases O;have G:=Y.zero;subst G;obtain⟨z,its,n,r,hl,e⟩:=I.lstM hH;obtain⟨u,hu,ru⟩:=r.get hy;have J:its.toArray[its.toArray.size-1]?=some u:=by
  show its.toArray[its.length-1]?=some u;rw[<- AZ,<- hl];exact hu
 refine Fe F.slot_list_pop ⟨_,e,rfl⟩ F.entry_list_pop (F.args_list_pop_1 _) (MeetsSeq.list_pop_last l its.toArray n u J (by rw[Aw];omega)) ⟨e,?_⟩;refine⟨y,_,I.lset (its':=its.dropLast) hH e ?_ r.dropLast ?_,ru,q⟩
 .show its.toArray.eraseIdxIfInBounds (its.toArray.size-1)=its.dropLast.toArray;rw[Aw,List.eraseIdxIfInBounds_toArray,aBe]
 .rw[List.length_dropLast];omega
inductive yS(x:V)(vs:List V)(H:Hp)(Q:VK):Prop
 | mk (l:_) (xs:_) (i:_) (k:_) (y:_) (q0:x=.ref l) (q1:vs=[.int i]) (q2:H l=some (.lst xs)) (q3:-(2^63)<=i) (q4:i<2^63) (q5:seqIndex? i xs.length=some k) (q6:xs[k]?=some y) (q7:Q y (upd H l (.lst (xs.eraseIdx k)))):yS x vs H Q
def aHY:V->List V->Hp->VK->Prop:=fun x vs H Q=>yS x vs H Q
theorem yT:MtM X "list.pop" aHY:=by
 intro im s σ H x vs v O Q I G J h;obtain⟨l,xs,i,k,y,rfl,rfl,hH,h1,h2,hk,hy,q⟩:=h;cases G;obtain⟨u,rfl,ru⟩:=J.one;obtain⟨t,rfl⟩:=ru;obtain⟨z,its,n,r,hl,e⟩:=I.lstM hH;obtain⟨w,hw,rw'⟩:=r.get hy;refine Fe F.slot_list_pop ⟨_,e,rfl⟩ F.entry_list_pop (F.args_list_pop_2 _ _)
  (MeetsSeq.list_pop_at l its.toArray n i t k w (fitsIndex_both h1 h2) (by rw[Aw,<- hl];exact hk) (by rw[<- AZ];exact hw) (by rw[Aw];omega)) ⟨e,?_⟩
 refine⟨y,_,I.lset (its':=its.eraseIdx k) hH e ?_ (r.eraseIdx k) ?_,rw',q⟩
 .show its.toArray.eraseIdxIfInBounds k=(its.eraseIdx k).toArray;rw[List.eraseIdxIfInBounds_toArray]
 .have:=vQ xs k;omega
inductive yU(x:V)(vs:List V)(H:Hp)(Q:VK):Prop
 | mk (l:_) (xs:_) (q0:x=.ref l) (q1:vs=[]) (q2:H l=some (.lst xs)) (q3:Q .non (upd H l (.lst []))):yU x vs H Q
def aHZ:V->List V->Hp->VK->Prop:=fun x vs H Q=>yU x vs H Q
theorem aEk:MtM X "list.clear" aHZ:=by
 intro im s σ H x vs v Y Q I J O h;obtain⟨l,xs,rfl,rfl,hH,q⟩:=h;cases J;have G:=O.zero;subst G;obtain⟨z,its,n,r,hl,e⟩:=I.lstM hH;refine Fe F.slot_list_clear ⟨_,e,rfl⟩ F.entry_list_clear (F.args_list_clear_1 _) (AutoSeq1.list_clear_list_0 l its.toArray n (by rw[Aw];omega)) ⟨e,?_⟩;exact⟨.non,_,I.lset (its':=[]) (ys:=[]) hH e rfl .nil (A8 _),rfl,q⟩
inductive aEl(x:V)(y:V)(H:Hp)(Q:VK):Prop
 | mk (l:_) (b:_) (xs:_) (zs:_) (q0:x=.ref l) (q1:y=.ref b) (q2:H l=some (.lst xs)) (q3:H b=some (.lst zs)) (q4:xs.length+zs.length<=sizeLine) (q5:∀ p,H p=none->Q (.ref p) (upd H p (.lst (xs++zs)))):aEl x y H Q
def aKd:R2:=fun x y H Q=>aEl x y H Q
theorem aBf:OpR X (binaryOp .Add) aKd:=by
 intro im s σ H x y v u Q I G F h;obtain⟨l,b,xs,zs,rfl,rfl,hH,hB,hz,q⟩:=h;cases G;cases F;obtain⟨z,its,n,r,hl,e⟩:=I.lstM hH;obtain⟨z2,its2,n2,r2,hl2,e2⟩:=I.lstM hB;refine PySem.P.add_list e e2 ?_ (by rw[Aw,Aw];omega);have J:its.toArray++its2.toArray=(its++its2).toArray:=by simp
 rw[J];exact⟨.ref _,_,I.lnew (t':=s.toks) (r.append r2) (by rw[Av];omega),rfl,q _ I.fresh⟩
inductive aEm(x:V)(y:V)(H:Hp)(Q:VK):Prop
 | mk (l:_) (k:_) (xs:_) (q0:x=.ref l) (q1:y=.int k) (q2:H l=some (.lst xs)) (q3:-(2^63)<=k) (q4:k<2^63) (q5:xs.length*k.toNat<=sizeLine) (q6:∀ p,H p=none->Q (.ref p) (upd H p (.lst (Bw k.toNat xs).flatten))):aEm x y H Q
def aKe:R2:=fun x y H Q=>aEm x y H Q
theorem aGj{α:Type}(xs:List α)(k:Nat):(Bw k xs).flatten.length=k*xs.length:=by
 induction k with
 | zero=>simp
 | succ k F=>rw[CQ,Ds,Av,F,Nat.succ_mul,Nat.add_comm]
theorem aH0:OpR X (binaryOp .Mult) aKe:=by
 intro im s σ H x y v u Q I rx ry h;obtain⟨l,k,xs,rfl,rfl,hH,h1,h2,hz,q⟩:=h;cases rx;obtain⟨t,rfl⟩:=ry;obtain⟨z,its,n,r,hl,e⟩:=I.lstM hH;have Y:its.toArray.size*k.toNat<=sizeLine:=by rw[Aw,<- hl];exact hz
 have O:¬ its.toArray.size*k.toNat>(2^63-1)/8:=by
  have:(sizeLine:Nat)<=(2^63-1)/8:=by decide
  omega
 have J:¬ (!Builtin.List.listFitsIndex k)=true:=by
  rw[fitsIndex_both h1 h2];exact Am
 have G:¬ Du (its.toArray.size*k.toNat)=true:=by
  rw[yR Y];exact Am
 have Z:Fu (fun x1 x2=>x1++x2) #[] (Bw (if its.toArray.isEmpty=true then 0 else k.toNat) its.toArray)=(Bw k.toNat its).flatten.toArray:=by
  have f0:∀ m:Nat,Fu (fun x1 x2=>x1++x2) #[] (Bw m its.toArray)=(Bw m its).flatten.toArray:=fun m=>by
   have:=vR its m [];rw[FG]at this;exact this
  rw[f0];cases its with
  | nil=>simp
  | cons a r'=>rw[Ip (by simp)]
 refine wpAny_binaryOp_repeat_ref (T:="list") (U:="int") (by decide) ⟨_,e,rfl⟩ (fun s'=>HL s' k t) noFill_list_mul F.fills_int_mul F.slot_int_rmul repeat_list F.slot_int_index.lookup
  (Fe F.slot_int_rmul (HL s k t) F.entry_int_rmul (F.args_int_rmul_2 _ _) (int___rmul___int_list k t l its.toArray n)
   ⟨e,rfl,⟨_,e,rfl⟩,Fe F.slot_list_mul ⟨_,e,rfl⟩ F.entry_list_mul (F.args_list_mul_2 _ _) (AutoListH.list___mul___list_int_3 l its.toArray n k t J O G) ⟨e,?_⟩⟩)
 rw[Z];exact⟨.ref _,_,I.lnew (t':=s.toks) (r.rep k.toNat) (by rw[aGj,Nat.mul_comm];exact hz),rfl,q _ I.fresh⟩
section
variable{prog:AE}{w:AW}
end
section
variable{κ:Type}[DecidableEq κ]
def bG(ip:List (κ×V))(k:κ):Option V:=(ip.find? fun kv=>decide (kv.1=k)).map (·.2)
def b0(ip:List (κ×V))(k:κ)(v:V):List (κ×V):=
 if (ip.any fun kv=>decide (kv.1=k))=true then ip.map (fun kv=>if kv.1=k then(kv.1,v) else kv) else ip++[(k,v)]
def bZ(ip:List (κ×V))(k:κ):List (κ×V):=ip.filter fun kv=>decide (kv.1≠k)
theorem sV{k:κ}:bG ([]:List (κ×V)) k=none:=rfl
theorem cZ{p:κ×V}{r:List (κ×V)}{k:κ}(e:p.1=k):bG (p::r) k=some p.2:=by simp[bG,DM,e]
theorem cH{p:κ×V}{r:List (κ×V)}{k:κ}(e:¬ p.1=k):bG (p::r) k=bG r k:=by simp[bG,DM,e]
theorem dW(k:κ):∀ ip:List (κ×V),(ip.any fun F=>decide (F.1=k))=(bG ip k).isSome
 | []=>rfl
 | p::r=>by
  rw[Do];by_cases e:p.1=k
  .simp only[cZ e,Ir e,Bool.true_or,Option.isSome_some]
  .rw[cH e,Is e,Bool.false_or];exact dW k r
theorem yV(k j:κ)(y:V):∀ ip:List (κ×V),bG (ip.map fun F=>if F.1=k then(F.1,y) else F) j=(bG ip j).map fun x=>if j=k then y else x
 | []=>rfl
 | p::r=>by
  have G:=yV k j y r;rw[Aq];by_cases h:p.1=k
  .rw[Iq h];by_cases e:p.1=j
   .rw[cZ (p:=(p.1,y)) e,cZ e,Fn,Iq (e.symm.trans h)]
   .rw[cH (p:=(p.1,y)) e,cH e,G]
  .rw[Ip h];by_cases e:p.1=j
   .rw[cZ (p:=p) e,cZ e,Fn,Ip (fun z=>h (e.trans z))]
   .rw[cH (p:=p) e,cH e,G]
theorem vT(k j:κ)(y:V):∀ ip:List (κ×V),bG ip k=none->bG (ip++[(k,y)]) j=if j=k then some y else bG ip j
 | [],_=>by
  by_cases e:k=j
  .rw[Iq e.symm];exact cZ (p:=(k,y)) e
  .rw[Ip (fun z=>e z.symm)];exact cH (p:=(k,y)) e
 | p::r,hn=>by
  rw[List.cons_append];have F:¬ p.1=k:=fun z=>by rw[cZ z]at hn;cases hn
  rw[cH F]at hn;have G:=vT k j y r hn;by_cases e:p.1=j
  .rw[cZ e,cZ e,Ip (fun z=>F (e.trans z))]
  .rw[cH e,cH e,G]
theorem d7(ip:List (κ×V))(k j:κ)(y:V):bG (b0 ip k y) j=if j=k then some y else bG ip j:=by
 unfold b0;by_cases a:(ip.any fun F=>decide (F.1=k))=true
 .rw[Iq a,yV];rw[dW]at a;by_cases e:j=k
  .obtain⟨x,hx⟩:=Bf.mp a;rw[Iq e,e,hx,Fn,Iq rfl]
  .rw[Ip e];cases bG ip j with
   | none=>rfl
   | some x=>rw[Fn,Ip e]
 .rw[Ip a];refine vT k j y ip ?_;rw[dW]at a;cases q:bG ip k with
  | none=>rfl
  | some x=>rw[q]at a;exact(a rfl).elim
theorem cJ(ip:List (κ×V))(k:κ)(v:V):(b0 ip k v).length<=ip.length+1:=by
 unfold b0;split
 .rw[Aa];omega
 .rw[Av,AR,Hk];omega
theorem hV{ip:List (κ×V)}{k:κ}(v:V)(h:bG ip k=none):b0 ip k v=ip++[(k,v)]:=by
 unfold b0;rw[dW,h];exact Ip (by decide)
theorem lN.isSome_eq{o:Option V}{u:Option Ac}(r:lN o u):o.isSome=u.isSome:=by
 cases o with
 | none=>cases u with
  | none=>rfl
  | some _=>exact(show False from r).elim
 | some _=>cases u with
  | none=>exact(show False from r).elim
  | some _=>rfl
theorem lN.getD{o:Option V}{u:Option Ac}{d:V}{d':Ac}(r:lN o u)(rd:cC d d'):cC (o.getD d) (u.getD d'):=by
 cases o with
 | none=>cases u with
  | none=>exact rd
  | some _=>exact(show False from r).elim
 | some _=>cases u with
  | none=>exact(show False from r).elim
  | some _=>exact r
theorem KV.val{ip:List (κ×V)}{vs:List (κ×Ac)}(r:KV ip vs)(k:κ):lN (bG ip k) (valueAt vs k):=by
 unfold KV at r
 induction r with
 | nil=>exact Dy
 | @cons p q ps G h t J=>
  obtain⟨h1,h2⟩:=h;by_cases e:p.1=k
  .have F:q.1=k:=h1.symm.trans e;have b:valueAt (q::G) k=some q.2:=by simp[valueAt,DM,F]
   rw[cZ e,b];exact h2
  .have F:¬ q.1=k:=fun z=>e (h1.trans z);have b:valueAt (q::G) k=valueAt G k:=by simp[valueAt,DM,F]
   rw[cH e,b];exact J
theorem KV.any{ip:List (κ×V)}{vs:List (κ×Ac)}(r:KV ip vs)(k:κ):(ip.any fun F=>decide (F.1=k))=vs.any fun F=>decide (F.1=k):=by
 unfold KV at r
 induction r with
 | nil=>rfl
 | cons h t G=>rw[Do,Do,G,h.1]
theorem KV.repl{ip:List (κ×V)}{vs:List (κ×Ac)}(r:KV ip vs)(k:κ){y:V}{u:Ac}(G:cC y u):
  KV (ip.map fun F=>if F.1=k then(F.1,y) else F) (vs.map fun F=>if F.1=k then(F.1,u) else F):=by
 unfold KV at r ⊢
 induction r with
 | nil=>exact .nil
 | @cons p q ps O h t J=>
  rw[Aq,Aq];refine .cons ?_ J;obtain⟨h1,h2⟩:=h;by_cases e:p.1=k
  .rw[Iq e,Iq (h1.symm.trans e)];exact⟨h1,G⟩
  .rw[Ip e,Ip (fun z=>e (h1.trans z))];exact⟨h1,h2⟩
theorem KV.put{ip:List (κ×V)}{vs:List (κ×Ac)}(r:KV ip vs)(k:κ){y:V}{u:Ac}(F:cC y u):KV (b0 ip k y) (stored vs k u):=by
 unfold b0 stored;rw[r.any k];by_cases e:(vs.any fun G=>decide (G.1=k))=true
 .rw[Iq e,Iq e];exact r.repl k F
 .rw[Ip e,Ip e];exact Cg r ⟨rfl,F⟩
theorem KV.drop{ip:List (κ×V)}{vs:List (κ×Ac)}(r:KV ip vs)(k:κ):KV (bZ ip k) (without vs k):=by
 unfold KV at r ⊢;unfold bZ without
 induction r with
 | nil=>exact .nil
 | @cons p q ps J h t F=>
  obtain⟨h1,h2⟩:=h;rw[BW,BW];by_cases e:p.1=k
  .have a:¬ decide (p.1≠k)=true:=by simp[e]
   have b:¬ decide (q.1≠k)=true:=by simp[h1.symm.trans e]
   rw[Ip a,Ip b];exact F
  .have G:¬ q.1=k:=fun z=>e (h1.trans z);have a:decide (p.1≠k)=true:=by simp[e]
   have b:decide (q.1≠k)=true:=by simp[G]
   rw[Iq a,Iq b];exact .cons ⟨h1,h2⟩ F
theorem KV.length{ip:List (κ×V)}{vs:List (κ×Ac)}(r:KV ip vs):ip.length=vs.length:=Bm r
theorem sW(ip:List (κ×V))(k:κ):(bZ ip k).length<=ip.length:=BE _ _
end
theorem nJ{P:AE}{w:AW}{k:Key}{u:Ac}(r:cC (kV k) u):(cA P w).is k u=true:=by
 cases k with
 | inl i=>obtain⟨t,e⟩:=(show∃ t,u=BS i t from r);subst e;exact yJ P w i t
 | inr x=>obtain⟨t,e⟩:=(show∃ t,u=Bz x t from r);subst e;exact yK P w x t
theorem vU{P:AE}{w:AW}:∀{ks:List Key}{F:List Ac},bU (ks.map kV) F->ItemsAre (cA P w) ks F
 | [],_,r=>by rw[Dh]at r;cases r;exact .nil
 | k::ks,_,r=>by
  rw[Aq]at r;cases r with
  | cons h t=>exact .cons (nJ h) (vU t)
abbrev KT(H:Hp):List (List Key×V)->List (List Key×Af×Ac)->Prop:=BI fun p q=>p.1=q.1/\H q.2.1=some (.tup (p.1.map kV))/\cC p.2 q.2.2
theorem KT.val{H:Hp}{ip:List (List Key×V)}{xs:List (List Key×Af×Ac)}(r:KT H ip xs)(k:List Key):lN (bG ip k) ((atKey xs k).map (·.2)):=by
 induction r with
 | nil=>exact Dy
 | @cons p q ps G h t J=>
  obtain⟨h1,_,h2⟩:=h;by_cases e:p.1=k
  .have F:q.1=k:=h1.symm.trans e;have b:atKey (q::G) k=some q.2:=by simp[atKey,DM,F]
   rw[cZ e,b];exact h2
  .have F:¬ q.1=k:=fun z=>e (h1.trans z);have b:atKey (q::G) k=atKey G k:=by simp[atKey,DM,F]
   rw[cH e,b];exact J
theorem KT.repl{H:Hp}{ip:List (List Key×V)}{xs:List (List Key×Af×Ac)}(r:KT H ip xs)(k:List Key){y:V}{u:Ac}(G:cC y u):
  KT H (ip.map fun F=>if F.1=k then(F.1,y) else F) (xs.map (putAt k u)):=by
 induction r with
 | nil=>exact .nil
 | @cons p q ps O h t J=>
  rw[Aq,Aq];refine .cons ?_ J;obtain⟨h1,h2,h3⟩:=h;unfold putAt;by_cases e:p.1=k
  .rw[Iq e,Iq (h1.symm.trans e)];exact⟨h1,h2,G⟩
  .rw[Ip e,Ip (fun z=>e (h1.trans z))];exact⟨h1,h2,h3⟩
theorem KT.put{H:Hp}{ip:List (List Key×V)}{xs:List (List Key×Af×Ac)}(r:KT H ip xs)(k:List Key){b:Af}{y:V}{u:Ac}(G:H b=some (.tup (k.map kV)))(F:cC y u):
  KT H (b0 ip k y) (storedH xs k b u):=by
 have e:(ip.any fun J=>decide (J.1=k))=(atKey xs k).isSome:=by
  rw[dW,(r.val k).isSome_eq,Gu]
 unfold b0 storedH;rw[e];by_cases q:(atKey xs k).isSome=true
 .rw[Iq q,Iq q];exact r.repl k F
 .rw[Ip q,Ip q];exact Cg r ⟨rfl,G,F⟩
theorem KT.keeps{H H':Hp}{ip:List (List Key×V)}{xs:List (List Key×Af×Ac)}(r:KT H ip xs)(ht:∀ b ys,H b=some (.tup ys)->H' b=some (.tup ys)):KT H' ip xs:=
 Paired.mapP r fun _ _ z=>⟨z.1,ht _ _ z.2.1,z.2.2⟩
section
variable{P:AE}{w:AW}{h:Bl}{a:Af}
theorem aHk{u:HO}(ok:HOk P w H h)(e:Rd H a u):cR P w H h a u:=e.ok ok
theorem qU{ip:List (Key×V)}(ok:HOk P w H h)(e:Rd H a (.dK ip)):ip.length<=sizeLine/\(a==sysModules)=false/\∃ vs,KV ip vs/\h.DictOf (cA P w) a vs:=
 show cR P w H h a (.dK ip) from aHk ok e
theorem aBZ{ip:List (Key×V)}(ok:HOk P w H h)(e:H a=some (.dK ip)):ip.length<=sizeLine/\(a==sysModules)=false/\∃ vs,KV ip vs/\h.DictOf (cA P w) a vs:=qU ok (.inl e)
theorem p9{ks:List Key}(ok:HOk P w H h)(e:H a=some (.tup (ks.map kV))):(tupleKind (cA P w)).is h ks a:=by
 obtain⟨_,its,r,o,h1,⟨h2,n,h3⟩,_⟩:=(show cR P w H h a (.tup (ks.map kV)) from ok a _ e)
 exact⟨o,its.toArray,n,h1,h2,h3,by simpa using vU r⟩
theorem tD{ip:List (List Key×V)}(ok:HOk P w H h)(e:Rd H a (.dT ip)):ip.length<=sizeLine/\(a==sysModules)=false/\
  ∃ xs,KT H ip xs/\h.DictOfH (tupleKind (cA P w)) a xs:=by
 obtain⟨z,y,xs,r,o,es,ep,h1,h2,h3,h4,h5⟩:=(show cR P w H h a (.dT ip) from aHk ok e)
 refine⟨z,y,xs,r,o,es,ep,h1,h2,h3,h4,fun x F=>?_,h5⟩;have all:∀{l:List (List Key×V)} {m:List (List Key×Af×Ac)},KT H l m->∀ x∈m,(tupleKind (cA P w)).is h x.1 x.2.1:=by
  intro l m q
  induction q with
  | nil=>intro x F;exact nomatch F
  | @cons p q ps O G t J=>
   intro x F;rcases An.mp F with e|F
   .subst e;exact p9 ok (by rw[<- G.1];exact G.2.1)
   .exact J x F
 exact all r x F
theorem aJd{ip:List (List Key×V)}(ok:HOk P w H h)(e:H a=some (.dT ip)):ip.length<=sizeLine/\(a==sysModules)=false/\
  ∃ xs,KT H ip xs/\h.DictOfH (tupleKind (cA P w)) a xs:=tD ok (.inl e)
end
def gH(H:Hp)(a:Af)(y:V)(r:Option V):Prop:=
 (∃ ip k,Rd H a (.dK ip)/\y=kV k/\r=bG ip k)\/∃ ip k b,Rd H a (.dT ip)/\y=.ref b/\H b=some (.tup (k.map kV))/\r=bG ip k
def iF(H:Hp)(a:Af)(y v:V)(H':Hp):Prop:=
 (∃ ip k,H a=some (.dK ip)/\y=kV k/\ip.length<sizeLine/\H'=upd H a (.dK (b0 ip k v)))\/
 ∃ ip k b,H a=some (.dT ip)/\y=.ref b/\H b=some (.tup (k.map kV))/\ip.length<sizeLine/\H'=upd H a (.dT (b0 ip k v))
theorem gH.k{H:Hp}{a:Af}{ip:List (Key×V)}{k:Key}(e:H a=some (.dK ip)):gH H a (kV k) (bG ip k):=.inl ⟨ip,k,.inl e,rfl,rfl⟩
theorem gH.t{H:Hp}{a b:Af}{ip:List (List Key×V)}{k:List Key}(e:H a=some (.dT ip))(F:H b=some (.tup (k.map kV))):gH H a (.ref b) (bG ip k):=.inr ⟨ip,k,b,.inl e,rfl,F,rfl⟩
theorem iF.k{H:Hp}{a:Af}{ip:List (Key×V)}{k:Key}{v:V}(e:H a=some (.dK ip))(hl:ip.length<sizeLine):iF H a (kV k) v (upd H a (.dK (b0 ip k v))):=.inl ⟨ip,k,e,rfl,hl,rfl⟩
theorem iF.t{H:Hp}{a b:Af}{ip:List (List Key×V)}{k:List Key}{v:V}(e:H a=some (.dT ip))(F:H b=some (.tup (k.map kV)))(hl:ip.length<sizeLine):
  iF H a (.ref b) v (upd H a (.dT (b0 ip k v))):=.inr ⟨ip,k,b,e,rfl,F,hl,rfl⟩
section
variable{a:Af}{y v:V}{u r:Ac}{o:Option V}
theorem Inv.big(I:Inv X im σ H s):sysModules<s.heap.objs.size:=by
 have h:mainGlobals<s.heap.objs.size:=(I.mod.glob.keeps I.bk).lt;exact G8 (by decide) h
theorem aDe{Q:Ac->Ae->Prop}(hu:A.units+1<cLine)(I:Inv X im σ H s)(g:gH H a y (some v))(G:cC y u)(h:∀ F s',Inv X im σ H s'->cC v F->Q F s'):
  wpAny (model X.prog X.w) A (getItem (.ref a) u) Q E s:=by
 rcases g with⟨ip,k,e,ey,l⟩|⟨ip,k,b,e,ey,eb,l⟩
 .subst ey;obtain⟨z,hd,vs,rel,dd⟩:=qU I.hok e;obtain⟨F,hw,rw'⟩:=lN.some_of (v:=v) (o:=valueAt vs k) (by rw[l];exact rel.val k);exact wpAny_getItem_of (nJ G) dd.mapOf hw (h F _ (I.tok _) rw')
 .subst ey;cases(show u=AG b from G);obtain⟨z,hd,xs,rel,dd⟩:=tD I.hok e;obtain⟨F,hw,rw'⟩:=lN.some_of (v:=v) (o:=(atKey xs k).map (·.2)) (by rw[l];exact rel.val k)
  obtain⟨p,hp,hp2⟩:=AU.mp hw;refine wpAny_getItem_heap (D8 hu) (p9 I.hok eb) dd hp ?_;rw[hp2];exact h F _ (I.tok _) rw'
theorem aKf{Q:Ac->Ae->Prop}(hu:A.units+1<cLine)(I:Inv X im σ H s)(g:gH H a y o)(F:cC y u)(h:∀ s',Inv X im σ H s'->Q (.bool o.isSome) s'):
  wpAny (model X.prog X.w) A (compareOp .In u (.ref a)) Q E s:=by
 rcases g with⟨ip,k,e,ey,l⟩|⟨ip,k,b,e,ey,eb,l⟩
 .subst ey;obtain⟨z,hd,vs,rel,dd⟩:=qU I.hok e;refine wpAny_in_of (nJ F) hd dd.mapOf ?_;rw[<- (rel.val k).isSome_eq,<- l];exact h _ (I.tok _)
 .subst ey;cases(show u=AG b from F);obtain⟨z,hd,xs,rel,dd⟩:=tD I.hok e;refine wpAny_in_heap (D8 hu) (p9 I.hok eb) hd dd ?_;have q:=(rel.val k).isSome_eq;rw[Gu]at q;rw[<- q,<- l];exact h _ (I.tok _)
theorem aGk{Q:Ac->Ae->Prop}(hu:A.units+1<cLine)(I:Inv X im σ H s)(g:gH H a y o)(F:cC y u)(h:∀ s',Inv X im σ H s'->Q (.bool (!o.isSome)) s'):
  wpAny (model X.prog X.w) A (compareOp .NotIn u (.ref a)) Q E s:=by
 rcases g with⟨ip,k,e,ey,l⟩|⟨ip,k,b,e,ey,eb,l⟩
 .subst ey;obtain⟨z,hd,vs,rel,dd⟩:=qU I.hok e;refine wpAny_notIn_of (nJ F) hd dd.mapOf ?_;rw[<- (rel.val k).isSome_eq,<- l];exact h _ (I.tok _)
 .subst ey;cases(show u=AG b from F);obtain⟨z,hd,xs,rel,dd⟩:=tD I.hok e;refine wpAny_notIn_heap (D8 hu) (p9 I.hok eb) hd dd ?_;have q:=(rel.val k).isSome_eq;rw[Gu]at q;rw[<- q,<- l];exact h _ (I.tok _)
theorem rQ{h':Bl}{t':Nat}{ob:HO}(I:Inv X im σ H s)(F:Mut (H a))(hs:Ez a s.heap h')(G:∃ q,h'.get? a=some q)(new:cR X.prog X.w (upd H a ob) h' a ob):
  Inv X im σ (upd H a ob) { s with heap:=h',toks:=t' }:=
 I.write (x:=a) (e:=a) F (.inl rfl) (fun b q J z=>(hs.2 b J).trans z) G new
theorem w9{P:AE}{w:AW}{H':Hp}{h':Bl}{ip:List (Key×V)}{vs:List (Key×Ac)}(z:ip.length<=sizeLine)(hd:(a==sysModules)=false)(rel:KV ip vs)(F:h'.DictOf (cA P w) a vs):
  cR P w H' h' a (.dK ip):=⟨z,hd,vs,rel,F⟩
theorem aDf{H':Hp}{Q:Unit->Ae->Prop}(hu:A.units+1<cLine)(I:Inv X im σ H s)(g:iF H a y v H')(J:cC y u)(O:cC v r)(h:∀ s',Inv X im σ H' s'->Q () s'):
  wpAny (model X.prog X.w) A (setItem (.ref a) u r) Q E s:=by
 rcases g with⟨ip,k,e,ey,l,eH⟩|⟨ip,k,b,e,ey,eb,l,eH⟩
 .subst ey eH;obtain⟨z,hd,vs,rel,dd⟩:=aBZ I.hok e;have hz:vs.length<=sizeLine:=by rw[<- rel.length];exact z
  have hl:(b0 ip k v).length<=sizeLine:=by have:=cJ ip k v;omega
  refine wpAny_setItem_pairs (hsz:=hz) (nJ J) dd fun h' F hs=>h _ ?_;have Y:∃ q,h'.get? a=some q:=let ⟨q,_,_,hq,_⟩:=F;⟨q,hq⟩
  exact rQ I (by rw[e];exact Dy) hs Y (w9 hl hd (rel.put k O) F)
 .subst ey eH;cases(show u=AG b from J);obtain⟨z,hd,xs,rel,dd⟩:=aJd I.hok e;have hz:xs.length<=sizeLine:=by rw[<- Bm rel];exact z
  have hl:(b0 ip k v).length<=sizeLine:=by have:=cJ ip k v;omega
  refine wpAny_setItem_heap (hsz:=hz) (D8 hu) (p9 I.hok eb) dd fun h' F hs=>h _ ?_;obtain⟨q,es,ep,hq,h2,h3,h4,_,h5⟩:=F;refine rQ I (by rw[e];exact Dy) hs ⟨q,hq⟩ ⟨hl,hd,_,(rel.put k eb O).keeps fun c ys G=>?_,q,es,ep,hq,h2,h3,h4,h5⟩;rw[aG (bS G e (fun z=>nomatch z))];exact G
end
section
variable{a:Af}{ip:List (Key×V)}{k:Key}{u:Ac}
theorem aJe{v:V}{more:List Ac}{Q:Ac->Ae->Prop}(I:Inv X im σ H s)(e:H a=some (.dK ip))(O:cC (kV k) u)(l:bG ip k=some v)(hm:more=[]\/∃ x,more=[x])
  (h:∀ J s',Inv X im σ (upd H a (.dK (bZ ip k))) s'->cC v J->Q J s'):wpAny (model X.prog X.w) A (call (.builtin "dict.pop") (.ref a::u::more)) Q E s:=by
 obtain⟨z,hd,vs,rel,dd⟩:=aBZ I.hok e;obtain⟨J,hw,rw'⟩:=lN.some_of (v:=v) (o:=valueAt vs k) (by rw[<- l];exact rel.val k);have Y:(keyPart u).isSome=true:=by
  cases k with
  | inl i=>obtain⟨t,q⟩:=(show∃ t,u=BS i t from O);subst q;rfl
  | inr x=>obtain⟨t,q⟩:=(show∃ t,u=Bz x t from O);subst q;rfl
 have ha:argsOk "dict.pop" ⟨.ref a::u::more,[]⟩:=by
  rcases hm with q|⟨x,q⟩
  .subst q;exact PySem.F.args_dict_pop_2 _ _
  .subst q;exact PySem.F.args_dict_pop_3 _ _ _
 refine Hn PySem.F.slot_dict_pop dd.typeIs PySem.F.entry_dict_pop ha (meets_dict_pop_there (cA X.prog X.w) a (nJ O) more hm Y)
  ⟨vs,J,dd,by rw[<- rel.length];exact z,hw,fun h' G hs=>h J _ ?_ rw'⟩
 have Z:∃ q,h'.get? a=some q:=let ⟨q,_,_,hq,_⟩:=G;⟨q,hq⟩
 exact rQ I (by rw[e];exact Dy) hs Z (w9 (Ay (sW ip k) z) hd (rel.drop k) G)
theorem aJf{Q:Ac->Ae->Prop}(I:Inv X im σ H s)(e:Rd H a (.dK ip))(h:∀ t s',Inv X im σ H s'->Q (.int ip.length t) s'):wpAny (model X.prog X.w) A (call (.builtin "len") [.ref a]) Q E s:=by
 obtain⟨z,hd,vs,rel,dd⟩:=qU I.hok e;refine call_len_dict hd dd (by rw[<- rel.length];rw[Fs]at z;omega) ?_;rw[<- rel.length];exact h _ _ (I.tok _)
end
def aH1(i:Bi):Prop:=∀ ov iv,subscripted i false ov iv=operate [ov,iv] (getItem ov iv)
theorem aB0{prog:AE}{w:AW}{A:AV}{E:Ac->Ae->Prop}{s:Ae}{env:Env}{value F:Bi}{pos:Pos}{T id:String}{Q:Ac->Ae->Prop}
  (hl:typeLookup (.type T) "__getitem__"=pure (some (.builtin id))) (hs:aH1 F)
  (h:wpAny (model prog w) A (eval value env) (fun o Y=>wpAny (model prog w) A (eval F env) (fun i G=>G.TypeIs o T/\wpAny (model prog w) A (getItem o i) Q E G) E Y) E s):
  wpAny (model prog w) A (eval (.Subscript value F pos) env) Q E s:=by
 refine Subscript_ (CI h (fun o Y Z=>CI Z (fun i G J=>?_) fun _ _ x=>x) fun _ _ x=>x);obtain⟨hT,J⟩:=J;unfold subscriptTail;refine Ab ?_;rw[getitemInPython_of_ne hT.not_modules];refine Ab (wpAny_specialOf hT hl ?_);have fin:wpAny (model prog w) A (subscripted F false o i) (fun r O=>wpAny (model prog w) A (letTemporaryGo value o r >>= fun _=>pure r) Q E O) E G:=by
  rw[hs o i];exact wpAny_operating (CI J (fun r O h₃=>Ab (wpAny_letTemporaryGo (Ag h₃))) fun _ _ x=>x)
 first
  | exact Ag (Ab fin)
  | exact Ab (Ag (Ab fin))
  | exact Ab fin
theorem yX{X:Cx}{im:List (Af×Obj)}{σ:St}{H:Hp}{s:Ae}{a:Af}{y:V}{o:Option V}(I:Inv X im σ H s)(g:gH H a y o):s.TypeIs (.ref a) "dict":=by
 rcases g with⟨ip,k,e,_,_⟩|⟨ip,k,b,e,_,_,_⟩
 .obtain⟨_,_,vs,_,dd⟩:=qU I.hok e;exact dd.typeIs
 .obtain⟨_,_,xs,_,dd⟩:=tD I.hok e;exact dd.typeIs
def aJg(td ty:TE):TE:=fun σ H Q=>td σ H fun x H1=>ty σ H1 fun y H2=>∃ a v,x=.ref a/\gH H2 a y (some v)/\Q v H2
def aKg(ty td:TE):TE:=fun σ H Q=>ty σ H fun y H1=>td σ H1 fun x H2=>∃ a o,x=.ref a/\gH H2 a y o/\Q (.bl o.isSome) H2
def aGl(ty td:TE):TE:=fun σ H Q=>ty σ H fun y H1=>td σ H1 fun x H2=>∃ a o,x=.ref a/\gH H2 a y o/\Q (.bl (!o.isSome)) H2
def aJh(td ty tv:TE):TS:=fun D σ H=>tv σ H fun v H1=>td σ H1 fun x H2=>ty σ H2 fun y H3=>∃ a H4,x=.ref a/\iF H3 a y v H4/\D.nx σ H4
section
variable{o i value:Bi}{jl tpos:Pos}{td ty tv:TE}
theorem bQ(hu:X.A.units+1<cLine)(ho:PE X o td)(hi:PE X i ty)(hs:aH1 i):PE X (.Subscript o i pos) (aJg td ty):=by
 constructor;intro im s σ H Q I h;refine aB0 PySem.F.slot_dict_getitem.lookup hs (thn (ho im s σ H _ I h) fun u s1 ⟨x,H1,Z,rx,O⟩=>thn (hi im s1 σ H1 _ Z O) fun iv s2 ⟨y,H2,J,ry,a,v,ex,g,Y⟩=>?_);subst ex;obtain rfl:u=AG a:=rx;exact⟨yX J g,aDe hu J g ry fun w' s3 I3 G=>⟨v,H2,I3,G,Y⟩⟩
theorem qA(hu:X.A.units+1<cLine)(hi:PE X i ty)(ho:PE X o td):PC X .In i o (aKg ty td):=by
 constructor;intro im s σ H Q I h;refine thn (hi im s σ H _ I h) fun iv s1 ⟨y,H1,Y,Z,G⟩=>thn (ho im s1 σ H1 _ Y G) fun u s2 ⟨x,H2,F,rx,a,J,ex,g,O⟩=>?_;subst ex;obtain rfl:u=AG a:=rx;exact aKf hu F g Z fun s3 I3=>⟨.bl J.isSome,H2,I3,rfl,O⟩
theorem mZ(hu:X.A.units+1<cLine)(hi:PE X i ty)(ho:PE X o td):PC X .NotIn i o (aGl ty td):=by
 constructor;intro im s σ H Q I h;refine thn (hi im s σ H _ I h) fun iv s1 ⟨y,H1,Y,Z,G⟩=>thn (ho im s1 σ H1 _ Y G) fun u s2 ⟨x,H2,F,rx,a,J,ex,g,O⟩=>?_;subst ex;obtain rfl:u=AG a:=rx;exact aGk hu F g Z fun s3 I3=>⟨.bl (!J.isSome),H2,I3,rfl,O⟩
theorem dM(hu:X.A.units+1<cLine)(ho:PE X o td)(hi:PE X i ty)(hv:PE X value tv)(hs:swapsWith value (some (.Subscript o i jl)) pos.line X.env=pure false):
  PS X (.Assign [.Subscript o i jl] value pos) (aJh td ty tv):=by
 constructor;intro im s σ H D I h;refine wpAny_Assign_Subscript (thn (hv im s σ H _ I h) fun r s1 ⟨v,H1,O,rv,G⟩=>thn (ho im s1 σ H1 _ O G) fun u s2 ⟨x,H2,F,Z,J⟩=>thn (hi im s2 σ H2 _ F J) fun iv s3 ⟨y,H3,I3,Y,a,H4,ex,g,q3⟩=>?_) hs;subst ex;obtain rfl:u=AG a:=Z;exact aDf hu I3 g Y rv fun s4 I4=>⟨σ,H4,I4,q3⟩
end
theorem yY{P:AE}{w:AW}{H:Hp}(h:Bl)(F:sysModules<h.objs.size):cR P w H (h.push { cls:=.type "dict",data:=.dict #[] }) h.objs.size (.dK []):=
 ⟨A8 _,beq_eq_false_iff_ne.mpr (Cy (AI F)),[],.nil,Heap.DictOf.new h⟩
theorem aEn{P:AE}{w:AW}{H:Hp}(h:Bl)(F:sysModules<h.objs.size):cR P w H (h.push { cls:=.type "dict",data:=.dict #[] }) h.objs.size (.dT []):=
 ⟨A8 _,beq_eq_false_iff_ne.mpr (Cy (AI F)),[],.nil,_,#[],0,AH _ rfl,⟨rfl,rfl,rfl⟩,rfl,rfl,EL⟩
def aH2:TE:=fun _ H Q=>∀ p,H p=none->Q (.ref p) (upd H p (.dK []))
def aH3:TE:=fun _ H Q=>∀ p,H p=none->Q (.ref p) (upd H p (.dT []))
theorem jX:PE X (.Dict [] [] pos) aH2:=⟨fun im s σ H Q I h=>
 wpAny_Dict_empty ⟨.ref s.heap.objs.size,_,I.laid (a:=s.heap.objs.size) (o:=.dK []) (t':=s.toks) (fun _ _ q=>Ak _ q) (Aj _) (yY s.heap I.big),rfl,h _ (I.hok.fresh (Aj _))⟩⟩
theorem aEo:PE X (.Dict [] [] pos) aH3:=⟨fun im s σ H Q I h=>
 wpAny_Dict_empty ⟨.ref s.heap.objs.size,_,I.laid (a:=s.heap.objs.size) (o:=.dT []) (t':=s.toks) (fun _ _ q=>Ak _ q) (Aj _) (aEn s.heap I.big),rfl,h _ (I.hok.fresh (Aj _))⟩⟩
def aBg:List (TE×TE)->St->Hp->(List (V×V)->Hp->Prop)->Prop
 | [],_,H,Q=>Q [] H
 | (tk,tv)::r,σ,H,Q=>tk σ H fun x H1=>tv σ H1 fun y H2=>aBg r σ H2 fun ps H3=>Q ((x,y)::ps) H3
abbrev VV:List (V×V)->List (Ac×Ac)->Prop:=BI fun p q=>cC p.1 q.1/\cC p.2 q.2
def PPs(X:Cx)(pos:Pos)(keys:List (Option Bi))(values:List Bi)(trs:List (TE×TE)):Prop:=
 ∀(im:List (Af×Obj)) (s:Ae) (σ:St) (H:Hp) (Q:List (V×V)->Hp->Prop),Inv X im σ H s->aBg trs σ H Q->
  wpAny (model X.prog X.w) X.A (evalPairs (pairTrees keys values X.env pos)) (fun vs s'=>∃ ps H',Inv X im σ H' s'/\VV ps vs/\Q ps H') X.xe s
theorem xA{X:Cx}{pos:Pos}:PPs X pos [] [] []:=fun im s σ H Q I h=>pairTrees_nil_walk ⟨[],H,I,.nil,h⟩
theorem d8{X:Cx}{pos:Pos}{k v:Bi}{ks:List (Option Bi)}{vs:List Bi}{tk tv:TE}{F:List (TE×TE)}(hk:PE X k tk)(hv:PE X v tv)(O:PPs X pos ks vs F):
  PPs X pos (some k::ks) (v::vs) ((tk,tv)::F):=fun im s σ H Q I h=>
 pairTrees_cons_walk (thn (hk im s σ H _ I h) fun u s1 ⟨x,H1,I1,rx,Y⟩=>thn (hv im s1 σ H1 _ I1 Y) fun w2 s2 ⟨y,H2,G,ry,Z⟩=>
  thn (O im s2 σ H2 _ G Z) fun ws s3 ⟨ps,J,I3,rel,q3⟩=>⟨(x,y)::ps,J,I3,.cons ⟨rx,ry⟩ rel,q3⟩)
def cX(ip more:List (Key×V)):List (Key×V):=more.foldl (fun acc kv=>b0 acc kv.1 kv.2) ip
theorem KV.merge:∀{more:List (Key×V)}{rs:List (Key×Ac)}{ip:List (Key×V)}{vs:List (Key×Ac)},KV more rs->KV ip vs->KV (cX ip more) (merged vs rs):=by
 intro more rs ip vs r;unfold KV at r
 induction r generalizing ip vs with
 | nil=>intro q;exact q
 | @cons p q ps J h t G=>
  intro F;have e:KV (b0 ip p.1 p.2) (stored vs q.1 q.2):=by
   have:=F.put p.1 h.2;rw[<- h.1];exact this
  exact G e
theorem nL:∀(more ip:List (Key×V)),(cX ip more).length<=ip.length+more.length
 | [],ip=>by show ip.length<=ip.length+0;omega
 | p::r,ip=>by
  have h1:=nL r (b0 ip p.1 p.2);have h2:=cJ ip p.1 p.2;show(cX (b0 ip p.1 p.2) r).length<=_;rw[AR];omega
theorem tE{P:AE}{w:AW}:∀{ip:List (Key×V)}{ws:List (Ac×Ac)},VV (ip.map fun F=>(kV F.1,F.2)) ws->∃ rs,Carries (cA P w) ws rs/\KV ip rs
 | [],_,r=>by rw[Dh]at r;cases r;exact⟨[],Dy,.nil⟩
 | p::ip,_,r=>by
  rw[Aq]at r;cases r with
  | @cons a b as bs h t=>
   obtain⟨rs,c,q⟩:=tE (P:=P) (w:=w) t;obtain⟨b1,b2⟩:=b;exact⟨(p.1,b2)::rs,⟨nJ h.1,rfl,c⟩,.cons ⟨rfl,h.2⟩ q⟩
def aJi(trs:List (TE×TE)):TE:=fun σ H Q=>∀ p,H p=none->aBg trs σ (upd H p (.dK [])) fun ps H2=>H2 p=some (.dK [])/\∃ ip:List (Key×V),ps=ip.map (fun kv=>(kV kv.1,kv.2))/\ip.length<=15/\Q (.ref p) (upd H2 p (.dK (cX [] ip)))
theorem xB{X:Cx}{pos:Pos}{F:List (Option Bi)}{G:List Bi}{Y:List (TE×TE)}(h:PPs X pos F G Y)(O:F.all (·.isSome)=true)(hl:F.length=G.length)(h0:F≠[])
  (Z:F.length<=15):PE X (.Dict F G pos) (aJi Y):=by
 constructor;intro im s σ H Q I q;have hn:=I.hok.fresh (Aj s.heap.objs.size);have I1:=I.laid (a:=s.heap.objs.size) (o:=.dK []) (h':=s.heap.push { cls:=.type "dict",data:=.dict #[] }) (t':=s.toks) (fun _ _ q=>Ak _ q) (Aj _) (yY s.heap I.big);refine wpAny_Dict_walk (knd:=cA X.prog X.w) O hl h0 Z (thn (h im _ σ _ _ I1 (q _ hn)) fun ws s2 ⟨ps,H2,I2,rel,e,ip,ep,lk,q2⟩=>?_);subst ep;obtain⟨rs,c,rk⟩:=tE (P:=X.prog) (w:=X.w) rel;obtain⟨z,hd,vs0,r0,dd⟩:=aBZ I2.hok e;cases r0;refine⟨rs,c,dd,fun h' J hs=>⟨.ref s.heap.objs.size,_,?_,rfl,q2⟩⟩;have hz:(cX [] ip).length<=sizeLine:=by
  have h1:=nL ip [];rw[Hk]at h1;rw[Fs];omega
 have he:∃ q,h'.get? s.heap.objs.size=some q:=let ⟨q,_,_,hq,_⟩:=J;⟨q,hq⟩
 exact rQ I2 (by rw[e];exact Dy) hs he (w9 hz hd (rk.merge .nil) J)
structure M1(X:Cx)(o:Bi)(m:Str)(jh:Pos)(e:Bi)(jb:Pos):Prop where
 base:attributeBase o m X.env (eval o X.env)=eval o X.env
 few:((backTo jb (starEach [e] X.env)).all (fun x=>!x.1)&&(backToKw jb (keywordEach [] X.env)).all (fun x=>x.1.isSome)
  && decide (([e]:List Bi).length+([]:List Ga).length+(if ([]:List Ga).isEmpty then 0 else 1)<30))=true
 line:(jh.endLine==jb.line)=true
 trees:backTo jb (starEach [e] X.env)=[(false,eval e X.env)]
structure M2(X:Cx)(o:Bi)(m:Str)(jh:Pos)(e f:Bi)(jb:Pos):Prop where
 base:attributeBase o m X.env (eval o X.env)=eval o X.env
 few:((backTo jb (starEach [e,f] X.env)).all (fun x=>!x.1)&&(backToKw jb (keywordEach [] X.env)).all (fun x=>x.1.isSome)
  && decide (([e,f]:List Bi).length+([]:List Ga).length+(if ([]:List Ga).isEmpty then 0 else 1)<30))=true
 line:(jh.endLine==jb.line)=true
 trees:backTo jb (starEach [e,f] X.env)=[(false,eval e X.env),(false,eval f X.env)]
def IsD(H:Hp)(a:Af):Prop:=(∃ ip,Rd H a (.dK ip))\/∃ ip,Rd H a (.dT ip)
theorem aBh{X:Cx}{im:List (Af×Obj)}{σ:St}{H:Hp}{s:Ae}{a:Af}(I:Inv X im σ H s)(d:IsD H a):
  s.TypeIs (.ref a) "dict"/\(∀ b,AG a=.ref b->∃ ob,s.heap.get? b=some ob/\ob.dict=none)/\(a==sysModules)=false:=by
 rcases d with⟨ip,e⟩|⟨ip,e⟩
 .obtain⟨_,hd,vs,_,dd⟩:=qU I.hok e;refine⟨dd.typeIs,fun b q=>?_,hd⟩;cases q;obtain⟨ob,_,_,h1,h2,_⟩:=dd;exact⟨ob,h1,h2.2.1⟩
 .obtain⟨_,hd,xs,_,dd⟩:=tD I.hok e;refine⟨dd.typeIs,fun b q=>?_,hd⟩;cases q;obtain⟨ob,_,_,h1,h2,_⟩:=dd;exact⟨ob,h1,h2.2.1⟩
section
variable{a:Af}{y d:V}{u r:Ac}{o:Option V}
theorem aH4{Q:Ac->Ae->Prop}(hu:A.units+1<cLine)(I:Inv X im σ H s)(g:gH H a y o)(G:cC y u)(rd:cC d r)(h:∀ J s',Inv X im σ H s'->cC (o.getD d) J->Q J s'):
  wpAny (model X.prog X.w) A (call (.builtin "dict.get") [.ref a,u,r]) Q E s:=by
 rcases g with⟨ip,k,e,ey,l⟩|⟨ip,k,b,e,ey,eb,l⟩
 .subst ey;obtain⟨z,hd,vs,rel,dd⟩:=qU I.hok e;refine Hn Fl dd.typeIs PySem.F.entry_dict_get (PySem.F.args_dict_get_3 _ _ _) (meets_dict_get_default (cA X.prog X.w) a (nJ G) hd r) ⟨_,dd.mapOf,h _ _ (I.tok _) ?_⟩;rw[l];exact(rel.val k).getD rd
 .subst ey;cases(show u=AG b from G);obtain⟨z,hd,xs,rel,dd⟩:=tD I.hok e;refine Hn Fl dd.typeIs PySem.F.entry_dict_get (PySem.F.args_dict_get_3 _ _ _) (meetsH_dict_get_default (tupleKind (cA X.prog X.w)) a b hd r) ⟨D8 hu,k,xs,p9 I.hok eb,dd,h _ _ (I.tok _) ?_⟩;rw[l];exact(rel.val k).getD rd
end
def aH5(td ty tx:TE):TE:=fun σ H Q=>td σ H fun x H1=>∃ a,x=.ref a/\IsD H1 a/\ty σ H1 fun y H2=>tx σ H2 fun z H3=>∃ o,gH H3 a y o/\Q (o.getD z) H3
def aH6(td ty:TE):TE:=fun σ H Q=>td σ H fun x H1=>∃ a,x=.ref a/\IsD H1 a/\ty σ H1 fun y H2=>∃ ip k v,H2 a=some (.dK ip)/\y=kV k/\bG ip k=some v/\Q v (upd H2 a (.dK (bZ ip k)))
section
variable{o f:Bi}{jh jb:Pos}{td ty tx:TE}
theorem aEp(hu:X.A.units+1<cLine)(ho:PE X o td)(he:PE X e ty)(hf:PE X f tx)(m:M2 X o "get" jh e f jb):PE X (.Call (.Attribute o "get" jh) [e,f] [] jb) (aH5 td ty tx):=by
 constructor;intro im s σ H Q I h;refine wpAny_Call_method m.base m.few m.line EZ Fl PySem.F.type_dict_get (thn (ho im s σ H _ I h) fun u s1 ⟨x,H1,J,rx,a,ex,d,q1⟩=>?_);subst ex;obtain rfl:u=AG a:=rx;obtain⟨t1,t2,_⟩:=aBh J d;refine⟨t1,t2,?_⟩;rw[m.trees];refine Df rfl (FX (EG (thn (he im s1 σ H1 _ J q1) fun iv s2 ⟨y,H2,O,ry,q2⟩=>
  EG (thn (hf im s2 σ H2 _ O q2) fun fv s3 ⟨z,Z,I3,Y,ov,g,q3⟩=>GK ?_))))
 exact aH4 hu I3 g ry Y fun w' s4 I4 G=>⟨_,Z,I4,G,q3⟩
theorem oP(ho:PE X o td)(he:PE X e ty)(m:M1 X o "pop" jh e jb):PE X (.Call (.Attribute o "pop" jh) [e] [] jb) (aH6 td ty):=by
 constructor;intro im s σ H Q I h;refine wpAny_Call_method m.base m.few m.line EZ PySem.F.slot_dict_pop PySem.F.type_dict_pop (thn (ho im s σ H _ I h) fun u s1 ⟨x,H1,J,rx,a,ex,d,Z⟩=>?_);subst ex;obtain rfl:u=AG a:=rx;obtain⟨t1,t2,_⟩:=aBh J d;refine⟨t1,t2,?_⟩;rw[m.trees];refine Df rfl (FX (EG (thn (he im s1 σ H1 _ J Z) fun iv s2 ⟨y,H2,O,ry,ip,k,v,ea,Y,l,q2⟩=>GK ?_)));subst Y;exact aJe O ea ry l (.inl rfl) fun w' s3 I3 G=>⟨v,_,I3,G,q2⟩
end
section
variable{a:Af}{ip:List (Key×V)}
end
section
variable{a:Af}{y:V}{u:Ac}
end
end L2
namespace Att
open PySem PySem.W PySem.Calls PyProof.Rows
theorem rJ{P:Params}{h:Bl}:∀(ns:List Int) (vs:List Ac),WellAll P h vs (ns.map WData.int)->Ht vs ns:=by
 intro ns
 induction ns with
 | nil=>
  intro vs w;rw[Dh]at w;cases w;exact .nil
 | cons n ns F=>
  intro vs w;rw[Aq]at w;cases w with
  | cons a b=>
   cases a;exact .cons _ _ (F _ b)
theorem aDg{l:OpenLaw}{n:Nat}(hn:l.most=some n){P:Params}{h:Bl}{args:List WData}{G:List Ac}
  (F:l.row.toRowW.claim.pre args=true) (aa:WellAll P h G args):
  ∃ a vs ns,G=[AG a]/\args=[WData.list (ns.map WData.int)]/\h.get? a=some { cls:=.type "list",data:=.seq vs.toArray }/\Ht vs ns/\ns.length<=n:=by
 have ab:WShape.hasAll [] args [.list .int]=true:=(pre_splitW F).1;have hc:l.pre.holds [] { args:=args }=true:=(pre_splitW F).2;obtain⟨d,r,rfl,h1,h2⟩:=hasAllW_cons ab;obtain rfl:=hasAllW_nil h2;obtain⟨xs,rfl,h3⟩:=hasW_list h1;obtain⟨ns,rfl⟩:=items_int h3;have O:ns.length<=n:=by
  unfold OpenLaw.pre at hc;have Y:(WTm.not (.lt (.lit (.int (n:Int))) (.len (.arg 0)))).holds [] { args:=[.list (ns.map .int)] }=true:=by
   have Y:=(holds_andW hc).1;rw[hn]at Y;exact Y
  have Z:=condW_of Y (w_not (w_lt w_lit (w_len_list (w_arg rfl))));rw[Aa]at Z;refine CT fun q=>?_;have q':(n:Int)<((ns.length:Nat):Int):=by omega
  first
   | (rw[Ir q']at Z;exact absurd Z (by decide))
   | (simp at Z;omega)
 cases aa with
 | cons w1 w2=>
  cases w2;cases w1 with
  | list ho J=>exact⟨_,_,ns,rfl,rfl,ho,rJ ns _ J,O⟩
theorem aDh(l:OpenLaw)(args:List WData):l.row.toRowW.claim.post args (.bool true) args=true:=
 postW_of (r:=l.row.toRowW) (X:=(true==true))
  (show WShape.has [] (.bool true) .bool=true by first|rfl|decide|simp[WShape.has,WShape.arms,WShape.armsAll])
  (show(WTm.eq .res (.lit (.bool true))).value [] { args:=args,res:=some (.bool true),after:=args }=some (.bool (true==true)) from w_eq_bool (w_res rfl) w_lit) rfl
theorem attach_call{l:OpenLaw}{n:Nat}{q:AE}{F:List Str}{XP:(Str->Option Ac)->Bl->Prop}{YP:AW->Bl->Prop}{d:DefRec}
  (hn:l.most=some n) (ab:d.params.defaults=[])
  (call:∀(w:AW) (s₀ J:Ae) (mg mb:Str->Option Ac) (Z:Af) (o:Obj) (pm cd O:Ac) (a:Af) (vs:List Ac) (ns:List Int),
   Ground q F [] XP w s₀ mg mb J.heap->YP w J.heap->
   J.heap.get? Z=some o->o.data=.func (docDef d.name d.params d.body d.scope pm cd O)->J.heap.CodeRec cd d.name->mg d.name=some (.ref Z)->
   J.heap.get? a=some { cls:=.type "list",data:=.seq vs.toArray }->Ht vs ns->ns.length<=n->J.gens=#[]->
   codeAny (model l.prog w) callerA (.call (.ref Z) ⟨[.ref a],[]⟩) (fun r s'=>r=.ok (.ret (.bool true))/\OldK J.heap s'.heap/\s'.os=J.os/\E8 s'.gens) J):
  WalkO q F XP YP l.row.toRowW d [] (fun f vs=>HY f vs):=by
 intro w s₀ J mg mb G Y Z o pm cd O dV kV ho hd ae hD af hg ak aj as aa ai am ad ao;obtain rfl:dV=.none:=Dflts.none hD ab;obtain rfl:kV=.none:=Dflts.noKw hD;obtain⟨a,vs,ns,rfl,rfl,hobj,hints,hlen⟩:=aDg hn aa ad;refine enter_call (Eh (call w s₀ J mg mb Z o pm cd O a vs ns G Y ho (fd_plain hd) ae af hobj hints hlen hg) fun r s' hq=>?_);obtain⟨rfl,h2,h3,h4⟩:=hq;exact⟨.inl ⟨.bool true,.bool true,[],rfl,fun _=>rfl,.bool true,aDh l _,fun _=>⟨B6,fun _ hm=>(nomatch hm)⟩⟩,h2,h3,h4⟩
section
variable{prog:AE}{w:AW}{A:AV}{E:Ac->Ae->Prop}{s:Ae}{K:Frag}
end
end Att
namespace L2
open PySem PySem.Spec PyProof.Rows
variable{P prog:AE}{w:AW}{K:Ah}{mg:Str->Option Ac}{base:Bl}{X:Cx}{im:List (Af×Obj)}{σ:St}{H:Hp}{s:Ae}{A:AV}{E:Ac->Ae->Prop}{e:Bi}{te:TE}{pos:Pos}{es:Array (Int×Ac)}{f:Af}{qual:Str}{scope:De}{cd:Ac}{outer:List Env}
theorem vV:∀{vs:List Ac}{ns:List Int},Ht vs ns->bU (ns.map V.int) vs
 | _,_,.nil=>.nil
 | _,_,.cons n t h=>.cons ⟨t,rfl⟩ (vV h)
def aKJ(H:Hp):Prop:=∀ b,H b=none\/∃ o xs,H b=some (.frz o (.lst xs))
abbrev KOf{K:Ah}{h:Bl}(_:K.In h):Ah:=K
def aGm(s:Cw)(j:Nat):Cw:=match s with
 | .ClassDef _ _ _ body _ _ _ _ _ _ _=>body.getD j (.Pass ⟨0,0,0,0⟩)
 | _=>.Pass ⟨0,0,0,0⟩
def fV(s:Cw):Fd:=match s with
 | .FunctionDef _ a _ _ _ _ _ _ _ _=>a
 | _=>{ posonlyargs:=[],args:=[],vararg:=none,kwonlyargs:=[],kw_defaults:=[],kwarg:=none,defaults:=[] }
def eI(s:Cw):List Cw:=match s with
 | .FunctionDef _ _ b _ _ _ _ _ _ _=>b
 | _=>[]
def aQ(s:Cw):De:=match s with
 | .FunctionDef _ _ _ _ _ _ sc _ _ _=>sc
 | _=>{ kind:=.function,names:=[],isGenerator:=false,isCoroutine:=false }
abbrev CX0:CXT:=fun _ _ _ _ _ _=>False
abbrev E0:XK:=fun _ _ _=>False
theorem dU{X:Cx}:sO CX0 X E0:=fun _ _ _ _ _ _ _ h=>h.elim
structure Fun(K:Ah)(x qual:Str)(st:Cw)(f:Af)(fd:Be):Prop where
 ex:∃(oc:Ac) (od:Option Af) (kV doc pm:Ac) (an:Option Af) (cdv ct:Ac) (osl:Array (Option Ac)),
  fd=Cc x qual (fV st) (eI st) (aQ st) .none kV doc pm an cdv ct/\K.lookup f=some ⟨oc,od,.func fd,osl⟩/\CC K cdv qual=true
 kp:A4 K (.ref f)=true
theorem Fun.ok{x qual:Str}{st:Cw}{f:Af}{fd:Be}{N ps:List Str}{k:Nat}{sp:Sp}(F:Fun K x qual st f fd)(S:cB N ps (aQ st))(len:∀ vs H Q E,sp vs H Q E->vs.length=ps.length)
  (J:∀(G:Ac) (A:AV) (outer:List Env) (s:Ae) (H:Hp) (vs:List V) (Q:VK) (E:XK),dC k (A.deeper (envOfC qual (aQ st) s.heap.objs.size f G))->sp vs H Q E->
   ∃ t,PSs (aA7 CX0 P w K mg base N qual (aQ st) f G A outer s H E).nox (eI st) t/\t { nx:=fun _ H'=>Q .non H',rt:=Q } (start N vs) H):cW P w K mg base CX0 (k+1) f fd ps sp:=by
 obtain⟨oc,od,kV,doc,pm,an,G,ct,osl,rfl,lk,hcd⟩:=F.ex;refine aHi lk hcd S len fun A outer s H vs Q E Y O=>?_;obtain⟨t,h,q⟩:=J G A outer s H vs Q E Y O;exact⟨t,h.nox,q⟩
theorem Fun.binds{x qual:Str}{st:Cw}{f:Af}{fd:Be}{ps:List Str}(F:Fun K x qual st f fd)
  (h:∀(kV J pm:Ac) (Y:Option Af) (G ct:Ac) (O:List Ac),O.length=ps.length->bindArgs (Cc x qual (fV st) (eI st) (aQ st) .none kV J pm Y G ct) ⟨O,[]⟩=pure (ps.zip O)):fH K fd ps []:=by
 obtain⟨oc,od,kV,J,pm,Y,G,ct,osl,rfl,lk,hcd⟩:=F.ex;exact .all (h kV J pm Y G ct)
theorem nX{x qual:Str}{st:Cw}{f:Af}{Y:Ac}{od O:Option Af}{J:Array (Option Ac)}{kV G pm F ct:Ac}(l:K.lookup f=some ⟨Y,od,.func (Cc x qual (fV st) (eI st) (aQ st) .none kV G pm O F ct),J⟩)
  (c:CC K F qual=true) (k:A4 K (.ref f)=true):Fun K x qual st f (Cc x qual (fV st) (eI st) (aQ st) .none kV G pm O F ct):=⟨⟨Y,od,kV,G,pm,O,F,ct,J,rfl,l,c⟩,k⟩
theorem fS{A:AV}{k:Nat}(F:dC k A):A.units+1<cLine:=CW (Nat.add_le_add_left (by decide:1<=64) _) F.units
theorem c5{n:Nat}(h:n<=1000):n<sizeLine:=CW h (by decide)
theorem pv(i:Nat){x:Str}{pos:Pos}(hN:X.N[i]?=some x:=by rfl)(hv:Vis X.env.scope x:=by first|exact Az rfl|exact DT (Az rfl)|exact DT (DT rfl))(hd:(x==("__debug__":Str))=false:=by decide)
  (F:(x==("__classdict__":Str))=false:=by decide):PE X (.Name x pos) (aIS i):=aHM hN hv hd F
theorem nE{A B:Prop}(h:B):if false=true then A else B:=by
 rw[Ip Am];exact h
theorem gI{A B:Prop}(h:A):if true=true then A else B:=by
 rw[Iq rfl];exact h
theorem dB{c A B:Prop}[Decidable c](h1:c->A)(h2:¬ c->B):if c then A else B:=by
 by_cases h:c
 .rw[Iq h];exact h1 h
 .rw[Ip h];exact h2 h
def b8(H H':Hp):Prop:=∀ b o,H b=some o->H' b=some o
theorem b8.refl(H:Hp):b8 H H:=fun _ _ h=>h
theorem b8.trans{H H1 H2:Hp}(a:b8 H H1)(b:b8 H1 H2):b8 H H2:=fun c o h=>b c o (a c o h)
theorem b8.free{H H':Hp}(e:b8 H H'){l:Af}(h:H' l=Option.none):H l=Option.none:=by
 cases q:H l with
 | none=>rfl
 | some o=>
  rw[e l o q]at h;cases h
theorem b8.seq{K:Ah}{H H':Hp}{a:Af}{xs:List V}(e:b8 H H')(h:SqL K H a xs):SqL K H' a xs:=by
 rcases h with(h|⟨o,h⟩)|h
 .exact .inl (.inl (e _ _ h))
 .exact .inl (.inr ⟨o,e _ _ h⟩)
 .exact .inr h
inductive nN(xs:List V)(H:Hp)(Q:VK):Prop
 | mk (a:_) (ip:_) (q0:xs=[V.ref a]) (q1:H a=some (.dK ip)) (q2:Q (.int ip.length) H):nN xs H Q
def yZ:List V->Hp->VK->Prop:=fun xs H Q=>nN xs H Q
theorem aDi:fF X (.builtin "len") yZ:=by
 intro im s σ H xs G Q I r h;obtain⟨a,ip,rfl,ha,q⟩:=h;obtain⟨u,rfl,ru⟩:=fG r;cases ru;exact aJf I (.inl ha) fun t s' F=>⟨.int ip.length,H,F,⟨t,rfl⟩,q⟩
section
variable{κ:Type}[DecidableEq κ]
theorem aEq{ip:List (κ×V)}{k:κ}(h:bG ip k=none):¬ k∈ip.map (·.1):=by
 intro m;obtain⟨p,hp,e⟩:=AL.mp m;have q:(ip.any fun F=>decide (F.1=k))=true:=BN.mpr ⟨p,hp,Ir e⟩;rw[dW,h]at q;exact absurd q (by simp)
theorem aB1:∀{l:List κ}{k:κ},l.Nodup->¬ k∈l->(l++[k]).Nodup
 | [],k,_,_=>by simp
 | a::r,k,h,F=>by
  obtain⟨h1,h2⟩:=A5.mp h;show(a::(r++[k])).Nodup;refine A5.mpr ⟨fun m=>?_,aB1 h2 fun m=>F (An.mpr (DT m))⟩;rcases AO.mp m with q|q
  .exact h1 q
  .exact F (An.mpr (Az (AK.mp q).symm))
theorem aGn{ip:List (κ×V)}{k:κ}(v:V)(hn:(ip.map (·.1)).Nodup)(h:bG ip k=none):((b0 ip k v).map (·.1)).Nodup:=by
 rw[hV v h,Ar];exact aB1 hn (aEq h)
theorem m4{p:κ×V}{r:List (κ×V)}{k:κ}(e:p.1=k):bZ (p::r) k=bZ r k:=by
 unfold bZ;rw[BW,Ip (by simp[e])]
theorem m5{p:κ×V}{r:List (κ×V)}{k:κ}(e:¬ p.1=k):bZ (p::r) k=p::bZ r k:=by
 unfold bZ;rw[BW,Iq (by simp[e])]
theorem aDj{ip:List (κ×V)}{k:κ}{p:κ×V}(h:p∈bZ ip k):p∈ip:=(BL.mp h).1
theorem jY:∀{ip:List (κ×V)}{k:κ},(ip.map (·.1)).Nodup->((bZ ip k).map (·.1)).Nodup
 | [],_,_=>EL
 | p::r,k,h=>by
  have h:(p.1::r.map (·.1)).Nodup:=h
  obtain⟨h1,h2⟩:=A5.mp h;by_cases e:p.1=k
  .rw[m4 e];exact jY h2
  .rw[m5 e];show(p.1::(bZ r k).map (·.1)).Nodup
   refine A5.mpr ⟨fun m=>h1 ?_,jY h2⟩;obtain⟨q,hq,eq⟩:=AL.mp m;exact AL.mpr ⟨q,aDj hq,eq⟩
end
theorem Inv.track{D:Af}{ob:HO}(I:Inv X im σ H s)(J:lH X im H D)(new:cR X.prog X.w (upd H D ob) s.heap D ob):Inv X im σ (upd H D ob) s:=by
 obtain⟨hn,hL,hfs,hex,hce,hpi⟩:=J;have F:∀ b u,H b=some u->b≠D:=fun b u e=>aH e hn;refine I.step (g':=s.gens) (t':=s.toks) (d':=s.drawn) (h':=s.heap) (H':=upd H D ob) (ch:=[D]) (fun b G=>?_) (fun b o _ _ _ e _=>e) (fun b o _ _ _ e _=>⟨o.slots,e⟩) (fun b o hc e n=>?_)
  (fun b o _ e=>⟨o,e⟩) (fun b xs e=>by rw[aG (F b _ e)];exact e) (fun b o u e=>by rw[aG (F b _ e)];exact e) (fun b ps e=>⟨#[],by rw[aG (F b _ e),e];simp⟩) (fun m hm=>hm) (fun b u e=>?_) I.bare
 .have e:b=D:=by simpa using G
  subst e;exact⟨hex,hL,hce,hpi⟩
 .rw[aG (fun z=>hc (by simp[z]))];exact n
 .by_cases G:b=D
  .subst G;rw[aA]at e;cases e;exact new
  .rw[aG G]at e;exact(I.hok b u e).stay (fun c v _ q=>q) (fun c q=>by rw[aG (F c _ q)];exact q) fun c xs q=>by rw[aG (F c _ q)];exact q
def iK(env:Env):List (Str×Ek)->List (Str×Af)->List (Str×Af)
 | [],cs=>cs
 | (n,k)::r,cs=>iK env r (if k=.free then(match env.cells.lookup n with|some c=>(n,c)::cs|none=>cs) else cs)
theorem tH{α β:Type}(f:α->β->Sem (ForInStep β))(g:α->β->β):∀(l:List α) (b:β),(∀ y∈l,∀ b,f y b=pure (.yield (g y b)))->(forIn l b f:Sem β)=pure (l.foldl (fun b y=>g y b) b)
 | [],b,_=>rfl
 | a::r,b,h=>by
  rw[Cf,h a Ap b];exact tH f g r (g a b) fun y F=>h y (Ao _ F)
def vW(env:Env)(y:Str×Ek)(cs:List (Str×Af)):List (Str×Af):=if y.2=.free then(match env.cells.lookup y.1 with|some c=>(y.1,c)::cs|none=>cs) else cs
theorem tI(env:Env):∀(l:List (Str×Ek)) (F:List (Str×Af)),l.foldl (fun b y=>vW env y b) F=iK env l F
 | [],F=>rfl
 | (n,k)::r,F=>by
  rw[Bh,tI env r];rfl
theorem oQ{scope:De}{env:Env}(h:∀ y∈scope.names,y.2=.free->∃ c,env.cells.lookup y.1=some c):closureFor scope env=pure (iK env scope.names []):=by
 simp only[closureFor];rw[tH _ (vW env) scope.names [] (fun y J b=>?_)]
 .rw[tI];rfl
 .obtain⟨n,k⟩:=y;by_cases F:k=.free
  .obtain⟨c,hc⟩:=h (n,k) J F;subst F;have e:cellOf env n=pure c:=by unfold cellOf;rw[hc]
   have G:vW env (n,Bo) b=(n,c)::b:=by unfold vW;rw[Iq rfl,hc]
   simp only[e,G];rfl
  .have e:(k==Bo)=false:=by simpa using F
   have G:vW env (n,k) b=b:=by unfold vW;rw[Ip F]
   simp only[e,G,CB,if_false]
theorem qB{env:Env}:∀(l:List (Str×Ek)) (F:List (Str×Af)),(∀ x c,F.lookup x=some c->env.cells.lookup x=some c)->∀ x c,(iK env l F).lookup x=some c->env.cells.lookup x=some c
 | [],F,h,x,c,e=>h x c e
 | (n,k)::r,F,h,x,c,e=>by
  unfold iK at e;refine qB r _ (fun x c e=>?_) x c e;by_cases J:k=.free
  .rw[Iq J]at e;cases hc:env.cells.lookup n with
   | none=>rw[hc]at e;exact h x c e
   | some d=>
    rw[hc]at e;by_cases G:x=n
    .subst G;simp at e;rw[<- e];exact hc
    .have:(x==n)=false:=by simpa using G
     rw[BM,this]at e;exact h x c e
  .rw[Ip J]at e;exact h x c e
theorem qC{env:Env}:∀(l:List (Str×Ek)) (F:List (Str×Af)) (x:Str),(∀ y∈l,y.2=.free->∃ c,env.cells.lookup y.1=some c)->((∃ c,F.lookup x=some c)\/(x,Bo)∈l)->∃ c,(iK env l F).lookup x=some c
 | [],F,x,_,h=>by
  rcases h with h|h
  .exact h
  .simp at h
 | (n,k)::r,F,x,hc,h=>by
  unfold iK;refine qC r _ x (fun y O=>hc y (Ao _ O)) ?_;rcases h with⟨c,h⟩|h
  .refine .inl ?_;split
   .split
    .rename_i d _;by_cases J:x=n
     .subst J;exact⟨d,by simp⟩
     .have:(x==n)=false:=by simpa using J
      exact⟨c,by rw[BM,this];exact h⟩
    .exact⟨c,h⟩
   .exact⟨c,h⟩
  .rcases An.mp h with h|h
   .cases h;obtain⟨d,hd⟩:=hc (n,Bo) Ap rfl;refine .inl ⟨d,?_⟩;rw[Iq rfl];have G:env.cells.lookup n=some d:=hd;rw[G];simp
   .exact .inr h
theorem tJ{env : Env} : ∀{names : List (Str×Ek)}{x : Str}, (∀ y∈names, y.2≠.cell) ->
    ((names.map fun(n, k) => if (k==Bo&&env.scope.kind==.function&&env.kindOf n==some .cell) then(n, Eb) else(n, k)).lookup x = some .cell \/
     (names.map fun(n, k) => if (k==Bo&&env.scope.kind==.function&&env.kindOf n==some .cell) then(n, Eb) else(n, k)).lookup x = some .free) -> names.lookup x = some .free
  | [], x, _, h => by simp at h
  | (n, k)::r, x, hc, h => by
    have O := @tJ env r x fun y Y => hc y (Ao _ Y);have J := hc (n, k) Ap;rw[Aq]at h;by_cases G : x = n
    . subst G
      rw[BM, beq_self_eq_true];simp only;by_cases F : (k==Bo&&env.scope.kind==.function&&env.kindOf x==some .cell) = true
      . have : (k==Bo) = true := by
          rw[BC, BC]at F;exact F.1.1
        simpa using this
      . simp only[Ip F, BM, beq_self_eq_true]at h
        rcases h with h|h
        . exact absurd (BD.inj h) J
        . exact h
    . have e : (x==n) = false := by simpa using G
      rw[BM, e];refine O ?_;by_cases F : (k==Bo&&env.scope.kind==.function&&env.kindOf n==some .cell) = true
      . simp only[Iq F, BM, e]at h
        exact h
      . simp only[Ip F, BM, e]at h
        exact h
theorem oR{env : Env} : ∀{names : List (Str×Ek)}{x : Str}, names.lookup x = some .free ->
    ((names.map fun(n, k) => if (k==Bo&&env.scope.kind==.function&&env.kindOf n==some .cell) then(n, Eb) else(n, k)).lookup x = some .cell \/
     (names.map fun(n, k) => if (k==Bo&&env.scope.kind==.function&&env.kindOf n==some .cell) then(n, Eb) else(n, k)).lookup x = some .free)
  | [], x, h => by simp at h
  | (n, k)::r, x, h => by
    have J := @oR env r x;rw[Aq];by_cases G : x = n
    . subst G
      rw[BM, beq_self_eq_true]at h;simp only at h;cases h;by_cases F : (Bo==Bo&&env.scope.kind==.function&&env.kindOf x==some .cell) = true
      . refine .inl ?_
        show Dz x ((if (Bo==Bo&&env.scope.kind==.function&&env.kindOf x==some .cell) = true then(x, Eb) else(x, Bo))::_) = _;rw[Iq F, BM, beq_self_eq_true]
      . refine .inr ?_
        show Dz x ((if (Bo==Bo&&env.scope.kind==.function&&env.kindOf x==some .cell) = true then(x, Eb) else(x, Bo))::_) = _;rw[Ip F, BM, beq_self_eq_true]
    . have e : (x==n) = false := by simpa using G
      rw[BM, e]at h;have := J h;by_cases F : (k==Bo&&env.scope.kind==.function&&env.kindOf n==some .cell) = true
      . simp only[Iq F, BM, e]
        exact this
      . simp only[Ip F, BM, e]
        exact this
def blk(X:Cx)(N:List Str)(scope:De)(cl:List (Str×Af))(s:Ae)(H:Hp)(fp:List Af)(im:List (Af×Obj))(C:Af):Cx where
 prog:=X.prog
 w:=X.w
 K:=X.K
 mg:=X.mg
 base:=X.base
 A:=X.A
 N:=N
 s₀:=s
 H₀:=H
 env:=compEnvC scope cl C X.env
 outer:=X.stack
 stack:=X.stack
 ex:=fp
 fn:=fun _=>false
 calm:=X.calm
 pn:=X.pn++im
 xe:=fun _ _=>False
def aHl(N:List Str)(src:List (Option Nat))(scope:De)(oN:List Str):Bool:=
 (N.zip src).all fun p=>match p.2 with|none=>true|some j=>(oN[j]?==some p.1)&&(scope.names.lookup p.1==some .free)
structure y0(N:List Str)(src:List (Option Nat))(scope osc:De)(oN:List Str):Prop where
 kind:scope.kind=.function
 nocell:∀ y∈scope.names,y.2≠.cell
 names:∀ y∈scope.names,y.2=.local->scope.names.lookup y.1=some .local
 fr:∀ y∈scope.names,y.2=.free->osc.names.lookup y.1=some .cell\/osc.names.lookup y.1=some .free
 len:src.length=N.length
 srcs:aHl N src scope oN=true
def sub(src:List (Option Nat))(σ:St):St:=src.map fun o=>match o with|none=>none|some j=>(σ[j]?).getD none
theorem aEr{N:List Str}{src:List (Option Nat)}{scope:De}{oN:List Str}(h:aHl N src scope oN=true){i j:Nat}{x:Str}(h1:N[i]?=some x)(h2:src[i]?=some (some j)):oN[j]?=some x/\scope.names.lookup x=some .free:=by
 have hm:(x,some j)∈N.zip src:=by
  refine AQ (i:=i) ?_;rw[List.getElem?_zip_eq_some];exact⟨h1,h2⟩
 have:=A7.mp h _ hm;simp only[BC,beq_iff_eq]at this;exact this
theorem aH7{src:List (Option Nat)}{σ:St}{i:Nat}{v:V}(h:(sub src σ)[i]?=some (some v)):∃ j,src[i]?=some (some j)/\σ[j]?=some (some v):=by
 unfold sub at h;rw[Au]at h;cases e:src[i]? with
 | none=>rw[e]at h;simp at h
 | some o=>
  rw[e]at h;cases o with
  | none=>simp at h
  | some j=>
   refine⟨j,rfl,?_⟩;cases F:σ[j]? with
   | none=>simp[F]at h
   | some G=>
    simp[F]at h;rw[h]
structure PTs(X:Cx)(ifs:List Bi)(t:TT):Prop where
 run:
  ∀(im:List (Af×Obj)) (s:Ae) (σ:St) (H:Hp) (Q:Bool->Hp->Prop),Inv X im σ H s->t σ H Q->
   wpAny (model X.prog X.w) X.A (forIn ifs true fun c r=>if r=true then do let ok <- isTrue c X.env (eval c X.env);pure (CG ok) else pure (CG r)) (TP X im σ Q) X.xe s
instance{X:Cx}{ifs:List Bi}{t:TT}:CoeFun (PTs X ifs t) (fun _=>
 ∀(im:List (Af×Obj)) (s:Ae) (σ:St) (H:Hp) (Q:Bool->Hp->Prop),Inv X im σ H s->t σ H Q->
  wpAny (model X.prog X.w) X.A (forIn ifs true fun c r=>if r=true then do let ok <- isTrue c X.env (eval c X.env);pure (CG ok) else pure (CG r)) (TP X im σ Q) X.xe s):=⟨fun h=>h.run⟩
theorem dE{X:Cx}:PTs X [] (fun _ H Q=>Q true H):=⟨fun _ _ _ H _ I h=>wpAny_tests_nil ⟨H,I,h⟩⟩
theorem oS{X:Cx}{c:Bi}{t:TT}(h:PT X c t):PTs X [c] t:=⟨fun im s σ H Q I q=>wpAny_tests_one (h im s σ H Q I q)⟩
theorem Inv.clos{N:List Str}{src:List (Option Nat)}{scope:De}(B:y0 N src scope X.env.scope X.N)(I:Inv X im σ H s):∀ y∈scope.names,y.2=.free->∃ c,X.env.cells.lookup y.1=some c:=
 fun y G F=>I.ok.has y.1 (B.fr y G F)
theorem Inv.block{N:List Str}{src:List (Option Nat)}{scope:De}{fp:List Af}{s1:Ae}{C:Af}{m:Str->Option Ac}(B:y0 N src scope X.env.scope X.N)(I:Inv X im σ H s)
  (Z:∀ b∈fp,lH X im H b) (aa:∀ b∈fp,b<s.heap.objs.size) (hC:s.heap.objs.size<=C) (ho:s1.os=s.os) (J:E8 s1.gens) (Y:∀ b o,s.heap.get? b=some o->s1.heap.get? b=some o) (hn:s1.heap.Ns C m):
  Inv (blk X N scope (iK X.env scope.names []) s H fp im C) [] (sub src σ) H s1:=by
 have G:=I.clos B;have F:∀ x c,(iK X.env scope.names []).lookup x=some c->X.env.cells.lookup x=some c:=qB _ _ (fun x c e=>by simp at e);have ah:∀ b∈frs X.stack,b<s.heap.objs.size:=fun b J=>by
  obtain⟨_,o,ho,_⟩:=I.stack.mem J;exact Ax ho
 refine⟨⟨I.ok.mod,B.kind,I.ok.glob,I.ok.blt,hC,fun x y c e1 e2=>I.ok.inj x y c (F x c e1) (F y c e2),fun x hx=>?_,fun x c hx=>absurd hx Am,I.ok.hd,I.ok.frames,.inl rfl,fun b J=>⟨?_,fun x c e=>?_⟩,fun b o e=>?_,Ay I.ok.bsz I.sz,fun b o e J=>?_,fun b J hz=>?_,I.stack,I.stkFree⟩,
  ho,J,Un.kept Y,⟨m,hn,fun i x v e1 e2 e3=>?_⟩,fun x c e=>?_,?_,fun x c e=>I.freeC x c (F x c e),fun p hp=>?_,I.hok.kept Y,?_⟩
 .have ab:=tJ (env:=X.env) B.nocell hx;exact qC _ _ x G (.inr (B2 ab))
 .exact AI (A2 (aa b J) hC)
 .exact(Z b J).2.2.2.2.1 x c (F x c e)
 .exact I.bs b o e
 .rcases(Z b J).2.2.2.1 with z|z
  .exact I.ok.noex b o e z
  .exact absurd (A2 (Ax e) (Ay I.ok.bsz z)) (C7 _)
 .rcases An.mp (I.stkSub b hz)with e|z
  .exact(Z b J).2.1 e
  .exact(Z b J).2.2.1 z
 .obtain⟨j,ej,ev⟩:=aH7 e2;obtain⟨oj,fj⟩:=aEr B.srcs e1 ej;have O:=B.fr _ (B2 fj) rfl;obtain⟨m0,hn0,hl0⟩:=id I.loc;obtain⟨u,ru,lk⟩:=hl0 j x v oj ev (.inr O);refine⟨u,ru,.inr ⟨oR fj,?_⟩⟩;rcases lk with⟨k,_⟩|⟨k,c,hc,hcell⟩
  .have k':X.env.scope.names.lookup x=some .local:=k;rcases O with z|z<;>(rw[k']at z;cases z)
  .obtain⟨c',hc'⟩:=qC (env:=X.env) scope.names [] x G (.inr (B2 fj));have e:=F x c' hc';rw[hc]at e;cases e;obtain⟨o,ho,hd⟩:=hcell;exact⟨c,hc',o,Y _ _ ho,hd⟩
 .obtain⟨v,o,ho,hd⟩:=I.cell x c (F x c e);exact⟨v,o,Y _ _ ho,hd⟩
 .exact I.hok.fresh hC
 .have ag:p∈X.pn++im:=by
   rcases AO.mp hp with z|z
   .exact z
   .simp at z
  obtain⟨q1,q2,q3,q4,q5⟩:=I.pin p ag;refine⟨Y _ _ q1,q2,AI (A2 (Ax q1) hC),fun z=>?_,q5⟩;rcases An.mp (I.stkSub _ z)with e|z
  .exact q3 e
  .exact q4 z
 .show(sub src σ).length=N.length;unfold sub;rw[Aa];exact B.len
section
variable{R:HN->Ae->Prop}
theorem y7{Y F G:Bi}{J:List Bi}{scope:De}{pos:Pos}{it O:Ac}{env:Env}(I:Nat->Ae->Prop)
  (aa:∀ n s,I n s->wpAny (model prog w) A (pyNext it) (fun r s₁=>match r with
   | none=>R (.ok .next) s₁
   | some v=>wpAny (model prog w) A (letOwnedTupleGo F it v) (fun _ Z=>wpAny (model prog w) A (assign F env v) (fun _ s₂=>
     wpAny (model prog w) A (forIn J true fun c r=>if r=true then do let ok <- isTrue c env (eval c env);pure (CG ok) else pure (CG r)) (fun ok s₃=>
      if ok=true then wpAny (model prog w) A (eval Y env) (fun x s₄=>
       wpAny (model prog w) A (call (.builtin "list.append") [O,x]) (fun _ s₅=>∃ m,m<n/\I m s₅) (fun _ _=>False) s₄) (fun _ _=>False) s₃
      else∃ m,m<n/\I m s₃) (fun _ _=>False) s₂) (fun _ _=>False) Z) (fun _ _=>False) s₁) (fun _ _=>False) s)
  (n:Nat) (h:I n s):
  codeAny (model prog w) A (.compLoop (.ListComp Y [⟨F,G,J,0⟩] scope pos) 0 it O env) R s:=by
 have nv:∀{α:Type} {t:Sem α} {Q:α->Ae->Prop} {E:Ac->Ae->Prop} {s:Ae},wpAny (model prog w) A t Q (fun _ _=>False) s->wpAny (model prog w) A t Q E s:=fun h=>CI h (fun _ _ x=>x) fun _ _ x=>x.elim;refine codeAny_loop rfl I (fun n s hI=>?_) n h;show wpAny _ A ((compTurn (.ListComp Y [⟨F,G,J,0⟩] scope pos) 0 it O env).onRaise (fun x=>do noteFrame x env;theTreesLotGoes x)) _ _ s;refine wpAny_noted ?_;rw[compTurn_list];refine Ab (Fy (Ab (nv (thn (aa n s hI) (fun r s₁ h₁=>?_)))));cases r with
 | none=>exact Ag h₁
 | some v=>
  refine Ab (CI h₁ (fun _ Z ae=>?_) fun _ _ x=>x.elim);refine Ab (CI ae (fun _ s₂ h₂=>Ab (CI h₂ (fun ok s₃ h₃=>?_) fun _ _ h'=>h'.elim)) fun _ _ h'=>h'.elim);cases ok with
  | false=>exact Ag ⟨rfl,h₃⟩
  | true=>
   exact Ab (Ab (CI h₃ (fun x s₄ h₄=>Ab (CI h₄ (fun _ s₅ h₅=>Ag (Ag ⟨rfl,h₅⟩)) fun _ _ h'=>h'.elim)) fun _ _ h'=>h'.elim))
end
inductive aB2(J : It)(g : TG)(tt : TT)(te : TE)(σ₀ : St)(H₀ : Hp)(Q : VK) : Prop
  | mk (W : Nat -> Nat -> List V -> St -> Hp -> Prop) (q0 : (∃ m, W 0 m [] σ₀ H₀)) (q1 : ∀ i m ys σ H, W i m ys σ H -> ys.length <= sizeLine /\
    ((J.stop i H /\ ∀ D, H D = none -> Q (.ref D) (upd H D (.lst ys))) \/
     (J.go i H /\ ∃ N : List V -> St -> Hp -> Prop, (∀ zs σ' H', N zs σ' H' -> ∃ m', m'<m /\ W (i+1) m' zs σ' H') /\
       ∀ x H', J.yld i H x H' -> g x σ H' fun σ2 H2 => tt σ2 H2 fun b H3 => if b = true then te σ2 H3 fun v H4 => N (ys++[v]) σ2 H4 else N ys σ2 H3))) : aB2 J g tt te σ₀ H₀ Q
def tK(J:It)(g:TG)(tt:TT)(te:TE)(σ₀:St)(H₀:Hp)(Q:VK):Prop:=aB2 J g tt te σ₀ H₀ Q
theorem vX{tg av bb:Bi}{aC:List Bi}{scope:De}{pos:Pos}{N:List Str}{src:List (Option Nat)}{g:TG}{tt:TT}{te:TE}{J:It}{fp:List Af}{it:Af}{tn:Nat->Bl->Prop}{H2:Hp}{s2:Ae}{Q:VK}{E:Ac->Ae->Prop}
  {RR:Ac->Af->HN->Ae->Prop} (B:y0 N src scope X.env.scope X.N) (hc:X.calm=true)
  (G:∀ cl s H fp im C,PG (blk X N scope cl s H fp im C) tg g/\PTs (blk X N scope cl s H fp im C) aC tt/\PE (blk X N scope cl s H fp im C) bb te)
  (I2:Inv X im σ H2 s2) (T:aC8 X.prog X.w X.K tg J fp it tn) (bv:tn 0 s2.heap) (f2:∀ b∈fp,lH X im H2 b) (cw:tK J g tt te (sub src σ) H2 Q)
  (cc:∀ D C H' m s',Inv X im σ H' s'->s'.heap.Ns C m->lH X im H' C->D≠C->Q (.ref D) H'->RR (.ref D) C (.ok .next) s'):
  wpAny (model X.prog X.w) X.A (newList []) (fun bt s₃=>wpAny (model X.prog X.w) X.A (newFunctionEnv scope X.env.globals (iK X.env scope.names []) [] X.env.qual none .none (some X.env)) (fun ax s₄=>
   codeAny (model X.prog X.w) X.A (.compStart (.ListComp bb [⟨tg,av,aC,0⟩] scope pos) 0 (.ref it) bt { ax with scope:=relabel scope X.env }) (RR bt ax.locals) s₄) E s₃) E s2:=by
 refine Ce (wpAny_newFunctionEnv B.nocell (by intro y hy;simp at hy) (fun h₁ ah ab=>?_) B.kind);dsimp only at ah ab ⊢;generalize ay:s2.heap.push { cls:=.type "list",dict:=none,data:=.seq ([]:List Ac).toArray }=HH at ah ab ⊢;have aT:HH.objs.size=s2.heap.objs.size+1:=by rw[<- ay,CV]
 have al:s2.heap.objs.size≠HH.objs.size:=by rw[aT];exact AI (DF _)
 have af:s2.heap.objs.size<=HH.objs.size:=by rw[aT];exact Dg _
 have aq:∀ b∈fp,b<s2.heap.objs.size:=fun b G=>by
  obtain⟨o,e,_⟩:=T.obj _ _ bv b G;exact Ax e
 have bu:∀ b o,s2.heap.get? b=some o->h₁.get? b=some o:=fun b o e=>
  ab.extBut b o (by rw[aT];exact AI (CL (Ax e))) (Ak _ (ay▸Ak _ e))
 have bx:h₁.PlainList s2.heap.objs.size #[]:=⟨_,ab.extBut _ _ al (Ak _ (ay▸AH _ rfl))⟩
 have bn:tn 0 h₁:=T.keep _ _ _ bv fun b _ o e=>bu b o e;obtain⟨W,⟨m0,w0⟩,turn⟩:=cw;have bw:∀ b∈frs X.stack,b<s2.heap.objs.size:=fun b G=>by
  obtain⟨_,o,ho,_⟩:=I2.stack.mem G;exact Ax ho
 generalize F:blk X N scope (iK X.env scope.names []) s2 H2 fp im HH.objs.size=O;have bq:=G (iK X.env scope.names []) s2 H2 fp im HH.objs.size;rw[F]at bq;have eP:O.prog=X.prog:=by rw[<- F];rfl
 have eW:O.w=X.w:=by rw[<- F];rfl
 have eK:O.K=X.K:=by rw[<- F];rfl
 have eA:O.A=X.A:=by rw[<- F];rfl
 have eE:O.env=compEnvC scope (iK X.env scope.names []) HH.objs.size X.env:=by rw[<- F];rfl
 have eL:O.env.locals=HH.objs.size:=by rw[eE];rfl
 have eF:O.fs=frs X.stack:=by rw[<- F];rfl
 have eX:O.ex=fp:=by rw[<- F];rfl
 have eS:O.s₀=s2:=by rw[<- F];rfl
 have eH:O.H₀=H2:=by rw[<- F];rfl
 have eC:O.calm=true:=by rw[<- F];exact hc
 have bm:O.pn=X.pn++im:=by rw[<- F];rfl
 have az:O.xe=fun _ _=>False:=by rw[<- F];rfl
 have ad:∀ x c,O.env.cells.lookup x=some c->X.env.cells.lookup x=some c:=fun x c e=>by
  rw[eE]at e;exact qB scope.names [] (fun x c e=>by simp at e) x c e
 have ae:∀ x c,O.env.cells.lookup x=some c->c<s2.heap.objs.size:=fun x c e=>by
  obtain⟨v,o,ho,_⟩:=I2.cell x c (ad x c e);exact Ax ho
 have ai:∀ p∈X.pn++im,p.1<s2.heap.objs.size:=fun p Z=>Ax (I2.pin p Z).1;generalize hD:s2.heap.objs.size=D at *;generalize dh:HH.objs.size=C at *;have ar:∀ s₃:Ae,s₃={ s2 with heap:=h₁,toks:=s2.toks+([]:List (Str×Ac)).length }->
   codeAny (model X.prog X.w) X.A (.compLoop (.ListComp bb [⟨tg,av,aC,0⟩] scope pos) 0 (.ref it) (.ref D) (compEnvC scope (iK X.env scope.names []) C X.env)) (RR (.ref D) C) s₃:=by
  rintro s₃ rfl;have I3:Inv O [] (sub src σ) H2 { s2 with heap:=h₁,toks:=s2.toks+([]:List (Str×Ac)).length }:=by
   rw[<- F];exact I2.block B f2 (by rw[hD];exact aq) (by rw[hD];exact af) rfl I2.bare bu ah
  have bR:H2 D=none:=I2.hok.fresh (Ea hD);have b3:D∉O.fs:=fun z=>by rw[eF]at z;exact absurd (bw D z) (C7 _)
  have au:∀{Y:St} {H':Hp} {s':Ae} {pl:List (Af×Obj)} {its:List Ac} {n:Nat},Inv O pl Y H' s'->H' D=none->s'.heap.get? D=some { cls:=.type "list",data:=.seq its.toArray n }->
    Inv O ((D,{ cls:=.type "list",data:=.seq its.toArray n })::pl) Y H' s':=fun{Y H' s' pl its n} I' hn hg=>
   I'.pins_of fun p Z=>by
    rcases An.mp Z with e|Z
    .subst e;exact⟨hg,hn,by rw[eL];exact al,b3,fun v z=>by cases z⟩
    .exact I'.pin p (AS _ Z)
  obtain⟨n0,hg0⟩:=bx;have b1:=au (its:=[]) I3 bR hg0;have ba:∀{H':Hp} {pl:List (Af×Obj)},(∀ p∈pl,p.1=D)->(∀ b∈fp,H' b=none)->∀ b∈fp,lH O pl H' b:=fun{H' pl} hpl hn b G=>by
   refine⟨hn b G,by rw[eL];exact AI (A2 (aq b G) af),fun z=>?_,.inl (by rw[eX];exact G),fun x c e=>(f2 b G).2.2.2.2.1 x c (ad x c e),fun p Z=>?_⟩
   .rw[eF]at z;rcases An.mp (I2.stkSub b z)with e|z
    .exact(f2 b G).2.1 e
    .exact(f2 b G).2.2.1 z
   .rw[bm]at Z;rcases AO.mp Z with z|z
    .exact(f2 b G).2.2.2.2.2 p z
    .rw[hpl p z];exact D9 (aq b G)
  refine y7 (fun n s'=>∃ i ys its nn Y H',Inv O [(D,{ cls:=.type "list",data:=.seq its.toArray nn })] Y H' s'/\tn i s'.heap/\(∀ b∈fp,H' b=none)/\bU ys its/\W i n ys Y H') ?_ m0
   ⟨0,[],[],n0,sub src σ,H2,b1,bn,fun b G=>(f2 b G).1,.nil,w0⟩
  rintro n s4 ⟨i,ys,its,nn,σ4,H4,I4,bI,bh,ap,w4⟩;obtain⟨hsz,hcase⟩:=turn i n ys σ4 H4 w4;have one:∀{o:Obj},∀ p∈[(D,o)],p.1=D:=fun{o} p Z=>by
   have:=AK.mp Z;rw[this]
  rcases hcase with⟨stop,qn⟩|⟨go,Nx,hN,step⟩
  .have aj:=T.done O eP eW eK eC i _ s4 σ4 H4 (fun _ _=>False) I4 (ba one bh) bI stop;rw[eA]at aj;refine thn aj fun r s5 ⟨hr,I5⟩=>?_;subst hr;have pd:=I5.pin _ (AS _ Ap);have cb:Un (frs X.stack) fp H2 H4 s2.heap s5.heap:=by
    have:=I5.base;rw[eF,eX,eS,eH]at this;exact this
   have bp:HOk X.prog X.w H4 s5.heap:=by
    have:=I5.hok;rw[eP,eW]at this;exact this
   have bY:s5.os=s2.os:=by
    have:=I5.os;rw[eS]at this;exact this
   have J5:Inv X im σ H4 s5:=I2.call' bY cb bp I5.bare fun b G=>⟨(f2 b G).2.2.2.1,(f2 b G).2.1,(f2 b G).2.2.2.2.1,(f2 b G).2.2.2.2.2⟩
   have fD:lH X im H4 D:=I2.fpOk (Ea hD) pd.2.1;have J6:Inv X im σ (upd H4 D (.lst ys)) s5:=J5.track fD ⟨hsz,its,nn,ap,pd.1⟩;obtain⟨mm,nsC,_⟩:=I5.loc;rw[eL]at nsC;have b6:H4 C=none:=by
    have:=I5.free;rw[eL]at this;exact this
   have fC:lH X im (upd H4 D (.lst ys)) C:=I2.fpOk (by rw[hD];exact af) (by rw[aG (Cy al)];exact b6);exact cc D C _ mm s5 J6 nsC fC al (qn D pd.2.1)
  .have ag:=T.item O eP eW eK eC i _ s4 σ4 H4 (fun _ _=>False) I4 (ba one bh) bI go;rw[eA]at ag;refine thn ag fun r s5 ⟨u,hr,h5⟩=>?_;subst hr;refine thn h5 fun _ s6 ⟨x,H6,I6,r6,y6,a0,ci⟩=>?_;have cf:=I6.pinned (ba one ci) (T.obj _ _ a0);obtain⟨hg,ht,he⟩:=bq;have e1:=hg _ s6 σ4 H6 x u _ cf r6 (step x H6 y6);rw[eP,eW,eA,eE,az]at e1;refine thn e1 fun _ s7 ⟨σ7,H7,I7,q7⟩=>?_;have e2:=ht _ s7 σ7 H7 _ I7 q7;rw[eP,eW,eA,eE,az]at e2;refine thn e2 fun ok s8 ⟨H8,I8,q8⟩=>?_;have fin:∀{Y:St} {H':Hp} {s':Ae} {aa:List Ac} {ak:Nat} {zs:List V},Inv O ([(D,{ cls:=.type "list",data:=.seq aa.toArray ak })]++nU fp s6.heap) Y H' s'->bU zs aa->Nx zs Y H'->
     ∃ m,m<n/\∃ i ys its nn Y H',Inv O [(D,{ cls:=.type "list",data:=.seq its.toArray nn })] Y H' s'/\tn i s'.heap/\(∀ b∈fp,H' b=none)/\bU ys its/\W i m ys Y H':=fun{Y H' s' aa ak zs} I' vs' n'=>by
    obtain⟨m',hm,w'⟩:=hN zs Y H' n';refine⟨m',hm,i+1,zs,aa,ak,Y,H',I'.unpinned,T.keep _ _ _ a0 fun b G o e=>(I'.pin (b,o) (AS _ (AS _ (kH G e)))).1,fun b G=>?_,vs',w'⟩;obtain⟨o,e,d⟩:=T.obj _ _ a0 b G;exact(I'.pin (b,o) (AS _ (AS _ (kH G e)))).2.1
   cases ok with
   | false=>
    simp only[CB,if_false]at q8 ⊢;exact fin I8 ap q8
   | true=>
    simp only[if_true]at q8 ⊢;have e3:=he _ s8 σ7 H8 _ I8 q8;rw[eP,eW,eA,eE,az]at e3;refine thn e3 fun v s9 ⟨y,H9,I9,r9,q9⟩=>?_;have pd:=I9.pin _ (AS _ (BG _ Ap));have cv:=ap.length;refine wpAny_list_append_plain (hsz:=by simp only[Aw];omega) (⟨nn,pd.1⟩:s9.heap.PlainList D its.toArray) fun h' ⟨ak,ck⟩ b5=>?_;have bW:Inv O (nU fp s6.heap) σ7 H9 s9:=I9.pins_of fun p Z=>I9.pin p (AS _ (AS _ Z));have ca:Inv O (nU fp s6.heap) σ7 H9 { s9 with heap:=h' }:=bW.turned (t':=s9.toks) (it:=D) (fun b o G e=>(b5.2 b G).trans e) pd.2.1 (by rw[eL];exact al) (.inr (by rw[eS];exact Ea hD))
     (fun x c e=>AI (ae x c e)) fun p Z=>by
      rw[bm]at Z;rcases AO.mp Z with z|z
      .exact AI (ai p z)
      .exact AI (aq _ (vK z).1)
    have bo:h'.get? D=some { cls:=.type "list",data:=.seq (its++[v]).toArray ak }:=by
     rw[ck];simp
    exact fin (au (s':={ s9 with heap:=h' }) ca pd.2.1 bo) (ap.append (.cons r9 .nil)) q9
 exact codeAny_compStart_list (ar _ rfl) (T.self X.A 0 _ _ _ bn (ar _ rfl))
def aHm(src:List (Option Nat))(wi:TI)(g:TG)(tt:TT)(te:TE):TE:=fun σ H Q=>wi σ H fun J H1=>tK J g tt te (sub src σ) H1 Q
theorem dF{tg F O:Bi}{G:List Bi}{scope osc:De}{pos:Pos}{N oN:List Str}{src:List (Option Nat)}{wi:TI}{g:TG}{tt:TT}{te:TE}(B:y0 N src scope osc oN)(hi:PI X tg F wi)
  (Z:∀ cl s H fp im C,PG (blk X N scope cl s H fp im C) tg g/\PTs (blk X N scope cl s H fp im C) G tt/\PE (blk X N scope cl s H fp im C) O te)
  (hc:X.calm=true:=by rfl) (eo:X.env.scope=osc:=by rfl) (eN:X.N=oN:=by rfl)
  (hs:∀ x,foldedSetIterable F X.env x=pure x:=by intro _;rfl):PE X (.ListComp O [⟨tg,F,G,0⟩] scope pos) (aHm src wi g tt te):=by
 subst eo eN;constructor;intro im s σ H Q I h;rw[eval_ListComp];refine wpAny_comprehension_free (use:=none) (cl:=iK X.env scope.names []) rfl hs (oQ (I.clos B)) B.kind B.names (thn (hi im s σ H _ I h) fun xv s1 h1=>thn h1 fun af s2 h2=>?_);obtain⟨it,fp,tn,J,H2,e,I2,T,st2,f2,cw⟩:=h2;subst e;refine vX B hc Z I2 T st2 f2 cw fun D C H' m s' J' Y fC ai q=>?_;refine⟨m,Y,fun h' sb=>⟨.ref D,H',?_,rfl,q⟩⟩;obtain⟨f0,f1,_,f3,f4,f5⟩:=fC;exact J'.turned (t':=s'.toks) (fun b o Z e=>(sb.2 b Z).trans e) f0 f1 f3 f4 f5
theorem iW{tg F O:Bi}{G:List Bi}{scope osc:De}{pos ps Z:Pos}{y:Str}{i:Nat}{N oN:List Str}{src:List (Option Nat)}{wi:TI}{g:TG}{tt:TT}{te:TE}(B:y0 N src scope osc oN)(hN:X.N.Nodup)(hy:X.N[i]?=some y)(hi:PI X tg F wi)
  (hb:∀ cl s H fp im C,PG (blk X N scope cl s H fp im C) tg g/\PTs (blk X N scope cl s H fp im C) G tt/\PE (blk X N scope cl s H fp im C) O te)
  (Y:X.env.scope.names.lookup y=some .local:=by rfl)
  (af:swapsWith (.ListComp O [⟨tg,F,G,0⟩] scope pos) (some (.Name y Z)) ps.line X.env=pure true:=by rfl)
  (hc:X.calm=true:=by rfl) (eo:X.env.scope=osc:=by rfl) (eN:X.N=oN:=by rfl)
  (hs:∀ x,foldedSetIterable F X.env x=pure x:=by intro _;rfl):PS X (.Assign [.Name y Z] (.ListComp O [⟨tg,F,G,0⟩] scope pos) ps) (aHP (aHm src wi g tt te) (aS i)):=by
 subst eo eN;constructor;intro im s σ H D I h;rw[exec_Assign_Name_used _ _ _ _ af];refine Ab (Fy (Ab ?_));show wpAny _ _ (evalThenUse (.ListComp O [⟨tg,F,G,0⟩] scope pos) X.env (assign (.Name y Z) X.env)) _ _ s;have e:evalThenUse (.ListComp O [⟨tg,F,G,0⟩] scope pos) X.env (assign (.Name y Z) X.env)=(do
   let _ <- comprehension (.ListComp O [⟨tg,F,G,0⟩] scope pos) scope X.env (firstIterPos [⟨tg,F,G,0⟩] pos) (newList []) (firstAsync [⟨tg,F,G,0⟩]) (firstIter [⟨tg,F,G,0⟩] X.env) (some (assign (.Name y Z) X.env))):=rfl
 rw[e];refine Ab ?_;refine wpAny_comprehension_free (use:=some (assign (.Name y Z) X.env)) (cl:=iK X.env scope.names []) rfl hs (oQ (I.clos B)) B.kind B.names (thn (hi im s σ H _ I h) fun xv s1 h1=>thn h1 fun an s2 h2=>?_);obtain⟨it,fp,tn,J,H2,e,I2,T,st2,f2,cw⟩:=h2;subst e;refine vX B hc hb I2 T st2 f2 cw fun D' C H' m s' J' ae fC ar q=>?_;obtain⟨f0,f1,_,f3,f4,f5⟩:=fC;refine wpAny_assign_Name (vJ J' hN hy (.inl Y) (v:=.ref D') rfl (fun ag ab ⟨a,sb,ha⟩=>?_) (.inr Y));have ad:C≠a:=by
  rcases ha with rfl|ha
  .exact f1
  .exact fun z=>f4 y a ha z.symm
 refine⟨m,ae.sameBut sb ad,fun h' aa=>Ag (Ag ⟨_,H',ab.turned (t':=ag.toks) (fun b o hb e=>(aa.2 b hb).trans e) f0 f1 f3 f4 f5,q⟩)⟩
def vY(i j:Int):Prop:=0<j/\j.natAbs.log2<9000
theorem vY.of{i j:Int}(h:0<j)(h2:j<2^512):vY i j:=by
 refine⟨h,?_⟩;have F:j.natAbs≠0:=by omega
 have:j.natAbs.log2<512:=(Nat.log2_lt F).mpr (by
  have e:((2:Int)^512)=((2^512:Nat):Int):=by decide
  rw[e]at h2;omega)
 omega
theorem tL:OpR X (binaryOp .FloorDiv) (rI vY fun i j=>.int (i/j)):=opI fun i j _ _ _ _ _ hc q=>by
 have h1:(0:Int)<j:=hc.1;refine floordiv_int (by omega) ?_ (Az (PyProof.noPylong_of_log2 hc.2));rw[Int.fdiv_eq_ediv_of_nonneg i (by omega)];exact q
inductive tM(x:V)(lo:Option Int)(hi:Option Int)(H:Hp)(Q:VK):Prop
 | mk (z:_) (q0:x=.str z) (q1:z.length<=sizeLine) (q2:Q (.str (EH z lo hi)) H):tM x lo hi H Q
def aEs:V->Option Int->Option Int->Hp->VK->Prop:=fun x lo hi H Q=>tM x lo hi H Q
theorem aBi:SlR X aEs:=by
 intro im s σ H x v vl vu lo hi sl Q I Z hs pl J h;obtain⟨z,rfl,hz,q⟩:=h;obtain⟨t,rfl⟩:=Z;refine⟨"str",_,F.slot_str_getitem.lookup,Hf _ _ _,?_⟩;have fin:∀ Y k,EP X im σ Q (.str (EH z lo hi) Y) { s with toks:=k }:=fun Y k=>⟨.str _,H,I.tok _,⟨_,rfl⟩,q⟩
 obtain⟨o,ho,hc,hd⟩:=hs;cases pl with
 | none=>
  cases J with
  | none=>exact Ec (l:=none) (u:=none) (st:=none) ⟨o,ho,hc,hd⟩ rfl (Gf ⟨Ay (FA z _ _) hz,fin⟩)
  | int j G=>exact Ec (l:=none) (u:=some (j,G)) (st:=none) ⟨o,ho,hc,hd⟩ rfl (Gf ⟨Ay (FA z _ _) hz,fin⟩)
 | int i O=>
  cases J with
  | none=>exact Ec (l:=some (i,O)) (u:=none) (st:=none) ⟨o,ho,hc,hd⟩ rfl (Gf ⟨Ay (FA z _ _) hz,fin⟩)
  | int j G=>exact Ec (l:=some (i,O)) (u:=some (j,G)) (st:=none) ⟨o,ho,hc,hd⟩ rfl (Gf ⟨Ay (FA z _ _) hz,fin⟩)
theorem aB3:∀{ys:List Str}{F:List Ac},bU (ys.map V.str) F->Ei F ys
 | [],_,.nil=>.nil
 | y::ys,_,.cons ⟨t,rfl⟩ r=>.cons y t (aB3 r)
inductive qV(K:Ah)(x:V)(xs:List V)(H:Hp)(Q:VK):Prop
 | mk (z:_) (p:_) (ys:_) (q0:x=.str z) (q1:xs=[.ref p]) (q2:SqL K H p (ys.map V.str)) (q3:(ys.map (·.length)).sum+ys.length*z.length<=16777216) (q4:Q (.str (Txt.join z ys)) H):qV K x xs H Q
def aDk(K:Ah):V->List V->Hp->VK->Prop:=fun x xs H Q=>qV K x xs H Q
theorem aGo:MtR X "str.join" (aDk X.K):=by
 intro im s σ H x xs v G Q I F r h;obtain⟨z,p,ys,rfl,rfl,hx,hz,q⟩:=h;obtain⟨t,rfl⟩:=F;obtain⟨u,rfl,ru⟩:=fG r;cases ru;obtain⟨its,rv,pl,_⟩:=I.list hx;exact join_list pl.isList (by simpa using aB3 rv) hz fun J k=>⟨.str _,H,I.tok _,⟨_,rfl⟩,q⟩
theorem tN:∀{bs:List Bool}{F:List Ac},bU (bs.map V.bl) F->∀(i:Nat) v,F[i]?=some v->∃ b,bs[i]?=some b/\v=.bool b
 | [],_,.nil,i,v,e=>by simp at e
 | b::bs,_,.cons rfl r,0,v,e=>by simp at e;exact⟨b,rfl,e.symm⟩
 | b::bs,_,.cons rfl r,i+1,v,e=>by
  obtain⟨c,h1,h2⟩:=tN r i v (by simpa using e);exact⟨c,by simpa using h1,h2⟩
theorem aBj(bs:List Bool):((A3 bs.length).all fun i=>(bs[i]?).getD true)=bs.all id:=by
 rw[CO,A7,A7];constructor
 .intro h b G;obtain⟨i,hi,e⟩:=Bp.mp G;have:=h i (CH.mpr hi);rw[Ai hi]at this;simpa[e]using this
 .intro h i hi;have F:=CH.mp hi;rw[Ai F];exact h _ (Bk F)
theorem aBk(bs:List Bool):((A3 bs.length).any fun i=>(bs[i]?).getD false)=bs.any id:=by
 rw[CO,BN,BN];constructor
 .rintro⟨i,hi,e⟩;have F:=CH.mp hi;rw[Ai F]at e;exact⟨_,Bk F,e⟩
 .rintro⟨b,hb,e⟩;obtain⟨i,hi,e2⟩:=Bp.mp hb;refine⟨i,CH.mpr hi,?_⟩;rw[Ai hi,e2];exact e
inductive oT(K:Ah)(xs:List V)(H:Hp)(Q:VK):Prop
 | mk (p:Af) (bs:List Bool) (q0:xs=[.ref p]) (q1:SqL K H p (bs.map V.bl)) (q2:Q (.bl (bs.all id)) H):oT K xs H Q
def aBl(K:Ah):List V->Hp->VK->Prop:=fun xs H Q=>oT K xs H Q
theorem aEt(hc:X.calm=true):fF X (.builtin "all") (aBl X.K):=by
 intro im s σ H xs us Q I r h;obtain⟨p,bs,rfl,hx,q⟩:=h;obtain⟨u,rfl,ru⟩:=fG r;cases ru;obtain⟨its,rv,pl,_⟩:=I.list hx;have hl:=pl.isList;have F:its.length=bs.length:=by have:=rv.length;simpa using this.symm
 have G:p<s.heap.objs.size:=by obtain⟨_,e,_⟩:=hl;exact Ax e
 refine call_all_walk (Eg hl ?_);refine⟨s.heap.objs.size,[s.heap.objs.size,p],[s.heap.objs.size],its.toArray.size,_,_,fun i=>(bs[i]?).getD true,rfl,Hq (A:=X.A.in1) (I.ok.hd hc) _ p (AI G) its.toArray,
  ⟨⟨_,AH _ rfl,rfl,rfl⟩,hl.push _⟩,fun i v s' Q' Z O J=>?_,fun h' tk Y=>?_⟩
 .obtain⟨b,e,rfl⟩:=tN rv i v (by simpa using O);simp only[e,Option.getD_some]at J;exact C9 J
 .rw[Aw,F,aBj];exact⟨.bl _,H,I.kept fun b x e=>Y b x (fun hm=>by rw[AK.mp hm]at e;exact C7 _ (Ax e)) (Ak _ e),rfl,q⟩
inductive oU(K:Ah)(xs:List V)(H:Hp)(Q:VK):Prop
 | mk (p:Af) (bs:List Bool) (q0:xs=[.ref p]) (q1:SqL K H p (bs.map V.bl)) (q2:Q (.bl (bs.any id)) H):oU K xs H Q
def aBm(K:Ah):List V->Hp->VK->Prop:=fun xs H Q=>oU K xs H Q
theorem y8(hc:X.calm=true):fF X (.builtin "any") (aBm X.K):=by
 intro im s σ H xs us Q I r h;obtain⟨p,bs,rfl,hx,q⟩:=h;obtain⟨u,rfl,ru⟩:=fG r;cases ru;obtain⟨its,rv,pl,_⟩:=I.list hx;have hl:=pl.isList;have F:its.length=bs.length:=by have:=rv.length;simpa using this.symm
 have G:p<s.heap.objs.size:=by obtain⟨_,e,_⟩:=hl;exact Ax e
 refine call_any_walk (Eg hl ?_);refine⟨s.heap.objs.size,[s.heap.objs.size,p],[s.heap.objs.size],its.toArray.size,_,_,fun i=>(bs[i]?).getD false,rfl,Hq (A:=X.A.in1) (I.ok.hd hc) _ p (AI G) its.toArray,
  ⟨⟨_,AH _ rfl,rfl,rfl⟩,hl.push _⟩,fun i v s' Q' Z O J=>?_,fun h' tk Y=>?_⟩
 .obtain⟨b,e,rfl⟩:=tN rv i v (by simpa using O);simp only[e,Option.getD_some]at J;exact C9 J
 .rw[Aw,F,aBk];exact⟨.bl _,H,I.kept fun b x e=>Y b x (fun hm=>by rw[AK.mp hm]at e;exact C7 _ (Ax e)) (Ak _ e),rfl,q⟩
def aDl:List V->List V->Bool
 | [],[]=>true
 | x::xs,y::ys=>eqV x y&&aDl xs ys
 | _,_=>false
theorem y9:∀{xs ys:List V},xs.length≠ys.length->aDl xs ys=false
 | [],[],h=>absurd rfl h
 | [],_::_,_=>rfl
 | _::_,[],_=>rfl
 | x::xs,y::ys,h=>by
  show(eqV x y&&aDl xs ys)=false;rw[y9 (fun e=>h (by simp[e])),D7]
theorem zC:∀{xs ys:List V},xs.length=ys.length->((A3 xs.length).all fun i=>eqV (xs[i]?.getD .non) (ys[i]?.getD .non))=aDl xs ys
 | [],[],_=>rfl
 | x::xs,y::ys,h=>by
  have F:=zC (xs:=xs) (ys:=ys) (by simpa using h);rw[AR,List.range_succ_eq_map,HC,List.all_map];show(eqV x y&&_)=(eqV x y&&aDl xs ys)
  rw[<- F];rfl
theorem aEu{A:AV}{s:Ae}{xs ys:List V}{J ws:List Ac}(Y:bU xs J)(O:bU ys ws)(Z:xs.all iV=true)(f2:ys.all iV=true)(j:Nat)(h1:j<J.toArray.size)(h2:j<ws.toArray.size):
  Hr A s J.toArray[j] ws.toArray[j] (eqV (xs[j]?.getD .non) (ys[j]?.getD .non)):=by
 have l1:=Y.length;have l2:=O.length;have G:j<xs.length:=by simpa[l1]using h1
 have F:j<ys.length:=by simpa[l2]using h2
 obtain⟨u,eu,ru⟩:=Y.get (Ai G);obtain⟨w',ew,rw'⟩:=O.get (Ai F);have e1:J.toArray[j]=u:=by
  rw[Ai (by simpa using h1)]at eu;simpa using eu
 have e2:ws.toArray[j]=w':=by
  rw[Ai (by simpa using h2)]at ew;simpa using ew
 rw[e1,e2,Ai G,Ai F];exact aBc ru rw' (A7.mp Z _ (Bk G)) (A7.mp f2 _ (Bk F))
inductive tO(K:Ah)(x:V)(y:V)(H:Hp)(Q:VK):Prop
 | mk (p:_) (q:_) (xs:_) (ys:_) (q0:x=.ref p) (q1:y=.ref q) (q2:SqL K H p xs) (q3:SqL K H q ys) (q4:xs.all iV=true) (q5:ys.all iV=true) (q6:Q (.bl (!aDl xs ys)) H):tO K x y H Q
def aEv(K:Ah):V->V->Hp->VK->Prop:=fun x y H Q=>tO K x y H Q
theorem aEw(hu:X.A.units<cLine):OpR X (compareOp .NotEq) (aEv X.K):=by
 intro im s σ H x y v u Q I J F h;obtain⟨p,q,xs,ys,rfl,rfl,h1,h2,f1,f2,hq⟩:=h;cases J;cases F;obtain⟨us,r1,p1,_⟩:=I.list h1;obtain⟨ws,r2,p2,_⟩:=I.list h2;have G:=r1.length;have O:=r2.length;by_cases e:xs.length=ys.length
 .refine SeqAt.RcNeAt.lists p1.isList p2.isList (by simp;omega) hu (aEu r1 r2 f1 f2) X.prog X.w _ _ ?_;rw[Aw,<- G,zC e];exact⟨.bl _,H,I,rfl,hq⟩
 .refine SeqAt.RcNeAt.lists_lengths p1.isList p2.isList (by simp;omega) hu X.prog X.w _ _ ?_;rw[y9 e]at hq;exact⟨.bl _,H,I,rfl,hq⟩
theorem aP{n:Nat}(h:n<=1000000):n<=sizeLine:=by
 have:sizeLine=16777216:=Fs;omega
theorem rR{J:It}{g:TG}{tt:TT}{te:TE}{σ₀:St}{H₀:Hp}{Q:VK}(n:Nat)(F:Nat->List V->St->Hp->Prop)(h0:F 0 [] σ₀ H₀)(hn:n<=sizeLine)(Y:∀ i ys σ H,F i ys σ H->ys.length<=i)
  (aa:∀ i ys σ H,i<n->F i ys σ H->J.go i H) (O:∀ ys σ H,F n ys σ H->J.stop n H)
  (hs:∀ i ys σ H x H',i<n->F i ys σ H->J.yld i H x H'->g x σ H' fun Z H2=>tt Z H2 fun b H3=>if b=true then te Z H3 fun v H4=>F (i+1) (ys++[v]) Z H4 else F (i+1) ys Z H3)
  (hd:∀ ys σ H,F n ys σ H->∀ D,H D=none->Q (.ref D) (upd H D (.lst ys))):tK J g tt te σ₀ H₀ Q:=by
 refine⟨fun i m ys σ H=>m=n-i/\i<=n/\F i ys σ H,⟨n,by simp,A8 _,h0⟩,?_⟩;rintro i m ys σ H ⟨rfl,hi,p⟩;refine⟨Ay (Y i ys σ H p) (Ay hi hn),?_⟩;by_cases G:i<n
 .exact .inr ⟨aa i ys σ H G p,F (i+1),fun zs σ' H' p'=>⟨n-(i+1),by omega,rfl,G,p'⟩,fun x H' y=>hs i ys σ H x H' G p y⟩
 .have e:i=n:=by omega
  subst e;exact .inl ⟨O ys σ H p,hd ys σ H p⟩
theorem gU{lo:Int}{n:Nat}{g:TG}{Y:TT}{te:TE}{Z:St}{H₀:Hp}{Q:VK}(F:Nat->List V->St->Hp->Prop)(h0:F 0 [] Z H₀)(hn:n<=sizeLine)(G:∀ i ys σ H,F i ys σ H->ys.length<=i)
  (hs:∀ i ys σ H,i<n->F i ys σ H->g (.int (lo+i)) σ H fun J H2=>Y J H2 fun b O=>if b=true then te J O fun v H4=>F (i+1) (ys++[v]) J H4 else F (i+1) ys J O)
  (hd:∀ ys σ H,F n ys σ H->∀ D,H D=none->Q (.ref D) (upd H D (.lst ys))):tK (Itr lo n) g Y te Z H₀ Q:=
 rR n F h0 hn G (fun i _ _ _ h _=>h) (fun _ _ _ _=>Aj _) (fun i ys σ H v H' hi p y=>by
  obtain⟨e,rfl⟩:=y;subst e;exact hs i ys σ _ hi p) hd
theorem m6{K:Ah}{a:Af}{xs:List V}{g:TG}{Y:TT}{te:TE}{Z:St}{H₀:Hp}{Q:VK}(F:Nat->List V->St->Hp->Prop)(h0:F 0 [] Z H₀)(hn:xs.length<=sizeLine)(G:∀ i ys σ H,F i ys σ H->ys.length<=i)
  (hl:∀ i ys σ H,F i ys σ H->SqL K H a xs)
  (hs:∀ i x ys σ H,xs[i]?=some x->F i ys σ H->g x σ H fun J H2=>Y J H2 fun b O=>if b=true then te J O fun v H4=>F (i+1) (ys++[v]) J H4 else F (i+1) ys J O)
  (hd:∀ ys σ H,F xs.length ys σ H->∀ D,H D=none->Q (.ref D) (upd H D (.lst ys))):tK (Itl K a) g Y te Z H₀ Q:=
 rR xs.length F h0 hn G (fun i ys σ H h p=>⟨xs,xs[i],hl i ys σ H p,by simp[h]⟩) (fun ys σ H p=>⟨xs,hl _ ys σ H p,Aj _⟩) (fun i ys σ H v H' hi p y=>by
  obtain⟨e,y⟩:=y;subst e;exact hs i v ys σ _ (y xs (hl i ys σ _ p)) p) hd
theorem d9{K:Ah}{a:Af}{xs:List V}{g:TG}{Y:TT}{te:TE}{Z:St}{H₀:Hp}{Q:VK}(F:Nat->List V->St->Hp->Prop)(h0:F 0 [] Z H₀)(hn:xs.length<=sizeLine)(G:∀ i ys σ H,F i ys σ H->ys.length<=i)
  (hl:∀ i ys σ H,F i ys σ H->SqT K H a xs)
  (hs:∀ i x ys σ H,xs[i]?=some x->F i ys σ H->g x σ H fun J H2=>Y J H2 fun b O=>if b=true then te J O fun v H4=>F (i+1) (ys++[v]) J H4 else F (i+1) ys J O)
  (hd:∀ ys σ H,F xs.length ys σ H->∀ D,H D=none->Q (.ref D) (upd H D (.lst ys))):tK (Itt K a) g Y te Z H₀ Q:=
 rR xs.length F h0 hn G (fun i ys σ H h p=>⟨xs,xs[i],hl i ys σ H p,by simp[h]⟩) (fun ys σ H p=>⟨xs,hl _ ys σ H p,Aj _⟩) (fun i ys σ H v H' hi p y=>by
  obtain⟨e,y⟩:=y;subst e;exact hs i v ys σ _ (y xs (hl i ys σ _ p)) p) hd
def bA(p:Af)(H H':Hp):Prop:=∀ b o,H b=some o->b≠p->H' b=some o
theorem bA.refl(p:Af)(H:Hp):bA p H H:=fun _ _ e _=>e
theorem bA.trans{p:Af}{H H1 H2:Hp}(a:bA p H H1)(b:bA p H1 H2):bA p H H2:=fun c o e h=>b c o (a c o e h) h
theorem bA.same{p:Af}{H H1 H2:Hp}(a:bA p H H1)(b:b8 H1 H2):bA p H H2:=fun c o e h=>b c o (a c o e h)
theorem b8.but{p:Af}{H H1:Hp}(a:b8 H H1):bA p H H1:=fun c o e _=>a c o e
theorem bA.upd{p:Af}{o:HO}{H H1:Hp}(a:bA p H H1):bA p H (upd H1 p o):=fun c u e h=>by rw[aG h];exact a c u e h
theorem aJ{p:Af}{o:HO}{H:Hp}(h:H p=none):b8 H (upd H p o):=fun c u e=>by rw[aG (aH e h)];exact e
inductive aEx(t:TS)(D:Ends)(σ:St)(H:Hp):Prop
 | mk (R:St->Hp->Prop) (q0:t { D with nx:=R } σ H) (q1:∀ σ' H',R σ' H'->D.nx σ' H'):aEx t D σ H
def aKh(t:TS):TS:=fun D σ H=>aEx t D σ H
theorem eQ{st:Cw}{t:TS}(h:PS X st t):PS X st (aKh t):=by
 constructor;intro im s σ H D I q;obtain⟨R,q1,q2⟩:=q;refine thn (h im s σ H _ I q1) fun f s' z=>?_;cases f with
 | next=>obtain⟨σ',H',I',r⟩:=z;exact⟨σ',H',I',q2 _ _ r⟩
 | brk=>exact z
 | cont=>exact z
 | ret u=>exact z
inductive aB4(t:TT)(σ:St)(H:Hp)(Q:(Bool->Hp->Prop)):Prop
 | mk (R:Bool->Hp->Prop) (q0:t σ H R) (q1:∀ b H',R b H'->Q b H'):aB4 t σ H Q
def aJj(t:TT):TT:=fun σ H Q=>aB4 t σ H Q
theorem tP{e:Bi}{t:TT}(h:PT X e t):PT X e (aJj t):=by
 constructor;intro im s σ H Q I q;obtain⟨R,q1,q2⟩:=q;exact thn (h im s σ H _ I q1) fun b s' ⟨H',F,z⟩=>⟨H',F,q2 _ _ z⟩
theorem aH8{xs:List V}{i:Int}(G:0<=i)(h1:i<xs.length):∃ v,v∈xs/\atI xs i=some v:=by
 have F:i.toNat<xs.length:=by omega
 refine⟨xs[i.toNat],Bk F,?_⟩;have e:=fU (xs:=xs) (j:=i.toNat) (v:=xs[i.toNat]) (Ai F);rw[Dd G]at e;exact e
def aEy:Bi->Bool
 | .Starred ..=>false
 | _=>true
theorem aDm{e:Bi}{es:List Bi}{env:Env}(h:aEy e=true):starEach (e::es) env=(false,eval e env)::starEach es env:=by
 cases e<;>first|rfl|cases h
theorem aF{X:Cx}{e:Bi}{es:List Bi}{te:TE}{t:TA}(ha:PE X e te)(F:PA X es t)(hs:aEy e=true:=by rfl):PA X (e::es) (aBV te t):=aGc ha F (aDm hs)
inductive oV(K:Ah)(xs:List V)(H:Hp)(Q:VK):Prop
 | mk (p:Af) (ns:List Int) (q0:xs=[.ref p]) (q1:SqL K H p (ns.map V.int)) (q2:Q (.int ns.sum) H):oV K xs H Q
def aBn(K:Ah):List V->Hp->VK->Prop:=fun xs H Q=>oV K xs H Q
theorem tQ(hc:X.calm=true):fF X (.builtin "sum") (aBn X.K):=by
 intro im s σ H xs Y Q I r h;obtain⟨p,ns,rfl,hx,q⟩:=h;obtain⟨u,rfl,ru⟩:=fG r;cases ru;obtain⟨its,rv,pl,_⟩:=I.list hx;have hi:Ht its ns:=aBa rv;have hl:=pl.isList;obtain⟨xs,hx'⟩:=hi.allInts.items;have F:s.heap.IsList p (intItems xs):=hx'▸hl;refine sum_intListG (I.ok.hd hc) F fun h' tk Z G=>?_;have J:ns=xs.toList.map (·.1):=by
  rw[<- nums_intItems,<- hx'];exact(show numsOf its.toArray.toList=ns from hi.numsOf).symm
 have O:preSum (numAt xs) xs.size=ns.sum:=by
  rw[preSum_eq,A9 (by simp),J]
 rw[O];exact⟨.int ns.sum,H,I.kept G,⟨_,rfl⟩,q⟩
theorem Inv.turnedL{im:List (Af×Obj)}{σ:St}{H:Hp}{s:Ae}{h':Bl}{t':Nat}{fp:List Af}(I:Inv X im σ H s)(k:∀ b o,b∉fp->s.heap.get? b=some o->h'.get? b=some o)(G:∀ b∈fp,lH X im H b):
  Inv X im σ H { s with heap:=h',toks:=t' }:=by
 have F:∀ b u,H b=some u->b∉fp:=fun b u e z=>by rw[(G b z).1]at e;cases e
 refine I.step (g':=s.gens) (d':=s.drawn) (ch:=fp) (fun b J=>?_) (fun b o _ _ hc e _=>k b o hc e) (fun b o _ _ hc e _=>⟨o.slots,k b o hc e⟩) (fun _ _ _ _ n=>n)
  (fun b o hc e=>⟨o,k b o hc e⟩) (fun _ _ e=>e) (fun _ _ _ e=>e) (fun b ps e=>⟨#[],by rw[e];simp⟩) (fun m hm=>?_) (fun b u e=>?_) I.bare
 .obtain⟨_,h1,_,h3,h4,h5⟩:=G b J;exact⟨h3,h1,h4,h5⟩
 .obtain⟨o,es,ep,ho,r⟩:=hm;exact⟨o,es,ep,k _ o (fun z=>(G _ z).2.1 rfl) ho,r⟩
 .refine(I.hok b u e).stay (fun c v hc q=>k c v ?_ q) (fun _ q=>q) fun _ _ q=>q;rcases hc with z|z
  .rw[z];exact F b u e
  .exact F c _ z
structure ZA(z TI TO i1 i2:Af):Prop where
 a1:TI≠z
 a2:TO≠z
 a3:i1≠z
 a4:i2≠z
 a5:TI≠TO
 a6:TI≠i1
 a7:TI≠i2
 a8:TO≠i1
 a9:TO≠i2
 a10:i1≠i2
def jZ(σ:List Str)(v:Str):List Str:=if v∈σ then σ else σ++[v]
def hZ(val:Nat->Str):Nat->List Str
 | 0=>[]
 | i+1=>jZ (hZ val i) (val i)
theorem rS(σ:List Str)(k:Str):(σ.any fun x=>x==k)=decide (k∈σ):=by
 rw[CO,BN,decide_eq_true_iff];constructor
 .rintro⟨x,hx,e⟩;rw[beq_iff_eq]at e;exact e▸hx
 .intro h;exact⟨k,h,beq_self_eq_true k⟩
theorem aDn(σ:List Str)(v k:Str):((jZ σ v).any fun x=>x==k)=((σ.any fun x=>x==k)||decide (k=v)):=by
 rw[rS,rS];unfold jZ;split
 .next h=>
  rw[CO];simp only[decide_eq_true_eq,Bool.or_eq_true];constructor
  .intro z;exact .inl z
  .rintro(z|z)
   .exact z
   .exact z▸h
 .rw[CO];simp
theorem kU(σ:List Str)(v:Str):(jZ σ v).length=if (σ.any fun x=>x==v)=true then σ.length else σ.length+1:=by
 rw[rS];unfold jZ;by_cases h:v∈σ
 .rw[Iq h,Iq (Ir h)]
 .rw[Ip h,Ip (by simpa using h),Av];rfl
theorem oW(val:Nat->Str):∀ i,(hZ val i).length<=i
 | 0=>Aj _
 | i+1=>by
  have F:=oW val i;show(jZ _ _).length<=_;rw[kU];split<;>omega
theorem tR(val:Nat->Str):∀ i k,k∈hZ val i↔∃ j,j<i/\val j=k
 | 0,k=>by
  show k∈[]↔_;simp
 | i+1,k=>by
  show k∈jZ (hZ val i) (val i)↔_;have F:=tR val i;unfold jZ;by_cases h:val i∈hZ val i
  .rw[Iq h,F k];constructor
   .rintro⟨j,hj,e⟩;exact⟨j,by omega,e⟩
   .rintro⟨j,hj,e⟩;by_cases z:j=i
    .subst z;obtain⟨j',hj',e'⟩:=(F _).mp h;exact⟨j',hj',e'.trans e⟩
    .exact⟨j,by omega,e⟩
  .rw[Ip h,AO,F k,AK];constructor
   .rintro(⟨j,hj,e⟩|e)
    .exact⟨j,by omega,e⟩
    .exact⟨i,by omega,e.symm⟩
   .rintro⟨j,hj,e⟩;by_cases z:j=i
    .subst z;exact .inr e.symm
    .exact .inl ⟨j,by omega,e⟩
theorem vZ(val:Nat->Str):∀ i,(hZ val i).length=i↔((A3 i).map val).Nodup
 | 0=>by simp[hZ]
 | i+1=>by
  have G:=vZ val i;have J:=oW val i;show(jZ (hZ val i) (val i)).length=_↔_;rw[kU,rS,DL,Ar,Bu];have hm:val i∈hZ val i↔val i∈(A3 i).map val:=by
   rw[tR,AL];constructor
   .rintro⟨j,hj,e⟩;exact⟨j,CH.mpr hj,e⟩
   .rintro⟨j,hj,e⟩;exact⟨j,CH.mp hj,e⟩
  by_cases h:val i∈hZ val i
  .rw[Iq (Ir h)];constructor
   .intro z;omega
   .rintro⟨_,_,z⟩;exact absurd rfl (z _ (hm.mp h) _ (by simp))
  .rw[Ip (by simpa using h)];constructor
   .intro z;refine⟨G.mp (by omega),by simp,fun a ha b O e=>?_⟩;have F:b=val i:=by simpa using O
    subst F;exact h (hm.mpr (e▸ha))
   .rintro⟨z,_,_⟩;rw[G.mpr z]
theorem aDo(ss:List Str):decide (((hZ (fun i=>ss.getD i "") ss.length).length:Int)=(ss.length:Int))=decide ss.Nodup:=by
 have e:(A3 ss.length).map (fun i=>ss.getD i "")=ss:=by
  apply List.ext_getElem?;intro j;rw[Au];by_cases h:j<ss.length
  .rw[List.getElem?_range h,Ai h];simp[h]
  .rw[CZ (by rw[GX];omega),CZ (by omega)];rfl
 have:=vZ (fun i=>ss.getD i "") ss.length;rw[e]at this;rw[decide_eq_decide,<- this];omega
inductive zF(K:Ah)(x:V)(y:V)(H:Hp)(Q:VK):Prop
 | mk (a:_) (b:_) (ys:_) (q0:x=.ref a) (q1:y=.ref b) (q2:SqT K H a []) (q3:SqT K H b ys) (q4:Q (.ref b) H):zF K x y H Q
def aH9(K:Ah):R2:=fun x y H Q=>zF K x y H Q
theorem aEz:OpR X (binaryOp .Add) (aH9 X.K):=by
 intro im s σ H x y v u Q I G F h;obtain⟨a,b,ys,rfl,rfl,ha,hb,q⟩:=h;cases G;cases F;obtain⟨its,r1,p1,_⟩:=I.tuple ha;obtain⟨its2,r2,p2,_⟩:=I.tuple hb;cases r1;obtain⟨⟨cls,dd,data,sl⟩,ho,hc,n,hd⟩:=id p1;obtain⟨⟨cls2,dd2,data2,sl2⟩,ho2,hc2,n2,hd2⟩:=id p2;simp only at hc hd hc2 hd2;subst hc hd hc2 hd2;exact Ig ⟨_,ho,rfl⟩ ⟨_,ho2,rfl⟩ Hw HW Fg E1 (ER _ _)
   (tuple_addW0 a b _ _ n n2 dd dd2 sl sl2 (by simp)) ⟨ho,ho2,⟨.ref b,H,I,rfl,q⟩⟩
section
variable{st:Bi}{ts:TE}{p2:Pos}
end
mutual
inductive RdV(m:Bool)(H:Hp):V->Bc->Prop
 | non:RdV m H .non .none
 | bl (b:Bool):RdV m H (.bl b) (.bool b)
 | int (i:Int):RdV m H (.int i) (.int i)
 | str (z:Str) (h:z.length<=1000):RdV m H (.str z) (.str z)
 | lst {a:Af} {xs:List V} {ds:List Bc} (hm:m=true) (e:H a=some (.lst xs)) (hl:xs.length<=1000) (r:cF m H xs ds):RdV m H (.ref a) (.list ds)
 | tup {a:Af} {xs:List V} {ds:List Bc} (e:H a=some (.tup xs)) (hl:xs.length<=1000) (r:cF m H xs ds):RdV m H (.ref a) (.tuple ds)
 | dct {a:Af} (hm:m=false) (e:H a=some (.dK [])):RdV m H (.ref a) (.dict [])
inductive cF(m:Bool)(H:Hp):List V->List Bc->Prop
 | nil:cF m H [] []
 | cons {x:V} {d:Bc} {xs:List V} {ds:List Bc} (a:RdV m H x d) (r:cF m H xs ds):cF m H (x::xs) (d::ds)
end
mutual
theorem RdV.keep{m:Bool}{H H':Hp}(k:∀ a o,H a=some o->(∀ F r,o≠.dK (F::r))->H' a=some o):∀{x:V}{d:Bc},RdV m H x d->RdV m H' x d
 | _,_,.non=>.non
 | _,_,.bl b=>.bl b
 | _,_,.int i=>.int i
 | _,_,.str z h=>.str z h
 | _,_,.lst hm e hl r=>.lst hm (k _ _ e (fun _ _ z=>nomatch z)) hl (cF.keep k r)
 | _,_,.tup e hl r=>.tup (k _ _ e (fun _ _ z=>nomatch z)) hl (cF.keep k r)
 | _,_,.dct hm e=>.dct hm (k _ _ e (fun _ _ z=>nomatch z))
theorem cF.keep{m:Bool}{H H':Hp}(k:∀ a o,H a=some o->(∀ F r,o≠.dK (F::r))->H' a=some o):∀{xs:List V}{ds:List Bc},cF m H xs ds->cF m H' xs ds
 | _,_,.nil=>.nil
 | _,_,.cons a r=>.cons (RdV.keep k a) (cF.keep k r)
end
theorem cF.same{m:Bool}{H H':Hp}{x:List V}{d:List Bc}(h:cF m H x d)(s:b8 H H'):cF m H' x d:=h.keep fun a o e _=>s a o e
theorem cF.len{m:Bool}{H:Hp}:∀{xs:List V}{ds:List Bc},cF m H xs ds->xs.length=ds.length
 | _,_,.nil=>rfl
 | _,_,.cons _ r=>by rw[AR,AR,cF.len r]
theorem cF.app{m:Bool}{H:Hp}:∀{xs:List V}{ds:List Bc}{ys:List V}{es:List Bc},cF m H xs ds->cF m H ys es->cF m H (xs++ys) (ds++es)
 | _,_,_,_,.nil,h=>h
 | _,_,_,_,.cons a r,h=>.cons a (cF.app r h)
theorem cF.at{m:Bool}{H:Hp}:∀{xs:List V}{ds:List Bc}{i:Nat}{x:V},cF m H xs ds->xs[i]?=some x->∃ d,ds[i]?=some d/\RdV m H x d
 | _,_,0,_,.cons a r,e=>by simp at e;subst e;exact⟨_,rfl,a⟩
 | _,_,i+1,_,.cons a r,e=>by simp at e;simpa using cF.at r e
mutual
theorem RdV.reads{im:List (Af×Obj)}{σ:St}{m:Bool}{H:Hp}{s:Ae}(I:Inv X im σ H s):∀{x:V}{d:Bc}{v:Ac},RdV m H x d->cC x v->∃ as,Reads s.heap v d as/\(m=true->d.hasDict=false)/\(m=false->¬ sysModules∈as)
 | _,_,_,.non,r=>by cases r;exact⟨[],.none,fun _=>rfl,fun _=>by simp⟩
 | _,_,_,.bl b,r=>by cases r;exact⟨[],.bool b,fun _=>rfl,fun _=>by simp⟩
 | _,_,_,.int i,r=>by obtain⟨t,rfl⟩:=r;exact⟨[],.int i t,fun _=>rfl,fun _=>by simp⟩
 | _,_,_,.str z _,r=>by obtain⟨t,rfl⟩:=r;exact⟨[],.str z t,fun _=>rfl,fun _=>by simp⟩
 | _,_,_,.lst hm e _ rs,r=>by
  cases r;obtain⟨_,its,n,rv,eo⟩:cR X.prog X.w H s.heap _ (.lst _):=I.hok _ _ e;obtain⟨as,ra,h1,h2⟩:=cF.reads I rs rv;exact⟨_,.list eo rfl rfl (by simpa using ra),fun _=>h1 hm,fun z=>by rw[hm]at z;cases z⟩
 | _,_,_,.tup e _ rs,r=>by
  cases r;obtain⟨_,its,rv,pt⟩:cR X.prog X.w H s.heap _ (.tup _):=I.hok _ _ e;obtain⟨as,ra,h1,h2⟩:=cF.reads I rs rv;obtain⟨o,eo,⟨hc,n,hd⟩,_⟩:=pt;exact⟨as,.tuple eo hc hd (by simpa using ra),h1,h2⟩
 | _,_,_,.dct hm e,r=>by
  cases r;obtain⟨_,hs,vs,kv,o,es,ep,eo,hx,hd,hk,hp,_⟩:cR X.prog X.w H s.heap _ (.dK []):=I.hok _ _ e;cases kv;have F:es.toList=[]:=by
   cases h:es.toList with
   | nil=>rfl
   | cons y r=>rw[h]at hp;cases hp
  refine⟨_,Reads.dict (kvs:=[]) (as:=[]) (bs:=[]) eo hx.1 hd (by rw[F];exact .nil) (by rw[F];exact .nil),(fun z=>by rw[hm]at z;cases z),fun _=>?_⟩;intro z;simp at z;rw[z]at hs;simp at hs
theorem cF.reads{im:List (Af×Obj)}{σ:St}{m:Bool}{H:Hp}{s:Ae}(I:Inv X im σ H s):∀{xs:List V}{ds:List Bc}{vs:List Ac},cF m H xs ds->bU xs vs->∃ as,ReadsAll s.heap vs ds as/\(m=true->Bs ds=false)/\(m=false->¬ sysModules∈as)
 | _,_,_,.nil,.nil=>⟨[],.nil,fun _=>rfl,fun _=>by simp⟩
 | _,_,_,.cons a r,.cons F G=>by
  obtain⟨as,h1,h2,h3⟩:=RdV.reads I a F;obtain⟨bs,g1,g2,g3⟩:=cF.reads I r G;refine⟨as++bs,.cons h1 g1,fun z=>?_,fun z w=>?_⟩
  .unfold Bs;rw[h2 z,g2 z];rfl
  .rcases AO.mp w with w|w
   .exact h3 z w
   .exact g3 z w
end
inductive nO(xs:List V)(H:Hp)(Q:VK):Prop
 | mk (a:Af) (m:Bool) (d:Bc) (q0:xs=[.ref a]) (q1:RdV m H (.ref a) d) (q2:d.showable=true) (q3:d.depth<=20) (q4:d.shown.length<=sizeLine) (q5:Q (.str d.shown) H):nO xs H Q
def zG:List V->Hp->VK->Prop:=fun xs H Q=>nO xs H Q
theorem aDp{k:Nat}(F:dC k X.A):fF X (.builtin "repr") zG:=by
 intro im s σ H xs J Q I r h;obtain⟨a,m,d,rfl,hx,hs,hd,hz,q⟩:=h;obtain⟨u,rfl,ru⟩:=fG r;cases ru;obtain⟨as,hrd,h1,h2⟩:=RdV.reads I hx rfl;refine repr_of_reads' hrd hs (fun z=>?_) F.gd (by have:=F.un;omega) (fun b o e=>e) (fun h' u tk G=>⟨.str d.shown,H,I.kept (t':=tk) G,⟨u,rfl⟩,q⟩) hz;cases m with
 | true=>rw[h1 rfl]at z;cases z
 | false=>exact h2 rfl
theorem oX{t sl:Af}{items:Array Ac}{J O:Ac}{lo hi:Option Int}{Q:Ac->Ae->Prop}(ht:Fh s.heap t items)(hs:s.heap.IsSliceOf sl J O .none)(pl:Gb J lo)(Y:Gb O hi)
  (hw:HT.sIx items.size 0 lo=0/\HT.sIx items.size items.size hi=items.size) (h:Q (.ref t) s):wpAny (model prog w) A (getItem (.ref t) (.ref sl)) Q E s:=by
 obtain⟨os,hos,hcs,hds⟩:=id hs;have G:s.TypeIs (.ref sl) "slice":=⟨os,hos,hcs⟩
 unfold getItem
 try with_reducible refine Bx ?_
 first|refine Ab (Ag ?_)|skip
 refine Ab (wpAny_sequenceKey ht.typeIs (by decide) ?_);refine Ab (FV (name:=Bv "__getitem__") ht.typeIs B4
  (CJ B4 ht.typeIs entry_tuple_getitem ?_ (args_tuple_getitem _ _)))
 show wpAny _ _ (Builtin.Tuple.tupleItemsOf (.ref t) >>= _) _ _ s;refine Ab (tupleItemsOf_ ht ?_);refine Ab (Cv G ?_);rw[Iq (by decide)];refine Ab (HT.sliceApplied_gen hs pl Y ?_);have F:(((HT.sIx items.size 0 lo:Nat):Int)==0&&(1:Int)==1&&(HT.sIx items.size items.size hi-HT.sIx items.size 0 lo)==items.size)=true:=by
  rw[hw.1,hw.2];simp
 show wpAny _ _ (if (((HT.sIx items.size 0 lo:Nat):Int)==0&&(1:Int)==1&&(HT.sIx items.size items.size hi-HT.sIx items.size 0 lo)==items.size)=true then _ else _) _ _ s;rw[Iq F];obtain⟨⟨cls,dd,data,sl'⟩,ho,hc,n,hd⟩:=id ht;simp only at hc hd;subst hc hd
 wp_walk
 exact⟨_,rfl,Ag h⟩
inductive aEA(K:Ah)(x:V)(lo:Option Int)(hi:Option Int)(H:Hp)(Q:VK):Prop
 | mk (a:_) (xs:_) (q0:x=.ref a) (q1:H a=some (.tup xs)) (q2:∀ r H',b8 H H'->H' r=some (.tup (p6 xs lo hi))->Q (.ref r) H'):aEA K x lo hi H Q
def aKi(K:Ah):V->Option Int->Option Int->Hp->VK->Prop:=fun x lo hi H Q=>aEA K x lo hi H Q
theorem aB5:SlR X (aKi X.K):=by
 intro im s σ H x v O Z lo hi sl Q I J hs pl G h;obtain⟨a,xs,rfl,hx,q⟩:=h;by_cases hw:HT.sIx xs.length 0 lo=0/\HT.sIx xs.length xs.length hi=xs.length
 .cases J;obtain⟨its,r,ht,hz⟩:=I.tuple (aN hx);have F:its.toArray.size=xs.length:=by rw[Aw];exact r.length.symm
  refine⟨"tuple",_,B4.lookup,ht.typeIs,oX ht hs pl G (by rw[F];exact hw) ⟨.ref a,H,I,rfl,q a H (b8.refl H) ?_⟩⟩;have e:p6 xs lo hi=xs:=by
   unfold p6;rw[hw.1,hw.2,Cr,Dk,AN]
  rw[e];exact hx
 .exact aHX im s σ H _ v O Z lo hi sl Q I J hs pl G ⟨a,xs,rfl,aN hx,hw,fun p Y=>q p _ (aJ Y) aA⟩
inductive aB6(x:V)(y:V)(H:Hp)(Q:VK):Prop
 | mk (a:_) (b:_) (xs:_) (ys:_) (q0:x=.ref a) (q1:y=.ref b) (q2:H a=some (.tup xs)) (q3:H b=some (.tup ys)) (q4:xs.length+ys.length<=1000000) (q5:∀ r H',b8 H H'->H' r=some (.tup (xs++ys))->Q (.ref r) H'):aB6 x y H Q
def aJk:R2:=fun x y H Q=>aB6 x y H Q
theorem aGp:OpR X (binaryOp .Add) aJk:=by
 intro im s σ H x y v u Q I G F h;obtain⟨a,b,xs,ys,rfl,rfl,ha,hb,hz,q⟩:=h;by_cases J:xs=[]
 .subst J;exact aEz im s σ H _ _ v u Q I G F ⟨a,b,ys,rfl,rfl,aN ha,aN hb,q b H (b8.refl H) hb⟩
 .refine aGg im s σ H _ _ v u Q I G F ⟨a,b,xs,ys,rfl,rfl,aN ha,aN hb,J,aP hz,fun h1=>?_,fun h1 p O=>q p _ (aJ O) aA⟩;subst h1;exact q a H (b8.refl H) (by rw[A6];exact ha)
theorem xC{α:Type}(xs:List V)(n:Nat):p6 xs none (some (n:Int))=xs.take n:=by
 unfold p6;rw[HT.sIx_none,HT.sIx_nat,Cr,Dk];by_cases h:n<=xs.length
 .rw[DN h]
 .rw[Fo (by omega),AN,A9 (by omega)]
theorem aEB{α:Type}(xs:List V)(n:Nat):p6 xs (some (n:Int)) none=xs.drop n:=by
 unfold p6;rw[HT.sIx_none,HT.sIx_nat];by_cases h:n<=xs.length
 .rw[DN h];exact A9 (by rw[B3];exact Aj _)
 .rw[Fo (by omega),D5 (Aj _),D5 (by omega),List.take_nil]
open PySem PySem.Spec PyProof.Rows PySem.W
def aKj{α:Type}(n:Nat)(P:α->Prop):KasT α->Prop
 | .ret a=>P a
 | .ask i j k=>i<n/\j<n/\∀ b,aKj n P (k b)
def Pm(n:Nat)(p:Array Nat):Prop:=p.Perm (A3 n).toArray
section
variable{n:Nat}(hn:0<n)
include hn
end
theorem dN{x:Af}{its:Array Ac}{Q:Array Ac->Ae->Prop}(F:Fh s.heap x its)(h:Q its s):wpAny (model prog w) A (Ci (AG x)) Q E s:=by
 obtain⟨⟨cls,dd,data,sl⟩,ho,hc,n,hd⟩:=id F;simp only at hc hd;subst hc hd;unfold Ci
 wp_walk
 exact h
inductive aEC(h:Bl)(v:Ac):Prop
 | mk (t:_) (a:_) (b:_) (c:_) (u1:_) (u2:_) (u3:_) (q0:v=.ref t) (q1:Fh h t #[.int a u1,.int b u2,.str c u3]):aEC h v
def aKK(h:Bl)(v:Ac):Prop:=aEC h v
theorem iX{α β:Type}{f:α->Sem β}{R:α->β->Prop}:∀(l:List α) {Q:List β->Ae->Prop},(∀ v∈l,∃ r,R v r/\∀ J:β->Ae->Prop,J r s->wpAny (model prog w) A (f v) J E s)->(∀ rs:List β,rs.length=l.length->(∀ r∈rs,∃ v∈l,R v r)->Q rs s)->wpAny (model prog w) A (List.mapM f l) Q E s
 | [],Q,_,q=>by
  rw[List.mapM_nil];exact Ag (q [] rfl fun r G=>by simp at G)
 | a::l,Q,h,q=>by
  rw[List.mapM_cons];obtain⟨r,G,hw⟩:=h a Ap;refine Ab (hw _ (Ab (iX l (fun v hv=>h v (Ao _ hv)) fun rs hl F=>Ag (q (r::rs) (by rw[AR,AR,hl]) fun z hz=>?_))));rcases An.mp hz with rfl|hz
  .exact⟨a,Ap,G⟩
  .obtain⟨v,hv,hR⟩:=F z hz;exact⟨v,Ao _ hv,hR⟩
theorem aJl{a kS:Af}{st:Bn}{F:Array Ac}{e e1:Nat}{P:HA->Ae->Prop}(ha:s.heap.get? a=some (seqObj "list" #[] e1))(Y:s.heap.get? kS=some (seqObj "list" F e))(O:a≠kS)(J:F.size<=sizeLine)(hz:(arrOf st).size<=sizeLine)(Z:failedOf st=none)
  (h:P (Fin.done (HQ DK)) { s with heap:=(s.heap.update kS (Bg fun _=>#[])).update a (Bg fun _=>(arrOf st).map (·.2)) }):wpAny (model prog w) A (ksk_tail a false e1 (.ref kS) st) P E s:=by
 unfold ksk_tail;refine Ab (Dw Y rfl ?_ J (A8 _));refine Ab (wpAny_letGo ?_);have G:(s.heap.update kS (Bg fun _=>#[])).get? a=some (seqObj "list" #[] e1):=by
  rw[BR _ _ _ _ O];exact ha
 refine Ab (Gy G rfl ?_);refine Ab (Dw G rfl ?_ (A8 _) (by show((arrOf st).map (·.2)).size<=_;rw[Array.size_map];omega))
 rw[Z];refine AX (by simp) ?_;exact Ag h
theorem v3:∀{out its:List Ac},out.Perm its->∀{xs:List V},bU xs its->∃ ys:List V,ys.Perm xs/\bU ys out:=by
 intro out its Y
 induction Y with
 | nil=>intro xs r;exact⟨xs,.refl _,r⟩
 | cons a _ Z=>
  intro xs r;cases r with
  | cons O F=>
   obtain⟨ys,h1,h2⟩:=Z F;exact⟨_::ys,h1.cons _,.cons O h2⟩
 | swap a b l=>
  intro xs r;cases r with
  | cons O F=>
   cases F with
   | cons r3 r4=>exact⟨_::_::_,.swap _ _ _,.cons r3 (.cons O r4)⟩
 | trans _ _ G J=>
  intro xs r;obtain⟨ys,h1,h2⟩:=J r;obtain⟨zs,h3,h4⟩:=G h2;exact⟨zs,h3.trans h1,h4⟩
inductive aED(H:Hp)(v:Ac):Prop
 | mk (t:_) (a:_) (b:_) (c:_) (q0:v=.ref t) (q1:H t=some (.tup [.int a,.int b,.str c])):aED H v
def aKL(H:Hp)(v:Ac):Prop:=aED H v
section
variable{ta:TA}
end
open PySem.SeqAt
open PySem.AutoSeq1 (wpAny_loadPart')
open PySem.MeetsSeq PySem.MeetsSeq2 PySem.MeetsSeq3
theorem zH{X:Cx}{im:List (Af×Obj)}{σ:St}{H:Hp}{s:Ae}{t:Af}{a b:Int}{c:Str}(I:Inv X im σ H s)(ht:H t=some (.tup [.int a,.int b,.str c])):∃ O G J,Fh s.heap t #[.int a O,.int b G,.str c J]:=by
 obtain⟨_,its,F,hT⟩:cR X.prog X.w H s.heap t (.tup [.int a,.int b,.str c]):=I.hok _ _ ht;cases F with
 | cons r1 F=>
  cases F with
  | cons Y F=>
   cases F with
   | cons Z F=>
    cases F;obtain⟨O,e1⟩:=r1;obtain⟨G,e2⟩:=Y;obtain⟨J,e3⟩:=Z;subst e1 e2 e3;exact⟨O,G,J,hT⟩
inductive aHn(X:Cx)(k:Nat)(ps:List Str)(f:Af)(sp:Sp):Prop
 | mk (fd:Be) (q0:cW X.prog X.w X.K X.mg X.base CX0 k f fd ps sp) (q1:A4 X.K (.ref f)=true) (q2:fH X.K fd ps []):aHn X k ps f sp
def FnV(X:Cx)(k:Nat)(ps:List Str)(f:Af)(sp:Sp):Prop:=aHn X k ps f sp
def aIa(X:Cx)(k:Nat)(ps:List Str)(tv:TE)(t:TA):TE:=fun σ H Q=>tv σ H fun v H1=>∃(f:Af) (sp:Sp),v=.ref f/\FnV X k ps f sp/\t σ H1 fun vs H2=>sp vs H2 Q E0
theorem aEE{X:Cx}{k:Nat}{ps:List Str}{x:Str}{p pos:Pos}{e:Bi}{es:List Bi}{tv:TE}{t:TA}(hv:PE X (.Name x p) tv)(Z:dC k X.A)(ha:PA X (e::es) t)
  (he:starEach (e::es) X.env=(false,eval e X.env)::starEach es X.env:=by rfl) (G:(backTo pos (starEach es X.env)).any (·.1)=false:=by rfl):
  PE X (.Call (.Name x p) (e::es) [] pos) (aIa X k ps tv t):=by
 constructor;intro im s σ H Q I h;refine Dr (thn (hv im s σ H _ I h) fun u s1 ⟨y,H1,O,ry,f,sp,Y,⟨fd,F,hk,hb⟩,h2⟩=>?_);subst Y;cases ry;refine F9 (h₀:=X.base) O.ok.mod.kin hk (thn (ha pos im s1 σ H1 _ O h2) fun us s2 ⟨vs,H2,J,r,q⟩=>⟨J.kIn,?_⟩) he G;exact aD7 F Z hb .nil dU J r (by rw[A6];exact q)
def aJm(ip:List (Key×V))(ty:TE):TE:=fun σ H Q=>ty σ H fun y H2=>∃ k v,y=kV k/\bG ip k=some v/\Q v H2
theorem aGq{X:Cx}{i:Bi}{x:Str}{ty:TE}{a:Af}{vs:List (Key×Ac)}{ip:List (Key×V)}{p pos:Pos}(hd:∀ h:Bl,X.K.In h->h.DictOf (cA X.prog X.w) a vs)(rel:KV ip vs)(Z:Gl X x)(hm:X.mg x=some (.ref a))(hi:PE X i ty)(hs:aH1 i)(G:(x==("__debug__":Str))=false:=by decide):
  PE X (.Subscript (.Name x p) i pos) (aJm ip ty):=by
 constructor;intro im s σ H Q I h;have ho:PE X (.Name x p) (tC (.ref a)):=aF7 Z hm rfl G;refine aB0 PySem.F.slot_dict_getitem.lookup hs (thn (ho im s σ H (fun v H1=>v=.ref a/\ty σ H1 fun y H2=>∃ k v,y=kV k/\bG ip k=some v/\Q v H2) I ⟨rfl,h⟩) fun u s1 ⟨x,H1,I1,rx,ex,q1⟩=>thn (hi im s1 σ H1 _ I1 q1) fun iv s2 ⟨y,H2,J,ry,k,v,Y,l,q2⟩=>?_);subst ex Y;obtain rfl:u=AG a:=rx;have O:=hd s2.heap J.kIn;refine⟨?_,?_⟩
 .obtain⟨o,es,ep,e,hx,_⟩:=O;exact⟨o,e,hx.1⟩
 .obtain⟨w',hw,rw'⟩:=lN.some_of (v:=v) (o:=valueAt vs k) (by rw[<- l];exact rel.val k);exact wpAny_getItem_of (nJ ry) O.mapOf hw ⟨v,H2,J.tok _,rw',q2⟩
section
variable{Q:Ac->Ae->Prop}{b:Bool}
end
theorem tS:∀{ss:List Str}{F:List Ac},bU (ss.map V.str) F->Ei F ss
 | [],_,r=>by rw[Dh]at r;cases r;exact .nil
 | s::ss,_,r=>by
  rw[Aq]at r;cases r with
  | cons J G=>
   obtain⟨t,e⟩:=J;subst e;exact .cons s t (tS G)
theorem kX:∀{F:List Ac}{ns:List Str},Ei F ns->bU (ns.map V.str) F
 | _,_,.nil=>.nil
 | _,_,.cons i t r=>.cons ⟨t,rfl⟩ (kX r)
def aBo(w:AW)(es:Array (Int×Ac))(t:Dj):Prop:=t.led=!w.params.followText "set-order"/\(es.size=0\/t.plain=false)
def lJ(prog:AE)(w:AW)(h:Bl)(a:Af)(S:Str->Bool)(n:Nat):Prop:=
 ∃ o es ep t,h.get? a=some o/\o.ExactSet/\o.data=.set es ep t/\ElemsOf (BX prog w) es.toList/\(∀ k,S k=true↔∃ e∈es.toList,(BX prog w).is k e.2=true)
  /\es.size<scanBound/\t.fits es.size=true/\es.size=n/\aBo w es t
theorem lJ.at{prog:AE}{w:AW}{h h':Bl}{a:Af}{S:Str->Bool}{n:Nat}(x:lJ prog w h a S n)(e:∀ o,h.get? a=some o->h'.get? a=some o):lJ prog w h' a S n:=by
 obtain⟨o,es,ep,t,h1,r⟩:=x;exact⟨o,es,ep,t,e o h1,r⟩
theorem lJ.congr{prog:AE}{w:AW}{h:Bl}{a:Af}{S S':Str->Bool}{n F:Nat}(x:lJ prog w h a S n)(e:∀ k,S k=S' k)(J:n=F):lJ prog w h a S' F:=by
 have G:S=S':=funext e;subst G J;exact x
theorem vD(t:Dj)(n:Nat):(t.orStandIn n).led=t.led:=by
 unfold SetTable.orStandIn;split<;>rfl
theorem aBp(t:Dj)(es:Array (Int×Ac))(h:Int)(x:Ac):(layNew t es h x).2.1.led=t.led:=by
 unfold layNew;split
 .exact vD _ _
 .rfl
theorem vE(t:Dj)(es:Array (Int×Ac))(n:Nat)(G:t.plain=false):(relayAll t es n).2.1.led=t.led/\(relayAll t es n).2.1.plain=false:=by
 unfold relayAll;split
 .next t' ord e=>
  dsimp only;split
  .dsimp only;unfold SetTable.relaid SetTable.laid at e;cases F:SetTable.layClean (SetTable.sizeAbove n-1) (es.map (·.1))with
   | none=>rw[F]at e;cases e
   | some ow=>
    rw[F]at e;cases e;exact⟨rfl,G⟩
  .exact⟨rfl,rfl⟩
 .exact⟨rfl,rfl⟩
theorem lJ.stored{prog:AE}{w:AW}{h:Bl}{a:Af}{o:Obj}{es:Array (Int×Ac)}{ep:Nat}{t:Dj}(ho:h.get? a=some o)(J:o.ExactSet)(hd:o.data=.set es ep t)
  {F:Array (Int×Ac)} {t':Dj} {S':Str->Bool} (O:ElemsOf (BX prog w) F.toList) (G:∀ k,S' k=true↔∃ e∈F.toList,(BX prog w).is k e.2=true) (Z:F.size<scanBound) (Y:t'.fits F.size=true) (hT:aBo w F t'):
  (h.update a (Ih F t')).get? a=some { o with data:=.set F (ep+1) t' }/\lJ prog w (h.update a (Ih F t')) a S' F.size:=by
 obtain⟨hg,_⟩:=SetOf_store (knd:=BX prog w) (S':=S') ho J hd O G Z Y;exact⟨hg,_,F,ep+1,t',hg,J,rfl,O,G,Z,Y,rfl,hT⟩
theorem aJn{prog:AE}{w:AW}{A:AV}{E:Ac->Ae->Prop}{s:Ae}{a:Af}{S:Str->Bool}{n:Nat}{k:Str}{tk:Tok}{Q:Bool->Ae->Prop}(hS:lJ prog w s.heap a S n)(aa:n+1<scanBound)
  (h:∀ h',Ez a s.heap h'->lJ prog w h' a (fun k'=>S k'||decide (k'=k)) (if S k then n else n+1)->Q (!S k) { s with heap:=h' }):
  wpAny (model prog w) A (setAddHashed a (.str k tk) ((BX prog w).hash k)) Q E s:=by
 have ab:=strKind_is prog w k tk;obtain⟨o,es,ep,t,ho,hex,hd,hel,hmem,hb,hf,hn,hTab⟩:=hS;have aC:es.size+1<scanBound:=by rw[hn];exact aa
 unfold setAddHashed setAddHashedIn;refine Bx (Ab (wpAny_setState_of ho hd hf ?_));dsimp only;rw[byScan_of (x:=Bz k tk) rfl hb hel,Iq rfl];unfold setAddByScan;refine Ab (Ab (Ck (Ab (wpAny_setScan_of ab ho hd hf hel ?_))));cases hr:List.findIdx? (fun e=>(BX prog w).is k e.2) es.toList with
 | some j=>
  dsimp only;obtain⟨hj,hpj,_⟩:=List.findIdx?_eq_some_iff_getElem.mp hr;have Y:S k=true:=(hmem k).mpr ⟨es.toList[j],Bk hj,hpj⟩;refine Ag (Ag ?_);have q:=h s.heap (Heap.SameBut.refl a s.heap) ⟨o,es,ep,t,ho,hex,hd,hel,fun z=>by
   rw[Bool.or_eq_true,decide_eq_true_eq,<- hmem z];exact⟨fun hz=>hz.elim id (fun e=>e▸Y),.inl⟩,hb,hf,by rw[Y];exact hn,hTab⟩
  rw[Y]at q;exact q
 | none=>
  dsimp only;have Y:S k=false:=by
   cases hz:S k with
   | false=>rfl
   | true=>
    obtain⟨e,he,hp⟩:=(hmem k).mp hz;have z:=List.findIdx?_eq_none_iff.mp hr e he;rw[hp]at z;exact Bool.noConfusion z
  have F:=layNew_perm t es ((BX prog w).hash k) (Bz k tk);have G:=layNew_fits t es ((BX prog w).hash k) (Bz k tk);have J:=aBp t es ((BX prog w).hash k) (Bz k tk);generalize hL:layNew t es ((BX prog w).hash k) (Bz k tk)=L at F G J ⊢;obtain⟨es1,t1,wasD,gave⟩:=L;dsimp only at F G J ⊢;rw[BB]at F;have ag:ElemsOf (BX prog w) es1.toList:=(hel.push ab rfl).perm F;have Z:=mem_push_iff ab hmem F;have ae:es1.size=n+1:=by rw[<- AY,F.length_eq,Av,AY,hn];rfl
  have al:es1.size<scanBound:=by rw[ae];exact aa
  have gw:∀(b:Bool) {s₁:Ae} {Q':Unit->Ae->Prop},Q' () s₁->wpAny (model prog w) A (match b with|true=>rule "set.scan.the-table-gave-way"|false=>pure ()) Q' E s₁:=fun b s₁ Q' hq=>by cases b<;>first|exact Ag hq|exact Ck hq
  have ai:∀ h',Ez a s.heap h'->lJ prog w h' a (fun k'=>S k'||decide (k'=k)) es1.size->Q true { s with heap:=h' }:=fun h' x1 x2=>by
   have q:=h h' x1;rw[Y]at q;rw[ae]at x2;exact q x2
  have ah:∀ O:Dj,O.led=t.led->O.plain=false->O.fits es1.size=true->
    wpAny (model prog w) A (do
     storeSet a es1 O
     if (!wasD&&O.tooFull)=true then do
       (match (relayAll O es1 (Dp es1.size)).2.2 with|true=>rule "set.scan.the-table-gave-way"|false=>pure ())
       storeSet a (relayAll O es1 (Dp es1.size)).1 (relayAll O es1 (Dp es1.size)).2.1
       pure (some true)
      else pure (some true)) (fun r s'=>wpAny (model prog w) A (match r with|some added=>pure added|none=>setAddHashedIn a (.str k tk) ((BX prog w).hash k) 99999) Q E s') E s:=by
   intro O l2 p2 f2;refine Ab (wpAny_storeSet_of ho hd ?_ (fits_of_scanBound al));obtain⟨ho1,hS1⟩:=lJ.stored (prog:=prog) (w:=w) ho hex hd ag Z al f2 ⟨by rw[l2];exact hTab.1,.inr p2⟩;have an:=Dq s.heap a (Ih es1 O);split
   .have hp:=relayAll_perm O es1 (Dp es1.size);have ak:=relayAll_fits O es1 (Dp es1.size);obtain⟨rl,rp⟩:=vE O es1 (Dp es1.size) p2;generalize relayAll O es1 (Dp es1.size)=R at hp ak rl rp ⊢;obtain⟨es2,t3,g2⟩:=R;dsimp only at hp ak rl rp ⊢;have ap:ElemsOf (BX prog w) es2.toList:=ag.perm hp;have aj:∀ z,(S z||decide (z=k))=true↔∃ e∈es2.toList,(BX prog w).is z e.2=true:=fun z=>(Z z).trans ⟨fun⟨e,he,q⟩=>⟨e,hp.mem_iff.mpr he,q⟩,fun⟨e,he,q⟩=>⟨e,hp.mem_iff.mp he,q⟩⟩;have af:es2.size=es1.size:=by rw[<- AY,hp.length_eq,AY]
    have am:es2.size<scanBound:=by rw[af];exact al
    refine Ab (gw _ (Ab (wpAny_storeSet_of ho1 rfl ?_ (fits_of_scanBound am))));obtain⟨_,hS2⟩:=lJ.stored (prog:=prog) (w:=w) ho1 hex rfl ap aj am ak ⟨by rw[rl,l2];exact hTab.1,.inr rp⟩;rw[af]at hS2;exact Ag (Ag (ai _ (an.trans (Dq _ a _)) hS2))
   .exact Ag (Ag (ai _ an hS1))
  refine Ab (gw _ ?_);split
  .next hpl=>
   rw[hashByValue_scannable 8 (x:=Bz k tk) rfl];refine Ab (Ag ?_);exact ah { t1 with plain:=false } J rfl (SetTable.fits_plain_off G)
  .next hpl=>
   refine Ab (Ag ?_);exact ah t1 J (by simpa using hpl) G
theorem aIb{prog:AE}{w:AW}{A:AV}{R:HN->Ae->Prop}{I:Af}{fp wr:List Af}{G:Array Hu->Array Hu->Prop}{n:Nat}{P:Nat->Ac->Prop}{St:Nat->Ae->Prop}
  (W:WalksS prog w A.in1 I fp wr G n P St) (S:Af) (ag:¬ S∈fp) (val:Nat->Str) (ak:∀(i:Nat) (v:Ac),P i v->∃ t,v=Bz (val i) t) (hb:n+1<scanBound):
  ∀(k i:Nat) (s:Ae),n-i=k->i<=n->St i s->lJ prog w s.heap S (fun Z=>(hZ val i).any fun x=>x==Z) (hZ val i).length->
   (∀ s':Ae,Moved (S::wr) G s s'->lJ prog w s'.heap S (fun Z=>(hZ val n).any fun x=>x==Z) (hZ val n).length->R (Ib (HQ DK)) s')->
   codeAny (model prog w) A (Code.builtin "set.update.loop" { pos:=[AG S,AG I] }) R s:=by
 have ai:¬ S∈wr:=fun h=>ag (W.sub S h);have J:∀ b,b∈wr->b∈S::wr:=fun b hb=>Ao S hb;intro k
 induction k with
 | zero=>
  intro i s hk hi O hS hR;have ao:i=n:=by omega
  subst ao;refine C8 PyProof.Rows.F.entry_set_update_loop ?_;rw[CF Dm];refine Ab (W.done s _ _ O fun s' hm=>?_);refine Ag (hR s' (Hs hm J) ?_);exact hS.at fun o ho=>hm.heap S o ai ho
 | succ k ih=>
  intro i s hk hi O hS hR;have ad:i<n:=by omega
  refine C8 PyProof.Rows.F.entry_set_update_loop ?_;rw[CF Dm];refine Ab (W.item i s _ _ ad O fun v s' hP ae hm=>?_);obtain⟨t,rfl⟩:=ak i v hP;have an:lJ prog w s'.heap S (fun Z=>(hZ val i).any fun x=>x==Z) (hZ val i).length:=by
   exact hS.at fun o ho=>hm.heap S o ai ho
  have Y:(hZ val i).length+1<scanBound:=by
   have:=oW val i;omega
  refine Ab (Bx (Bx (Ab ((BX prog w).pyHash (strKind_is prog w (val i) t) ?_))));refine aJn an Y fun h' aj am=>?_;refine Ag ⟨Fz Dm _,?_⟩;refine ih (i+1) _ (by omega) ad (W.frame (i+1) s' h' _ ae (Dg s'.toks) fun b hb o e=>?_) ?_ fun aq ah af=>?_
  .rw[aj.right b fun h=>ag (h▸hb)];exact e
  .refine am.congr (fun Z=>?_) ?_
   .show _=((jZ _ _).any _)
    rw[aDn]
   .show _=(jZ _ _).length;rw[kU]
  .refine hR aq (Moved.trans W.gtrans (Moved.then_heap (Hs hm J) (Dg s'.toks) fun b o hb e=>?_) ah) af;rw[aj.right b fun h=>hb (h▸Ap)];exact e
theorem aJp{prog:AE}{w:AW}{A:AV}{E:Ac->Ae->Prop}{s:Ae}(a:Ac){Q₁:Ac->Ae->Prop}
  (h:Q₁ (.ref s.heap.objs.size) { s with heap:=s.heap.push { cls:=.type "set",dict:=none,data:=.set #[] 0 (.fresh 0 0 (!w.params.followText "set-order")) } }):
  codeAny (model prog w) A (.call (.builtin "set.__new__") ⟨[.type "set",a],[]⟩) (wants Q₁ E) s:=by
 apply codeAny_of_tree;show wpAny (model prog w) A.in1 (checkBuiltinCall "set.__new__" ⟨[.type "set",a],[]⟩ >>= fun _=>again (.builtin "set.__new__" ⟨[.type "set",a],[]⟩)) _ _ s;apply Ab;refine Fq (F.newCall_set_1 a) (Ag ⟨Fz F.plain_set_new _,?_⟩);apply C8 F.entry_set_new;rw[CF F.plain_set_new];unfold Builtin.«set.__new__» Builtin.Frozenset.newClass;have G:=sub_set_self;obtain⟨hp,gs,dr,tk,os⟩:=s;dsimp only
 wp_walk
 apply wpAny_askSetting;apply Ag;dsimp only;simp only[newObj];apply Ab;apply wpAny_alloc;exact Ag (Ag h)
theorem zI{prog:AE}{w:AW}{A:AV}{E:Ac->Ae->Prop}{s:Ae}{l:Af}{items:Array Ac}{val:Nat->Str}{Q:Ac->Ae->Prop}(hh:A.handled=none)(hl:s.heap.IsList l items)
  (hi:∀(i:Nat) (v:Ac),items[i]?=some v->∃ t,v=Bz (val i) t) (hb:items.size+1<scanBound)
  (h:∀(h':Bl) (tk:Nat),lJ prog w h' s.heap.objs.size (fun k'=>(hZ val items.size).any fun x=>x==k') (hZ val items.size).length->
   (∀(b:Nat) (o:Obj),b<s.heap.objs.size->s.heap.get? b=some o->h'.get? b=some o)->Q (AG s.heap.objs.size) { s with heap:=h',toks:=tk }):
  wpAny (model prog w) A (call (Bt "set") [AG l]) Q E s:=by
 obtain⟨c,tl,hmro⟩:=ET.mro;have O:=ET.made;have ae:=ET.sub;have al:=F.typeCall_set_1 (AG l);refine F5 (codeAny_of_tree (Ag ⟨Code.quiet_builtin _ (by decide),C8 F.entry_type_call ?_⟩));rw[Around.under_plain (weight_type_call_type "set" [AG l] []) rfl];unfold Builtin.«type.__call__»;dsimp only
 iterate 2 refine AX (by first|rfl|decide) ?_
 refine Ab (Fq al ?_);refine Ab (Fq hmro ?_);refine AX (by first|rfl|decide) ?_;refine Ab (Fq O ?_);refine Ab (Ag ?_);refine Ab (Bx (F5 (Eh (aJp (Q₁:=fun obj s₁=>∃ led,led=(!w.params.followText "set-order")/\obj=AG s.heap.objs.size/\s₁={ s with heap:=s.heap.push { cls:=Bt "set",data:=EN #[] 0 (CS 0 0 led) } }) (E:=E) (AG l) ⟨_,rfl,rfl,rfl⟩) fun r s₁ G=>?_)));cases r with
 | error e=>exact G
 | ok fl=>
  cases fl with
  | next=>exact G.elim
  | brk=>exact G.elim
  | cont=>exact G.elim
  | ret v=>
   obtain⟨led,hled,rfl,rfl⟩:=G;have hS:=AH s.heap (o:={ cls:=Bt "set",data:=EN #[] 0 (CS 0 0 led) }) rfl;have hT:F8 { s with heap:=s.heap.push { cls:=Bt "set",data:=EN #[] 0 (CS 0 0 led) } } (AG s.heap.objs.size) "set":=⟨_,hS,rfl⟩
   have ao:=ET.init.lookup;have aj:=ET.init.bind (AG s.heap.objs.size);obtain⟨ol,hol,hcl,nl,hdl⟩:=hl;have J:=Ak { cls:=Bt "set",data:=EN #[] 0 (CS 0 0 led) } hol;have ad:Heap.IsList (s.heap.push { cls:=Bt "set",data:=EN #[] 0 (CS 0 0 led) }) l items:=⟨ol,J,hcl,nl,hdl⟩
   refine Ab (FU hT ae ?_);refine AX (by first|rfl|decide) ?_;refine Ab (Bx ?_);unfold callSpecial?;refine Ab (wpAny_specialOf hT ao ?_);dsimp only;refine Bx ?_;refine Ab (Fq aj ?_);refine Ab (F5 (Eh (codeAny_call_builtin ET.init.plain F.entry_set_init (R:=fun r s'=>match r with|.ok (.ret v)=>v=.none/\Q (.ref s.heap.objs.size) s'|_=>False) (check_set_init_1 hT ?_)) fun r s₁ G=>?_))
   .unfold Builtin.«set.__init__»;refine Ab (B7 (by first|rfl|decide) (Ag ?_));refine Ab (Ab (Ab (Cv hT (AX (by first|rfl|decide) (Ag ?_)))));refine Ag ?_;refine Ab ?_;unfold checkCount
    iterate 2 refine AX (by first|rfl|decide) ?_
    refine AX (by first|rfl|decide) (Ag ?_);refine Ab (Ag ?_);refine Ab ?_;unfold setUsed setState;refine Ab (Ab (wpAny_load' hS ?_));dsimp only;refine AX (by first|rfl|decide) (Ag ?_);refine Ag ?_;refine AX (by first|rfl|decide) ?_;show wpAny _ _ (do let av <- Builtin.Frozenset.updateFrom "set.__init__" s.heap.objs.size (AG l);ret DK) _ _ _;refine Ab ?_;unfold Builtin.Frozenset.updateFrom;refine Ab ?_;have Y:F8 { s with heap:=s.heap.push { cls:=Bt "set",data:=EN #[] 0 (CS 0 0 led) } } (AG l) "list":=⟨ol,J,hcl⟩
    unfold Builtin.Frozenset.isAnySet;refine Ab (FU Y F.sub_list_set ?_);refine FU Y F.sub_list_frozenset ?_;refine AX (by first|rfl|decide) ?_;refine Ab (Cv Y ?_);refine AX (by first|rfl|decide) ?_;refine Ab (Eg ad ?_);refine Ab (wpAny_runValue ?_);have aa:l<s.heap.objs.size:=Ax hol;have Z:(s.heap.push { cls:=Bt "set",data:=EN #[] 0 (CS 0 0 led) }).objs.size=s.heap.objs.size+1:=CV _ _;have af:l≠(s.heap.push { cls:=Bt "set",data:=EN #[] 0 (CS 0 0 led) }).objs.size:=by rw[Z];exact AI (CL aa)
    have am:¬ s.heap.objs.size∈[(s.heap.push { cls:=Bt "set",data:=EN #[] 0 (CS 0 0 led) }).objs.size,l]:=by
     rw[Z];simp only[An,AC,or_false,not_or];exact⟨AI (DF _),D9 aa⟩
    have ak:A.in1.in1.in1.handled=none:=hh;refine aIb (Walks.toS (Hq ak _ l af items)) s.heap.objs.size am val hi hb (items.size-0) 0 _ rfl (A8 _) ⟨⟨_,AH _ rfl,rfl,rfl⟩,Heap.IsList.push ad _⟩ ?_ ?_
    .have ab:=Ak { cls:=Bt "list_iterator",data:=HR #[AG l,BS 0 0] } hS;exact⟨_,#[],0,_,ab,⟨rfl,rfl,rfl⟩,rfl,(fun e he=>by simp at he),(fun k=>by show(false=true)↔_;simp),(by decide),rfl,rfl,hled,.inl rfl⟩
    .rintro⟨h',g',d',tk',os'⟩ hm hS';refine Ag (Ag ⟨rfl,?_⟩);have e1:=hm.gens;have e2:=hm.drawn;have e3:=hm.os;dsimp only at e1 e2 e3;subst e1 e2 e3;refine h h' tk' hS' fun b o hb e=>hm.heap b o ?_ ?_
     .simp only[An,AC,or_false,not_or];rw[Z];exact⟨AI hb,AI (CL hb)⟩
     .exact Ak _ (Ak _ e)
   .cases r with
    | error e=>exact G.elim
    | ok fl=>
     cases fl with
     | next=>exact G.elim
     | brk=>exact G.elim
     | cont=>exact G.elim
     | ret v=>
      obtain⟨rfl,q⟩:=G;refine Ag ?_;refine AX (by first|rfl|decide) ?_;exact Ag q
section
variable{I S T:Af}{i m ep:Nat}{o ot:Obj}{t:Dj}{places:Array Ac}{x:Ac}
theorem aBq{M:Il}{B:AV}{F:Ac->Ae->Prop}{Q:Fin->Ae->Prop}{s:Ae}(G:B.handled=none)(h:∀(e:Ac) (h':Bl),(∀ b u,s.heap.get? b=some u->h'.get? b=some u)->F8 { s with heap:=h' } e "StopIteration"->F e { s with heap:=h' }):
  wpAny M B (newExc (.type "StopIteration") [] >>= fun e=>raiseNew e) Q F s:=by
 refine Ab ?_;simp only[newExc,newTuple];apply Ab;refine Ce ?_ (by size_fits);apply Ab (m:=firstArgMember _ _);refine Fq (a:=DK) (by first|rfl|(simp only[firstArgMember];rfl)) ?_;refine Ce (h:=?_) (by size_fits);simp only[raiseNew];refine Ab (wpAny_handled ?_);rw[G];refine Ab (Ag (wpAny_throw (h (.ref _) _ (fun b u e=>Ak _ (Ak _ e)) ⟨_,AH _ rfl,rfl⟩)))
end
section
variable{I S T:Af}{m ep:Nat}{o ot:Obj}{t:Dj}{places:Array Ac}
structure aKM(prog:AE)(w:AW)(A:AV)(S:Af)(el:List Ac)(s s2:Ae)(I:Af):Prop where
 w:∃(fp:List Af) (P:Nat->Ac->Prop) (St:Nat->Bl->Prop),Walks prog w A I fp [I] el.length P St/\St 0 s2.heap/\I∈fp/\(∀ b∈fp,b<s2.heap.objs.size/\(b=S\/s.heap.objs.size<=b))/\∀ acc,ItemsOf P acc el.length->acc.toList.Perm el
 keep:∀ b u,s.heap.get? b=some u->s2.heap.get? b=some u
 new:s.heap.objs.size<=I
 gens:s2.gens=s.gens
 os:s2.os=s.os
 toks:s2.toks=s.toks
end
section
variable{S:Af}{ep:Nat}{o:Obj}{t:Dj}
end
section
variable{S:Af}{ep:Nat}{o:Obj}{t:Dj}
end
section
variable{S:Af}
end
section
variable{H':Hp}{h':Bl}
theorem tT(val:Nat->Str):∀ i,(hZ val i).Nodup
 | 0=>EL
 | i+1=>by
  show(jZ (hZ val i) (val i)).Nodup;have F:=tT val i;unfold jZ;split
  .exact F
  .next hne=>
   rw[Bu];exact⟨F,by simp,fun x G y J e=>hne (by rw[<- (show y=val i from by simpa using J),<- e];exact G)⟩
def rK(ss:List Str):List Str:=hZ (fun i=>ss.getD i "") ss.length
theorem aEF(ss:List Str)(k:Str):k∈rK ss↔k∈ss:=by
 unfold rK;rw[tR];constructor
 .rintro⟨j,hj,e⟩;rw[<- e,DA,Ai hj];exact Bk hj
 .intro F;obtain⟨j,hj,e⟩:=Bp.mp F;exact⟨j,hj,by rw[DA,Ai hj];exact e⟩
theorem aBr(ss:List Str):(rK ss).Nodup:=tT _ _
def zJ(P:AE)(w:AW)(a:Af)(ss:List Str):HO:=.ext fun h=>lJ P w h a (fun k=>(rK ss).any fun x=>x==k) (rK ss).length
theorem aEG{ss:List Str}{its:List Ac}(J:bU (ss.map V.str) its){i:Nat}{v:Ac}(hv:its.toArray[i]?=some v):∃ t,v=Bz (ss.getD i "") t:=by
 have F:=J.length;rw[Aa]at F;have G:its[i]?=some v:=by simpa using hv
 have hi:i<ss.length:=by
  rw[F];exact(Al.mp G).1
 have e:(ss.map V.str)[i]?=some (V.str (ss.getD i "")):=by
  rw[Au,Ai hi];simp[hi]
 obtain⟨u,hu,ru⟩:=J.get e;rw[G]at hu;cases hu;exact ru
theorem aB7{a b:Str}(h:a.cps.toList=b.cps.toList):a=b:=by
 cases a;cases b;congr;exact Array.toList_inj.mp h
end
def aKk{α:Type}(o:Nat->Nat->Bool):KasT α->α
 | .ret a=>a
 | .ask i j k=>aKk o (k (o i j))
abbrev P3:=Str×Str×Int
def oY(x y:P3):Bool:=if x.1==y.1 then(if x.2.1==y.2.1 then(if x.2.2==y.2.2 then false else decide (x.2.2<y.2.2)) else decide (x.2.1.cps.toList<y.2.1.cps.toList)) else decide (x.1.cps.toList<y.1.cps.toList)
inductive aB8(h:Bl)(v:Ac)(x:P3):Prop
 | mk (t:_) (u1:_) (u2:_) (u3:_) (q0:v=.ref t) (q1:Fh h t #[.str x.1 u1,.str x.2.1 u2,.int x.2.2 u3]):aB8 h v x
def oZ(h:Bl)(v:Ac)(x:P3):Prop:=aB8 h v x
theorem xD{a b:Int}{t u:Tok}{Q:Bool->Ae->Prop}(h:Q (decide (a<b)) s):wpAny (model prog w) A (oneLt' false (BS a t) (BS b u)) Q E s:=by
 rw[oneLt'_eq];show wpAny _ _ (compareOp .Lt (BS a t) (BS b u) >>= _) _ _ _;apply Ab;refine lt_int ?_
 wp_walk
 exact h
theorem xE{a b:Str}{t u:Tok}{Q:Bool->Ae->Prop}(h:Q (decide (a.cps.toList<b.cps.toList)) s):wpAny (model prog w) A (oneLt' false (Bz a t) (Bz b u)) Q E s:=by
 rw[oneLt'_eq];show wpAny _ _ (compareOp .Lt (Bz a t) (Bz b u) >>= _) _ _ _;apply Ab;refine lt_str ?_
 wp_walk
 exact h
theorem ltP{F:Bool}{v1 v2:Ac}{x y:P3}{C:Bool->Ae->Prop}(Y:oZ s.heap v1 x)(O:oZ s.heap v2 y)(h:C (oY x y) s):wpAny (model prog w) A (keyLt' (tuples' F) v1 v2) C E s:=by
 obtain⟨a1,b1,c1⟩:=x;obtain⟨a2,b2,c2⟩:=y;obtain⟨p1,t1,t2,t3,rfl,Y⟩:=Y;obtain⟨p2,u1,u2,u3,rfl,O⟩:=O;dsimp only at Y O;unfold oY at h;dsimp only at h;show wpAny _ _ (Ci (.ref p1) >>= _) _ _ _;refine Ab (dN Y ?_);refine Ab (dN O ?_);dsimp only[EK,Ee,E3];rw[FC];have e1:∀{Q:Bool->Ae->Prop} {a b:Int} {t u:Tok},Q (a==b) s->wpAny (model prog w) A (eqBool (.int a t) (.int b u)) Q E s:=fun{Q a b t u} q=>aBc (y:=.int a) (x:=.int b) ⟨t,rfl⟩ ⟨u,rfl⟩ rfl rfl prog w _ _ q;have e2:∀{Q:Bool->Ae->Prop} {a b:Str} {t u:Tok},Q (a==b) s->wpAny (model prog w) A (eqBool (.str a t) (.str b u)) Q E s:=fun{Q a b t u} q=>Em a t b u prog w _ _ q;refine Ab ?_;rw[Cf];refine Ab (Ab (e2 ?_));cases hz:(a1==a2)with
 | false=>
  rw[hz]at h;refine B7 (by decide) ?_;refine Ab ?_;show wpAny _ _ (oneLt' (F&&0==0) (Bz a1 t1) (Bz a2 u1)) _ _ _;cases F
  .exact xE (Ag (Ag (Ag h)))
  .exact oneLt_str (Ag (Ag (Ag h)))
 | true=>
  rw[hz,Iq rfl]at h;refine AX (by decide) (Ag ?_);dsimp only;rw[Cf];refine Ab (Ab (e2 ?_));cases J:(b1==b2)with
  | false=>
   rw[J]at h;refine B7 (by decide) ?_;refine Ab ?_;have Z:(F&&((0+1:Nat)==0))=false:=by cases F<;>rfl
   show wpAny _ _ (oneLt' (F&&(0+1==0)) (Bz b1 t2) (Bz b2 u2)) _ _ _;rw[Z];exact xE (Ag (Ag (Ag h)))
  | true=>
   rw[J,Iq rfl]at h;refine AX (by decide) (Ag ?_);dsimp only;rw[Cf];refine Ab (Ab (e1 ?_));cases G:(c1==c2)with
   | false=>
    rw[G]at h;refine B7 (by decide) ?_;refine Ab ?_;have Z:(F&&((0+1+1:Nat)==0))=false:=by cases F<;>rfl
    show wpAny _ _ (oneLt' (F&&(0+1+1==0)) (BS c1 t3) (BS c2 u3)) _ _ _;rw[Z];exact xD (Ag (Ag (Ag h)))
   | true=>
    rw[G,Iq rfl]at h;refine AX (by decide) (Ag ?_);dsimp only;rw[F4];exact Ag (Ag h)
theorem aJq{ks:List Ac}{Q:Cn->Ae->Prop}(Z:∀ v∈ks,∃ x,oZ s.heap v x)(h:∀ b,Q (tuples' b) s):wpAny (model prog w) A (keyKind' ks.toArray) Q E s:=by
 rw[keyKind'_eq,Cu];refine Ab ?_;rw[<- bind_pure_comp];refine Ab (iX (R:=fun _ r=>∃ a u,r=some (Bz a u)) ks (fun v hv=>?_) fun rs hl F=>Ag ?_)
 .obtain⟨x,t,u1,u2,u3,rfl,ht⟩:=Z v hv;refine⟨some (.str x.1 u1),⟨x.1,u1,rfl⟩,fun Q' q=>?_⟩;rw[Ie];refine Ab (Cv ht.typeIs ?_);refine AX (by decide) ?_;refine Ab (dN ht ?_);exact Ag q
 .have G:(rs.toArray.all fun x=>x.isSome)=true:=by
   rw[He,A7];intro r Y;obtain⟨v,_,a,u,rfl⟩:=F r Y;rfl
  refine B7 (by rw[G];rfl) ?_;refine Ab (Ck ?_);rw[oneTypeOnly'_eq,Cu]
  iterate 2 refine Ab ?_
  rw[<- bind_pure_comp];refine Ab (iX (R:=fun _ r=>r=Bt "str") _ (fun v hv=>?_) fun ts aa ad=>Ag ?_)
  .have J:some v∈rs:=by simpa using hv
   obtain⟨_,_,a,u,e⟩:=F _ J;cases e;exact⟨_,rfl,fun Q' q=>Cv (Hf s a u) q⟩
  .cases O:ts.toArray[0]? with
   | none=>exact Ag (Ag (h _))
   | some t=>exact Ag (Ag (h _))
theorem oZ.keep{h h':Bl}{v:Ac}{x:P3}(p:oZ h v x)(k:∀ b o,h.get? b=some o->o.cls=.type "tuple"->h'.get? b=some o):oZ h' v x:=by
 obtain⟨t,u1,u2,u3,e,o,ho,hc,r⟩:=p;exact⟨t,u1,u2,u3,e,o,k t o ho hc,hc,r⟩
inductive aB9(H:Hp)(v:V)(x:P3):Prop
 | mk (t:_) (q0:v=.ref t) (q1:H t=some (.tup [.str x.1,.str x.2.1,.int x.2.2])):aB9 H v x
def aEH(H:Hp)(v:V)(x:P3):Prop:=aB9 H v x
theorem aEH.real{im:List (Af×Obj)}{σ:St}{H:Hp}{s:Ae}{v:V}{u:Ac}{x:P3}(I:Inv X im σ H s)(h:aEH H v x)(r:cC v u):oZ s.heap u x:=by
 obtain⟨t,rfl,ht⟩:=h;cases r;obtain⟨_,its,F,hT⟩:cR X.prog X.w H s.heap t (.tup [.str x.1,.str x.2.1,.int x.2.2]):=I.hok _ _ ht;cases F with
 | cons O F=>
  cases F with
  | cons G F=>
   cases F with
   | cons J F=>
    cases F;obtain⟨u1,e1⟩:=O;obtain⟨u2,e2⟩:=G;obtain⟨u3,e3⟩:=J;subst e1 e2 e3;exact⟨t,u1,u2,u3,rfl,hT⟩
section
variable{n:Nat}{π:Nat->Nat}
abbrev ord(π:Nat->Nat):Nat->Nat->Bool:=fun i j=>decide (π i<π j)
variable(hn:0<n)(hπ:∀ i j,i<n->j<n->π i=π j->i=j)
include hn hπ
omit hn hπ in
omit hn hπ in
end
abbrev K3:=Int×Int×Str
abbrev k0:K3:=(0,0,"")
inductive aEI(h:Bl)(v:Ac)(k:K3):Prop
 | mk (t:_) (u1:_) (u2:_) (u3:_) (q0:v=.ref t) (q1:Fh h t #[.int k.1 u1,.int k.2.1 u2,.str k.2.2 u3]):aEI h v k
def aKN(h:Bl)(v:Ac)(k:K3):Prop:=aEI h v k
inductive aCa(H:Hp)(v:Ac)(k:K3):Prop
 | mk (t:_) (q0:v=.ref t) (q1:H t=some (.tup [.int k.1,.int k.2.1,.str k.2.2])):aCa H v k
def aJr(H:Hp)(v:Ac)(k:K3):Prop:=aCa H v k
structure KsX(KR:V->K3->Prop)(H:Hp)(xd:List V)(ks:List Ac)(kk:List K3):Prop where
 len:ks.length=xd.length/\kk.length=xd.length
 key:∀ i,i<xd.length->aJr H (ks.getD i .none) (kk.getD i k0)
 kr:∀ i,i<xd.length->KR (xd.getD i .non) (kk.getD i k0)
section
variable{a:Af}{ip:List (Key×V)}{k:Key}{u r:Ac}
end
section
variable{o f:Bi}{jh jb:Pos}{td ty tx:TE}
end
section
variable{o:Bi}{jh jb:Pos}{td:TE}
end
section
variable{v d:Af}{vs:List (Key×Ac)}
end
section
variable{ta:TA}
end
inductive Fm:V->Str->Prop
 | str (z:Str) (h:z.length<=sizeLine):Fm (.str z) z
 | int (i:Int) (h:i.natAbs.log2<1920):Fm (.int i) (toString i)
abbrev TJ:=Str->St->Hp->VK->Prop
structure PJ(X:Cx)(es:List Bi)(t:TJ):Prop where
 run:∀(im:List (Af×Obj)) (s:Ae) (σ:St) (H:Hp) (Q:VK) (acc:Str),Inv X im σ H s->t acc σ H Q->wpAny (model X.prog X.w) X.A (joinParts acc (evalEach es X.env)) (EP X im σ Q) X.xe s
inductive J0(acc:Str)(σ:St)(H:Hp)(Q:VK):Prop
 | mk (h:acc.length<=sizeLine) (q:Q (.str acc) H):J0 acc σ H Q
inductive JC(z:Str)(t:TJ)(acc:Str)(σ:St)(H:Hp)(Q:VK):Prop
 | mk (h:(acc++z).length<=sizeLine) (q:t (acc++z) σ H Q):JC z t acc σ H Q
inductive JF(t:TJ)(acc:Str)(σ:St)(x:V)(H:Hp)(Q:VK):Prop
 | mk (z:Str) (f:Fm x z) (h:(acc++z).length<=sizeLine) (q:t (acc++z) σ H Q):JF t acc σ x H Q
section
variable{es:List Bi}{t:TJ}
end
open PySem PySem.Spec PyProof.Rows PySem.Builtin PySem.Builtin.Str
inductive aGr(x:V)(xs:List V)(H:Hp)(Q:VK):Prop
 | mk (z y:PySem.Str) (h0:x=.str z) (h1:xs=[.str y]) (hy:(y.length==0)=false) (hz:z.length+2<=sizeLine) (q:∀ L,H L=none->Q (.ref L) (upd H L (.lst ((Txt.split z y).map V.str)))):aGr x xs H Q
open PySem PySem.Spec PyProof.Rows PySem.NumText
inductive aJs(xs:List V)(H:Hp)(Q:VK):Prop
 | mk (x:V) (z:Str) (h0:xs=[x]) (f:Fm x z) (q:Q (.str z) H):aJs xs H Q
inductive aJt(xs:List V)(H:Hp)(Q:VK):Prop
 | mk (z:Str) (n:Int) (h0:xs=[.str z]) (hn:PySem.intText? z=some n) (hl:z.length<=640) (q:Q (.int n) H):aJt xs H Q
section
variable{K:Type}[DecidableEq K]{knd:HeapKind prog w K}
end
open PySem PySem.SetTable
inductive aEJ(t:Dj):Probe->Nat->Prop
 | here {p:Probe} {n:Nat}:t.slot p.j=.empty->aEJ t p n
 | step {p:Probe} {n:Nat}:aEJ t (t.advance p) n->aEJ t p (n+1)
def aKy(t:Dj)(i perturb:Nat):Probe:={ j:=i,more:=runEnd t.mask i-i,i:=i,perturb:=perturb,dummy:=none }
def orb(m:Nat):Nat->Nat->Nat
 | 0,i=>i
 | k+1,i=>orb m k ((i*5+1)%m)
structure aJu(t:Dj)(n:Nat):Prop where
 size:t.place.size=n
 nod:t.dummies=#[]
 mask:(t.mask=7/\n<=4)\/(t.mask=31/\n<=18)
inductive aEK(owner:Array (Option Nat)):Nat->Nat->Nat->Prop
 | here {i p n:Nat}:(owner.getD i (some 0)).isNone=true->aEK owner i p (n+1)
 | step {i p n:Nat}:aEK owner (SetTable.leap 31 i p).1 (SetTable.leap 31 i p).2 n->aEK owner i p (n+1)
structure aKO(owner:Array (Option Nat))(k:Nat):Prop where
 size:owner.size=32
 perm:((A3 32).filterMap fun j=>owner.getD j none).Perm (A3 k)
inductive aHo(prog:AE)(w:AW)(h:Bl)(ks:List (List Str))(v:Ac):Prop
 | mk (b:_) (k:_) (q0:v=.ref b) (q1:IsTupleKey (strKind prog w) h k b) (q2:k∈ks):aHo prog w h ks v
def ElT(prog:AE)(w:AW)(h:Bl)(ks:List (List Str))(v:Ac):Prop:=aHo prog w h ks v
structure aKP(prog:AE)(w:AW)(h:Bl)(a:Af)(rs:List Af)(ks:List (List Str))(o:Obj)(es:Array (Int×Ac))(ep:Nat)(t:Dj):Prop where
 at_:h.get? a=some o
 ex:o.ExactSet
 data:o.data=.set es ep t
 perm:(es.toList.map (·.2)).Perm (rs.map AG)
 els:∀ e∈es.toList,ElT prog w h ks e.2
 tab:aJu t es.size
 led:aBo w es t
abbrev P2:=Str×Str
def aKl(x y:P2):Bool:=if x.1==y.1 then(if x.2==y.2 then false else decide (x.2.cps.toList<y.2.cps.toList)) else decide (x.1.cps.toList<y.1.cps.toList)
inductive aCb(h:Bl)(v:Ac)(x:P2):Prop
 | mk (t:_) (u1:_) (u2:_) (q0:v=.ref t) (q1:Fh h t #[.str x.1 u1,.str x.2 u2]):aCb h v x
def aKz(h:Bl)(v:Ac)(x:P2):Prop:=aCb h v x
def aKA(R:List P2):Prop:=R.Pairwise fun a b=>aKl a b=true
def aEL(H:Hp)(r:Af):P2:=match H r with
 | some (.tup [.str x,.str y])=>(x,y)
 | _=>("","")
def Pairs(H:Hp)(rs:List Af):Prop:=∀ r∈rs,H r=some (.tup [.str (aEL H r).1,.str (aEL H r).2])
section
variable{h:Bl}{a:Af}
end
theorem rT:∀{rs:List Af}{its:List Ac},bU (rs.map V.ref) its->its=rs.map AG
 | [],_,.nil=>rfl
 | r::rs,_,.cons e q=>by
  rw[rT q];cases e;rfl
theorem qE:∀(rs:List Af),bU (rs.map V.ref) (rs.map AG)
 | []=>.nil
 | r::rs=>.cons rfl (qE rs)
section
variable{d I:Af}{od:Obj}{es:Array Ic}{ep i:Nat}
def qW(d:Af)(i n ep:Nat):Obj:={ cls:=.type "dict_keyiterator",dict:=none,data:=.fields #[.ref d,.int i 0,.int n 0,.int ep 0],slots:=#[] }
theorem aGs{n:Nat}(h:s.heap.get? I=some (qW d i n ep)):s.TypeIs (.ref I) "dict_keyiterator":=⟨_,h,rfl⟩
theorem aCc{Q:Option Ac->Ae->Prop}(J:s.heap.get? I=some (qW d i es.size ep))(hd:s.heap.get? d=some od)(O:od.data=.dict es ep)
  (h:∀(key:Ac),es[i]?.map (·.key)=some key->Q (some key) { s with heap:=s.heap.update I (HE (·.setIfInBounds 1 (rawInt ((i:Int)+1)))) })
  (Z:es.size<=i->A.handled=none/\∀ h',(∀ b u,b≠I->s.heap.get? b=some u->h'.get? b=some u)->Q none { s with heap:=h' }):wpAny (model prog w) A (pyNext (.ref I)) Q E s:=by
 have G:=aGs J;have own:Builtin.Dict_items.ownsTuple "dict_keyiterator"=false:=by decide
 unfold pyNext;refine Ab (HU (FV (name:=Bv "__next__") G DJ (CJ DJ G PySem.F.entry_dict_keyiterator_next ?_ (PySem.F.args_dict_keyiterator_next_1 _))));refine Ab (Ag (Ab (Ab ?_)))
 first|refine Ab (EC G (Ag ?_))|refine Ab (Fx G (Ag ?_))
 refine Ab (wpAny_fieldsOf J rfl ?_);rw[own];refine AX (by rfl) ?_;refine Ab (Ag (Ab (wpAny_dictEntries hd O ?_)));refine AX (by simp) ?_;refine Ab (Ag (Ab (wpAny_dictEpoch hd O ?_)));refine AX (by simp) (Ag ?_);by_cases hi:i<es.size
 .simp only[show¬ ((i:Int)<0) from by omega,if_false,Cb,Br hi];refine Ab ?_
  first|refine Ab (EC G (Ag ?_))|refine Ab (Fx G (Ag ?_))
  refine Ab (wpAny_isOneOf_keyiter G ?_);show wpAny _ _ (setField (.ref I) 1 (rawInt ((i:Int)+1)) >>= _) _ _ s;refine Ab (wpAny_setField J rfl (by simp[qW]) ?_);have Y:F8 { s with heap:=s.heap.update I (HE (·.setIfInBounds 1 (rawInt ((i:Int)+1)))) } (.ref I) "dict_keyiterator":=
   ⟨_,FT _ J (Obj.isFreed_of_fields (Obj.data_mapFields rfl _)),Obj.cls_mapFields ..⟩
  refine Ab (Bx (Ab (wpAny_isOneOf_keyiter Y ?_)));show wpAny _ _ (pure es[i].key) _ _ _;exact Ag (Ag ⟨_,rfl,Ag (h _ (by simp[hi]))⟩)
 .obtain⟨hh,q⟩:=Z (by omega);simp only[show¬ ((i:Int)<0) from by omega,if_false,Cb,Array.getElem?_eq_none (show es.size<=i by omega)];refine Ab ?_
  first|refine Ab (EC G (Ag ?_))|refine Ab (Fx G (Ag ?_))
  show wpAny _ _ (setField (.ref I) 0 .none >>= _) _ _ s;refine Ab (wpAny_setField J rfl (by simp[qW]) ?_);refine aBq (show A.in1.handled=none from hh) fun e h' k hE=>?_;refine Ab (FU (T:="StopIteration") (b:=true) hE isSubtype_stop ?_);exact Ag (q h' fun b u nb hb=>k b u ((Dq _ I _).extBut b u nb hb))
theorem aIc(hh:A.handled=none)(O:d≠I)(J:od.data=.dict es ep):
  Walks prog w A I [I,d] [I] es.size (fun i v=>es[i]?.map (·.key)=some v) (fun i h=>h.get? I=some (qW d i es.size ep)/\h.get? d=some od) where
 sub:=fun b Z=>by simp at Z;simp[Z]
 frame:=fun _ _ _ st Y=>⟨Y I (by simp) _ st.1,Y d (by simp) _ st.2⟩
 item:=fun i s Q E hi st G=>by
  refine aCc st.1 st.2 J (fun key F=>?_) fun z=>absurd z (by omega);refine G key _ s.toks F ⟨?_,(Dq ..).extBut d _ O st.2⟩ fun b u nb e=>(Dq ..).extBut b u (by simpa using nb) e;rw[FT _ st.1 (Obj.isFreed_of_fields (Obj.data_mapFields rfl _))];simp[qW,HE,rawInt]
 done:=fun s Q E st G=>aCc st.1 st.2 J (fun key F=>by simp at F) fun _=>⟨hh,fun h' k=>G h' s.toks fun b u nb e=>k b u (by simpa using nb) e⟩
 self:=fun i s Q E st G=>wpAny_pyIter_keyiter (n:=es.size) (ep:=ep) (d:=d) (i:=i) ⟨_,st.1,rfl,rfl⟩ G
theorem aId{Q:Ac->Ae->Prop}(hm:(d==sysModules)=false)(hd:s.heap.get? d=some od)(O:od.ExactDict)(G:od.data=.dict es ep)
  (Y:Q (.ref s.heap.objs.size) { s with heap:=s.heap.push (qW d 0 es.size ep) }):wpAny (model prog w) A (pyIter (.ref d)) Q E s:=by
 have J:s.TypeIs (.ref d) "dict":=⟨od,hd,O.1⟩
 refine wpAny_pyIter_slot J PySem.F.slot_dict_iter (CJ PySem.F.slot_dict_iter J PySem.F.entry_dict_iter ?_ (PySem.F.args_dict_iter_1 _));unfold Builtin.«dict.__iter__» Builtin.Dict.dictSlotNone;refine Ab (Ab (wpAny_notOrdered_dict J ?_));show wpAny _ _ (pure (AG d)) _ _ s;refine Ag ?_;show wpAny _ _ (Builtin.Dict.showsAll d >>= _) _ _ s;unfold Builtin.Dict.showsAll;rw[Ip (by rw[hm];exact Am)];refine Ab (Ag (Ab (wpAny_dictEntries hd G (Ab (wpAny_dictEpoch hd G ?_)))));refine Ab (Ce (Ag ⟨_,rfl,"dict_keyiterator",_,⟨_,AH _ rfl,rfl⟩,DJ.lookup,?_⟩));exact Y
theorem aJv(hm:(d==sysModules)=false)(F:od.ExactDict)(G:od.data=.dict es ep):KdlSrc prog w "dict" d d es.size (fun i v=>es[i]?.map (·.key)=some v) (fun h=>h.get? d=some od) where
 type:=fun _ hd=>⟨od,hd,F.1⟩
 there:=fun _ hd=>⟨Ax hd,Ax hd⟩
 keep:=fun _ _ hd O=>O d (.inl rfl) _ hd
 notList:=by decide
 notTuple:=by decide
 hint:=fun _ _ _ _ hd J=>kdl_hint_dict ⟨od,hd,F.1⟩ J
 iter:=fun _ s Y hd=>⟨qW d 0 es.size ep,_,(fun _ _ J=>aId hm hd F G J),aIc Y (AI (Ax hd)) G,⟨AH _ rfl,Ak _ hd⟩⟩
end
section
variable{st:Bi}{ts:TE}{p2:Pos}
end
structure Fly(P:AE)(w:AW)(outer:List Env)(H H':Hp)(s:Ae)(x:Af)(C:Ac)(s':Ae):Prop where
 os:s'.os=s.os
 bare:E8 s'.gens
 ex:∃(B:Bl) (a0:Ac),Heap.FlyingW B outer x C a0 s'.heap/\HOk P w H' B/\(∀ b o,s.heap.get? b=some o->H b=none->b∉frs outer->B.get? b=some o)/\∀ b o,s.heap.get? b=some o->b∉frs outer->∃ o',B.get? b=some o'
 frf:∀ b∈frs outer,H b=none
 slot:∀ b o,s.heap.get? b=some o->H b=none->b∈frs outer->∃ sl,s'.heap.get? b=some { o with slots:=sl }
 free:∀ b o,s.heap.get? b=some o->H b=none->H' b=none
 tups:∀ b xs,H b=some (.tup xs)->H' b=some (.tup xs)
 frzs:∀ b o u,H b=some (.frz o u)->H' b=some (.frz o u)
 tbls:∀ b ps,H b=some (.tbl ps)->∃ more,H' b=some (.tbl (ps++more))
def CXr(P:AE)(w:AW):CXT:=fun outer H s E e s'=>∃(x:Af) (C:Ac) (H':Hp),e=.ref x/\Fly P w outer H H' s x C s'/\E C none H'
section
variable{N:List Str}{E:XK}
end
structure aKB(h:Bl)(C:Af)(bmB:List Ac)(newId:String)(tl:List Ac)(N':Af)(nm q:Str)(bs:List Ac)(hdct:Bool)(sn:List Str)(sub:List Ac)(ab:Bool)(col:Option Bool)(dd:Option Af)(k0 k1 k2 k3 k5:Option Ac)(mN:Str->Option Ac):Prop where
 ob:h.get? C=some (excClassObj nm q C N' bs tl hdct sn sub ab col dd k0 k1 k2 k3 k5 newId)
 ns:h.Ns N' mN
 ni:mN "__init__"=none
 tl:OwnTail h bmB tl
section
variable{N:List Str}{E:XK}
end
def aGt:Bool->A0->Array A0->Nat->Nat->Nat->StateT Bn Sem (Option Nat):=sortPriv% PySem.Builtin.gallop
def aEM:Array A0->Array A0->StateT Bn Sem (Array A0):=sortPriv% PySem.Builtin.mergeLo
def aEN:Array A0->Array A0->StateT Bn Sem (Array A0):=sortPriv% PySem.Builtin.mergeHi
section
variable{κ:Cn}{it:Array A0}
def qF(prog:AE)(w:AW)(A:AV)(s:Ae)(κ:Cn)(it:Array A0):Prop:=
 ∀ x y,x∈it.toList->y∈it.toList->∀ C:Bool->Ae->Prop,(∀ b,C b s)->wpAny (model prog w) A (keyLt' κ x.1 y.1) C (fun _ _=>False) s
theorem eU{arr:Array A0}{i:Nat}{p:A0}{st:Bn}{Q:A0->Bn->Prop}(hi:arr[i]?=some p)(h:Q p st):wpS (model prog w) A E s (elem' arr i) Q st:=by
 rw[elem'_eq,hi];exact AM h
variable(hc:qF prog w A s κ it)
include hc
end
theorem pr3{α β γ:Type}{P:α×β×γ->Prop}(h:∀ a b c,P (a,b,c)):∀ x,P x:=fun⟨a,b,c⟩=>h a b c
def Pl(a b out:Array A0)(ia ib:Nat):Prop:=(out.toList++(a.toList.drop ia++b.toList.drop ib)).Perm (a.toList++b.toList)
section
variable{a b out:Array A0}{ia ib k:Nat}
theorem j0{c:Array A0}{i:Nat}{p:A0}(e:c[i]?=some p):c.toList.drop i=p::c.toList.drop (i+1):=by
 have F:c.toList[i]?=some p:=by rw[AZ];exact e
 obtain⟨h1,h2⟩:=Al.mp F;rw[<- h2];exact EV h1
theorem cM{c:Array A0}{i j:Nat}:(c.extract i j).toList=(c.toList.drop i).take (j-i):=by simp
theorem jE{c:Array A0}{i:Nat}:(c.extract i c.size).toList=c.toList.drop i:=by
 rw[cM,A9];simp
theorem Pl.pushA{p:A0}(h:Pl a b out ia ib)(e:a[ia]?=some p):Pl a b (out.push p) (ia+1) ib:=by
 unfold Pl at h ⊢;rw[j0 e]at h;rw[BB,AF];exact h
theorem Pl.pushB{p:A0}(h:Pl a b out ia ib)(e:b[ib]?=some p):Pl a b (out.push p) ia (ib+1):=by
 unfold Pl at h ⊢;rw[j0 e]at h;rw[BB,AF];exact(BJ _ (List.perm_middle (l₁:=a.toList.drop ia) (a:=p)).symm).trans h
theorem Pl.runA(h:Pl a b out ia ib):Pl a b (out++a.extract ia (ia+k)) (ia+k) ib:=by
 unfold Pl at h ⊢;rw[AD,cM,CM,AF,<- AF (HI _ _),<- D6,BQ];exact h
theorem Pl.runB(h:Pl a b out ia ib):Pl a b (out++b.extract ib (ib+k)) ia (ib+k):=by
 unfold Pl at h ⊢;refine DD ?_ h;rw[AD,cM,CM,AF];refine BJ _ ?_;refine(Ey _ _ _).trans (BJ _ ?_);rw[<- D6,BQ]
theorem Pl.fin(h:Pl a b out ia ib):(out++a.extract ia a.size++b.extract ib b.size).Perm (a++b):=by
 rw[Bb,AD,AD,AD,jE,jE,AF];exact h
theorem Pl.fin2(h:Pl a b out ia ib):(out++b.extract ib b.size++a.extract ia a.size).Perm (a++b):=by
 rw[Bb,AD,AD,AD,jE,jE,AF];exact(BJ _ CY).trans h
end
theorem bB{M:Il}{A:AV}{E:Ac->Ae->Prop}{s:Ae}{σ α:Type}{c:Prop}[Decidable c]{F G:StateT σ Sem α}{Q:α->σ->Prop}{st:σ}(h1:c->wpS M A E s F Q st)(h2:¬ c->wpS M A E s G Q st):wpS M A E s (if c then F else G) Q st:=by
 split
 .exact h1 ‹_›
 .exact h2 ‹_›
structure Sg(st st':Bn):Prop where
 kind:kindOf st'=kindOf st
 arr:arrOf st'=arrOf st
 pend:pendingOf st'=pendingOf st
 fail:failedOf st'=failedOf st
theorem Sg.refl(st:Bn):Sg st st:=⟨rfl,rfl,rfl,rfl⟩
theorem iC{i j:Nat}(h:¬ (i==j)=true):i≠j:=fun z=>h (by rw[z];exact beq_self_eq_true _)
structure GL(a b:Array A0)(x:Nat)(out:Array A0)(ia ib:Nat):Prop where
 pl:Pl a b out ia ib
 la:ia+1<a.size
 lb:ib<b.size
 on:x<=ia+ib
section
variable{κ:Cn}{it:Array A0}(hc:qF prog w A s κ it)
include hc
end
def Ph(a b out:Array A0)(na nb:Nat):Prop:=(out.toList++(a.toList.take na++b.toList.take nb)).Perm (a.toList++b.toList)
section
variable{a b out:Array A0}{na nb k:Nat}
theorem m7{c:Array A0}{i:Nat}{p:A0}(h:1<=i)(e:c[i-1]?=some p):c.toList.take i=c.toList.take (i-1)++[p]:=by
 obtain⟨j,rfl⟩:∃ j,i=j+1:=⟨i-1,by omega⟩
 rw[Nat.add_sub_cancel]at e ⊢;rw[List.take_succ,AZ,e];rfl
theorem o0{c:Array A0}{i j:Nat}(h:i<=j):c.toList.take j=c.toList.take i++(c.extract i j).toList:=by
 rw[cM];obtain⟨d,rfl⟩:∃ d,j=i+d:=⟨j-i,by omega⟩
 rw[CM];exact List.take_add
theorem Ph.pushA{p:A0}(h:Ph a b out na nb)(h1:1<=na)(e:a[na-1]?=some p):Ph a b (out.push p) (na-1) nb:=by
 unfold Ph at h ⊢;refine DD ?_ h;rw[m7 h1 e,BB,AF,AF];exact BJ _ (Ey _ _ _)
theorem Ph.pushB{p:A0}(h:Ph a b out na nb)(h1:1<=nb)(e:b[nb-1]?=some p):Ph a b (out.push p) na (nb-1):=by
 unfold Ph at h ⊢;refine DD ?_ h;rw[m7 h1 e,BB,AF,<- AF (HI na _)];exact BJ _ CY
theorem Ph.runA(h:Ph a b out na nb)(h1:k<=na):Ph a b (out++(a.extract k na).reverse) k nb:=by
 unfold Ph at h ⊢;refine DD ?_ h;rw[o0 h1,AD,Cj,AF,AF];exact BJ _ ((Da _ (DZ _)).trans (Ey _ _ _))
theorem Ph.runB(h:Ph a b out na nb)(h1:k<=nb):Ph a b (out++(b.extract k nb).reverse) na k:=by
 unfold Ph at h ⊢;refine DD ?_ h;rw[o0 h1,AD,Cj,AF,<- AF (HI na _)];exact BJ _ ((Da _ (DZ _)).trans CY)
theorem Ph.fin(h:Ph a b out na nb):(a.extract 0 na++b.extract 0 nb++out.reverse).Perm (a++b):=by
 rw[Bb,AD,AD,AD,cM,cM,Cj];exact(CY.trans (Da _ (DZ _))).trans h
theorem Ph.fin2(h:Ph a b out na nb):(b.extract 0 nb++a.extract 0 na++out.reverse).Perm (a++b):=by
 rw[Bb,AD,AD,AD,cM,cM,Cj];exact((CY.trans (Da _ (DZ _))).trans (BJ _ CY)).trans h
end
structure GH(a b:Array A0)(x:Nat)(out:Array A0)(na nb:Nat):Prop where
 pl:Ph a b out na nb
 la:1<=na
 lb:2<=nb
 ua:na<=a.size
 ub:nb<=b.size
 on:x+na+nb<=a.size+b.size
section
variable{κ:Cn}{it:Array A0}(hc:qF prog w A s κ it)
include hc
end
structure Sm(st st':Bn):Prop where
 kind:kindOf st'=kindOf st
 arr:(arrOf st').Perm (arrOf st)
 pend:pendingOf st'=pendingOf st
 fail:failedOf st'=failedOf st
theorem Sm.refl(st:Bn):Sm st st:=⟨rfl,DC _,rfl,rfl⟩
theorem Sm.trans{st G F:Bn}(a:Sm st G)(b:Sm G F):Sm st F:=⟨b.1.trans a.1,b.2.trans a.2,b.3.trans a.3,b.4.trans a.4⟩
theorem Sm.rev(st:Bn)(i j k:Nat):Sm st (setArr st (mirror (arrOf st) i j k)):=⟨rfl,mirror_perm _ _ _ _,rfl,rfl⟩
theorem Sm.bub(st:Bn)(i j:Nat):Sm st (setArr st (bubble (arrOf st) i j)):=⟨rfl,bubble_perm _ _ _,rfl,rfl⟩
structure GS(κ:Cn)(it:Array A0)(st:Bn):Prop where
 kind:kindOf st=κ
 perm:(arrOf st).Perm it
 fail:failedOf st=none
theorem GS.on{κ:Cn}{it:Array A0}{st F:Bn}(g:GS κ it st)(m:Sm st F):GS κ it F:=⟨m.1.trans g.1,m.2.trans g.2,m.4.trans g.3⟩
section
variable{κ:Cn}{it:Array A0}
theorem GS.get{st:Bn}(g:GS κ it st){i:Nat}(hi:i<it.size):∃ p,(arrOf st)[i]?=some p/\p∈it.toList:=by
 have F:i<(arrOf st).size:=by rw[g.perm.size_eq];exact hi
 exact⟨_,Br F,(Bb.mp g.perm).mem_iff.mp (by simp)⟩
variable(hc:qF prog w A s κ it)
include hc
end
def aJw:List (Nat×Nat×Nat)->Nat->Nat->Prop
 | [],a,b=>a=b
 | r::l,a,b=>r.1=a/\1<=r.2.1/\aJw l (a+r.2.1) b
theorem xF:∀(l:List A0) (j k:Nat) (c:Array A0),((l.zipIdx j).foldl (fun a q=>a.setIfInBounds (k+q.2) q.1) c).toList=c.toList.take (k+j)++(l++c.toList.drop (k+j+l.length))\/c.size<k+j+l.length
 | [],j,k,c=>.inl (by simp)
 | p::l,j,k,c=>by
  by_cases hz:c.size<k+j+(p::l).length
  .exact .inr hz
  .refine .inl ?_;rw[Ee,Bh];have hl:k+j<c.toList.length:=by simp at hz ⊢;omega
   rcases xF l (j+1) k (c.setIfInBounds (k+j) p)with e|e
   .rw[e,Array.toList_setIfInBounds];have G:(c.toList.set (k+j) p).take (k+(j+1))=c.toList.take (k+j)++[p]:=by
     rw[<- HG,List.take_succ,Ft hl,List.take_set_of_le (Aj _)];rfl
    have F:(c.toList.set (k+j) p).drop (k+(j+1)+l.length)=c.toList.drop (k+j+(p::l).length):=by
     rw[List.drop_set_of_lt (by omega),AR];congr 1;omega
    rw[G,F,AF];rfl
   .exfalso;simp at e hz;omega
theorem aEO{c x:Array A0}{sa n:Nat}(F:x.toList.Perm ((c.toList.drop sa).take n))(hz:sa+n<=c.size):(x.toList.zipIdx.foldl (fun a q=>a.setIfInBounds (sa+q.2) q.1) c).Perm c:=by
 have hl:x.toList.length=n:=by
  rw[F.length_eq];simp;omega
 rcases xF x.toList 0 sa c with e|e
 .rw[Bb,e];rw[Dl,hl];have G:c.toList=c.toList.take sa++((c.toList.drop sa).take n++c.toList.drop (sa+n)):=by
   rw[<- D6,BQ,BQ]
  refine DD (BJ _ (Da _ F)) ?_;rw[<- G]
 .rw[hl]at e;omega
section
variable{κ:Cn}{it:Array A0}
theorem aGu{M:Il}{σ:Type}{a:σ}{Q:PUnit->σ->Prop}{st:σ}(h:Q ⟨⟩ a):wpS M A E s (set a:StateT σ Sem PUnit) Q st:=by
 unfold wpS;rw[StateT.run_set];exact Ag ⟨rfl,h⟩
variable(hc:qF prog w A s κ it)
include hc
end
section
variable{κ:Cn}{it:Array A0}
structure SR(κ:Cn)(it:Array A0)(lo:Nat)(st:Bn):Prop where
 gs:GS κ it st
 le:lo<=it.size
 sg:aJw (pendingOf st).toList 0 lo
variable(hc:qF prog w A s κ it)
include hc
end
section
variable{κ:Cn}{it:Array A0}{rk:A0->Nat}
def tU(prog:AE)(w:AW)(A:AV)(s:Ae)(κ:Cn)(it:Array A0)(rk:A0->Nat):Prop:=
 ∀ x y,x∈it.toList->y∈it.toList->∀ C:Bool->Ae->Prop,C (decide (rk x<rk y)) s->wpAny (model prog w) A (keyLt' κ x.1 y.1) C (fun _ _=>False) s
variable(hc:tU prog w A s κ it rk)
include hc
theorem pA{x y:A0}{st:Bn}{Q:Option Bool->Bn->Prop}(G:kindOf st=κ)(F:x∈it.toList)(J:y∈it.toList)(h:Q (some (decide (rk x<rk y))) st):wpS (model prog w) A E s (lt' x y) Q st:=by
 rw[lt'_eq];refine AB (EW ?_);rw[G];refine AB (Gx (HU (CI (hc x y F J (fun b s'=>s'=s/\b=decide (rk x<rk y)) ⟨rfl,rfl⟩) (fun b s' e=>⟨e.1,?_⟩) fun _ _ e=>e.elim)));rw[e.2];exact AM h
theorem gF{left:Bool}{key:A0}{arr:Array A0}{base n F t:Nat}{st:Bn}{Q:Option Nat->Bn->Prop}(ht:t=if left=true then rk key else rk key+1)(am:key∈it.toList)(ai:∀ i,i<n->∃ p,arr[base+i]?=some p/\p∈it.toList)
  (mono:∀ i j p q,i<=j->j<n->arr[base+i]?=some p->arr[base+j]?=some q->rk p<=rk q) (hh:F<n) (hk:kindOf st=κ)
  (h:∀ k,k<=n->(∀ i p,i<k->arr[base+i]?=some p->rk p<t)->(∀ i p,k<=i->i<n->arr[base+i]?=some p->t<=rk p)->Q (some k) st):wpS (model prog w) A E s (aGt left key arr base n F) Q st:=by
 obtain⟨f,hf⟩:∃ f:Nat->Nat,∀ i p,arr[base+i]?=some p->f i=rk p:=⟨fun i=>(arr[base+i]?).elim 0 rk,fun i p e=>by dsimp only;rw[e];rfl⟩
 have fm:∀ i j,i<=j->j<n->f i<=f j:=fun i j h1 h2=>by
  obtain⟨p,e1,_⟩:=ai i (by omega);obtain⟨q,e2,_⟩:=ai j h2;rw[hf _ _ e1,hf _ _ e2];exact mono i j p q h1 h2 e1 e2
 have h:∀ k,k<=n->(∀ i,i<k->f i<t)->(∀ i,k<=i->i<n->t<=f i)->Q (some k) st:=fun k hk h1 h2=>h k hk (fun i p hi e=>by rw[<- hf _ _ e];exact h1 i hi) (fun i p hi hn e=>by rw[<- hf _ _ e];exact h2 i hi hn);have aj:∀(i:Nat) (Q':Option Bool->Bn->Prop),i<n->(Q' (some (decide (f i<t))) st)->wpS (model prog w) A E s (do
   let x <- elem' arr (base+i)
   if left=true then lt' x key else do
    let r <- lt' key x
    pure (r.map fun b=>!b)) Q' st:=fun i Q' hi q=>by
  obtain⟨p,e,hp⟩:=ai i hi;refine AB (eU e ?_);rw[hf _ _ e]at q;split
  .rename_i hl;rw[Iq hl]at ht;subst ht;exact pA hc hk hp am q
  .rename_i hl;rw[Ip hl]at ht;subst ht;refine AB (pA hc hk am hp (AM ?_));have e2:(some (decide (rk key<rk p))).map (fun b=>!b)=some (decide (rk p<rk key+1)):=by
    by_cases z:rk key<rk p
    .rw[Ir z,Is (by omega)];rfl
    .rw[Is z,Ir (by omega)];rfl
   rw[e2];exact q
 refine AB (aj F _ hh ?_);dsimp only;refine bB (fun c0=>?_) fun c0=>?_
 .have c0:=Iu c0;refine AB (C2 (B1 (I:=fun x c G=>G=st/\c.1=none/\c.2.1<c.2.2/\x+1<=c.2.2/\F+c.2.1<n/\f (F+c.2.1)<t) (Q:=fun c G=>G=st/\c.1=none/\c.2.1<c.2.2/\F+c.2.1<n/\f (F+c.2.1)<t/\(n-F<=c.2.2\/t<=f (F+c.2.2))) ?_ (fun c G z=>?_) ⟨rfl,rfl,by dsimp only;omega,by dsimp only;omega,by dsimp only;omega,by dsimp only;exact c0⟩) ?_)
  .rintro x ⟨r,lo,Z⟩ G _ _ ⟨rfl,z,z1,z2,z3,z4⟩;cases z;dsimp only at z1 z2 z3 z4 ⊢;refine bB (fun c1=>AM ⟨rfl,rfl,z1,z3,z4,.inl c1⟩) fun c1=>?_;refine AB (aj _ _ (by omega) ?_);dsimp only;refine bB (fun Y=>AM ⟨rfl,rfl,z1,z3,z4,.inr ?_⟩) fun Y=>AM ⟨rfl,rfl,by dsimp only;omega,by dsimp only;omega,by dsimp only;omega,?_⟩
   .by_cases c3:f (F+Z)<t
    .rw[Ir c3]at Y;cases Y
    .dsimp only;omega
   .by_cases c3:f (F+Z)<t
    .exact c3
    .rw[Is c3]at Y;exact absurd rfl Y
  .obtain⟨z0,z,z1,z2,z3,z4⟩:=z;exact⟨z0,z,z1,z3,z4,.inl (by omega)⟩
  .rintro⟨r,lo,Z⟩ G ⟨rfl,z,z1,z3,z4,z5⟩;cases z;dsimp only at z1 z3 z4 z5 ⊢;refine AB (C2 (B1 (I:=fun x c J=>J=G/\c.1=none/\c.2.2<=n/\c.2.1<=c.2.2/\c.2.2-c.2.1+x<=n/\(∀ i,i<c.2.1->f i<t)/\(∀ i,c.2.2<=i->i<n->t<=f i)) (Q:=fun c J=>J=G/\c.1=none/\c.2.2<=n/\(∀ i,i<c.2.2->f i<t)/\(∀ i,c.2.2<=i->i<n->t<=f i)) ?_ (fun c G z=>?_) ⟨rfl,rfl,by dsimp only;omega,by dsimp only;omega,by dsimp only;omega,?_,?_⟩) ?_)
   .rintro x ⟨r,lo,hi⟩ J _ _ ⟨rfl,z,y1,y2,y3,y4,y5⟩;cases z;dsimp only at y1 y2 y3 y4 y5 ⊢;refine bB (fun c1=>AM ⟨rfl,rfl,y1,fun i O=>y4 i (by dsimp only at O;omega),y5⟩) fun c1=>?_;refine AB (aj _ _ (by omega) ?_);dsimp only;refine bB (fun Y=>AM ⟨rfl,rfl,y1,by dsimp only;omega,by dsimp only;omega,fun i O=>?_,y5⟩) fun Y=>AM ⟨rfl,rfl,by dsimp only;omega,by dsimp only;omega,by dsimp only;omega,y4,fun i O hn=>?_⟩
    .have c3:=Iu Y;dsimp only at O;have:=fm i (lo+(hi-lo)/2) (by omega) (by omega);omega
    .dsimp only at O;have:=fm (lo+(hi-lo)/2) i (by omega) hn;have c3:¬ f (lo+(hi-lo)/2)<t:=fun c3=>Y (Ir c3);omega
   .obtain⟨x0,z,y1,y2,y3,y4,y5⟩:=z;exact⟨x0,z,y1,fun i O=>y4 i (by omega),y5⟩
   .dsimp only;intro i O;have:=fm i (F+lo) (by omega) z3;omega
   .dsimp only;intro i O hn;rcases z5 with z5|z5
    .omega
    .have:=fm (F+Z) i (by omega) hn;omega
   .rintro⟨r,lo,hi⟩ J ⟨rfl,z,y1,y4,y5⟩;cases z;exact AM (h _ y1 y4 y5)
 .have c0:t<=f F:=by
   by_cases c3:f F<t
   .exact absurd (Ir c3) c0
   .omega
  refine AB (C2 (B1 (I:=fun x c G=>G=st/\c.1=none/\c.2.1<c.2.2/\x+1<=c.2.2/\c.2.1<=F/\t<=f (F-c.2.1)) (Q:=fun c G=>G=st/\c.1=none/\c.2.1<c.2.2/\c.2.1<=F/\t<=f (F-c.2.1)/\(F+1<=c.2.2\/f (F-c.2.2)<t)) ?_ (fun c G z=>?_) ⟨rfl,rfl,by dsimp only;omega,by dsimp only;omega,by dsimp only;omega,by dsimp only;exact c0⟩) ?_)
  .rintro x ⟨r,lo,Z⟩ G _ _ ⟨rfl,z,z1,z2,z3,z4⟩;cases z;dsimp only at z1 z2 z3 z4 ⊢;refine bB (fun c1=>AM ⟨rfl,rfl,z1,z3,z4,.inl c1⟩) fun c1=>?_;refine AB (aj _ _ (by omega) ?_);dsimp only;refine bB (fun Y=>AM ⟨rfl,rfl,z1,z3,z4,.inr (Iu Y)⟩) fun Y=>AM ⟨rfl,rfl,by dsimp only;omega,by dsimp only;omega,by dsimp only;omega,?_⟩;by_cases c3:f (F-Z)<t
   .exact absurd (Ir c3) Y
   .dsimp only;omega
  .obtain⟨z0,z,z1,z2,z3,z4⟩:=z;exact⟨z0,z,z1,z3,z4,.inl (by omega)⟩
  .rintro⟨r,lo,Z⟩ G ⟨rfl,z,z1,z3,z4,z5⟩;cases z;dsimp only at z1 z3 z4 z5 ⊢;refine AB (C2 (B1 (I:=fun x c J=>J=G/\c.1=none/\c.2.2<=n/\c.2.1<=c.2.2/\c.2.2-c.2.1+x<=n/\(∀ i,i<c.2.1->f i<t)/\(∀ i,c.2.2<=i->i<n->t<=f i)) (Q:=fun c J=>J=G/\c.1=none/\c.2.2<=n/\(∀ i,i<c.2.2->f i<t)/\(∀ i,c.2.2<=i->i<n->t<=f i)) ?_ (fun c G z=>?_) ⟨rfl,rfl,by dsimp only;omega,by dsimp only;omega,by dsimp only;omega,?_,?_⟩) ?_)
   .rintro x ⟨r,lo,hi⟩ J _ _ ⟨rfl,z,y1,y2,y3,y4,y5⟩;cases z;dsimp only at y1 y2 y3 y4 y5 ⊢;refine bB (fun c1=>AM ⟨rfl,rfl,y1,fun i O=>y4 i (by dsimp only at O;omega),y5⟩) fun c1=>?_;refine AB (aj _ _ (by omega) ?_);dsimp only;refine bB (fun Y=>AM ⟨rfl,rfl,y1,by dsimp only;omega,by dsimp only;omega,fun i O=>?_,y5⟩) fun Y=>AM ⟨rfl,rfl,by dsimp only;omega,by dsimp only;omega,by dsimp only;omega,y4,fun i O hn=>?_⟩
    .have c3:=Iu Y;dsimp only at O;have:=fm i (lo+(hi-lo)/2) (by omega) (by omega);omega
    .dsimp only at O;have:=fm (lo+(hi-lo)/2) i (by omega) hn;have c3:¬ f (lo+(hi-lo)/2)<t:=fun c3=>Y (Ir c3);omega
   .obtain⟨x0,z,y1,y2,y3,y4,y5⟩:=z;exact⟨x0,z,y1,fun i O=>y4 i (by omega),y5⟩
   .dsimp only;intro i O;rcases z5 with z5|z5
    .omega
    .have:=fm i (F-Z) (by omega) (by omega);omega
   .dsimp only;intro i O hn;have:=fm (F-lo) i (by omega) hn;omega
   .rintro⟨r,lo,hi⟩ J ⟨rfl,z,y1,y4,y5⟩;cases z;exact AM (h _ y1 y4 y5)
end
def UpL(rk:A0->Nat)(l:List A0):Prop:=l.Pairwise fun x y=>rk x<=rk y
section
variable{rk:A0->Nat}{c:Array A0}
theorem lU(h:UpL rk c.toList){i j:Nat}{p q:A0}(hi:i<=j)(e1:c[i]?=some p)(F:c[j]?=some q):rk p<=rk q:=by
 rw[<- AZ]at e1 F;obtain⟨h1,rfl⟩:=Al.mp e1;obtain⟨h2,rfl⟩:=Al.mp F;rcases DG i j with hl|hl
 .exact DH.mp h i j h1 h2 hl
 .have:i=j:=by omega
  subst this;exact Aj _
theorem iN{i:Nat}{y:A0}(h:y∈c.toList.drop i):∃ j,i<=j/\j<c.size/\c[j]?=some y:=by
 obtain⟨n,hn,e⟩:=Bp.mp h;rw[List.getElem_drop]at e;rw[B3,AY]at hn;refine⟨i+n,by omega,by omega,?_⟩;rw[<- AZ,<- e];exact Ai _
theorem eV{i j:Nat}{y:A0}(h:y∈(c.extract i j).toList):∃ m,i<=m/\m<j/\c[m]?=some y:=by
 rw[cM]at h;obtain⟨n,hn,e⟩:=Bp.mp h;rw[GZ,List.getElem_drop]at e;rw[AJ,B3,AY]at hn;refine⟨i+n,by omega,by omega,?_⟩;rw[<- AZ,<- e];exact Ai _
theorem rV(h:UpL rk c.toList){i:Nat}{p:A0}(e:c[i]?=some p):∀ y∈c.toList.drop i,rk p<=rk y:=fun y F=>by
 obtain⟨j,h1,_,h3⟩:=iN F;exact lU h h1 e h3
theorem kZ(h:UpL rk c.toList)(i:Nat):UpL rk (c.toList.drop i):=List.Pairwise.sublist (List.drop_sublist _ _) h
theorem fX{o l:List A0}:UpL rk (o++l)↔UpL rk o/\UpL rk l/\∀ x∈o,∀ y∈l,rk x<=rk y:=F1
theorem rW{o R A' B:List A0}(u:UpL rk o)(oa:∀ x∈o,∀ y∈R++A',rk x<=rk y)(ob:∀ x∈o,∀ y∈B,rk x<=rk y)(ua:UpL rk (R++A'))(J:∀ x∈R,∀ y∈B,rk x<=rk y):
  UpL rk (o++R)/\(∀ x∈o++R,∀ y∈A',rk x<=rk y)/\∀ x∈o++R,∀ y∈B,rk x<=rk y:=by
 obtain⟨u1,u2,u3⟩:=fX.mp ua;refine⟨fX.mpr ⟨u,u1,fun x F y G=>oa x F y (BG _ G)⟩,fun x F y G=>?_,fun x F y G=>?_⟩
 .rcases AO.mp F with F|F
  .exact oa x F y (AS _ G)
  .exact u3 x F y G
 .rcases AO.mp F with F|F
  .exact ob x F y G
  .exact J x F y G
end
structure PlR(rk:A0->Nat)(a b out:Array A0)(ia ib:Nat):Prop where
 pl:Pl a b out ia ib
 up:UpL rk out.toList
 oa:∀ x∈out.toList,∀ y∈a.toList.drop ia,rk x<=rk y
 ob:∀ x∈out.toList,∀ y∈b.toList.drop ib,rk x<=rk y
structure Gd(rk:A0->Nat)(a b r:Array A0):Prop where
 pm:r.Perm (a++b)
 up:UpL rk r.toList
section
variable{rk:A0->Nat}{a b out:Array A0}{ia ib k:Nat}
theorem aCd{c:Array A0}:c.toList.drop ia=(c.extract ia (ia+k)).toList++c.toList.drop (ia+k):=by
 rw[cM,CM,<- D6,BQ]
theorem PlR.pushA{p:A0}(h:PlR rk a b out ia ib)(ua:UpL rk a.toList)(e:a[ia]?=some p)(J:∀ y∈b.toList.drop ib,rk p<=rk y):PlR rk a b (out.push p) (ia+1) ib:=by
 obtain⟨h1,h2,h3,h4⟩:=h;have F:=kZ ua ia;rw[j0 e]at h3 F;obtain⟨s1,s2,s3⟩:=rW (R:=[p]) h2 h3 h4 F (fun x G=>by rw[AK.mp G];exact J);exact⟨h1.pushA e,by rw[BB];exact s1,by rw[BB];exact s2,by rw[BB];exact s3⟩
theorem PlR.pushB{p:A0}(h:PlR rk a b out ia ib)(ub:UpL rk b.toList)(e:b[ib]?=some p)(J:∀ y∈a.toList.drop ia,rk p<=rk y):PlR rk a b (out.push p) ia (ib+1):=by
 obtain⟨h1,h2,h3,h4⟩:=h;have F:=kZ ub ib;rw[j0 e]at h4 F;obtain⟨s1,s2,s3⟩:=rW (R:=[p]) h2 h4 h3 F (fun x G=>by rw[AK.mp G];exact J);exact⟨h1.pushB e,by rw[BB];exact s1,by rw[BB];exact s3,by rw[BB];exact s2⟩
theorem PlR.runA(h:PlR rk a b out ia ib)(ua:UpL rk a.toList)(G:∀ x∈(a.extract ia (ia+k)).toList,∀ y∈b.toList.drop ib,rk x<=rk y):PlR rk a b (out++a.extract ia (ia+k)) (ia+k) ib:=by
 obtain⟨h1,h2,h3,h4⟩:=h;have F:=kZ ua ia;rw[aCd (k:=k)]at h3 F;obtain⟨s1,s2,s3⟩:=rW h2 h3 h4 F G;exact⟨h1.runA,by rw[AD];exact s1,by rw[AD];exact s2,by rw[AD];exact s3⟩
theorem PlR.runB(h:PlR rk a b out ia ib)(ub:UpL rk b.toList)(G:∀ x∈(b.extract ib (ib+k)).toList,∀ y∈a.toList.drop ia,rk x<=rk y):PlR rk a b (out++b.extract ib (ib+k)) ia (ib+k):=by
 obtain⟨h1,h2,h3,h4⟩:=h;have F:=kZ ub ib;rw[aCd (k:=k)]at h4 F;obtain⟨s1,s2,s3⟩:=rW h2 h4 h3 F G;exact⟨h1.runB,by rw[AD];exact s1,by rw[AD];exact s3,by rw[AD];exact s2⟩
theorem PlR.fin(h:PlR rk a b out ia ib)(ua:UpL rk a.toList)(ub:UpL rk b.toList)(hz:ia=a.size\/ib=b.size):Gd rk a b (out++a.extract ia a.size++b.extract ib b.size):=by
 refine⟨h.pl.fin,?_⟩;rw[AD,AD,jE,jE];rcases hz with rfl|rfl
 .rw[Fw (by simp),A6];exact fX.mpr ⟨h.up,kZ ub _,h.ob⟩
 .rw[Fw (l:=b.toList) (by simp),A6];exact fX.mpr ⟨h.up,kZ ua _,h.oa⟩
theorem PlR.fin2(h:PlR rk a b out ia ib)(ub:UpL rk b.toList)(hl:∀ x∈b.toList,∀ y,a[a.size-1]?=some y->rk x<=rk y)(hz:ia+1=a.size):Gd rk a b (out++b.extract ib b.size++a.extract ia a.size):=by
 refine⟨h.pl.fin2,?_⟩;rw[AD,AD,jE,jE];have e:a[ia]?=some a[ia]:=Br (by omega);have J:a.toList.drop ia=[a[ia]]:=by
  rw[j0 e,Fw (by simp;omega)]
 have oa:=h.oa;rw[J]at oa ⊢;refine fX.mpr ⟨fX.mpr ⟨h.up,kZ ub _,h.ob⟩,List.pairwise_singleton _ _,fun x F y G=>?_⟩;rcases AO.mp F with F|F
 .exact oa x F y G
 .rw[AK.mp G];exact hl x (C5 F) _ (by rw[show a.size-1=ia by omega];exact e)
theorem PlR.start{p:A0}(ua:UpL rk a.toList)(ub:UpL rk b.toList)(e:b[0]?=some p)(J:∀ y,a[0]?=some y->rk p<=rk y):PlR rk a b #[p] 0 1:=by
 have h:PlR rk a b #[] 0 0:=⟨List.Perm.refl _,B6,fun x F=>(nomatch F),fun x F=>(nomatch F)⟩
 refine h.pushB ub e fun y O=>?_;obtain⟨j,_,hj,e2⟩:=iN O;have G:a[0]?=some a[0]:=Br (by omega);exact Ay (J _ G) (lU ua (A8 j) G e2)
end
structure GLR(rk:A0->Nat)(a b:Array A0)(x:Nat)(out:Array A0)(ia ib:Nat):Prop where
 pl:PlR rk a b out ia ib
 la:ia+1<a.size
 lb:ib<b.size
 on:x<=ia+ib
section
variable{κ:Cn}{it:Array A0}{rk:A0->Nat}(hc:tU prog w A s κ it rk)
include hc
theorem xG{a b:Array A0}{st:Bn}{Q:Array A0->Bn->Prop}(ha:1<=a.size)(hb:1<=b.size)(iA:∀ p∈a.toList,p∈it.toList)(iB:∀ p∈b.toList,p∈it.toList)(hk:kindOf st=κ)
  (ua:UpL rk a.toList) (ub:UpL rk b.toList) (h0:∀ x y,b[0]?=some x->a[0]?=some y->rk x<=rk y) (hl:∀ x∈b.toList,∀ y,a[a.size-1]?=some y->rk x<=rk y)
  (h:∀ out F,Gd rk a b out->Sg st F->Q out F):wpS (model prog w) A E s (aEM a b) Q st:=by
 have gA:∀ i,i<a.size->∃ p,a[i]?=some p/\p∈it.toList:=fun i hi=>⟨_,Br hi,iA _ (by simp)⟩
 have gB:∀ i,i<b.size->∃ p,b[i]?=some p/\p∈it.toList:=fun i hi=>⟨_,Br hi,iB _ (by simp)⟩
 refine AB (Gx (Ck ⟨rfl,?_⟩));obtain⟨p0,e0,_⟩:=gB 0 hb;have hS:=PlR.start ua ub e0 fun y=>h0 _ y e0;refine AB (eU e0 ?_);refine bB (fun c=>AM (h _ _ (hS.fin ua ub (.inr (eq_of_beq c))) (Sg.refl _))) fun n1=>?_;have bj:1≠b.size:=fun z=>n1 (by rw[<- z];rfl);refine bB (fun c=>AM (h _ _ (hS.fin2 ub hl (eq_of_beq c)) (Sg.refl _))) fun n2=>?_;have bm:1≠a.size:=fun z=>n2 (by rw[<- z];rfl);refine AB (EW ?_);dsimp only;have Y:∀(i:Nat) (Q':A0->Bn->Prop) (F:Bn),i<a.size->(∀ p,a[i]?=some p->p∈it.toList->Q' p F)->wpS (model prog w) A E s (elem' a i) Q' F:=fun i Q' F hi q=>by
  obtain⟨p,e,hp⟩:=gA i hi;exact eU e (q p e hp)
 have Z:∀(i:Nat) (Q':A0->Bn->Prop) (F:Bn),i<b.size->(∀ p,b[i]?=some p->p∈it.toList->Q' p F)->wpS (model prog w) A E s (elem' b i) Q' F:=fun i Q' F hi q=>by
  obtain⟨p,e,hp⟩:=gB i hi;exact eU e (q p e hp)
 refine AB (C2 (B1 (I:=fun x c F=>c.1=none/\GLR rk a b x c.2.1 c.2.2.1 c.2.2.2.1/\Sg st F) (Q:=fun c F=>∃ r,c.1=some r/\Gd rk a b r/\Sg st F) ?_ (fun c F z=>?_) ⟨rfl,⟨hS,by dsimp only;omega,by dsimp only;omega,by dsimp only;omega⟩,Sg.refl _⟩) ?_)
 .refine fun x=>pr3 fun r out=>pr3 fun ia ib mg F _ hx=>?_;rintro⟨z,g,sg⟩;cases z;dsimp only at g ⊢;refine AB (C2 (B1 (I:=fun y c F=>c.1=none/\GLR rk a b (x+y) c.2.1 c.2.2.1 c.2.2.2.1/\Sg st F) (Q:=fun c F=>Sg st F/\((∃ r,c.1=some r/\Gd rk a b r)\/(c.1=none/\GLR rk a b (x+1) c.2.1 c.2.2.1 c.2.2.2.1))) ?_ (fun c F z=>?_) ⟨rfl,g,sg⟩) ?_)
  .refine fun y=>pr3 fun r out=>pr3 fun ia ib=>Prod.rec fun ac bc F _ J=>?_;rintro⟨z,g,sg⟩;cases z;obtain⟨hP,h1,h2,h3⟩:=g;dsimp only at hP h1 h2 h3 ⊢;refine AB (Z _ _ _ h2 fun p ep hp=>AB (Y _ _ _ (by omega) fun q eq hq=>AB (pA hc (sg.kind.trans hk) hp hq ?_)));dsimp only;refine bB (fun cw=>?_) fun cw=>?_
   .have cw:=Iu cw;refine AB (Z _ _ _ h2 fun p' O _=>?_);obtain rfl:p=p':=BD.inj (ep.symm.trans O);have G:=hP.pushB ub ep fun y J=>Ay (BU cw) (rV ua eq y J);refine bB (fun c=>AM ⟨sg,.inl ⟨_,rfl,G.fin ua ub (.inr (eq_of_beq c))⟩⟩) fun n=>?_;have n':ib+1≠b.size:=fun z=>n (by rw[z];exact beq_self_eq_true _);exact bB (fun _=>AM ⟨sg,.inr ⟨rfl,G,h1,by dsimp only;omega,by dsimp only;omega⟩⟩) fun _=>AM ⟨rfl,⟨G,h1,by dsimp only;omega,by dsimp only;omega⟩,sg⟩
   .have cw:rk q<=rk p:=CT fun z=>cw (Ir z);refine AB (Y _ _ _ (by omega) fun p' O _=>?_);obtain rfl:q=p':=BD.inj (eq.symm.trans O);have G:=hP.pushA ua eq fun y J=>Ay cw (rV ub ep y J);refine bB (fun c=>AM ⟨sg,.inl ⟨_,rfl,G.fin2 ub hl (eq_of_beq c)⟩⟩) fun n=>?_;have n':ia+1+1≠a.size:=fun z=>n (by rw[z];exact beq_self_eq_true _);exact bB (fun _=>AM ⟨sg,.inr ⟨rfl,G,by dsimp only;omega,h2,by dsimp only;omega⟩⟩) fun _=>AM ⟨rfl,⟨G,by dsimp only;omega,h2,by dsimp only;omega⟩,sg⟩
  .obtain⟨z1,⟨hP,h1,h2,h3⟩,sg⟩:=z;exact⟨sg,.inr ⟨z1,hP,h1,h2,by omega⟩⟩
  .rintro⟨r,out,ia,ib,ac,bc⟩ F ⟨sg,⟨r',z,hr⟩|⟨z,g⟩⟩
   .cases z;exact AM ⟨_,rfl,hr,sg⟩
   .cases z;dsimp only at g ⊢;refine AB (Gx (Ck ⟨rfl,?_⟩));refine AB (C2 (B1 (I:=fun y c F=>c.1=none/\GLR rk a b (x+1) c.2.1 c.2.2.1 c.2.2.2.1/\Sg st F) (Q:=fun c F=>Sg st F/\((∃ r,c.1=some r/\Gd rk a b r)\/(c.1=none/\GLR rk a b (x+1) c.2.1 c.2.2.1 c.2.2.2.1))) ?_ (fun c F z=>⟨z.2.2,.inr ⟨z.1,z.2.1⟩⟩) ⟨rfl,g,sg⟩) ?_)
    .refine fun y=>pr3 fun r out=>pr3 fun ia ib=>pr3 fun mg ac bc F _ J=>?_;rintro⟨z,g,sg⟩;cases z;obtain⟨hP,h1,h2,h3⟩:=g;dsimp only at hP h1 h2 h3 ⊢;refine bB (fun _=>AB (C3 ?_)) fun _=>AB (C3 ?_)
     all_goals
      refine AB (Z _ _ _ h2 fun p ep hp=>AB (gF hc (t:=rk p+1) rfl hp (fun i hi=>gA _ (by omega)) (fun i j p q hi hj e1 e2=>lU ua (by omega) e1 e2) (by omega) (sg.kind.trans hk) fun k bh aw am=>?_));dsimp only;have ra:∀ x∈(a.extract ia (ia+k)).toList,∀ y∈b.toList.drop ib,rk x<=rk y:=fun x hx y J=>by
       obtain⟨m,m1,m2,m3⟩:=eV hx;have:=aw (m-ia) x (by omega) (by rw[Ca m1];exact m3);exact Ay (Hb this) (rV ub ep y J)
      have rb:∀ y∈a.toList.drop (ia+k),rk p<=rk y:=fun y J=>by
       obtain⟨m,m1,m2,m3⟩:=iN J;exact BU (am (m-ia) y (by omega) (by omega) (by rw[Ca (by omega)];exact m3))
      refine bB (fun kp=>bB (fun c=>AM ⟨⟨sg.1,sg.2,sg.3,sg.4⟩,.inl ⟨_,rfl,(hP.runA ua ra).fin2 ub hl (eq_of_beq c)⟩⟩) fun na=>bB (fun c=>AM ⟨⟨sg.1,sg.2,sg.3,sg.4⟩,.inl ⟨_,rfl,(hP.runA ua ra).fin ua ub (.inl (eq_of_beq c))⟩⟩) fun nb=>?_) fun kz=>?_
      all_goals
       first|(have e1:=iC na;have e2:=iC nb;have ai:=hP.runA ua ra;have az:ia+k+1<a.size:=by omega)|(have ai:=hP;have az:=h1;rw[show k=0 by omega,Dl]at rb)
       refine AB (Z _ _ _ h2 fun p' O _=>?_);obtain rfl:p=p':=BD.inj (ep.symm.trans O);have G:=ai.pushB ub ep rb;refine bB (fun c=>AM ⟨⟨sg.1,sg.2,sg.3,sg.4⟩,.inl ⟨_,rfl,G.fin ua ub (.inr (eq_of_beq c))⟩⟩) fun n=>?_;have n':=iC n;refine AB (Y _ _ _ (by omega) fun q eq hq=>AB (gF hc (t:=rk q) rfl hq (fun i hi=>gB _ (by omega)) (fun i j p q hi hj e1 e2=>lU ub (by omega) e1 e2) (by omega) (sg.kind.trans hk) fun k2 bo ay ax=>?_));dsimp only;have hR:=G.runB (k:=k2) ub fun x hx y J=>by
        obtain⟨m,m1,m2,m3⟩:=eV hx;have:=ay (m-(ib+1)) x (by omega) (by rw[Ca m1];exact m3);exact Ay (BU this) (rV ua eq y J)
       have rd:∀ y∈b.toList.drop (ib+1+k2),rk q<=rk y:=fun y J=>by
        obtain⟨m,m1,m2,m3⟩:=iN J;exact ax (m-(ib+1)) y (by omega) (by omega) (by rw[Ca (by omega)];exact m3)
       refine bB (fun bb=>bB (fun c=>AM ⟨⟨sg.1,sg.2,sg.3,sg.4⟩,.inl ⟨_,rfl,hR.fin ua ub (.inr (eq_of_beq c))⟩⟩) fun nc=>?_) fun bi=>?_
       all_goals
        first|(have e3:=iC nc;have ag:=hR)|(have ag:=G;rw[show k2=0 by omega,Dl]at rd)
        refine AB (Y _ _ _ (by omega) fun q' ap _=>?_);obtain rfl:q=q':=BD.inj (eq.symm.trans ap);have ae:=ag.pushA ua eq rd;refine bB (fun c=>AM ⟨⟨sg.1,sg.2,sg.3,sg.4⟩,.inl ⟨_,rfl,ae.fin2 ub hl (eq_of_beq c)⟩⟩) fun nd=>?_;have e4:=iC nd;exact bB (fun _=>AM ⟨⟨sg.1,sg.2,sg.3,sg.4⟩,.inr ⟨rfl,ae,by dsimp only;omega,by dsimp only;omega,by dsimp only;omega⟩⟩) fun _=>AM ⟨rfl,⟨ae,by dsimp only;omega,by dsimp only;omega,by dsimp only;omega⟩,sg.1,sg.2,sg.3,sg.4⟩
    .rintro⟨r,out,ia,ib,mg,ac,bc⟩ F ⟨sg,⟨r',z,hr⟩|⟨z,g⟩⟩
     .cases z;exact AM ⟨_,rfl,hr,sg⟩
     .cases z;exact AB (C3 (AM ⟨rfl,g,sg.1,sg.2,sg.3,sg.4⟩))
 .obtain⟨z1,⟨hP,h1,h2,h3⟩,sg⟩:=z;exfalso;omega
 .rintro⟨r,out,ia,ib,mg⟩ F ⟨r',z,hr,sg⟩;cases z;exact AM (h _ _ hr sg)
end
section
variable{rk:A0->Nat}{c:Array A0}
theorem gM{i:Nat}{y:A0}(h:y∈c.toList.take i):∃ j,j<i/\j<c.size/\c[j]?=some y:=by
 obtain⟨n,hn,e⟩:=Bp.mp h;rw[GZ]at e;rw[AJ,AY]at hn;refine⟨n,by omega,by omega,?_⟩;rw[<- AZ,<- e];exact Ai _
theorem rX(h:UpL rk c.toList){i:Nat}{p:A0}(e:c[i-1]?=some p):∀ y∈c.toList.take i,rk y<=rk p:=fun y F=>by
 obtain⟨j,h1,_,h3⟩:=gM F;exact lU h (by omega) h3 e
theorem jF(h:UpL rk c.toList)(i:Nat):UpL rk (c.toList.take i):=List.Pairwise.sublist (GQ _ _) h
theorem rY{o R A' B:List A0}(u:UpL rk o)(oa:∀ x∈o,∀ y∈A'++R,rk y<=rk x)(ob:∀ x∈o,∀ y∈B,rk y<=rk x)(ua:UpL rk (A'++R))(J:∀ x∈R,∀ y∈B,rk y<=rk x):
  UpL rk (R++o)/\(∀ x∈R++o,∀ y∈A',rk y<=rk x)/\∀ x∈R++o,∀ y∈B,rk y<=rk x:=by
 obtain⟨u1,u2,u3⟩:=fX.mp ua;refine⟨fX.mpr ⟨u2,u,fun x F y G=>oa y G x (AS _ F)⟩,fun x F y G=>?_,fun x F y G=>?_⟩
 .rcases AO.mp F with F|F
  .exact u3 y G x F
  .exact oa x F y (BG _ G)
 .rcases AO.mp F with F|F
  .exact J x F y G
  .exact ob x F y G
end
structure PhR(rk:A0->Nat)(a b out:Array A0)(na nb:Nat):Prop where
 pl:Ph a b out na nb
 up:UpL rk out.toList.reverse
 oa:∀ x∈out.toList.reverse,∀ y∈a.toList.take na,rk y<=rk x
 ob:∀ x∈out.toList.reverse,∀ y∈b.toList.take nb,rk y<=rk x
section
variable{rk:A0->Nat}{a b out:Array A0}{na nb k:Nat}
theorem PhR.pushA{p:A0}(h:PhR rk a b out na nb)(ua:UpL rk a.toList)(h1:1<=na)(e:a[na-1]?=some p)(O:∀ y∈b.toList.take nb,rk y<=rk p):PhR rk a b (out.push p) (na-1) nb:=by
 obtain⟨g1,g2,g3,g4⟩:=h;have G:=jF ua na;rw[m7 h1 e]at g3 G;obtain⟨s1,s2,s3⟩:=rY (R:=[p]) g2 g3 g4 G (fun x J=>by rw[AK.mp J];exact O);have F:(out.push p).toList.reverse=[p]++out.toList.reverse:=by rw[BB,Es];rfl
 exact⟨g1.pushA h1 e,by rw[F];exact s1,by rw[F];exact s2,by rw[F];exact s3⟩
theorem PhR.pushB{p:A0}(h:PhR rk a b out na nb)(ub:UpL rk b.toList)(h1:1<=nb)(e:b[nb-1]?=some p)(O:∀ y∈a.toList.take na,rk y<=rk p):PhR rk a b (out.push p) na (nb-1):=by
 obtain⟨g1,g2,g3,g4⟩:=h;have G:=jF ub nb;rw[m7 h1 e]at g4 G;obtain⟨s1,s2,s3⟩:=rY (R:=[p]) g2 g4 g3 G (fun x J=>by rw[AK.mp J];exact O);have F:(out.push p).toList.reverse=[p]++out.toList.reverse:=by rw[BB,Es];rfl
 exact⟨g1.pushB h1 e,by rw[F];exact s1,by rw[F];exact s3,by rw[F];exact s2⟩
theorem PhR.runA(h:PhR rk a b out na nb)(ua:UpL rk a.toList)(h1:k<=na)(J:∀ x∈(a.extract k na).toList,∀ y∈b.toList.take nb,rk y<=rk x):PhR rk a b (out++(a.extract k na).reverse) k nb:=by
 obtain⟨g1,g2,g3,g4⟩:=h;have G:=jF ua na;rw[o0 h1]at g3 G;obtain⟨s1,s2,s3⟩:=rY g2 g3 g4 G J;have F:(out++(a.extract k na).reverse).toList.reverse=(a.extract k na).toList++out.toList.reverse:=by rw[AD,Cj,Es,List.reverse_reverse]
 exact⟨g1.runA h1,by rw[F];exact s1,by rw[F];exact s2,by rw[F];exact s3⟩
theorem PhR.runB(h:PhR rk a b out na nb)(ub:UpL rk b.toList)(h1:k<=nb)(J:∀ x∈(b.extract k nb).toList,∀ y∈a.toList.take na,rk y<=rk x):PhR rk a b (out++(b.extract k nb).reverse) na k:=by
 obtain⟨g1,g2,g3,g4⟩:=h;have G:=jF ub nb;rw[o0 h1]at g4 G;obtain⟨s1,s2,s3⟩:=rY g2 g4 g3 G J;have F:(out++(b.extract k nb).reverse).toList.reverse=(b.extract k nb).toList++out.toList.reverse:=by rw[AD,Cj,Es,List.reverse_reverse]
 exact⟨g1.runB h1,by rw[F];exact s1,by rw[F];exact s3,by rw[F];exact s2⟩
theorem PhR.fin(h:PhR rk a b out na nb)(ua:UpL rk a.toList)(ub:UpL rk b.toList)(hz:na=0\/nb=0):Gd rk a b (a.extract 0 na++b.extract 0 nb++out.reverse):=by
 refine⟨h.pl.fin,?_⟩;rw[AD,AD,cM,cM,Cj,Dk,Dk,Cr,Cr];rcases hz with rfl|rfl
 .exact fX.mpr ⟨jF ub _,h.up,fun x F y G=>h.ob y G x F⟩
 .rw[FZ,A6];exact fX.mpr ⟨jF ua _,h.up,fun x F y G=>h.oa y G x F⟩
theorem PhR.fin2(h:PhR rk a b out na nb)(ua:UpL rk a.toList)(ub:UpL rk b.toList)(O:∀ x y,b[0]?=some x->a[0]?=some y->rk x<=rk y)(hz:nb=1):Gd rk a b (b.extract 0 nb++a.extract 0 na++out.reverse):=by
 refine⟨h.pl.fin2,?_⟩;rw[AD,AD,cM,cM,Cj,Dk,Dk,Cr,Cr];refine fX.mpr ⟨fX.mpr ⟨jF ub _,jF ua _,fun x F y G=>?_⟩,h.up,fun x F y G=>?_⟩
 .obtain⟨i,i1,_,i3⟩:=gM F;obtain⟨j,j1,j2,j3⟩:=gM G;have J:a[0]?=some a[0]:=Br (by omega);rw[show i=0 by omega]at i3;exact Ay (O _ _ i3 J) (lU ua (A8 j) J j3)
 .rcases AO.mp F with F|F
  .exact h.ob y G x F
  .exact h.oa y G x F
theorem PhR.start{p:A0}(h:1<=a.size)(ua:UpL rk a.toList)(e:a[a.size-1]?=some p)(hl:∀ x∈b.toList,rk x<=rk p):PhR rk a b #[p] (a.size-1) b.size:=by
 have G:Ph a b #[] a.size b.size:=by
  unfold Ph;rw[A9 (by simp),A9 (by simp)];exact List.Perm.refl _
 have G:PhR rk a b #[] a.size b.size:=⟨G,B6,fun x F=>(nomatch F),fun x F=>(nomatch F)⟩
 exact G.pushA ua h e fun y J=>hl y (BY J)
end
structure GHR(rk:A0->Nat)(a b:Array A0)(x:Nat)(out:Array A0)(na nb:Nat):Prop where
 pl:PhR rk a b out na nb
 la:1<=na
 lb:2<=nb
 ua:na<=a.size
 ub:nb<=b.size
 on:x+na+nb<=a.size+b.size
section
variable{κ:Cn}{it:Array A0}{rk:A0->Nat}(hc:tU prog w A s κ it rk)
include hc
theorem xH{a b:Array A0}{st:Bn}{Q:Array A0->Bn->Prop}(ha:1<=a.size)(hb:1<=b.size)(iA:∀ p∈a.toList,p∈it.toList)(iB:∀ p∈b.toList,p∈it.toList)(hk:kindOf st=κ)
  (ua:UpL rk a.toList) (ub:UpL rk b.toList) (h0:∀ x y,b[0]?=some x->a[0]?=some y->rk x<=rk y) (hl:∀ x∈b.toList,∀ y,a[a.size-1]?=some y->rk x<=rk y)
  (h:∀ out F,Gd rk a b out->Sg st F->Q out F):wpS (model prog w) A E s (aEN a b) Q st:=by
 have gA:∀ i,i<a.size->∃ p,a[i]?=some p/\p∈it.toList:=fun i hi=>⟨_,Br hi,iA _ (by simp)⟩
 have gB:∀ i,i<b.size->∃ p,b[i]?=some p/\p∈it.toList:=fun i hi=>⟨_,Br hi,iB _ (by simp)⟩
 refine AB (Gx (Ck ⟨rfl,?_⟩));obtain⟨p0,e0,_⟩:=gA (a.size-1) (by omega);have hS:=PhR.start (b:=b) ha ua e0 fun x hx=>hl x hx _ e0;refine AB (eU e0 ?_);refine bB (fun c=>AM (h _ _ (hS.fin ua ub (.inl (eq_of_beq c))) (Sg.refl _))) fun n1=>?_;have bm:=iC n1;refine bB (fun c=>AM (h _ _ (hS.fin2 ua ub h0 (eq_of_beq c)) (Sg.refl _))) fun n2=>?_;have bn:=iC n2;refine AB (EW ?_);dsimp only;have Y:∀(i:Nat) (Q':A0->Bn->Prop) (F:Bn),i<a.size->(∀ p,a[i]?=some p->p∈it.toList->Q' p F)->wpS (model prog w) A E s (elem' a i) Q' F:=fun i Q' F hi q=>by
  obtain⟨p,e,hp⟩:=gA i hi;exact eU e (q p e hp)
 have Z:∀(i:Nat) (Q':A0->Bn->Prop) (F:Bn),i<b.size->(∀ p,b[i]?=some p->p∈it.toList->Q' p F)->wpS (model prog w) A E s (elem' b i) Q' F:=fun i Q' F hi q=>by
  obtain⟨p,e,hp⟩:=gB i hi;exact eU e (q p e hp)
 refine AB (C2 (B1 (I:=fun x c F=>c.1=none/\GHR rk a b x c.2.2.2.1 c.2.1 c.2.2.1/\Sg st F) (Q:=fun c F=>∃ r,c.1=some r/\Gd rk a b r/\Sg st F) ?_ (fun c F z=>?_) ⟨rfl,⟨hS,by dsimp only;omega,by dsimp only;omega,by dsimp only;omega,by dsimp only;omega,by dsimp only;omega⟩,Sg.refl _⟩) ?_)
 .refine fun x=>pr3 fun r na=>pr3 fun nb out mg F _ hx=>?_;rintro⟨z,g,sg⟩;cases z;dsimp only at g ⊢;refine AB (C2 (B1 (I:=fun y c F=>c.1=none/\GHR rk a b (x+y) c.2.2.2.1 c.2.1 c.2.2.1/\Sg st F) (Q:=fun c F=>Sg st F/\((∃ r,c.1=some r/\Gd rk a b r)\/(c.1=none/\GHR rk a b (x+1) c.2.2.2.1 c.2.1 c.2.2.1))) ?_ (fun c F z=>?_) ⟨rfl,g,sg⟩) ?_)
  .refine fun y=>pr3 fun r na=>pr3 fun nb out=>Prod.rec fun ac bc F _ J=>?_;rintro⟨z,g,sg⟩;cases z;obtain⟨hP,h1,h2,h3,h4,h5⟩:=g;dsimp only at hP h1 h2 h3 h4 h5 ⊢;refine AB (Z _ _ _ (by omega) fun p ep hp=>AB (Y _ _ _ (by omega) fun q eq hq=>AB (pA hc (sg.kind.trans hk) hp hq ?_)));dsimp only;refine bB (fun cw=>?_) fun cw=>?_
   .have cw:=Iu cw;refine AB (Y _ _ _ (by omega) fun p' O _=>?_);obtain rfl:q=p':=BD.inj (eq.symm.trans O);have G:=hP.pushA ua h1 eq fun y J=>Ay (rX ub ep y J) (BU cw);refine bB (fun c=>AM ⟨sg,.inl ⟨_,rfl,G.fin ua ub (.inl (eq_of_beq c))⟩⟩) fun n=>?_;have n':=iC n;exact bB (fun _=>AM ⟨sg,.inr ⟨rfl,G,by dsimp only;omega,h2,by dsimp only;omega,h4,by dsimp only;omega⟩⟩) fun _=>AM ⟨rfl,⟨G,by dsimp only;omega,h2,by dsimp only;omega,h4,by dsimp only;omega⟩,sg⟩
   .have cw:rk q<=rk p:=CT fun z=>cw (Ir z);refine AB (Z _ _ _ (by omega) fun p' O _=>?_);obtain rfl:p=p':=BD.inj (ep.symm.trans O);have G:=hP.pushB ub (by omega) ep fun y J=>Ay (rX ua eq y J) cw;refine bB (fun c=>AM ⟨sg,.inl ⟨_,rfl,G.fin2 ua ub h0 (eq_of_beq c)⟩⟩) fun n=>?_;have n':=iC n;exact bB (fun _=>AM ⟨sg,.inr ⟨rfl,G,h1,by dsimp only;omega,h3,by dsimp only;omega,by dsimp only;omega⟩⟩) fun _=>AM ⟨rfl,⟨G,h1,by dsimp only;omega,h3,by dsimp only;omega,by dsimp only;omega⟩,sg⟩
  .obtain⟨z1,⟨hP,h1,h2,h3,h4,h5⟩,sg⟩:=z;exact⟨sg,.inr ⟨z1,hP,h1,h2,h3,h4,by omega⟩⟩
  .rintro⟨r,na,nb,out,ac,bc⟩ F ⟨sg,⟨r',z,hr⟩|⟨z,g⟩⟩
   .cases z;exact AM ⟨_,rfl,hr,sg⟩
   .cases z;dsimp only at g ⊢;refine AB (Gx (Ck ⟨rfl,?_⟩));refine AB (C2 (B1 (I:=fun y c F=>c.1=none/\GHR rk a b (x+1) c.2.2.2.1 c.2.1 c.2.2.1/\Sg st F) (Q:=fun c F=>Sg st F/\((∃ r,c.1=some r/\Gd rk a b r)\/(c.1=none/\GHR rk a b (x+1) c.2.2.2.1 c.2.1 c.2.2.1))) ?_ (fun c F z=>⟨z.2.2,.inr ⟨z.1,z.2.1⟩⟩) ⟨rfl,g,sg⟩) ?_)
    .refine fun y=>pr3 fun r na=>pr3 fun nb out=>pr3 fun mg ac bc F _ J=>?_;rintro⟨z,g,sg⟩;cases z;obtain⟨hP,h1,h2,h3,h4,h5⟩:=g;dsimp only at hP h1 h2 h3 h4 h5 ⊢;refine bB (fun _=>AB (C3 ?_)) fun _=>AB (C3 ?_)
     all_goals
      refine AB (Z _ _ _ (by omega) fun p ep hp=>AB (gF hc (t:=rk p+1) rfl hp (fun i hi=>gA _ (by omega)) (fun i j p q hi hj e1 e2=>lU ua (by omega) e1 e2) (by omega) (sg.kind.trans hk) fun k ay aw ap=>?_));dsimp only;have aj:=hP.runA ua ay fun x hx y J=>by
       obtain⟨m,m1,m2,m3⟩:=eV hx;exact Ay (rX ub ep y J) (BU (ap m x m1 m2 (by rw[FB];exact m3)))
      have rb:∀ y∈a.toList.take k,rk y<=rk p:=fun y J=>by
       obtain⟨m,m1,m2,m3⟩:=gM J;exact Hb (aw m y m1 (by rw[FB];exact m3))
      refine bB (fun kp=>bB (fun c=>AM ⟨⟨sg.1,sg.2,sg.3,sg.4⟩,.inl ⟨_,rfl,aj.fin ua ub (.inl (eq_of_beq c))⟩⟩) fun na=>?_) fun kz=>?_
      all_goals
       first|(have e1:=iC na;have al:=aj;have am:1<=k:=by omega)|(have al:=hP;have am:=h1;rw[show k=na by omega]at rb)
       refine AB (Z _ _ _ (by omega) fun p' O _=>?_);obtain rfl:p=p':=BD.inj (ep.symm.trans O);have G:=al.pushB ub (by omega) ep rb;refine bB (fun c=>AM ⟨⟨sg.1,sg.2,sg.3,sg.4⟩,.inl ⟨_,rfl,G.fin2 ua ub h0 (eq_of_beq c)⟩⟩) fun n=>?_;have n':=iC n;refine AB (Y _ _ _ (by omega) fun q eq hq=>AB (gF hc (t:=rk q) rfl hq (fun i hi=>gB _ (by omega)) (fun i j p q hi hj e1 e2=>lU ub (by omega) e1 e2) (by omega) (sg.kind.trans hk) fun k2 az aC ax=>?_));dsimp only;have aa:=G.runB ub az fun x hx y J=>by
        obtain⟨m,m1,m2,m3⟩:=eV hx;exact Ay (rX ua eq y J) (ax m x m1 m2 (by rw[FB];exact m3))
       have rd:∀ y∈b.toList.take k2,rk y<=rk q:=fun y J=>by
        obtain⟨m,m1,m2,m3⟩:=gM J;exact BU (aC m y m1 (by rw[FB];exact m3))
       refine bB (fun bf=>bB (fun c=>AM ⟨⟨sg.1,sg.2,sg.3,sg.4⟩,.inl ⟨_,rfl,aa.fin2 ua ub h0 (eq_of_beq c)⟩⟩) fun nc=>bB (fun c=>AM ⟨⟨sg.1,sg.2,sg.3,sg.4⟩,.inl ⟨_,rfl,aa.fin ua ub (.inr (eq_of_beq c))⟩⟩) fun nd=>?_) fun bi=>?_
       all_goals
        first|(have e3:=iC nc;have bj:=iC nd;have ai:=aa)|(have ai:=G;rw[show k2=nb-1 by omega]at rd)
        refine AB (Y _ _ _ (by omega) fun q' aq _=>?_);obtain rfl:q=q':=BD.inj (eq.symm.trans aq);have af:=ai.pushA ua am eq rd;refine bB (fun c=>AM ⟨⟨sg.1,sg.2,sg.3,sg.4⟩,.inl ⟨_,rfl,af.fin ua ub (.inl (eq_of_beq c))⟩⟩) fun nd=>?_;have e4:=iC nd;exact bB (fun _=>AM ⟨⟨sg.1,sg.2,sg.3,sg.4⟩,.inr ⟨rfl,af,by dsimp only;omega,by dsimp only;omega,by dsimp only;omega,by dsimp only;omega,by dsimp only;omega⟩⟩) fun _=>AM ⟨rfl,⟨af,by dsimp only;omega,by dsimp only;omega,by dsimp only;omega,by dsimp only;omega,by dsimp only;omega⟩,sg.1,sg.2,sg.3,sg.4⟩
    .rintro⟨r,na,nb,out,mg,ac,bc⟩ F ⟨sg,⟨r',z,hr⟩|⟨z,g⟩⟩
     .cases z;exact AM ⟨_,rfl,hr,sg⟩
     .cases z;exact AB (C3 (AM ⟨rfl,g,sg.1,sg.2,sg.3,sg.4⟩))
 .obtain⟨z1,⟨hP,h1,h2,h3,h4,h5⟩,sg⟩:=z;exfalso;omega
 .rintro⟨r,na,nb,out,mg⟩ F ⟨r',z,hr,sg⟩;cases z;exact AM (h _ _ hr sg)
end
def Rn(rk:A0->Nat)(c:Array A0)(i:Nat):Nat:=(c[i]?).elim 0 rk
def AsF(g:Nat->Nat)(lo hi:Nat):Prop:=∀ i j,lo<=i->i<=j->j<hi->g i<=g j
section
variable{g g':Nat->Nat}{lo n k l:Nat}{rk:A0->Nat}{c:Array A0}
theorem AsF.step(h:AsF g lo (lo+n))(h1:1<=n)(F:g (lo+n-1)<=g (lo+n)):AsF g lo (lo+n+1):=fun i j a b d=>by
 have h1:=h i j a b;have h2:=h i (lo+n-1) a;by_cases z:j=lo+n
 .subst z;by_cases y:i=lo+n
  .subst y;exact Aj _
  .omega
 .omega
theorem AsF.one:AsF g lo (lo+1):=fun i j a b d=>by
 have:i=j:=by omega
 subst this;exact Aj _
theorem AsF.insert(h:AsF g lo (lo+k))(hl:l<=k)(h1:∀ i,i<l->g (lo+i)<=g (lo+k))(h2:∀ i,l<=i->i<k->g (lo+k)<g (lo+i))
  (F:∀ i,g' i=if i=lo+l then g (lo+k) else if lo+l<i/\i<=lo+k then g (i-1) else g i):AsF g' lo (lo+k+1):=fun i j a b d=>by
 have a1:=h i j a b;have a2:=h (i-1) (j-1);have a3:=h i (j-1) a;have a4:=h1 (i-lo);have a5:=h2 (j-1-lo);rw[Ca a]at a4;have e:lo<j->lo+(j-1-lo)=j-1:=fun _=>by omega
 rw[F i,F j];by_cases z:lo<j
 .rw[e z]at a5
  repeat' split
  all_goals omega
 .repeat' split
  all_goals first|omega|(have:i=j:=by omega;subst this;exact Aj _)
theorem Rn.at{i:Nat}{p:A0}(e:c[i]?=some p):Rn rk c i=rk p:=by unfold Rn;rw[e];rfl
theorem qG{i j:Nat}(F:j<=c.size)(k:Nat):Rn rk (mirror c i j ((j-i)/2)) k=if i<=k/\k<j then Rn rk c (i+j-1-k) else Rn rk c k:=by
 unfold Rn;rw[getElem?_mirror_all F];split<;>rfl
theorem lA{i j v:Nat}(F:j<=c.size)(h:∀ m,i<=m->m<j->Rn rk c m=v):Rn rk (mirror c i j ((j-i)/2))=Rn rk c:=by
 funext k;rw[qG F];split
 .rename_i z;rw[h (i+j-1-k) (by omega) (by omega),h k z.1 z.2]
 .rfl
end
structure SmG(lo:Nat)(st st':Bn):Prop where
 sm:Sm st st'
 low:∀ i,i<lo->(arrOf st')[i]?=(arrOf st)[i]?
theorem SmG.refl{lo:Nat}(st:Bn):SmG lo st st:=⟨Sm.refl _,fun _ _=>rfl⟩
theorem SmG.trans{lo:Nat}{st G F:Bn}(a:SmG lo st G)(b:SmG lo G F):SmG lo st F:=⟨a.1.trans b.1,fun i hi=>(b.2 i hi).trans (a.2 i hi)⟩
theorem SmG.rev{lo:Nat}(st:Bn){i j:Nat}(hi:lo<=i)(F:j<=(arrOf st).size):SmG lo st (setArr st (mirror (arrOf st) i j ((j-i)/2))):=
 ⟨Sm.rev _ _ _ _,fun k G=>by
  show(mirror (arrOf st) i j ((j-i)/2))[k]?=_;rw[getElem?_mirror_all F,Ip (by omega)]⟩
section
variable{κ:Cn}{it:Array A0}{rk:A0->Nat}
theorem lV{st:Bn}{i j:Nat}{Q:Unit->Bn->Prop}(h:Q () (setArr st (mirror (arrOf st) i j ((j-i)/2)))):wpS (model prog w) A E s (reverseSlice' i j) Q st:=by
 rw[reverseSlice'_eq];exact C3 h
variable(hc:tU prog w A s κ it rk)
include hc
theorem j4{st:Bn}{i j:Nat}{Q:Option Bool->Bn->Prop}(g:GS κ it st)(hi:i<it.size)(F:j<it.size)(h:Q (some (decide (Rn rk (arrOf st) i<Rn rk (arrOf st) j))) st):wpS (model prog w) A E s (ltAt' i j) Q st:=by
 obtain⟨p,e1,hp⟩:=g.get hi;obtain⟨q,e2,hq⟩:=g.get F;rw[ltAt'_eq];rw[Rn.at e1,Rn.at e2]at h;exact AB (EW (AB (eU e1 (AB (eU e2 (pA hc g.kind hp hq h))))))
theorem aBs{lo O : Nat}{st : Bn}{Q : Option Nat -> Bn -> Prop}(g : GS κ it st)(h1 : 1 <= O)(hz : lo+O <= it.size)(h : ∀ n F, 1 <= n -> n <= O -> SmG lo st F -> AsF (Rn rk (arrOf F)) lo (lo+n) -> Q (some n) F) : wpS (model prog w) A E s (countRun' lo O) Q st := by
  have ag : ∀(n0 : Nat) (st0 : Bn) (Q' : Option (Option Nat)×Nat -> Bn -> Prop), GS κ it st0 -> 1 <= n0 -> n0 <= O -> AsF (Rn rk (arrOf st0)) lo (lo+n0) -> (∀ n, n0 <= n -> n <= O -> AsF (Rn rk (arrOf st0)) lo (lo+n) -> (n = O \/ Rn rk (arrOf st0) (lo+n)<Rn rk (arrOf st0) (lo+n-1)) -> Q' (none, n) st0) -> wpS (model prog w) A E s (forIn [n0:O] (none, n0) fun _ c => do
      let r <- ltAt' (lo+c.2) (lo+c.2-1)
      match r with
      | some b => if b = true then pure (ForInStep.done (none, c.2)) else pure (CG (none, c.2+1))
      | _ => pure (ForInStep.done (some none, c.2))) Q' st0 := fun n0 st0 Q' g0 bd ae as q => by
    refine C2 (B1 (I := fun x c F => F = st0 /\ c = (none, x) /\ AsF (Rn rk (arrOf st0)) lo (lo+x)) (Q := fun c F => F = st0 /\ ∃ n, c = (none, n) /\ n0 <= n /\ n <= O /\ AsF (Rn rk (arrOf st0)) lo (lo+n) /\ (n = O \/ Rn rk (arrOf st0) (lo+n)<Rn rk (arrOf st0) (lo+n-1))) ?_ (fun c F z => ?_) ⟨rfl, rfl, as⟩) fun c F z => ?_
    . rintro x c F aq az ⟨rfl, rfl, as⟩
      refine AB (j4 hc g0 (by dsimp only;omega) (by dsimp only;omega) ?_);dsimp only;refine bB (fun cw => AM ⟨rfl, _, rfl, aq, by omega, as, .inr (Iu cw)⟩) fun cw => AM ⟨rfl, rfl, as.step (by omega) ?_⟩;exact CT fun z => cw (Ir z)
    . obtain⟨z1, z2, z3⟩ := z
      rw[Ej ae]at z2 z3;exact⟨z1, _, z2, ae, Aj _, z3, .inl rfl⟩
    . obtain⟨rfl, n, rfl, z1, z2, z3, z4⟩ := z
      exact q n z1 z2 z3 z4
  have bf : (arrOf st).size = it.size := g.perm.size_eq;rw[countRun'_eq];refine AB (ag 1 st _ g (Aj _) h1 AsF.one fun n ae ap as au => ?_);dsimp only;refine bB (fun _ => AM (h n st ae ap (SmG.refl _) as)) fun ne => ?_;have ay := iC ne;have ax : Rn rk (arrOf st) (lo+n)<Rn rk (arrOf st) (lo+n-1) := au.resolve_left ay;generalize hG : Rn rk (arrOf st) = G at as ax;refine bB (fun c1 => AB (j4 hc g (by omega) (by omega) (bB (fun _ => AM (h n st ae ap (SmG.refl _) (by rw[hG];exact as))) fun c2 => AB (lV ?_)))) fun c1 => ?_
  all_goals
    first
    | (have c2 : G (lo+n-1) <= G lo := by
        rw[hG]at c2;exact CT fun z => c2 (Ir z)
       have eq : ∀ i, lo <= i -> i<lo+n -> G i = G lo := fun i a b => by
        have := as lo i (Aj _) a b;have := as i (lo+n-1) a (by omega) (by omega);omega
       have m1 : SmG lo st (setArr st (mirror (arrOf st) lo (lo+n) ((lo+n-lo)/2))) := SmG.rev st (Aj _) (by omega);have ak : Rn rk (arrOf (setArr st (mirror (arrOf st) lo (lo+n) ((lo+n-lo)/2)))) = G := (lA (by omega) (v := G lo) fun m a b => by rw[hG];exact eq m a b).trans hG;generalize setArr st (mirror (arrOf st) lo (lo+n) ((lo+n-lo)/2)) = bb at m1 ak ⊢)
    | (have eq : ∀ i, lo <= i -> i<lo+n -> G i = G lo := fun i a b => by rw[show i = lo by omega]
       have m1 := SmG.refl (lo := lo) st;have ak := hG)
    refine AB (Gx (Ck ⟨rfl, ?_⟩));refine AB (C2 (B1 (I := fun x c F => c.1 = none /\ c.2.1 = x /\ SmG lo st F /\ Rn rk (arrOf F) = G /\ (∀ i j, lo <= i -> i <= j -> j<lo+x -> G j <= G i) /\ c.2.2+1 <= x /\ ∀ i, lo+x <= i+(c.2.2+1) -> i<lo+x -> G i = G (lo+x-1)) (Q := fun c F => c.1 = none /\ 1 <= c.2.1 /\ c.2.1 <= O /\ SmG lo st F /\ Rn rk (arrOf F) = G /\ (∀ i j, lo <= i -> i <= j -> j<lo+c.2.1 -> G j <= G i) /\ c.2.2+1 <= c.2.1 /\ ∀ i, lo+c.2.1 <= i+(c.2.2+1) -> i<lo+c.2.1 -> G i = G (lo+c.2.1-1)) ?_ (fun c F z => ?_) ⟨rfl, rfl, m1, ak, fun i j a b d => ?_, by dsimp only;omega, fun i a b => ?_⟩) ?_)
    . rintro x ⟨r, J, q⟩ F aq az ⟨z1, z2, m2, Z, hd, hq, he⟩
      dsimp only at z1 z2 hq he ⊢;subst z1 z2;refine AB (j4 hc (g.on m2.1) (by omega) (by omega) ?_);rw[Z];dsimp only;have new : G (lo+J) <= G (lo+J-1) -> ∀ i j, lo <= i -> i <= j -> j<lo+(J+1) -> G j <= G i := fun hg i j a b d => by
        have h1 := hd i j a b;have h2 := hd i (lo+J-1) a;by_cases z : j = lo+J
        . subst z
          by_cases y : i = lo+J
          . subst y;exact Aj _
          . omega
        . omega
      refine bB (fun cw => ?_) fun cw => ?_
      . have cw := Iu cw
        have ai : ∀ i, lo+(J+1) <= i+(0+1) -> i<lo+(J+1) -> G i = G (lo+(J+1)-1) := fun i a b => by rw[show i = lo+(J+1)-1 by omega]
        refine bB (fun _ => AB (lV (AM ⟨rfl, rfl, m2.trans (SmG.rev F (by omega) ?_), ?_, new (BU cw), by dsimp only;omega, ai⟩))) fun _ => AM ⟨rfl, rfl, m2, Z, new (BU cw), by dsimp only;omega, ai⟩
        . rw[(g.on m2.1).perm.size_eq];omega
        . refine(lA ?_ (v := G (lo+J-1)) fun m a b => ?_).trans Z
          . rw[(g.on m2.1).perm.size_eq];omega
          . rw[Z];exact he m (by omega) b
      . have cw : G (lo+J-1) <= G (lo+J) := CT fun z => cw (Ir z)
        refine AB (j4 hc (g.on m2.1) (by omega) (by omega) ?_);rw[Z];dsimp only;refine bB (fun _ => AM ⟨rfl, by dsimp only;omega, by dsimp only;omega, m2, Z, hd, hq, he⟩) fun cv => AM ⟨rfl, rfl, m2, Z, ?_, by dsimp only;omega, fun i a b => ?_⟩
        all_goals
          have cv : G (lo+J) <= G (lo+J-1) := CT fun z => cv (Ir z)
        . exact new cv
        . dsimp only at a b
          rw[show lo+(J+1)-1 = lo+J by omega];by_cases z : i = lo+J
          . rw[z]
          . have := he i (by omega) (by omega)
            omega
    . obtain⟨z1, z2, z3, z4, z5, z6, z7⟩ := z
      rw[Ej (by omega)]at z2 z5 z6 z7;subst z2;exact⟨z1, by omega, Aj _, z3, z4, z5, z6, z7⟩
    . have e1 := eq i a
      have e2 := eq j (by omega);by_cases z : j = lo+n
      . subst z
        by_cases y : i = lo+n
        . subst y;exact Aj _
        . have := eq (lo+n-1) (by omega) (by omega)
          omega
      . omega
    . rw[show i = lo+(n+1)-1 by dsimp only at a;omega]
    . rintro⟨r, J, q⟩ F ⟨z1, z2, z3, m2, Z, hd, hq, he⟩
      dsimp only at z1 z2 z3 hd hq he ⊢;subst z1;have ba := (g.on m2.1).perm.size_eq;have fin : ∀ Y : Bn, SmG lo st Y -> Rn rk (arrOf Y) = G -> SmG lo st (setArr Y (mirror (arrOf Y) lo (lo+J) ((lo+J-lo)/2))) /\ AsF (Rn rk (arrOf (setArr Y (mirror (arrOf Y) lo (lo+J) ((lo+J-lo)/2))))) lo (lo+J) := fun Y k2 e2 => by
        have a0 : (arrOf Y).size = it.size := (g.on k2.1).perm.size_eq;refine⟨k2.trans (SmG.rev Y (Aj _) (by omega)), fun i j a b d => ?_⟩;show Rn rk (mirror (arrOf Y) lo (lo+J) ((lo+J-lo)/2)) i <= Rn rk (mirror (arrOf Y) lo (lo+J) ((lo+J-lo)/2)) j;rw[qG (by omega), qG (by omega), Iq (by omega), Iq (by omega), e2];exact hd _ _ (by omega) (by omega) (by omega)
      refine bB (fun _ => AB (lV (AB (lV ?_)))) fun _ => AB (lV ?_)
      . obtain⟨k1, k2⟩ := fin (setArr F (mirror (arrOf F) (lo+J-(q+1)) (lo+J) ((lo+J-(lo+J-(q+1)))/2))) (m2.trans (SmG.rev F (by omega) (by omega))) ((lA (by omega) (v := G (lo+J-1)) fun m a b => by rw[Z];exact he m (by omega) b).trans Z)
        exact AB (ag J _ _ (g.on k1.1) z2 z3 k2 fun al a1 a2 a3 _ => AM (h al _ (by omega) a2 k1 a3))
      . obtain⟨k1, k2⟩ := fin F m2 Z
        exact AB (ag J _ _ (g.on k1.1) z2 z3 k2 fun al a1 a2 a3 _ => AM (h al _ (by omega) a2 k1 a3))
theorem zK{lo n ok:Nat}{st:Bn}{Q:Bool->Bn->Prop}(g:GS κ it st)(h1:1<=ok)(h2:ok<=n)(hz:lo+n<=it.size)(as:AsF (Rn rk (arrOf st)) lo (lo+ok))(h:∀ F,SmG lo st F->AsF (Rn rk (arrOf F)) lo (lo+n)->Q true F):wpS (model prog w) A E s (binarySort' lo n ok) Q st:=by
 rw[binarySort'_eq];refine AB (C2 (B1 (I:=fun x c F=>c.1=none/\SmG lo st F/\AsF (Rn rk (arrOf F)) lo (lo+x)) (Q:=fun c F=>c.1=none/\SmG lo st F/\AsF (Rn rk (arrOf F)) lo (lo+n)) ?_ (fun c F z=>?_) ⟨rfl,SmG.refl _,by rw[Nat.max_eq_left h1];exact as⟩) ?_)
 .rintro k ⟨r,u⟩ F ag ah ⟨J,m,as⟩;dsimp only at J ⊢;subst J;have sz:(arrOf F).size=it.size:=(g.on m.1).perm.size_eq;refine AB (C2 (B1 (I:=fun x c G=>c.1=none/\c.2.1<=c.2.2/\c.2.2<=k/\c.2.2+x<=c.2.1+k/\(∀ i,i<c.2.1->Rn rk (arrOf F) (lo+i)<=Rn rk (arrOf F) (lo+k))/\(∀ i,c.2.2<=i->i<k->Rn rk (arrOf F) (lo+k)<Rn rk (arrOf F) (lo+i))/\G=F) (Q:=fun c G=>c.1=none/\c.2.1<=k/\(∀ i,i<c.2.1->Rn rk (arrOf F) (lo+i)<=Rn rk (arrOf F) (lo+k))/\(∀ i,c.2.1<=i->i<k->Rn rk (arrOf F) (lo+k)<Rn rk (arrOf F) (lo+i))/\G=F) ?_ (fun c F z=>?_) ⟨rfl,A8 _,Aj _,by dsimp only;omega,fun i hi=>by dsimp only at hi;omega,fun i a b=>by dsimp only at a;omega,rfl⟩) ?_)
  .rintro x ⟨r,l,q⟩ G _ hx ⟨J,z2,z3,z4,O,Y,rfl⟩;dsimp only at J z2 z3 z4 O Y ⊢;subst J;refine bB (fun c=>AM ⟨rfl,by dsimp only;omega,O,fun i a b=>Y i (by dsimp only at a;omega) b,rfl⟩) fun af=>?_;refine AB (j4 hc (g.on m.1) (by omega) (by omega) ?_);dsimp only;refine bB (fun Z=>AM ⟨rfl,by dsimp only;omega,by dsimp only;omega,by dsimp only;omega,O,fun i a b=>?_,rfl⟩) fun Z=>AM ⟨rfl,by dsimp only;omega,by dsimp only;omega,by dsimp only;omega,fun i a=>?_,Y,rfl⟩
   .have Z:=Iu Z;dsimp only at a;exact A2 Z (as _ _ (by omega) (by omega) (by omega))
   .have Z:Rn rk (arrOf G) (lo+(l+q)/2)<=Rn rk (arrOf G) (lo+k):=CT fun z=>Z (Ir z);dsimp only at a;exact Ay (as _ _ (by omega) (by omega) (by omega)) Z
  .obtain⟨J,z2,z3,z4,O,Y,z7⟩:=z;exact⟨J,by omega,O,fun i a b=>Y i (by omega) b,z7⟩
  .rintro⟨r,l,q⟩ G ⟨J,z2,O,Y,rfl⟩;dsimp only at J z2 O Y ⊢;subst J;refine AB ?_;rw[moveDown'_eq];have hb:=fun i=>getElem?_bubble (xs:=arrOf G) (src:=lo+k) (by omega) (lo+k-(lo+l)) (by omega) i;refine C3 (AM ⟨rfl,m.trans ⟨Sm.bub _ _ _,fun i hi=>?_⟩,?_⟩)
   .show(bubble (arrOf G) (lo+k) (lo+k-(lo+l)))[i]?=_;rw[hb,Ip (by omega),Ip (by omega)]
   .refine AsF.insert (g:=Rn rk (arrOf G)) (l:=l) (k:=k) as z2 O Y fun i=>?_;show Rn rk (bubble (arrOf G) (lo+k) (lo+k-(lo+l))) i=_;unfold Rn;rw[hb,show lo+k-(lo+k-(lo+l))=lo+l by omega]
    repeat' split
    all_goals rfl
 .obtain⟨J,z2,z3⟩:=z;rw[Ej (by omega)]at z3;exact⟨J,z2,z3⟩
 .rintro⟨r,u⟩ F ⟨J,m,as⟩;dsimp only at J ⊢;subst J;exact AM (h F m as)
end
def c7(g:Nat->Nat):List (Nat×Nat×Nat)->Nat->Nat->Prop
 | [],a,b=>a=b
 | r::l,a,b=>r.1=a/\1<=r.2.1/\AsF g a (a+r.2.1)/\c7 g l (a+r.2.1) b
section
variable{g g':Nat->Nat}
theorem AsF.congr{lo hi:Nat}(e:∀ i,lo<=i->i<hi->g' i=g i)(h:AsF g lo hi):AsF g' lo hi:=fun i j a b d=>by
 rw[e i a (by omega),e j (by omega) d];exact h i j a b d
theorem AsF.join{lo F hi:Nat}(h1:AsF g lo F)(h2:AsF g F hi)(hm:lo<F)(G:g (F-1)<=g F):AsF g lo hi:=fun i j a b d=>by
 have a1:=h1 i j a b;have a2:=h2 i j;have a3:=h1 i (F-1) a;have a4:=h2 F j (Aj _);omega
theorem c7.le:∀{l:List (Nat×Nat×Nat)}{a b:Nat},c7 g l a b->a<=b
 | [],a,b,h=>Ea h
 | r::l,a,b,h=>by have:=c7.le h.2.2.2;omega
theorem c7.congr:∀{l:List (Nat×Nat×Nat)}{a b:Nat},(∀ i,a<=i->i<b->g' i=g i)->c7 g l a b->c7 g' l a b
 | [],a,b,e,h=>h
 | r::l,a,b,e,h=>by
  have:=c7.le h.2.2.2;exact⟨h.1,h.2.1,h.2.2.1.congr fun i x y=>e i x (by omega),c7.congr (fun i x y=>e i (by omega) y) h.2.2.2⟩
theorem c7.long:∀{l:List (Nat×Nat×Nat)}{a b:Nat},c7 g l a b->a+l.length<=b
 | [],a,b,h=>Ea h
 | r::l,a,b,h=>by
  have:=c7.long h.2.2.2;have:=h.2.1;rw[AR];omega
theorem c7.snoc{n x:Nat}(hn:1<=n):∀{l:List (Nat×Nat×Nat)}{a b:Nat},AsF g b (b+n)->c7 g l a b->c7 g (l++[(b,n,x)]) a (b+n)
 | [],a,b,s,h=>by
  obtain rfl:a=b:=h;exact⟨rfl,hn,s,rfl⟩
 | r::l,a,b,s,h=>⟨h.1,h.2.1,h.2.2.1,c7.snoc hn s h.2.2.2⟩
theorem c7.mod{f:Nat×Nat×Nat->Nat×Nat×Nat}(F:∀ r,(f r).1=r.1/\(f r).2.1=r.2.1):∀{l:List (Nat×Nat×Nat)}{a b:Nat} (i:Nat),c7 g l a b->c7 g (l.modify i f) a b
 | [],a,b,i,h=>by rw[List.modify_nil];exact h
 | r::l,a,b,0,h=>by
  rw[List.modify_zero_cons];exact⟨(F r).1.trans h.1,by rw[(F r).2];exact h.2.1,by rw[(F r).2];exact h.2.2.1,by rw[(F r).2];exact h.2.2.2⟩
 | r::l,a,b,i+1,h=>by
  rw[List.modify_succ_cons];exact⟨h.1,h.2.1,h.2.2.1,c7.mod F i h.2.2.2⟩
theorem c7.two{sa na pw G nb pv:Nat}:∀{l:List (Nat×Nat×Nat)}{a b:Nat} (i:Nat),c7 g l a b->l[i]?=some (sa,na,pw)->l[i+1]?=some (G,nb,pv)->
  sa+na=G/\1<=na/\1<=nb/\G+nb<=b/\a<=sa/\AsF g sa G/\AsF g G (G+nb)/\∀ g':Nat->Nat,(∀ i,i<sa->g' i=g i)->(∀ i,G+nb<=i->i<b->g' i=g i)->AsF g' sa (G+nb)->c7 g' ((l.set i (sa,na+nb,pw)).eraseIdx (i+1)) a b
 | [],a,b,i,h,e1,F=>by simp at e1
 | [r],a,b,0,h,e1,F=>by simp at F
 | r::J::l,a,b,0,h,e1,F=>by
  simp at e1 F;subst e1 F;obtain⟨h1,h2,h3,h4,h5,h6,h7⟩:=h;dsimp only at h1 h2 h3 h4 h5 h6 h7;subst h1;have:=h7.le;subst h4;refine⟨rfl,h2,h5,by omega,Aj _,h3,h6,fun g' e1 F s=>⟨rfl,by dsimp only;omega,?_,?_⟩⟩
  .dsimp only;rw[<- HG];exact s
  .dsimp only;rw[<- HG];exact h7.congr F
 | r::l,a,b,i+1,h,e1,F=>by
  obtain⟨x1,x2,x3,x4,x5,x6,x7,x8⟩:=c7.two i h.2.2.2 (by simpa using e1) (by simpa using F);exact⟨x1,x2,x3,x4,by omega,x6,x7,fun g' e1 F s=>⟨h.1,h.2.1,h.2.2.1.congr fun j a b=>e1 j (by omega),x8 g' e1 F s⟩⟩
end
section
variable{rk:A0->Nat}{c c':Array A0}
theorem aIe{m:Nat}{o:List A0}(hz:m+o.length<=c.size)(e:c'.toList=c.toList.take m++(o++c.toList.drop (m+o.length))):
  (∀ i,i<m->Rn rk c' i=Rn rk c i)/\(∀ i,m<=i->(h:i-m<o.length)->Rn rk c' i=rk o[i-m])/\∀ i,m+o.length<=i->Rn rk c' i=Rn rk c i:=by
 have hl:(c.toList.take m).length=m:=by rw[AJ,AY];omega
 refine⟨fun i hi=>?_,fun i hi hn=>?_,fun i hi=>?_⟩<;>unfold Rn<;>rw[<- AZ,e]
 .rw[B8 (by omega),BP,Iq hi,AZ]
 .rw[BV (by omega),hl,B8 hn,Ai hn];rfl
 .rw[BV (by omega),hl,BV (by omega),DO,AZ];congr 2;omega
theorem aBt{lo hi:Nat}(h:AsF (Rn rk c) lo hi)(hz:hi<=c.size):UpL rk (c.extract lo hi).toList:=by
 refine DH.mpr fun i j F G O=>?_;have hs:(c.extract lo hi).toList.length=hi-lo:=by rw[AY,Gs];omega
 have J:∀ m,(hm:m<(c.extract lo hi).toList.length)->rk (c.extract lo hi).toList[m]=Rn rk c (lo+m):=fun m hm=>by
  have e:c[lo+m]?=some (c.extract lo hi).toList[m]:=by
   rw[<- Ai hm];rw[cM,BP,Iq (by omega),DO,AZ]
  rw[Rn.at e]
 rw[J i F,J j G];exact h _ _ (by omega) (by omega) (by omega)
end
section
variable{κ:Cn}{it:Array A0}{rk:A0->Nat}(hc:tU prog w A s κ it rk)
include hc
theorem pB{i lo:Nat}{st:Bn}{Q:Bool->Bn->Prop}(g:GS κ it st)(hs:c7 (Rn rk (arrOf st)) (pendingOf st).toList 0 lo)(bh:lo<=it.size)(hi:i+1<(pendingOf st).size)
  (h:∀ F,GS κ it F->c7 (Rn rk (arrOf F)) (pendingOf F).toList 0 lo->(∀ i,lo<=i->Rn rk (arrOf F) i=Rn rk (arrOf st) i)->(pendingOf F).size+1=(pendingOf st).size->Q true F):
  wpS (model prog w) A E s (mergeAt' i) Q st:=by
 obtain⟨⟨sa,na,pw⟩,ea⟩:∃ r,(pendingOf st)[i]?=some r:=⟨_,Br (by omega)⟩
 obtain⟨⟨sb,nb,pv⟩,eb⟩:∃ r,(pendingOf st)[i+1]?=some r:=⟨_,Br hi⟩
 have an:(pendingOf st).toList[i]?=some (sa,na,pw):=by rw[AZ];exact ea
 have ax:(pendingOf st).toList[i+1]?=some (sb,nb,pv):=by rw[AZ];exact eb
 obtain⟨x1,x2,x3,x4,x0,s1,s2,x5⟩:=c7.two i hs an ax;have ae:(((pendingOf st).setIfInBounds i (sa,na+nb,pw)).eraseIdxIfInBounds (i+1)).toList=((pendingOf st).toList.set i (sa,na+nb,pw)).eraseIdx (i+1):=by simp
 have ap:(((pendingOf st).setIfInBounds i (sa,na+nb,pw)).eraseIdxIfInBounds (i+1)).size+1=(pendingOf st).size:=by
  rw[<- AY,ae,List.length_eraseIdx_of_lt (by rw[CN,AY];exact hi),CN,AY];omega
 have hz:(arrOf st).size=it.size:=g.perm.size_eq;refine AB (EW ?_);rw[ea,eb];dsimp only;refine AB (aGu ?_);have Z:∀ j,j<it.size->∃ p,(arrOf st)[j]?=some p/\p∈it.toList:=fun j hj=>g.get hj;have fin:∀(F:Bn),Sg (setPending st (((pendingOf st).setIfInBounds i (sa,na+nb,pw)).eraseIdxIfInBounds (i+1))) F->∀ c:Array A0,c.Perm (arrOf st)->(∀ i,i<sa->Rn rk c i=Rn rk (arrOf st) i)->(∀ i,sb+nb<=i->Rn rk c i=Rn rk (arrOf st) i)->AsF (Rn rk c) sa (sb+nb)->Q true (setArr F c):=fun F sg c hp k1 G k3=>
  h _ ⟨sg.kind.trans g.kind,hp.trans g.perm,sg.fail.trans g.fail⟩ (by show c7 (Rn rk c) (pendingOf F).toList 0 lo;rw[sg.pend];show c7 (Rn rk c) (((pendingOf st).setIfInBounds i (sa,na+nb,pw)).eraseIdxIfInBounds (i+1)).toList 0 lo;rw[ae];exact x5 _ k1 (fun i a _=>G i a) k3) (fun i hi=>G i (by omega)) (by show(pendingOf F).size+1=_;rw[sg.pend];exact ap)
 have O:Rn rk (arrOf st) (sb-1)<=Rn rk (arrOf st) sb->Q true (setPending st (((pendingOf st).setIfInBounds i (sa,na+nb,pw)).eraseIdxIfInBounds (i+1))):=fun k=>fin _ (Sg.refl _) _ (DC _) (fun _ _=>rfl) (fun _ _=>rfl) (s1.join s2 (by omega) k);obtain⟨p1,e1,i1⟩:=Z sb (by omega);refine AB (eU e1 (AB (gF hc (t:=rk p1+1) rfl i1 (fun j hj=>Z _ (by omega)) (fun i j p q a b e1 e2=>by rw[<- Rn.at (rk:=rk) e1,<- Rn.at (rk:=rk) e2];exact s1 _ _ (by omega) (by omega) (by omega)) (by omega) g.kind fun k hk au ao=>?_)));dsimp only;have q1:∀ j,sa<=j->j<sa+k->Rn rk (arrOf st) j<=Rn rk (arrOf st) sb:=fun j a b=>by
  obtain⟨p,e,_⟩:=Z j (by omega);rw[Rn.at e,Rn.at e1];exact Hb (au (j-sa) p (by omega) (by rw[Ca a];exact e))
 have q2:∀ j,sa+k<=j->j<sb->Rn rk (arrOf st) sb<Rn rk (arrOf st) j:=fun j a b=>by
  obtain⟨p,e,_⟩:=Z j (by omega);rw[Rn.at e,Rn.at e1];exact ao (j-sa) p (by omega) (by omega) (by rw[Ca (by omega)];exact e)
 refine bB (fun c=>AM (O (q1 _ (by omega) (by have:=eq_of_beq c;omega)))) fun n0=>?_;have bi:=iC n0;obtain⟨p2,e2,i2⟩:=Z (sa+k+(na-k)-1) (by omega);have ak:(arrOf st)[sb-1]?=some p2:=by rw[show sb-1=sa+k+(na-k)-1 by omega];exact e2
 refine AB (eU e2 (AB (gF hc (t:=rk p2) rfl i2 (fun j hj=>Z _ (by omega)) (fun i j p q a b e1 e2=>by rw[<- Rn.at (rk:=rk) e1,<- Rn.at (rk:=rk) e2];exact s2 _ _ (by omega) (by omega) (by omega)) (by omega) g.kind fun G bp aw av=>?_)));dsimp only;have q3:∀ j,sb<=j->j<sb+G->Rn rk (arrOf st) j<Rn rk (arrOf st) (sb-1):=fun j a b=>by
  obtain⟨p,e,_⟩:=Z j (by omega);rw[Rn.at e,Rn.at ak];exact aw (j-sb) p (by omega) (by rw[Ca a];exact e)
 have q4:∀ j,sb+G<=j->j<sb+nb->Rn rk (arrOf st) (sb-1)<=Rn rk (arrOf st) j:=fun j a b=>by
  obtain⟨p,e,_⟩:=Z j (by omega);rw[Rn.at e,Rn.at ak];exact av (j-sb) p (by omega) (by omega) (by rw[Ca (by omega)];exact e)
 refine bB (fun c=>AM (O (q4 _ (by have:=eq_of_beq c;omega) (by omega)))) fun n1=>?_;have bj:=iC n1;have aj:∀ q∈((arrOf st).extract (sa+k) sb).toList,q∈it.toList:=fun q hq=>by
  rw[cM]at hq;exact(Bb.mp g.perm).mem_iff.mp (C5 (BY hq))
 have al:∀ q∈((arrOf st).extract sb (sb+G)).toList,q∈it.toList:=fun q hq=>by
  rw[cM]at hq;exact(Bb.mp g.perm).mem_iff.mp (C5 (BY hq))
 have sX:((arrOf st).extract (sa+k) sb).size=sb-(sa+k):=by rw[Gs];omega
 have sY:((arrOf st).extract sb (sb+G)).size=G:=by rw[Gs];omega
 have ai:1<=((arrOf st).extract (sa+k) sb).size:=by rw[sX];omega
 have af:1<=((arrOf st).extract sb (sb+G)).size:=by rw[sY];omega
 have uX:UpL rk ((arrOf st).extract (sa+k) sb).toList:=aBt (fun i j a b d=>s1 i j (by omega) b d) (by omega);have uY:UpL rk ((arrOf st).extract sb (sb+G)).toList:=aBt (fun i j a b d=>s2 i j a b (by omega)) (by omega);have gX:∀ j,j<sb-(sa+k)->((arrOf st).extract (sa+k) sb)[j]?=(arrOf st)[sa+k+j]?:=fun j hj=>by
  rw[<- AZ,cM,BP,Iq hj,DO,AZ]
 have gY:∀ j,j<G->((arrOf st).extract sb (sb+G))[j]?=(arrOf st)[sb+j]?:=fun j hj=>by
  rw[<- AZ,cM,BP,Iq (by omega),DO,AZ]
 have h0:∀ x y,((arrOf st).extract sb (sb+G))[0]?=some x->((arrOf st).extract (sa+k) sb)[0]?=some y->rk x<=rk y:=fun x y ex ey=>by
  rw[gY 0 (by omega),Dl]at ex;rw[gX 0 (by omega),Dl]at ey;rw[<- Rn.at (rk:=rk) ex,<- Rn.at (rk:=rk) ey];exact BU (q2 _ (Aj _) (by omega))
 have hl:∀ x∈((arrOf st).extract sb (sb+G)).toList,∀ y,((arrOf st).extract (sa+k) sb)[((arrOf st).extract (sa+k) sb).size-1]?=some y->rk x<=rk y:=fun x hx y ey=>by
  obtain⟨m,m1,m2,m3⟩:=eV hx;rw[sX,gX _ (by omega),show sa+k+(sb-(sa+k)-1)=sb-1 by omega]at ey;rw[<- Rn.at (rk:=rk) m3,<- Rn.at (rk:=rk) ey];exact BU (q3 _ m1 m2)
 have fin2:∀(out:Array A0) (F:Bn),Gd rk ((arrOf st).extract (sa+k) sb) ((arrOf st).extract sb (sb+G)) out->Sg (setPending st (((pendingOf st).setIfInBounds i (sa,na+nb,pw)).eraseIdxIfInBounds (i+1))) F->
   Q (failedOf (setArr F (out.toList.zipIdx.foldl (fun a q=>a.setIfInBounds (sa+k+q.2) q.1) (arrOf F)))).isNone (setArr F (out.toList.zipIdx.foldl (fun a q=>a.setIfInBounds (sa+k+q.2) q.1) (arrOf F))):=fun out F ho sg=>by
  have hf:(failedOf (setArr F (out.toList.zipIdx.foldl (fun a q=>a.setIfInBounds (sa+k+q.2) q.1) (arrOf F)))).isNone=true:=by
   show(failedOf F).isNone=true;rw[sg.fail.trans g.fail];rfl
  rw[hf];have aT:out.toList.length=sb+G-(sa+k):=by
   rw[AY,ho.pm.size_eq,Array.size_append,sX,sY];omega
  have bo:(arrOf F).size=it.size:=by rw[sg.arr];exact hz
  obtain⟨r1,r2,r3⟩:=aIe (rk:=rk) (c:=arrOf st) (m:=sa+k) (o:=out.toList) (c':=out.toList.zipIdx.foldl (fun a q=>a.setIfInBounds (sa+k+q.2) q.1) (arrOf F)) (by omega) (by
   rcases xF out.toList 0 (sa+k) (arrOf F)with e|e
   .rw[Dl]at e;rw[e,sg.arr]
   .omega)
  have ah:∀ j,sa+k<=j->j<sb+G->∃ m,sa+k<=m/\m<sb+G/\Rn rk (out.toList.zipIdx.foldl (fun a q=>a.setIfInBounds (sa+k+q.2) q.1) (arrOf F)) j=Rn rk (arrOf st) m:=fun j a b=>by
   rw[r2 j a (by omega)];have hm:out.toList[j-(sa+k)]'(by omega)∈out.toList:=Bk _;have hm:=(Bb.mp ho.pm).mem_iff.mp hm;rw[AD]at hm;rcases AO.mp hm with hm|hm
   .obtain⟨m,m1,m2,m3⟩:=eV hm;exact⟨m,m1,by omega,(Rn.at m3).symm⟩
   .obtain⟨m,m1,m2,m3⟩:=eV hm;exact⟨m,by omega,m2,(Rn.at m3).symm⟩
  refine fin F sg _ ?_ (fun i hi=>r1 i (by omega)) (fun i hi=>r3 i (by omega)) fun i j a b d=>?_
  .rw[sg.arr];refine aEO (n:=na-k+G) ?_ (by show _<=(arrOf st).size;omega);refine(Bb.mp ho.pm).trans ?_;rw[AD,cM,cM];have e3:(arrOf st).toList.drop sb=((arrOf st).toList.drop (sa+k)).drop (na-k):=by
    rw[D6];congr 1;omega
   rw[e3,show sb-(sa+k)=na-k by omega,CM,<- List.take_add]
  .by_cases c1:j<sa+k
   .rw[r1 i (by omega),r1 j c1];exact s1 i j a b (by omega)
   .by_cases c2:sb+G<=i
    .rw[r3 i (by omega),r3 j (by omega)];exact s2 i j (by omega) b d
    .have Y:∀ m,sa+k<=m->m<sb+G->∀ i,sa<=i->i<sa+k->Rn rk (arrOf st) i<=Rn rk (arrOf st) m:=fun m a b i c d=>by
      by_cases z:m<sb
      .exact s1 i m c (by omega) z
      .exact Ay (q1 i c d) (s2 sb m (Aj _) (by omega) (by omega))
     have J:∀ m,sa+k<=m->m<sb+G->∀ i,sb+G<=i->i<sb+nb->Rn rk (arrOf st) m<=Rn rk (arrOf st) i:=fun m a b i c d=>by
      by_cases z:m<sb
      .exact Ay (s1 m (sb-1) (by omega) (by omega) (by omega)) (q4 i c d)
      .exact s2 m i (by omega) (by omega) d
     by_cases c3:i<sa+k
     .rw[r1 i c3];by_cases c4:j<sb+G
      .obtain⟨m,m1,m2,m3⟩:=ah j (by omega) c4;rw[m3];exact Y m m1 m2 i a c3
      .rw[r3 j (by omega)];exact Ay (Y (sa+k) (Aj _) (by omega) i a c3) (J (sa+k) (Aj _) (by omega) j (by omega) d)
     .by_cases c4:j<sb+G
      .rw[r2 i (by omega) (by omega),r2 j (by omega) (by omega)];rcases DG i j with z|z
       .exact DH.mp ho.up _ _ _ _ (by omega)
       .have:i=j:=by omega
        subst this;exact Aj _
      .obtain⟨m,m1,m2,m3⟩:=ah i (by omega) (by omega);rw[m3,r3 j (by omega)];exact J m m1 m2 j (by omega) d
 refine bB (fun _=>AB (xG hc ai af aj al g.kind uX uY h0 hl fun out F ho sg=>?_)) fun _=>AB (xH hc ai af aj al g.kind uX uY h0 hl fun out F ho sg=>?_)
 .exact AB (C3 (AB (EW (AM (fin2 out F ho sg)))))
 .exact AB (C3 (AB (EW (AM (fin2 out F ho sg)))))
end
section
variable{κ:Cn}{it:Array A0}{rk:A0->Nat}
structure SRR(rk:A0->Nat)(κ:Cn)(it:Array A0)(lo:Nat)(st:Bn):Prop where
 gs:GS κ it st
 le:lo<=it.size
 sg:c7 (Rn rk (arrOf st)) (pendingOf st).toList 0 lo
variable(hc:tU prog w A s κ it rk)
include hc
theorem aDq{st:Bn}{Q:Unit->Bn->Prop}(g:GS κ it st)(hp:pendingOf st=#[])(h:∀ F,(arrOf F).Perm it->UpL rk (arrOf F).toList->failedOf F=none->Q () F):wpS (model prog w) A E s sortRuns' Q st:=by
 rw[sortRuns'_eq];refine AB (EW ?_);dsimp only;have hz:(arrOf st).size=it.size:=g.perm.size_eq;rw[hz];generalize minRun' it.size it.size 0=mr;refine AB (C2 (B1 (I:=fun x c F=>c.1=none/\SRR rk κ it c.2 F/\x<=c.2) (Q:=fun c F=>c.1=none/\SRR rk κ it it.size F) ?_ (fun c F z=>?_) ⟨rfl,⟨g,A8 _,?_⟩,Aj _⟩) ?_)
 .rintro x ⟨r,lo⟩ F _ _ ⟨J,⟨g',G,hs⟩,hx⟩;dsimp only at J G hs hx ⊢;subst J;refine bB (fun c=>AM ⟨rfl,g',Aj _,by rw[show it.size=lo by omega];exact hs⟩) fun hl=>?_;refine AB (aBs hc g' (by omega) (by omega) fun n aC an ay m1 as=>?_);dsimp only;refine bB (fun hm=>AB (Gx (Ck ⟨rfl,AB (zK hc (g'.on m1.1) an (by omega) (by omega) as fun ak m2 am=>bB (fun z=>nomatch z) fun _=>?_)⟩))) fun hm=>?_
  all_goals
   first|(have mm:=m1.trans m2;have ez:1<=min (it.size-lo) mr/\lo+min (it.size-lo) mr<=it.size:=(by omega);have ad:=am)|(have mm:=m1;have ez:1<=n/\lo+n<=it.size:=(by omega);have ad:=as)
   have gg:=g'.on mm.1;have aa:=hs.congr (g':=Rn rk (arrOf _)) fun i _ hi=>by unfold Rn;rw[mm.low i hi]
   rw[<- mm.sm.pend]at aa;refine AB (EW ?_);split
   .rename_i s1 n1 _ ao;refine AB (C2 (B1 (I:=fun x c F=>c.1=none/\SRR rk κ it lo F/\AsF (Rn rk (arrOf F)) lo (lo+_)) (Q:=fun c F=>c.1=none/\SRR rk κ it lo F/\AsF (Rn rk (arrOf F)) lo (lo+_)) ?_ (fun c F z=>z) ⟨rfl,⟨gg,G,aa⟩,ad⟩) ?_)
    .rintro x ⟨r,u⟩ O _ _ ⟨J,⟨g3,_,Y⟩,Z⟩;dsimp only at J ⊢;subst J;refine AB (EW ?_);split
     .rename_i a1 a2 al ab;refine bB (fun _=>AM ⟨rfl,⟨g3,G,Y⟩,Z⟩) fun _=>?_;have h2:(pendingOf O).size>1:=by
       by_cases h2:(pendingOf O).size>1
       .exact h2
       .rw[Ip h2]at ab;cases ab
      refine AB (pB hc g3 Y G (by omega) fun aL g4 aj k4 _=>?_);exact bB (fun z=>nomatch z) fun _=>AM ⟨rfl,⟨g4,G,aj⟩,Z.congr fun i a _=>k4 i a⟩
     .exact AM ⟨rfl,⟨g3,G,Y⟩,Z⟩
    .rintro⟨r,u⟩ O ⟨J,⟨g3,_,Y⟩,Z⟩;dsimp only at J ⊢;subst J;refine AB (C3 (AB (C3 (AM ⟨rfl,⟨⟨g3.kind,g3.perm,g3.fail⟩,ez.2,?_⟩,by omega⟩))));show c7 (Rn rk (arrOf O)) (((pendingOf O).modify _ _).push _).toList 0 _;rw[BB,Array.toList_modify];refine c7.snoc ez.1 Z (c7.mod ?_ _ Y);exact fun _=>⟨rfl,rfl⟩
   .refine AB (C3 (AM ⟨rfl,⟨⟨gg.kind,gg.perm,gg.fail⟩,ez.2,?_⟩,by omega⟩));show c7 (Rn rk (arrOf _)) ((pendingOf _).push _).toList 0 _;rw[BB];exact aa.snoc ez.1 ad
 .obtain⟨J,⟨g',G,hs⟩,hx⟩:=z;rw[Ej (A8 _)]at hx;exact⟨J,g',Aj _,by rw[show it.size=c.2 by omega];exact hs⟩
 .show c7 _ (pendingOf st).toList 0 0;rw[hp];rfl
 .rintro⟨r,lo⟩ F ⟨J,g',G,hs⟩;dsimp only at J ⊢;subst J;refine AB (C2 (B1 (I:=fun x c F=>c.1=none/\SRR rk κ it it.size F/\(pendingOf F).size+x<=it.size) (Q:=fun c F=>c.1=none/\SRR rk κ it it.size F/\(pendingOf F).size<=1) ?_ (fun c F z=>?_) ⟨rfl,⟨g',G,hs⟩,?_⟩) ?_)
  .rintro x ⟨r,u⟩ F _ _ ⟨J,⟨g',G,hs⟩,hx⟩;dsimp only at J ⊢;subst J;refine AB (EW ?_);refine bB (fun c=>AM ⟨rfl,⟨g',G,hs⟩,c⟩) fun h2=>?_;have aw:¬ (pendingOf F).size<=1:=h2;have hi:∀ b:Bool,(if b=true then(pendingOf F).size-2-1 else(pendingOf F).size-2)+1<(pendingOf F).size:=fun b=>by
    cases b<;>simp<;>omega
   refine AB (pB hc g' hs G (hi _) fun ak g2 aa _ aT=>?_);exact AM ⟨rfl,⟨g2,G,aa⟩,by omega⟩
  .obtain⟨J,z2,z3⟩:=z;rw[Ej (A8 _)]at z3;exact⟨J,z2,by omega⟩
  .have:=hs.long;rw[AY]at this;omega
  .rintro⟨r,u⟩ F ⟨J,⟨g',G,hs⟩,h1⟩;dsimp only at J ⊢;subst J;refine AM (h _ g'.perm ?_ g'.fail);have sz:(arrOf F).size=it.size:=g'.perm.size_eq;have hw:AsF (Rn rk (arrOf F)) 0 it.size:=by
    rw[<- AY]at h1;generalize (pendingOf F).toList=l at hs h1
    match l,hs,h1 with
    | [],hs,_=>
     have hs:0=it.size:=hs;intro i j a b d;omega
    | [r],hs,_=>
     obtain⟨_,_,a,b⟩:=hs;rw[show it.size=0+r.2.1 from(show 0+r.2.1=it.size from b).symm];exact a
   have:=aBt (c:=arrOf F) hw (by omega);rw[<- sz,cM,Cr,Dk,A9 (by simp)]at this;exact this
theorem aCe{Q:Unit×Bn->Ae->Prop}(h:∀ st:Bn,(arrOf st).Perm it->UpL rk (arrOf st).toList->failedOf st=none->Q ((),st) s):wpAny (model prog w) A (sortRuns'.run (Hj κ it #[] 7 none)) Q E s:=by
 refine CI (aDq (E:=E) hc (st:=Hj κ it #[] 7 none) (Q:=fun u st=>Q (u,st) s) ⟨rfl,DC _,rfl⟩ rfl h) (fun r s' z=>?_) fun _ _ z=>z;obtain⟨rfl,q⟩:=z;exact q
end
def nY(c:Af)(qual:Str):HO:=.ext fun h=>h.CodeRec (.ref c) qual
def qY(f:Af)(qual:Str)(params:Fd)(body:Bi)(scope:De)(cl:List (Str×Af))(c:Af):HO:=.ext fun h=>∃ pm ctv,h.get? f=some (kla_obj "<lambda>" qual params body scope cl pm c ctv)
theorem aGv{P:AE}{w:AW}{H:Hp}{h:Bl}{c:Af}{qual:Str}(e:h.CodeRec (.ref c) qual):cR P w H h c (nY c qual):=by
 obtain⟨c',o,vs,t,e1,e2,e3,e4⟩:=id e;cases e1;exact⟨e,⟨o,e2⟩,fun h1 h2 x k=>by
  obtain⟨c',o,vs,t,e1,e2,e3,e4⟩:=x;cases e1;exact⟨c,o,vs,t,rfl,k o e2,e3,e4⟩⟩
theorem aEP{P:AE}{w:AW}{H:Hp}{h:Bl}{f c:Af}{qual:Str}{F:Fd}{J:Bi}{scope:De}{cl:List (Str×Af)}{pm G:Ac}(e:h.get? f=some (kla_obj "<lambda>" qual F J scope cl pm c G)):cR P w H h f (qY f qual F J scope cl c):=
 ⟨⟨pm,G,e⟩,⟨_,e⟩,fun h1 h2 x k=>by
  obtain⟨pm,G,e⟩:=x;exact⟨pm,G,k _ e⟩⟩
structure lF(T:Af)(pos:Pos)(qual:Str)(H:Hp):Prop where
 ex:∃ ps,H T=some (.tbl ps)/\TriplesOk ps.toList/\(codeAmong pos ps.toList=none\/∃ c,codeAmong pos ps.toList=some (.ref c)/\H c=some (nY c qual))
theorem lF.same{T:Af}{pos:Pos}{qual:Str}{H H':Hp}(g:lF T pos qual H)(s:b8 H H'):lF T pos qual H':=by
 obtain⟨ps,h1,h2,F⟩:=g.ex;refine⟨ps,s _ _ h1,h2,?_⟩;rcases F with F|⟨c,F,G⟩
 .exact .inl F
 .exact .inr ⟨c,F,s _ _ G⟩
def eY(T:Af)(H H':Hp):Prop:=∀ b o,b≠T->H b=some o->H' b=some o
theorem b8.butT{T:Af}{H H':Hp}(s:b8 H H'):eY T H H':=fun b o _ e=>s b o e
theorem eY.trans{T:Af}{H H1 H2:Hp}(a:eY T H H1)(b:eY T H1 H2):eY T H H2:=fun c o n h=>b c o n (a c o n h)
theorem Inv.table{T:Af}{ps more:Array Ac}{h':Bl}{t':Nat}(I:Inv X im σ H s)(J:H T=some (.tbl ps))(k:∀ b o,b≠T->s.heap.get? b=some o->h'.get? b=some o)(e:h'.get? T=some (tabObj (ps++more))):
  Inv X im σ (upd H T (.tbl (ps++more))) { s with heap:=h',toks:=t' }:=by
 have F:∀ b u,H b=some u->(∀ ps,u≠.tbl ps)->b≠T:=fun b u q n z=>by
  subst z;rw[J]at q;cases q;exact n _ rfl
 refine I.un ⟨fun b o q n _ _=>?_,fun b o q n _ _=>?_,fun b o q n _=>?_,fun b o q _=>?_,fun b xs q=>?_,fun b o u q=>?_,fun b O q=>?_⟩ fun b u q=>?_
 .exact k b o (fun z=>by subst z;rw[J]at n;cases n) q
 .exact⟨o.slots,k b o (fun z=>by subst z;rw[J]at n;cases n) q⟩
 .rw[aG (fun z=>by subst z;rw[J]at n;cases n)];exact n
 .by_cases G:b=T
  .subst G;exact⟨_,e⟩
  .exact⟨o,k b o G q⟩
 .rw[aG (F b _ q fun _ z=>nomatch z)];exact q
 .rw[aG (F b _ q fun _ z=>nomatch z)];exact q
 .by_cases G:b=T
  .subst G;rw[J]at q;cases q;exact⟨more,aA⟩
  .exact⟨#[],by rw[aG G,q];simp⟩
 .by_cases G:b=T
  .subst G;rw[aA]at q;cases q;exact e
  .rw[aG G]at q;refine(I.hok b u q).stay (fun c v hc r=>k c v ?_ r) (fun c r=>?_) fun c xs r=>?_
   .rcases hc with rfl|hc
    .exact G
    .exact F c _ hc fun _ z=>nomatch z
   .rw[aG (F c _ r fun _ z=>nomatch z)];exact r
   .rw[aG (F c _ r fun _ z=>nomatch z)];exact r
def aJx(T:Af)(pos:Pos)(qual:Str)(params:Fd)(body:Bi)(scope:De)(cl:List (Str×Af)):TE:=fun _ H Q=>lF T pos qual H/\
 ∀ f c H',eY T H H'->lF T pos qual H'->H' c=some (nY c qual)->H' f=some (qY f qual params body scope cl c)->Q (.ref f) H'
inductive aEQ(mg:Str->Option Ac)(base:Bl):Prop
 | mk (bm:_) (o:_) (q0:mg "__builtins__"=some (.ref bm)) (q1:bm≠builtinsNs) (q2:bm≠mainGlobals) (q3:base.get? bm=some o) (q4:o.cls=.type "module") (q5:o.dict=some builtinsNs) (q6:o.data=.plain):aEQ mg base
def vF(mg:Str->Option Ac)(base:Bl):Prop:=aEQ mg base
theorem aIf{c T:Af}{F:Fd}{G:Bi}{scope:De}{pos:Pos}{cl:List (Str×Af)}(J:X.env.code=.ref c)(hC:codeHdIn X.K c T=true)(hB:vF X.mg X.base)(ai:closureFor scope X.env=pure cl:=by rfl)(af:defaultsOf F X.env=([],[]):=by rfl):
  PE X (.Lambda F G scope pos) (aJx T pos (X.env.qual++"<lambda>") F G scope cl):=by
 constructor;intro im s σ H Q I h;obtain⟨g,q⟩:=h;obtain⟨ps,hT,ht,hor⟩:=g.ex;have gT:s.heap.get? T=some (tabObj ps):=I.hok T _ hT;have ag:∀ b o,X.base.get? b=some o->b≠T:=fun b o e z=>by
  have:=(I.bs b o e).2;rw[z,hT]at this;cases this
 obtain⟨bm,ob,b1,b2,b3,b4,b5,b6,b7⟩:=hB;have ad:s.heap.Ns mainGlobals X.mg:=by
  obtain⟨o,es,ep,e,r⟩:=I.mod.glob;exact⟨o,es,ep,I.bk _ _ e,r⟩
 have ao:mainGlobals≠T:=by
  obtain⟨o,es,ep,e,r⟩:=I.mod.glob;exact ag _ _ e
 have aa:s.heap.BuiltinsAt X.mg T:=⟨bm,ob,b1,b2,b3,ag _ _ b4,I.bk _ _ b4,b5,b6,b7⟩
 refine kla_eval af ?_;rcases hor with aj|⟨c',hf,ak⟩
 .refine kla_makeFunction (mg:=X.mg) ai I.ok.glob ad J (Ik I.kIn hC) gT ht aj ao aa fun c' Z h' tk hx O ab ae ar=>?_;have I1:=I.table (t':=tk) (more:=#[rawInt pos.line,rawInt pos.col,.ref c']) hT (fun b o n e=>hx b o n e) ar;have nT:∀ b,s.heap.objs.size<=b->b≠T:=fun b hb z=>absurd (Ax gT) (Hz.mpr (z▸hb));have ah:=nT c' O;have al:upd H T (.tbl (ps++#[rawInt pos.line,rawInt pos.col,.ref c'])) c'=none:=by
   rw[aG ah];exact I.hok.fresh O
  have I2:=I1.track (ob:=nY c' (X.env.qual++"<lambda>")) (I.fpOk O al) (aGv ae);have Y:s.heap.objs.size<=h'.objs.size:=by omega
  have aq:=nT _ Y;have I3:=I2.laid (a:=h'.objs.size) (o:=qY h'.objs.size (X.env.qual++"<lambda>") F G scope cl c') (t':=tk) (h':=h'.push (kla_obj "<lambda>" (X.env.qual++"<lambda>") F G scope cl ((X.mg "__name__").getD .none) c' Z)) (fun b u e=>Ak _ e) (Aj _) (aEP (AH _ rfl));refine⟨.ref _,_,I3,rfl,q _ c' _ (fun b o n e=>?_) ⟨ps++#[rawInt pos.line,rawInt pos.col,.ref c'],?_,?_,.inr ⟨c',?_,?_⟩⟩ ?_ aA⟩
  .rw[aG (AI (A2 (I.hok.lt e) Y)),aG (AI (A2 (I.hok.lt e) O)),aG n];exact e
  .rw[aG aq.symm,aG ah.symm];exact aA
  .rw[AD];exact TriplesOk_snoc _ _ _ _ ht
  .rw[AD];exact codeAmong_snoc _ ht aj
  .rw[aG (AI ab)];exact aA
  .rw[aG (AI ab)];exact aA
 .refine kla_makeFunctionHit (mg:=X.mg) ai I.ok.glob ad J (Ik I.kIn hC) gT ht hf aa fun Z h' tk hk Y=>?_;have I1:=I.kept (h':=h') (t':=tk) hk;have I3:=I1.laid (a:=h'.objs.size) (o:=qY h'.objs.size (X.env.qual++"<lambda>") F G scope cl c') (t':=tk) (h':=h'.push (kla_obj "<lambda>" (X.env.qual++"<lambda>") F G scope cl ((X.mg "__name__").getD .none) c' Z)) (fun b u e=>Ak _ e) (Aj _) (aEP (AH _ rfl));have hs:b8 H (upd H h'.objs.size (qY h'.objs.size (X.env.qual++"<lambda>") F G scope cl c')):=fun b o e=>by
   rw[aG (AI (A2 (I.hok.lt e) Y))];exact e
  exact⟨.ref _,_,I3,rfl,q _ c' _ hs.butT (g.same hs) (hs _ _ ak) aA⟩
def zQ(X:Cx)(N:List Str)(qual:Str)(scope:De)(f:Af)(cd:Ac)(cl:List (Str×Af))(A:AV)(s:Ae)(H:Hp):Cx where
 prog:=X.prog
 w:=X.w
 K:=X.K
 mg:=X.mg
 base:=X.base
 A:=A.deeper (envX qual scope s.heap.objs.size f cd cl)
 N:=N
 s₀:=s
 H₀:=H
 env:=envX qual scope s.heap.objs.size f cd cl
 outer:=X.stack
 stack:=envX qual scope s.heap.objs.size f cd cl::X.stack
 ex:=[]
 calm:=true
 fn:=fun _=>false
 pn:=[]
 xe:=fun _ _=>False
structure zS(ps fs:List Str)(sc:De):Prop where
 kind:sc.kind=.function
 co:sc.isCoroutine=false
 gen:sc.isGenerator=false
 nd:ps.Nodup
 par:∀ x∈ps,sc.names.lookup x=some .local
 fr:∀ x∈fs,sc.names.lookup x=some .free
 nocell:∀ y∈sc.names,y.2≠.cell
theorem Paired.at{α β:Type}{R:α->β->Prop}:∀{as:List α}{bs:List β}{i:Nat}{a:α}{b:β},BI R as bs->as[i]?=some a->bs[i]?=some b->R a b
 | _,_,_,_,_,.nil,e,_=>by simp at e
 | _,_,0,_,_,.cons r _,e1,F=>by simp at e1 F;subst e1 F;exact r
 | _,_,i+1,_,_,.cons _ t,e1,F=>Paired.at (i:=i) t (by simpa using e1) (by simpa using F)
def aHp(X:Cx)(σ:St)(fs:List Str)(zs:List V):Prop:=BI (fun(x:Str) (v:V)=>∃ i:Nat,X.N[i]?=some x/\σ[i]?=some (some v)/\X.env.kindOf x=some .cell) fs zs
theorem aER{ps fs:List Str}{f c:Af}{qual:Str}{F:Fd}{G:Bi}{scope:De}{cl:List (Str×Af)}{A:AV}{us:List Ac}{vs zs:List V}{Q:VK}{k:Nat}{te:TE}
  (I:Inv X im σ H s) (hA:A.frames=some X.stack) (hr:dC (k+1) A) (S:zS ps fs scope) (Y:∀ x b,cl.lookup x=some b->X.env.cells.lookup x=some b) (hhas:∀ x,scope.names.lookup x=some .free->∃ b,cl.lookup x=some b)
  (hf:H f=some (qY f qual F G scope cl c)) (hc:H c=some (nY c qual)) (hb:∀(pm am ai:Ac),bindArgs (kla_fn "<lambda>" qual F G scope cl pm am ai) ⟨us,[]⟩=pure (ps.zip us)) (r:bU vs us) (hl:vs.length=ps.length) (ht:aHp X σ fs zs)
  (ag:PE (zQ X (ps++fs) qual scope f (.ref c) cl A s H) G te) (hq:te (vs.map some++zs.map some) H Q):codeAny (model X.prog X.w) A (.call (.ref f) ⟨us,[]⟩) (CR CX0 X.stack X.prog X.w H s Q E0) s:=by
 obtain⟨⟨pm,ai,ho⟩,_,_⟩:cR X.prog X.w H s.heap f (qY f qual F G scope cl c):=I.hok _ _ hf;obtain⟨hrec,_,_⟩:cR X.prog X.w H s.heap c (nY c qual):=I.hok _ _ hc;have lu:us.length=ps.length:=by rw[<- r.length];exact hl
 have aa:∀ y∈ps.zip us,scope.names.lookup y.1=some .local:=fun⟨n,v⟩ hy=>S.par n (FF hy).1;refine kla_callFunE hr.depth ho rfl S.co S.gen rfl hrec ?_;rw[hb];refine Ag (wpAny_newFunctionEnv S.nocell aa (fun h₁ al an=>?_) S.kind);have Z:∀ b o,s.heap.get? b=some o->h₁.get? b=some o:=fun b o e=>an.extBut b o (AI (Ax e)) (Ak _ e);refine⟨I.nolimit.keeps Z,?_⟩;show codeAny _ _ (.expr G (envX qual scope s.heap.objs.size f (.ref c) cl)) _ _;have e0:=I.env0;have ad:∀ b:Af,b∉(zQ X (ps++fs) qual scope f (.ref c) cl A s H).ex:=fun b z=>absurd (show b∈([]:List Af) from z) (by simp);have J:Inv (zQ X (ps++fs) qual scope f (.ref c) cl A s H) [] (vs.map some++zs.map some) H { s with heap:=h₁,toks:=s.toks+(ps.zip us).length }:=by
  refine⟨⟨e0.mod,S.kind,rfl,rfl,Aj _,fun y z b h1 h2=>?_,fun y hy=>?_,fun y b z _=>absurd z (by simp[zQ]),fun _=>hr.hd,Around.frames_deeper hA,.inr ⟨rfl,rfl⟩,fun b z=>absurd z (ad b),e0.bs,e0.bsz,fun b _ _=>ad b,fun b z=>absurd z (ad b),e0.funs,e0.frf⟩,
   rfl,e0.bare,Un.kept Z,⟨_,al,fun i y v h1 h2 h3=>?_⟩,fun y b h=>?_,e0.hok.fresh (Aj _),fun y b h=>?_,fun p hp=>absurd (show p∈([]:List (Af×Obj)) from hp) (by simp),e0.hok.kept Z,?_⟩
  .exact I.ok.inj y z b (Y y b h1) (Y z b h2)
  .rcases hy with hy|hy
   .exact absurd rfl (S.nocell _ (B2 (show scope.names.lookup y=some .cell from hy)))
   .exact hhas y hy
  .have O:(ps++fs)[i]?=some y:=h1;by_cases hi:i<ps.length
   .rw[B8 hi]at O;have hv:vs[i]?=some v:=by
     rw[B8 (by simpa[hl]using hi),Au]at h2;cases e:vs[i]? with
     | none=>rw[e]at h2;cases h2
     | some a=>rw[e]at h2;cases h2;rfl
    obtain⟨u,hu,rv⟩:=r.get hv;refine⟨u,rv,.inl ⟨S.par y (AQ O),?_⟩⟩;have e1:=p5 (kindOf:=fun x=>scope.names.lookup x) (m:=fun _=>none) S.nd O hu (S.par y (AQ O));have e2:∀(l:List (Str×Ac)) (m:Str->Option Ac) (x:Str),(∀ q∈l,scope.names.lookup q.1=some .local)->bindL (fun x=>scope.names.lookup x) l m x=(l.reverse.lookup x).or (m x):=by
     intro l
     induction l with
     | nil=>intro m x _;rfl
     | cons q l ih=>
      intro m x hl;obtain⟨n,v⟩:=q;unfold bindL;rw[Iq (hl (n,v) Ap),ih _ _ fun q hq=>hl q (Ao _ hq),List.reverse_cons,List.lookup_append,Option.or_assoc];congr 1;rw[BM,List.lookup_nil];by_cases hx:x=n
      .subst hx;simp
      .have aj:(x==n)=false:=by simpa using hx
       simp[hx,aj]
    rw[e2 _ _ _ aa,Option.or_none]at e1;exact e1
   .rw[BV (by omega)]at O;rw[BV (by rw[Aa,hl];omega),Aa,hl,Au]at h2;have hz:zs[i-ps.length]?=some v:=by
     cases e:zs[i-ps.length]? with
     | none=>rw[e]at h2;cases h2
     | some a=>rw[e]at h2;cases h2;rfl
    obtain⟨j,a1,a2,a3⟩:=Paired.at ht O hz;obtain⟨m,_,lk⟩:=I.loc;obtain⟨u,ru,lo⟩:=lk j y v a1 a2 (.inr (.inl a3));rcases lo with⟨a4,_⟩|⟨_,b,a4,a5⟩
    .rw[a3]at a4;cases a4
    .have ah:=S.fr y (AQ O);obtain⟨b',hb'⟩:=hhas y ah;have:=Y y b' hb';rw[a4]at this;cases this;obtain⟨o,ho',hd⟩:=a5;exact⟨u,ru,.inr ⟨.inr ah,b,hb',o,Z _ _ ho',hd⟩⟩
  .obtain⟨v,o,ho',hd⟩:=I.cell y b (Y y b h);exact⟨v,o,Z _ _ ho',hd⟩
  .exact I.freeC y b (Y y b h)
  .show _=(ps++fs).length;rw[Av,Av,Aa,Aa,hl,ht.length]
 refine kla_codeExpr (CI (ag [] _ _ H Q J hq) (fun u s' hu=>?_) fun e s' z=>z.elim);obtain⟨v,H',J',rv,q⟩:=hu;exact⟨v,H',J'.os,J'.bare,J'.base,J'.hok,rv,q⟩
inductive aCf(h:Bl)(v:Ac):Prop
 | mk (t:_) (a:_) (b:_) (u1:_) (u2:_) (q0:v=.ref t) (q1:Fh h t #[.int a u1,.int b u2]):aCf h v
def aHq(h:Bl)(v:Ac):Prop:=aCf h v
theorem aIg{ks:List Ac}{Q:Cn->Ae->Prop}(Z:∀ v∈ks,aHq s.heap v)(h:∀ b,Q (tuples' b) s):wpAny (model prog w) A (keyKind' ks.toArray) Q E s:=by
 rw[keyKind'_eq,Cu];refine Ab ?_;rw[<- bind_pure_comp];refine Ab (iX (R:=fun _ r=>∃ a u,r=some (BS a u)) ks (fun v hv=>?_) fun rs hl F=>Ag ?_)
 .obtain⟨t,a,b,u1,u2,rfl,ht⟩:=Z v hv;refine⟨some (.int a u1),⟨a,u1,rfl⟩,fun Q' q=>?_⟩;rw[Ie];refine Ab (Cv ht.typeIs ?_);refine AX (by decide) ?_;refine Ab (dN ht ?_);exact Ag q
 .have G:(rs.toArray.all fun x=>x.isSome)=true:=by
   rw[He,A7];intro r Y;obtain⟨v,_,a,u,rfl⟩:=F r Y;rfl
  refine B7 (by rw[G];rfl) ?_;refine Ab (Ck ?_);rw[oneTypeOnly'_eq,Cu]
  iterate 2 refine Ab ?_
  rw[<- bind_pure_comp];refine Ab (iX (R:=fun _ r=>r=Bt "int") _ (fun v hv=>?_) fun ts aa ad=>Ag ?_)
  .have J:some v∈rs:=by simpa using hv
   obtain⟨_,_,a,u,e⟩:=F _ J;cases e;exact⟨_,rfl,fun Q' q=>Cv (HL s a u) q⟩
  .cases O:ts.toArray[0]? with
   | none=>exact Ag (Ag (h _))
   | some t=>exact Ag (Ag (h _))
inductive aCg(H:Hp)(v:Ac):Prop
 | mk (t:_) (a:_) (b:_) (q0:v=.ref t) (q1:H t=some (.tup [.int a,.int b])):aCg H v
def aKC(H:Hp)(v:Ac):Prop:=aCg H v
theorem eY.seq{K:Ah}{T:Af}{H H':Hp}{a:Af}{xs:List V}{ps:Array Ac}(e:eY T H H')(F:H T=some (.tbl ps))(h:SqL K H a xs):SqL K H' a xs:=by
 rcases h with(h|⟨o,h⟩)|h
 .exact .inl (.inl (e _ _ (fun z=>by rw[z,F]at h;cases h) h))
 .exact .inl (.inr ⟨o,e _ _ (fun z=>by rw[z,F]at h;cases h) h⟩)
 .exact .inr h
section
variable{ta:TA}
end
theorem Fun.okC{P:AE}{w:AW}{K:Ah}{mg:Str->Option Ac}{base:Bl}{x qual:Str}{st:Cw}{f:Af}{fd:Be}{N ps:List Str}{k:Nat}{sp:Sp}(F:Fun K x qual st f fd)(S:cB N ps (aQ st))(len:∀ vs H Q E,sp vs H Q E->vs.length=ps.length)
  (J:∀(G:Ac) (A:AV) (outer:List Env) (s:Ae) (H:Hp) (vs:List V) (Q:VK) (E:XK),fd.code=G->dC k (A.deeper (envOfC qual (aQ st) s.heap.objs.size f G))->sp vs H Q E->
   ∃ t,PSs (aA7 CX0 P w K mg base N qual (aQ st) f G A outer s H E).nox (eI st) t/\t { nx:=fun _ H'=>Q .non H',rt:=Q } (start N vs) H):cW P w K mg base CX0 (k+1) f fd ps sp:=by
 obtain⟨oc,od,kV,doc,pm,an,G,ct,osl,rfl,lk,hcd⟩:=F.ex;refine aHi lk hcd S len fun A outer s H vs Q E Y O=>?_;obtain⟨t,h,q⟩:=J G A outer s H vs Q E rfl Y O;exact⟨t,h.nox,q⟩
theorem lF.start{T:Af}{pos:Pos}{qual:Str}{H:Hp}(h:H T=some (.tbl #[])):lF T pos qual H:=⟨#[],h,trivial,.inl rfl⟩
theorem aDr{P:AE}{w:AW}{K:Ah}{mg mb:Str->Option Ac}{k:Nat}{fa a:Af}{fd:Be}{x:Str}{sp:Sp}{G:Ae}{vs:List Ac}{ns:List Int}{Ts:List Af}
  (KX:K.In G.heap) (ae:G.heap.Ns mainGlobals mg) (J:G.heap.Ns builtinsNs mb) (ap:∀ x:Str,x≠"__name__"->mb x=bootBuiltins x) (ai:G.heap.NoLimit) (hg:G.gens=#[]) (hB:vF mg G.heap)
  (hT:∀ T∈Ts,G.heap.get? T=some (tabObj #[])/\K.lookup T=none/\isCodeTable G.heap T)
  (ha:G.heap.get? a=some { cls:=.type "list",data:=.seq vs.toArray }) (hi:Ht vs ns) (hl:ns.length<=sizeLine) (hr:dC k callerA)
  (F:∀ base:Bl,K.In base->base.Ns mainGlobals mg->vF mg base->cW P w K mg base CX0 k fa fd [x] sp) (ad:∀(s:Ae) (u:Ac),Hv s fd ⟨[u],[]⟩ [(x,u)])
  (ak:∀ H:Hp,(∀ T∈Ts,H T=some (.tbl #[]))->SqL K H a (ns.map V.int)->sp [.ref a] H (fun v _=>v=.bl true) fun _ _ _=>False):
  codeAny (model P w) callerA (.call (.ref fa) ⟨[.ref a],[]⟩) (fun r s'=>r=.ok (.ret (.bool true))/\OldK G.heap s'.heap/\s'.os=G.os/\E8 s'.gens) G:=by
 have rv:=vV hi;have af:=hi.length;have aT:∀ T∈Ts,T≠a:=fun T h z=>by
  have:=(hT T h).1;rw[z,ha]at this;cases this
 have ab:∀ H:Hp,(∀ T∈Ts,H T=some (.tbl #[]))->SqL K H a (ns.map V.int)->HOk P w H G.heap->(∀ b,H b≠none->b∈Ts\/(b=a/\K.lookup a=none/\H a=some (.frz { cls:=.type "list",data:=.seq vs.toArray } (.lst (ns.map V.int)))))->
   codeAny (model P w) callerA (.call (.ref fa) ⟨[.ref a],[]⟩) (fun r s'=>r=.ok (.ret (.bool true))/\OldK G.heap s'.heap/\s'.os=G.os/\E8 s'.gens) G:=by
  intro H hO hS hok hA;have free:∀{b:Af} {o:Obj},G.heap.get? b=some o->(∀ xs n,o.data≠.seq xs n)->(∀ vs,o.data≠.fields vs)->H b=none:=fun{b o} e d1 d2=>by
   cases q:H b with
   | none=>rfl
   | some u=>
    rcases hA b (by rw[q];simp)with z|⟨z,_,_⟩
    .rw[(hT b z).1]at e;cases e;exact absurd rfl (d2 _)
    .rw[z,ha]at e;cases e;exact absurd rfl (d1 _ _)
  have Z:∀{b:Af} {m:Str->Option Ac},G.heap.Ns b m->(wU G.heap H).Ns b m:=fun{b m} ⟨o,es,ep,e,d,r⟩=>⟨o,es,ep,sG e (free e (fun _ _ z=>by rw[d]at z;cases z) fun _ z=>by rw[d]at z;cases z),d,r⟩
  have ah:K.In (wU G.heap H):=fun b o e=>sG (KX b o e) (by
   cases q:H b with
   | none=>rfl
   | some u=>
    rcases hA b (by rw[q];simp)with z|⟨z,z2,_⟩
    .rw[(hT b z).2.1]at e;cases e
    .rw[z,z2]at e;cases e)
  have al:vF mg (wU G.heap H):=by
   obtain⟨bm,o,b1,b2,b3,b4,b5,b6,b7⟩:=hB;exact⟨bm,o,b1,b2,b3,sG b4 (free b4 (fun _ _ z=>by rw[b7]at z;cases z) fun _ z=>by rw[b7]at z;cases z),b5,b6,b7⟩
  have hM:Mod K mg (wU G.heap H):=⟨ah,Z ae,⟨mb,Z J,ap⟩,let ⟨mc,h1,h2⟩:=ai;⟨mc,Z h1,h2⟩⟩
  have e0:aA6 P w K mg (wU G.heap H) callerA [] G H:=⟨rfl,hM,fun b o e=>aF5 e,Ea (aC7 _ _),trivial,fun b J=>absurd (show b∈([]:List Af) from J) (by simp),hok,.of_eq hg⟩
  refine Eh ((F _ ah (Z ae) al).run callerA [] G H ⟨[.ref a],[]⟩ [.ref a] [.ref a] _ _ hr e0 (ad G (.ref a)) (.cons rfl .nil) (ak H hO hS)) fun r s' h=>?_;cases r with
  | error e=>exact B9 h
  | ok fl=>
   cases fl with
   | next=>exact B9 h
   | brk=>exact B9 h
   | cont=>exact B9 h
   | ret u=>
    obtain⟨v,H',os,bare,un,hok',r',q⟩:=h;have q':v=.bl true:=q;subst q';obtain rfl:u=HX true:=r';refine⟨rfl,⟨fun b o e=>?_,fun b o e=>un.there b o e (by simp)⟩,os,bare⟩;cases q:H b with
    | none=>exact .inl (un.keep b o e q (by intro z;exact absurd (show b∈([]:List Af) from z) (by simp)) (by simp))
    | some u=>
     rcases hA b (by rw[q];simp)with z|⟨z,_,z2⟩
     .obtain⟨e1,_,e3⟩:=hT b z;rw[e1]at e;cases e;obtain⟨more,e4⟩:=un.tbls b _ (hO b z);exact .inr (.inl ⟨e3,rfl,#[],more,rfl,hok' b _ e4⟩)
     .subst z;have z3:=un.frzs _ _ _ z2;obtain⟨e1,_⟩:=hok _ _ z2;obtain⟨e2,_⟩:=hok' _ _ z3;rw[e]at e1;cases e1;exact .inl e2
 have Y:∀(H:Hp) T,T∈Ts->cR P w H G.heap T (.tbl #[]):=fun H T h=>(hT T h).1;cases hk:K.lookup a with
 | some o=>
  have e:=KX a o hk;rw[ha]at e;cases e;refine ab (fun b=>if b∈Ts then some (.tbl #[]) else none) (fun T h=>Iq h) (.inr ⟨_,vs.toArray,_,hk,rfl,rfl,rfl,by rw[Aw,af];exact hl,by simpa using rv⟩) (fun b u z=>?_) fun b z=>?_
  .by_cases J:b∈Ts
   .have z':=(Iq J).symm.trans z;cases z';exact Y _ b J
   .have z':=(Ip J).symm.trans z;cases z'
  .by_cases J:b∈Ts
   .exact .inl J
   .exact absurd (Ip J) z
 | none=>
  have an:∀ T∈Ts,(if T=a then some (HO.frz { cls:=.type "list",data:=.seq vs.toArray } (.lst (ns.map V.int))) else if T∈Ts then some (.tbl #[]) else none)=some (.tbl #[]):=fun T h=>by
   rw[Ip (aT T h),Iq h]
  refine ab (fun b=>if b=a then some (.frz { cls:=.type "list",data:=.seq vs.toArray } (.lst (ns.map V.int))) else if b∈Ts then some (.tbl #[]) else none) an (.inl (.inr ⟨{ cls:=.type "list",data:=.seq vs.toArray },Iq rfl⟩)) (fun b u z=>?_) fun b z=>?_
  .by_cases J:b=a
   .have z':=(Iq J).symm.trans z;cases z';subst J;exact⟨ha,by rw[Aa];exact hl,vs,_,rv,ha⟩
   .have z1:=(Ip J).symm.trans z;by_cases O:b∈Ts
    .have z':=(Iq O).symm.trans z1;cases z';exact Y _ b O
    .have z':=(Ip O).symm.trans z1;cases z'
  .by_cases J:b=a
   .exact .inr ⟨J,hk,Iq rfl⟩
   .by_cases O:b∈Ts
    .exact .inl O
    .exact absurd ((Ip J).trans (Ip O)) z
theorem walk_ofT{l:G7}{n k:Nat}{q:AE}{O:List Str}{XP:(Str->Option Ac)->Bl->Prop}{YP:AW->Bl->Prop}{d:DefRec}{K:Params->Ah}{sp:AW->Sp}{x:Str}{cts:List (Af×Af)}
  (hn:l.most=some n) (af:n<=sizeLine) (ae:d.params.defaults=[]) (hr:dC k callerA)
  (hY:∀(w:AW) (h:Bl),YP w h->(K w.params).In h/\∀ T∈cts.map (·.2),h.get? T=some (tabObj #[]))
  (hC:∀(w:AW),∀ p∈cts,codeHdIn (K w.params) p.1 p.2=true/\(K w.params).lookup p.2=none)
  (F:∀(w:AW) (mg:Str->Option Ac) (fa:Af) (h:Bl),(K w.params).In h->h.Ns mainGlobals mg->mg d.name=some (.ref fa)->
   ∃ fd:Be,(∀(s:Ae) (u:Ac),Hv s fd ⟨[u],[]⟩ [(x,u)])/\
    ∀ base:Bl,(K w.params).In base->base.Ns mainGlobals mg->vF mg base->cW l.prog w (K w.params) mg base CX0 k fa fd [x] (sp w))
  (ad:∀(w:AW) (H:Hp) (a:Af) (ns:List Int),ns.length<=n->(∀ T∈cts.map (·.2),H T=some (.tbl #[]))->SqL (K w.params) H a (ns.map V.int)->sp w [.ref a] H (fun v _=>v=.bl true) fun _ _ _=>False):
  PySem.W.WalkO q O XP YP l.row.toRowW d [] (fun f vs=>HY f vs):=by
 refine Att.attach_call hn ae fun w s₀ s₁ mg mb fa o pm cd aq a vs ns G Y ho hd al ag aa Z J hg=>?_;obtain⟨KX,TX⟩:=hY w _ Y;obtain⟨fd,hb,hF⟩:=F w mg fa _ KX G.T.g ag;have hB:vF mg s₁.heap:=by
  obtain⟨bm,ob,b1,b2,b3,b4,b5,b6⟩:=G.T.bmain;refine⟨bm,ob,b1,b2,fun z=>?_,b3,b4,b5,b6⟩;obtain⟨o',es,ep,e,r⟩:=G.T.g;rw[z,e]at b3;cases b3;rw[r.1]at b6;cases b6
 refine aDr KX G.T.g G.T.b G.T.builtins G.T.nolimit hg hB (Ts:=cts.map (·.2)) (fun T h=>?_) aa Z (Ay J af) hr hF hb fun H hO hS=>ad w H a ns J hO hS
 obtain⟨p,hp,rfl⟩:=AL.mp h;obtain⟨h1,h2⟩:=hC w p hp;exact⟨TX _ h,h2,((Ik KX h1).tab (TX _ h)).isCodeTable⟩
inductive tV(x:V)(vs:List V)(H:Hp)(Q:VK):Prop
 | mk (l:_) (b:_) (xs:_) (zs:_) (q0:x=.ref l) (q1:vs=[.ref b]) (q2:H l=some (.lst xs)) (q3:H b=some (.tup zs)) (q4:xs.length+zs.length<=sizeLine) (q5:Q .non (upd H l (.lst (xs++zs)))):tV x vs H Q
def aES:V->List V->Hp->VK->Prop:=fun x vs H Q=>tV x vs H Q
theorem aBu:MtM X "list.extend" aES:=by
 intro im s σ H x vs v us Q I O Y h;obtain⟨l,b,xs,zs,rfl,rfl,hH,hB,hz,q⟩:=h;cases O;obtain⟨u,rfl,ru⟩:=Y.one;cases ru;obtain⟨z,its,n,r,hl,e⟩:=I.lstM hH;obtain⟨its2,r2,p,_⟩:=I.tuple (aN (K:=X.K) hB);have Z:=r2.length;have J:its.toArray.size+its2.toArray.size<=sizeLine:=by rw[Aw,Aw];omega
 have G:¬ (!its.toArray.isEmpty&&Du (its.toArray.size+its2.toArray.size))=true:=by
  rw[yR J,D7];exact Am
 refine CJ F.slot_list_extend ⟨_,e,rfl⟩ F.entry_list_extend ?_ (F.args_list_extend_2 _ _);show wpAny _ _ (Ed (.ref l) (.ref b) .none) _ _ _;unfold Ed;refine Ab (Cv p.typeIs ?_);rw[Iq (by
  have ht:(Bt "tuple"==Bt "tuple")=true:=by rfl
  rw[ht];simp)]
 refine Ab (dN p ?_);refine Ab (Hl e rfl ?_);rw[Ip G];refine Ab (Dw e rfl ?_ (by rw[Aw];omega) (by rw[Array.size_append];omega));refine Ag ⟨_,rfl,?_⟩;refine⟨.non,_,I.lset (its':=its++its2) (t':=s.toks) hH e (by simp) (r.append r2) ?_,rfl,q⟩;rw[Av];omega
section
variable{tg:Bi}
end
inductive aBv(H:Hp):V->Prop
 | str (z:Str):aBv H (.str z)
 | non:aBv H .non
 | int (i:Int):aBv H (.int i)
 | bl (b:Bool):aBv H (.bl b)
 | lst {a:Af} {xs:List V} (e:H a=some (.lst xs)):aBv H (.ref a)
 | tup {a:Af} {xs:List V} (e:H a=some (.tup xs)):aBv H (.ref a)
inductive Thg(H:Hp):V->Option (List V)->Prop
 | lst {a:Af} {xs:List V} (e:H a=some (.lst xs)) (h:∀ v∈xs,aBv H v):Thg H (.ref a) (some xs)
 | tup {a:Af} {xs:List V} (e:H a=some (.tup xs)):Thg H (.ref a) none
 | dct {a:Af} {ip:List (Key×V)} (e:H a=some (.dK ip)):Thg H (.ref a) none
 | non:Thg H .non none
 | str (z:Str):Thg H (.str z) none
 | bl (b:Bool):Thg H (.bl b) none
inductive RpV(H:Hp):V->Str->Prop
 | non:RpV H .non "None"
 | bl (b:Bool):RpV H (.bl b) (if b then "True" else "False")
 | str (z:Str) (h:(reprText z).length<=sizeLine):RpV H (.str z) (reprText z)
 | ref {a:Af} {m:Bool} {d:Bc} (r:RdV m H (.ref a) d) (h1:d.showable=true) (h2:d.depth<=20) (h3:d.shown.length<=sizeLine):RpV H (.ref a) d.shown
inductive lW(xs:List V)(H:Hp)(Q:VK):Prop
 | mk (x:V) (z:Str) (q0:xs=[x]) (q1:RpV H x z) (q2:Q (.str z) H):lW xs H Q
def xI:List V->Hp->VK->Prop:=fun xs H Q=>lW xs H Q
theorem iY{k:Nat}(F:dC k X.A):fF X (.builtin "repr") xI:=by
 intro im s σ H xs J Q I r h;obtain⟨x,z,rfl,hx,q⟩:=h;cases hx with
 | non=>
  obtain⟨u,rfl,ru⟩:=fG r;cases ru;exact P.repr_of_none ⟨.str _,H,I.tok _,⟨_,rfl⟩,q⟩
 | bl b=>
  obtain⟨u,rfl,ru⟩:=fG r;cases ru;exact P.repr_of_bool ⟨.str _,H,I.tok _,⟨_,by cases b<;>rfl⟩,q⟩
 | str z h=>
  obtain⟨u,rfl,ru⟩:=fG r;obtain⟨t,rfl⟩:=ru;exact P.repr_of_str ⟨.str _,H,I.tok _,⟨_,rfl⟩,q⟩ h
 | @ref a m d rd h1 h2 G=>exact aDp F im s σ H _ J Q I r ⟨a,m,d,rfl,rd,h1,h2,G,q⟩
def OkS:Nat->Bc->Prop
 | 0,d=>(∃ z,d=.str z)\/∃ i,d=.int i
 | n+1,d=>(∃ z,d=.str z)\/(∃ i,d=.int i)\/∃ ds,d=.tuple ds/\∀ e∈ds,OkS n e
open Classical in
open Classical in
open Classical in
inductive aJy(X:Cx)(im:List (Af×Obj))(σ:St)(E':XK)(x:Ac)(s':Ae):Prop
 | mk (H1:_) (s1:_) (q0:Inv X im σ H1 s1) (q1:CXr X.prog X.w X.stack H1 s1 E' x s'):aJy X im σ E' x s'
def XP(X:Cx)(im:List (Af×Obj))(σ:St)(E':XK)(x:Ac)(s':Ae):Prop:=aJy X im σ E' x s'
structure PX(X:Cx)(e:Bi)(te:XK->TE):Prop where
 run:∀(E':XK) (im:List (Af×Obj)) (s:Ae) (σ:St) (H:Hp) (Q:VK),Inv X im σ H s->te E' σ H Q->wpAny (model X.prog X.w) X.A (eval e X.env) (EP X im σ Q) (XP X im σ E') s
structure PXs(X:Cx)(b:List Cw)(tb:XK->TS):Prop where
 run:∀(E':XK) (im:List (Af×Obj)) (s:Ae) (σ:St) (H:Hp) (D:Ends),Inv X im σ H s->tb E' D σ H->wpAny (model X.prog X.w) X.A (execs b X.env) (SP X im D) (XP X im σ E') s
section
variable{k:Nat}{fd:Be}{ps:List Str}{sp:Sp}{x:Str}{p:Pos}{es:List Bi}{t:TA}{te:XK->TE}
end
section
variable{v:Ac}
end
def aKD(y:Af)(C:Ac):HO:=.ext fun h=>∃ ob vs,h.get? y=some ob/\ob.cls=C/\ob.data=.fields vs
open PySem PySem.Spec PyProof.Rows PySem.W Builtin Builtin.ObjectAttr PySem.Calls Builtin.Getset_descriptor
structure aKQ(K:Ah)(D:Af):Prop where
 ga:findIn K (.ref D) "__getattribute__"=some (some (.builtin "BaseException.__getattribute__"))
 gn:findIn K (.ref D) "__getattr__"=some none
 mb:mroIn K D (.type "BaseException")=some true
 hd:hasDictIn K D=true
 ha:findIn K (.ref D) "__class__"=some (some (.builtin "object.__class__"))
 hm:mroIn K D (.type "object")=some true
 hn:specialIn K (.builtin "object.__class__") "__get__"=some (some (.builtin "getset_descriptor.__get__"))
 ht:takesIn K (.builtin "object.__class__")=some true
def aKE(y:Af)(C:Ac)(h:Bl):Prop:=∃ ob vs,h.get? y=some ob/\ob.cls=C/\ob.data=.fields vs
section
variable{H':Hp}{L:List (Af×Obj)}{b:Af}{o:Obj}
variable{h h':Bl}{fs:List Af}
end
section
variable{N:List Str}{E:XK}
structure aKF(cl:List (Str×Af))(L:List (Af×Obj))(fs:List Str)(zs:List V):Prop where
 pr:BI (fun(x:Str) (v:V)=>∃ b o u,cl.lookup x=some b/\L.lookup b=some o/\o.data=.cell (some u)/\cC v u) fs zs
 all:∀ x b,cl.lookup x=some b->∃ o u,L.lookup b=some o/\o.data=.cell u
 inj:∀ x y b,cl.lookup x=some b->cl.lookup y=some b->x=y
end
section
variable{k:Nat}{x:Str}{p:Pos}
end
inductive Thn(H:Hp):V->Prop
 | non:Thn H .non
 | bl (b:Bool):Thn H (.bl b)
 | int (i:Int):Thn H (.int i)
 | str (z:Str):Thn H (.str z)
 | lst {a:Af} {xs:List V} (e:H a=some (.lst xs)):Thn H (.ref a)
 | tup {a:Af} {xs:List V} (e:H a=some (.tup xs)):Thn H (.ref a)
 | dct {a:Af} {ip:List (Key×V)} (e:H a=some (.dK ip)):Thn H (.ref a)
theorem tW{α:Type}{f g:α->Bool}:∀{l:List α},(∀ x∈l,f x=true->g x=true)->(∃ x∈l,f x=false/\g x=true)->l.countP f<l.countP g
 | [],_,h=>by obtain⟨x,F,_⟩:=h;simp at F
 | a::r,h,J=>by
  have hm:r.countP f<=r.countP g:=List.countP_mono_left fun x F=>h x (Ao _ F);rw[List.countP_cons,List.countP_cons];obtain⟨x,F,h1,h2⟩:=J;rcases An.mp F with rfl|F
  .rw[h1,h2];simp only[if_true,CB,if_false];omega
  .have:=tW (l:=r) (fun x F=>h x (Ao _ F)) ⟨x,F,h1,h2⟩;have ha:=h a Ap;cases G:f a
   .simp only[CB,if_false];omega
   .rw[ha G];simp only[if_true];omega
theorem rZ{α:Type}{lt:α->α->Bool}(G:∀ a,lt a a=false)(J:∀ a b c,lt a b=true->lt b c=true->lt a c=true)(Y:∀ a b c,lt a b=false->lt c b=true->lt c a=true){l:List α}{p q:α}(O:p∈l):decide (l.countP (lt · p)<l.countP (lt · q))=lt p q:=by
 cases h:lt p q with
 | true=>exact Ir (tW (fun x _ F=>J x p q F h) ⟨p,O,G p,h⟩)
 | false=>exact Is (Hz.mpr (List.countP_mono_left fun x _ F=>Y p q x h F))
def ltS(x y:Str):Bool:=if x==y then false else decide (x.cps.toList<y.cps.toList)
theorem jG(x y:Str):ltS x y=true↔x.cps.toList<y.cps.toList:=by
 unfold ltS;by_cases e:x=y
 .subst e;rw[beq_self_eq_true,Iq rfl];exact⟨fun h=>(by cases h),fun h=>absurd h (F3 _)⟩
 .rw[beq_eq_false_iff_ne.mpr e,Ip Am,decide_eq_true_iff]
theorem sB(a:Str):ltS a a=false:=by
 rw[E7];intro h;exact F3 _ ((jG _ _).mp h)
theorem xJ(a b c:Str)(h1:ltS a b=true)(h2:ltS b c=true):ltS a c=true:=by
 rw[jG]at *;exact List.lt_trans h1 h2
theorem aET(a b c:Str)(h1:ltS a b=false)(h2:ltS c b=true):ltS c a=true:=by
 have h1:¬ ltS a b=true:=by rw[h1];exact Am
 rw[jG]at *;refine Ew fun F=>h1 (List.lt_of_le_of_lt (F2.mp F) h2)
theorem iQ{vs:List Ac}{x:A0}(h:x∈(pairsOf vs).toList):x.1=x.2/\x.2∈vs:=by
 rw[pairsOf_toList]at h;obtain⟨i,hi,rfl⟩:=Bp.mp h;rw[Hd];exact⟨rfl,Bk _⟩
def pC:Ac->Str
 | .str z _=>z
 | _=>""
theorem aEU{vs:List Ac}{ss:List Str}(h:Ei vs ss):∀ v∈vs,∃ u,v=.str (pC v) u/\pC v∈ss:=by
 induction h with
 | nil=>intro v hv;cases hv
 | cons i t r F=>
  intro v hv;rcases An.mp hv with rfl|hv
  .exact⟨t,rfl,Ap⟩
  .obtain⟨u,e,m⟩:=F v hv;exact⟨u,e,Ao _ m⟩
theorem aDs{α:Type}:∀{l:List α},¬ l.toArray.size<2->∃ a b t,l=a::b::t
 | [],h=>absurd (by show 0<2;decide) h
 | [a],h=>absurd (by show 1<2;decide) h
 | a::b::t,_=>⟨a,b,t,rfl⟩
theorem zU{α:Type}{R:α->α->Prop}:∀{l:List α},l.length<2->l.Pairwise R
 | [],_=>B6
 | [x],_=>List.pairwise_singleton _ _
 | _::_::_,h=>absurd h (by simp)
theorem qH{a:Af}{vs:List Ac}{n:Nat}{rk:Ac->Nat}{P:HA->Ae->Prop}(ho:s.heap.get? a=some (seqObj "list" vs.toArray n))(hK:∀(v1 O:Ac) (cE:List Ac),vs=v1::O::cE->∀(s':Ae) (Q:Cn->Ae->Prop),(∀ b u,b≠a->s.heap.get? b=some u->s'.heap.get? b=some u)->(∀ κ,tU prog w A s' κ (pairsOf vs) (fun x=>rk x.2)->Q κ s')->wpAny (model prog w) A (keyKind' vs.toArray) Q E s')(hz:vs.length<=sizeLine)
  (h:∀ out:List Ac,out.Perm vs->(out.Pairwise fun a b=>rk a<=rk b)->P (.done (.ret .none)) { s with heap:=sortedHeap s.heap a vs out.toArray }):wpAny (model prog w) A (Builtin.«list.sort» ⟨[.ref a],[]⟩) P E s:=by
 rw[list_sort_plain];have ha:a<s.heap.objs.size:=Ax ho;refine Ab (Hl ho rfl (Ab (Dw ho rfl ?_)));obtain⟨Y,ho1⟩:∃ Y,(s.heap.update a (Bg fun _=>#[])).get? a=some (seqObj "list" #[] Y):=⟨_,get?_update_seq ho (fun _=>#[])⟩
 refine Ab (Gy ho1 rfl (Ab (wpAny_newTuple (Ab (DV (Bx ?_))))));have n1:a≠((s.heap.update a (Bg fun _=>#[])).push (seqObj "tuple" vs.toArray 0)).objs.size:=by rw[Hg,CA];exact AI (CL ha)
 have n2:a≠(s.heap.update a (Bg fun _=>#[])).objs.size:=by rw[CA];exact AI ha
 have F:(((s.heap.update a (Bg fun _=>#[])).push (seqObj "tuple" vs.toArray 0)).push (seqObj "list" #[] 0)).get? a=some (seqObj "list" #[] Y):=by
  rw[E6 _ _ _ n1,E6 _ _ _ n2];exact ho1
 show wpAny (model prog w) A _ P E { s with heap:=((s.heap.update a (Bg fun _=>#[])).push (seqObj "tuple" vs.toArray 0)).push (seqObj "list" #[] 0) };dsimp only;have fin:∀ st:Bn,(arrOf st).Perm (pairsOf vs)->UpL (fun x=>rk x.2) (arrOf st).toList->P (.done (.ret .none)) { s with heap:=sortedHeap s.heap a vs ((arrOf st).map (·.2)) }:=fun st G hu=>by
  have Z:((arrOf st).map (·.2)).toList.Perm vs:=by
   rw[Fi];have:=(Bb.mp G).map (·.2)
   rw[pairsOf_toList,List.map_snd_zip (Aj _)]at this;exact this
  have:=h _ Z (by rw[Fi];exact FH _ (fun _ _ h=>h) hu)
  rwa [Array.toArray_toList]at this
 have le:∀ st:Bn,(arrOf st).Perm (pairsOf vs)->((arrOf st).map (·.2)).size<=sizeLine+1:=fun st G=>by
  rw[Array.size_map,G.size_eq,pairsOf_size];omega
 by_cases h2:vs.toArray.size<2
 .rw[Iq h2,Iq h2];refine Ab (Ag ?_);rw[StateT.run_pure];refine Ab (Ag ?_);dsimp only;refine Ab (Gy F rfl (Ab (Dw F rfl ?_ (hsz2:=le (Hj general' (vs.toArray.zip vs.toArray) #[] 7 none) (DC _)))));simp only[bne_self_eq_false,CB,if_false];refine Ag (fin (Hj general' (vs.toArray.zip vs.toArray) #[] 7 none) (DC _) ?_);show UpL _ (pairsOf vs).toList;exact zU (by rw[AY,pairsOf_size];simpa using h2)
 .rw[Ip h2,Ip h2];obtain⟨v1,O,cE,rfl⟩:=aDs h2;refine Ab (hK v1 O cE rfl _ _ (fun b u nb e=>?_) fun κ hc=>Ab (aCe hc fun st G hu hf=>?_))
  .have J:=Ax e;rw[E6 _ _ _ (by rw[Hg,CA];exact AI (CL J)),E6 _ _ _ (by rw[CA];exact AI J),BR _ _ _ _ nb];exact e
  .dsimp only;refine Ab (Gy F rfl (Ab (Dw F rfl ?_ (hsz2:=le st G))));rw[hf];simp only[bne_self_eq_false,CB,if_false];exact Ag (fin st G hu)
theorem v4{a:Af}{vs:List Ac}{ss:List Str}{n:Nat}{P:HA->Ae->Prop}(ho:s.heap.get? a=some (seqObj "list" vs.toArray n))(F:Ei vs ss)(hz:vs.length<=sizeLine)
  (h:∀ out:List Ac,out.Perm vs->P (.done (.ret .none)) { s with heap:=sortedHeap s.heap a vs out.toArray }):wpAny (model prog w) A (Builtin.«list.sort» ⟨[.ref a],[]⟩) P E s:=by
 refine qH (rk:=fun v=>ss.countP fun z=>ltS z (pC v)) ho (fun v1 Z cE e s' Q _ q=>?_) hz fun out G _=>h out G;subst e;rw[keyKind_strs F];refine Ag (q _ fun x y O J C hC=>?_);obtain⟨e1,m1⟩:=iQ O;obtain⟨e2,m2⟩:=iQ J;obtain⟨u1,k1,n1⟩:=aEU F _ m1;obtain⟨u2,k2,_⟩:=aEU F _ m2;rw[keyLt'_oneType,e1,e2,k1,k2];dsimp only at hC;rw[rZ sB xJ aET n1]at hC;refine oneLt_str ?_;have Y:decide ((pC x.2).cps.toList<(pC y.2).cps.toList)=ltS (pC x.2) (pC y.2):=by
  by_cases z:(pC x.2).cps.toList<(pC y.2).cps.toList
  .rw[Ir z,(jG _ _).mpr z]
  .rw[Is z,E7.mpr fun w=>z ((jG _ _).mp w)]
 rw[Y];exact hC
theorem v5{vs out:List Ac}(p:out.Perm vs):∀{ss:List Str},Ei vs ss->∃ F,Ei out F/\F.Perm ss:=by
 induction p with
 | nil=>intro ss h;exact⟨ss,h,.refl _⟩
 | cons x _ O=>
  intro ss h;cases h with
  | cons i t r=>
   obtain⟨F,h1,h2⟩:=O r;exact⟨i::F,.cons i t h1,h2.cons i⟩
 | swap x y l=>
  intro ss h;cases h with
  | cons i t r=>
   cases r with
   | cons j u Y=>exact⟨j::i::_,.cons j u (.cons i t Y),.swap _ _ _⟩
 | trans _ _ J G=>
  intro ss h;obtain⟨s1,h1,h2⟩:=G h;obtain⟨s2,h3,h4⟩:=J h1;exact⟨s2,h3,h4.trans h2⟩
theorem zV{l:Af}{vs:List Ac}{ss:List Str}{Q:Ac->Ae->Prop}(hl:s.heap.IsList l vs.toArray)(O:Ei vs ss)(hz:vs.length<=sizeLine)
  (h:∀(out:List Ac) (F:List Str),Ei out F->F.Perm ss->Q (.ref (s.heap.objs.size+1)) { s with heap:=sortedAll s.heap vs out.toArray }):
  wpAny (model prog w) A (call (.builtin "sorted") [.ref l]) Q E s:=by
 refine DE Gz F6 F7 (Ho _) ?_;unfold Builtin.«sorted»;refine Ab (m:=checkCount "sorted" 1 1 _) (Ag (Ab (Hm hl (Ab (DV ?_)))));have G:((s.heap.push (seqObj "list" #[] 0)).update s.heap.objs.size (Bg (·++vs.toArray))).objs.size=s.heap.objs.size+1:=by
  rw[CA,Hg]
 have J:(((s.heap.push (seqObj "list" #[] 0)).update s.heap.objs.size (Bg (·++vs.toArray))).push (seqObj "list" vs.toArray 0)).get? (s.heap.objs.size+1)=some (seqObj "list" vs.toArray 0):=by
  rw[<- G];exact AH _ rfl
 show wpAny _ _ _ _ _ { s with heap:=((s.heap.push (seqObj "list" #[] 0)).update s.heap.objs.size (Bg (·++vs.toArray))).push (seqObj "list" vs.toArray 0) }
 rw[G];refine Ab (Bx (CJ slot_list_sort ⟨_,J,rfl⟩ entry_list_sort (v4 J O hz fun out Y=>⟨_,rfl,?_⟩) (GF _)));obtain⟨F,h1,h2⟩:=v5 Y O;exact Ag ⟨_,rfl,h out F h1 h2⟩
inductive jH(K:Ah)(xs:List V)(H:Hp)(Q:VK):Prop
 | mk (p:Af) (ns:List Str) (q0:xs=[.ref p]) (q1:SqL K H p (ns.map V.str)) (q2:ns.length<=sizeLine) (q3:∀(l:Af) (ms:List Str),H l=none->ms.Perm ns->Q (.ref l) (upd H l (.lst (ms.map V.str)))):jH K xs H Q
def rL(K:Ah):List V->Hp->VK->Prop:=fun xs H Q=>jH K xs H Q
theorem vG:fF X (.builtin "sorted") (rL X.K):=by
 intro im s σ H xs us Q I r h;obtain⟨p,ns,rfl,hx,hz,q⟩:=h;obtain⟨u,rfl,ru⟩:=fG r;cases ru;obtain⟨its,rv,pl,_⟩:=I.list hx;have hi:Ei its ns:=tS rv;have F:=rv.length;rw[Aa]at F;refine zV pl.isList hi (by omega) fun out G O J=>?_;have Y:∀ b o,s.heap.get? b=some o->(sortedAll s.heap its out.toArray).get? b=some o:=fun b o e=>sortedAll_old e;obtain⟨e,he⟩:=sortedAll_at s.heap its out.toArray;have hn:H (s.heap.objs.size+1)=none:=I.hok.fresh (Dg _);have Z:=J.length_eq;have hv:bU (G.map V.str) out:=kX O;exact⟨.ref (s.heap.objs.size+1),_,I.laid (t':=s.toks) (o:=.lst (G.map V.str)) Y (Dg _) ⟨by rw[Aa];omega,out,e,hv,by rw[he]<;>rfl⟩,rfl,q _ G hn J⟩
section
variable{T:String}{r d:Af}{n:Nat}{P:Nat->Ac->Prop}{OK:Bl->Prop}
theorem zW(K:KdlSrc prog w T r d n P OK)(hh:A.handled=none)(hok:OK s.heap)(hn:n<=sizeLine){Q:List Ac->Ae->Prop}
  (hQ:∀(G:Array Ac) (h':Bl) (tk:Nat),(∀ b o,s.heap.get? b=some o->h'.get? b=some o)->s.heap.objs.size<h'.objs.size->ItemsOf P G n->Q G.toList { s with heap:=h',toks:=tk }):wpAny (model prog w) A (collect (.ref r)) Q E s:=by
 unfold collect;refine Ab (wpAny_runValue (C8 F.entry_proto_collect ?_));rw[CF F.plain_proto_collect _];show wpAny _ A.in1 (newList [] >>= fun l=>again (.builtin "list.__iadd__" ⟨[l,.ref r],[]⟩)) _ _ s;refine Ab (Ce (Ag ⟨Fz F.plain_list_iadd _,C8 F.entry_list_iadd ?_⟩));rw[CF F.plain_list_iadd _];obtain⟨t1,t2⟩:=K.there _ hok;have Z:(s.heap.push { cls:=.type "list",data:=.seq ([]:List Ac).toArray }).get? s.heap.objs.size=some { cls:=.type "list",data:=.seq ([]:List Ac).toArray }:=AH _ rfl;have J:OK (s.heap.push { cls:=.type "list",data:=.seq ([]:List Ac).toArray }):=K.keep _ _ hok fun b _ o e=>Ak _ e;show wpAny _ A.in1 (Ed (.ref s.heap.objs.size) (.ref r) (.ref s.heap.objs.size)) _ _ _;refine kdl_extend (R:=fun(r:HN) s'=>match r with
  | .ok (.ret v)=>wpAny (model prog w) A (match v with
   | .ref a=>(do
    let o <- load a
    match o.data with
    | .seq xs _=>pure xs.toList
    | _=>unsupported "internal:collect")
   | _=>unsupported "internal:collect") Q E s'
  | .ok _=>False
  | .error e=>E e s') (s:={ s with heap:=s.heap.push { cls:=.type "list",data:=.seq ([]:List Ac).toArray } }) K hh J s.heap.objs.size (D9 t1) (D9 t2) _ _ Z (fun h' tk G c hk Y O=>?_) hn
 show wpAny _ A (load s.heap.objs.size >>= _) _ _ _;refine Ab (wpAny_load Y ?_);exact Ag (hQ G h' tk (fun b o e=>hk b o (AI (Ax e)) (Ak _ e)) (Ax Y) O)
theorem aBw(K:KdlSrc prog w T r d n P OK)(hh:A.handled=none)(hok:OK s.heap)(hn:n<=sizeLine){ss:List Str}(hS:∀ F,ItemsOf P F n->Ei F.toList ss){Q:Ac->Ae->Prop}
  (h:∀(l:Af) (h':Bl) (tk e:Nat) (out:List Ac) (Y:List Str),s.heap.objs.size<=l->(∀ b u,s.heap.get? b=some u->h'.get? b=some u)->h'.get? l=some (seqObj "list" out.toArray e)->Ei out Y->Y.Perm ss->Q (.ref l) { s with heap:=h',toks:=tk }):
  wpAny (model prog w) A (call (.builtin "sorted") [.ref r]) Q E s:=by
 refine DE Gz F6 F7 (Ho _) ?_;unfold Builtin.«sorted»;refine Ab (m:=checkCount "sorted" 1 1 _) (Ag (Ab (zW (A:=A.in1) K hh hok hn fun F h1 tk hk Z G=>?_)));have hA:=hS F G;have hz:F.toList.length<=sizeLine:=by rw[AY,G.1];exact hn
 refine Ab (DV ?_ hz);have J:(h1.push (seqObj "list" F.toList.toArray 0)).get? h1.objs.size=some (seqObj "list" F.toList.toArray 0):=AH _ rfl;refine Ab (Bx (CJ slot_list_sort ⟨_,J,rfl⟩ entry_list_sort (v4 J hA hz fun out hp=>⟨_,rfl,?_⟩) (GF _)));obtain⟨Y,b1,b2⟩:=v5 hp hA;refine Ag ⟨_,rfl,?_⟩;obtain⟨e,he⟩:=HV (vs:=F.toList) (out:=out.toArray) J;refine h _ _ tk e _ Y (BU Z) (fun b u eb=>?_) he b1 b2;have O:=Ax (hk b u eb);rw[HM (AI O) (by rw[CV];exact CL O)];exact Ak _ (hk b u eb)
end
theorem aBx{P:AE}{w:AW}:∀{es:List Ic}{vs:List (Key×Ac)}{ss:List Str},PySem.Pairs (cA P w) es vs->vs.map (·.1)=ss.map Ad->Ei (es.map (·.key)) ss:=by
 intro es vs ss h
 induction h generalizing ss with
 | nil=>
  intro e;cases ss with
  | nil=>exact .nil
  | cons _ _=>simp at e
 | cons F hv _ G=>
  intro e;cases ss with
  | nil=>simp at e
  | cons z ss=>
   rw[Aq,Aq]at e;injection e with e1 e2;rcases c6 (show oJ _ _=true from F)with⟨i,t,q,_⟩|⟨x,t,q,q2⟩
   .skip
    rw[q]at e1;cases e1
   .skip
    rw[q]at e1;cases e1;rw[Aq,q2];exact .cons z t (G e2)
theorem sC:∀{ip:List (Key×V)}{vs:List (Key×Ac)},KV ip vs->ip.map (·.1)=vs.map (·.1)
 | _,_,.nil=>rfl
 | _,_,.cons r t=>by rw[Aq,Aq,sC t,r.1]
inductive j5(xs:List V)(H:Hp)(Q:VK):Prop
 | mk (p:Af) (ip:List (Key×V)) (ss:List Str) (q0:xs=[.ref p]) (q1:H p=some (.dK ip)) (q2:ip.map (·.1)=ss.map Ad) (q3:∀(l:Af) (ms:List Str),H l=none->ms.Perm ss->Q (.ref l) (upd H l (.lst (ms.map V.str)))):j5 xs H Q
def tX:List V->Hp->VK->Prop:=fun xs H Q=>j5 xs H Q
theorem iO(hc:X.calm=true):fF X (.builtin "sorted") tX:=by
 intro im s σ H xs us Q I r h;obtain⟨p,ip,ss,rfl,hx,hks,q⟩:=h;obtain⟨u,rfl,ru⟩:=fG r;cases ru;obtain⟨hz,hsm,vs,kv,o,es,ep,ho,hex,hd,hes,hpr,hnd⟩:cR X.prog X.w H s.heap p (.dK ip):=I.hok p _ hx;have e1:=sC kv;have ab:es.size=ip.length:=by
  have h1:=hpr.length;have h2:=congrArg Ct e1;rw[Aa,Aa]at h2;rw[<- AY,h1,h2]
 refine aBw (aJv hsm hex hd) (I.ok.hd hc) ho (by omega) (ss:=ss) (fun F G=>?_) fun l h' tk e out O hl hk hL hA Z=>?_
 .have J:F.toList=es.toList.map (·.key):=by
   apply List.ext_getElem?;intro j;by_cases Y:j<F.size
   .have e2:es[j]?.map (·.key)=some F[j]:=G.2 j F[j] (by simp[Y])
    rw[Au,AZ,AZ,e2];simp[Y]
   .have h1:=G.1;rw[CZ (by simpa using Y),CZ (by simp;omega)]
  rw[J];exact aBx hpr (by rw[<- e1,hks])
 .have hv:bU (O.map V.str) out:=kX hA;have ai:=Z.length_eq;have ad:ss.length=ip.length:=by
   have:=congrArg Ct hks;rw[Aa,Aa]at this;exact this.symm
  exact⟨.ref l,_,I.laid (t':=tk) (o:=.lst (O.map V.str)) hk hl ⟨by rw[Aa];omega,out,e,hv,by rw[hL]<;>rfl⟩,rfl,q l O (I.hok.fresh hl) Z⟩
theorem aGw:typeLookup (.type "list") "keys"=pure none:=am_miss_of_fast (by kernel_rfl)
theorem aDt{a:Af}{o:Obj}{xs:Array Ac}{k:Nat}{Q:Option Ac->Ae->Prop}(Y:s.heap.get? a=some o)(hc:o.cls=.type "list")(G:o.data=.seq xs k)(hd:o.dict=none)(hA:A.handled=none)
  (h:∀ h' tk,(∀ b u,s.heap.get? b=some u->h'.get? b=some u)->Q none { s with heap:=h',toks:=tk }):wpAny (model prog w) A (getAttr? (.ref a) "keys") Q E s:=by
 obtain⟨c,dct,dat,sl⟩:=o;simp only at hc G hd;subst hc G hd;obtain⟨hp,g,d,tk,os⟩:=s;have Z:∀ J,(⟨hp,g,d,J,os⟩:Ae).TypeIs (.ref a) "list":=fun _=>⟨_,Y,rfl⟩
 have f1:=sub_AttributeError;have f3:=Fp.lookup;have f4:=Fp.bind (.ref a);have f5:=am_list_getattr_none;unfold getAttr? getAttrBy? getAttrBy
 repeat any_goals first|assumption|exact Z _|((with_reducible show wpAny _ _ (call (Value.builtin "list.__getattribute__") _ _) _ _ _);refine Fe Fp (Z _) am_entry_list_getattribute (F.args_list_getattribute_2 _ _) (meets_getattribute_miss_list a xs k sl "keys" _ aGw (by decide) (by size_fits)) ⟨Y,hA,fun h' J e O=>?_⟩)|wp_step
 obtain⟨t',u',he⟩:=O.there;show wpAny _ _ (getattributeRaised _ _ _ _ _ _ _) _ _ _;unfold getattributeRaised
 repeat any_goals first|assumption|wp_step
 exact h h' J O.keeps
def iG(vs:List (Key×Ac)):List (Key×Ac):=vs.foldl (fun d kv=>stored d kv.1 kv.2) []
theorem zX(vs:List (Key×Ac))(F:Key×Ac):iG (vs++[F])=stored (iG vs) F.1 F.2:=by
 unfold iG;rw[Cp];rfl
theorem aDu(l:List (Key×Ac))(k:Key)(v:Ac):(stored l k v).length<=l.length+1:=by
 unfold stored;split
 .rw[Aa];omega
 .rw[Av];exact Aj _
theorem aDv:∀ vs:List (Key×Ac),(iG vs).length<=vs.length:=by
 intro vs;have:∀(vs d:List (Key×Ac)),(vs.foldl (fun d F=>stored d F.1 F.2) d).length<=d.length+vs.length:=by
  intro vs
  induction vs with
  | nil=>intro d;exact Aj _
  | cons x r G=>
   intro d;rw[Bh,AR];have h1:=G (stored d x.1 x.2);have h2:=aDu d x.1 x.2;omega
 have:=this vs [];unfold iG;simpa using this
def nZ(P:AE)(w:AW)(h:Bl)(q:Af)(kv:Key×Ac):Prop:=∃ o key n,h.get? q=some o/\o.cls=.type "tuple"/\o.data=.seq #[key,kv.2] n/\(cA P w).is kv.1 key=true
theorem nZ.on{P:AE}{w:AW}{h h':Bl}{q:Af}{F:Key×Ac}(p:nZ P w h q F)(k:∀ o,h.get? q=some o->h'.get? q=some o):nZ P w h' q F:=by
 obtain⟨o,key,n,h1,h2⟩:=p;exact⟨o,key,n,k _ h1,h2⟩
theorem aBy{R:HN->Ae->Prop}{I:Af}{fp wr:List Af}{G:Array Hu->Array Hu->Prop}{n:Nat}{P:Nat->Ac->Prop}{St:Nat->Ae->Prop}
  (W:WalksS prog w A.in1 I fp wr G n P St) (D:Af) (af:¬ D∈fp) (vs:List (Key×Ac)) (qs:List Af) (am:∀(i:Nat) (v:Ac),P i v->∃ q,v=.ref q/\qs[i]?=some q) (hn:vs.length=n) (hb:n<=sizeLine) (an:∀ q∈qs,q∉wr/\q≠D):
  ∀(k i:Nat) (s:Ae),n-i=k->i<=n->St i s->s.heap.DictOf (cA prog w) D (iG (vs.take i))->(∀(j:Nat) q J,qs[j]?=some q->vs[j]?=some J->nZ prog w s.heap q J)->
   (∀ s':Ae,Moved (D::wr) G s s'->s'.heap.DictOf (cA prog w) D (iG vs)->R (Ib (HQ DK)) s')->
   codeAny (model prog w) A (Code.builtin "dict.update.loop" { pos:=[AG D,AG I,rawInt i,.none] }) R s:=by
 have ag:¬ D∈wr:=fun h=>af (W.sub D h);have Y:∀ b,b∈wr->b∈D::wr:=fun b hb=>Ao D hb;have O:entryFor table "dict.update.loop"=some Builtin.«dict.update.loop»:=entryFor_of_tree (by kernel_rfl);have F:plainId "dict.update.loop"=true:=by decide
 intro k
 induction k with
 | zero=>
  intro i s hk hi Z hD hT hR;have ar:i=n:=by omega
  subst ar;refine C8 O ?_;rw[CF F];refine Ab (W.done s _ _ Z fun s' hm=>?_);refine Ab (m:=Builtin.Dict.addKeywords _ _) (Ag (Ag (hR s' (Hs hm Y) ?_)));rw[A9 (by omega)]at hD;obtain⟨o,es,ep,ho,cE⟩:=hD;exact⟨o,es,ep,hm.heap D o ag ho,cE⟩
 | succ k ih=>
  intro i s hk hi Z hD hT hR;have ah:i<n:=by omega
  refine C8 O ?_;rw[CF F];refine Ab (W.item i s _ _ ah Z fun v s' hP aj hm=>?_);obtain⟨q,rfl,hq⟩:=am i v hP;obtain⟨J,hkv⟩:∃ J,vs[i]?=some J:=⟨_,Ai (by omega)⟩
  have ae:∀(j:Nat) q J,qs[j]?=some q->vs[j]?=some J->nZ prog w s'.heap q J:=fun j q J e1 e2=>(hT j q J e1 e2).on fun o eo=>hm.heap q o (an q (AQ e1)).1 eo;obtain⟨o,key,m,ho,hc,hd,hkey⟩:=ae i q J hq hkv;have aw:s'.heap.DictOf (cA prog w) D (iG (vs.take i)):=by
   obtain⟨o,es,ep,ho,cE⟩:=hD;exact⟨o,es,ep,hm.heap D o ag ho,cE⟩
  have aq:s'.TypeIs (.ref q) "tuple":=⟨o,ho,hc⟩
  refine Ab (Bx (Ab (wpAny_tryCatch ?_)));unfold Builtin.Dict.pairItems;refine Ab (Cv aq ?_);rw[Iq (by decide)];refine Ab (m:=seqItems? (.ref q)) ?_;show wpAny _ _ (load q >>= _) _ _ _;refine Ab (wpAny_load ho ?_);rw[hd];refine Ag (Ag ?_);refine Bx (wpAny_dictSet_pairs hkey aw (fun h' ao aa=>?_) (Ay (aDv _) (by rw[AJ];omega)));refine Ag ⟨Fz F _,?_⟩;have et:iG (vs.take (i+1))=stored (iG (vs.take i)) J.1 J.2:=by
   rw[AA,hkv];exact zX _ _
  rw[<- et]at ao;refine ih (i+1) _ (by omega) ah (W.frame (i+1) s' h' _ aj (Dg s'.toks) fun b hb o e=>?_) ao (fun j q J e1 e2=>(ae j q J e1 e2).on fun o eo=>?_) fun ax al ai=>?_
  .rw[aa.right b fun h=>af (h▸hb)];exact e
  .rw[aa.right q (an q (AQ e1)).2];exact eo
  .refine hR ax (Moved.trans W.gtrans (Moved.then_heap (Hs hm Y) (Dg s'.toks) fun b o hb e=>?_) al) ai;rw[aa.right b fun h=>hb (h▸Ap)];exact e
theorem rM{n0:Nat}{l:Af}{qs:List Af}{vs:List (Key×Ac)}{Q:Ac->Ae->Prop}(hh:A.handled=none)(hl:s.heap.get? l=some { cls:=.type "list",data:=.seq (qs.map AG).toArray n0,slots:=#[] })(hT:∀(j:Nat) q kv,qs[j]?=some q->vs[j]?=some kv->nZ prog w s.heap q kv)(ah:qs.length=vs.length)(hb:vs.length<=sizeLine)
  (h:∀(h':Bl) (tk:Nat),h'.DictOf (cA prog w) s.heap.objs.size (iG vs)->(∀ b o,s.heap.get? b=some o->h'.get? b=some o)->Q (.ref s.heap.objs.size) { s with heap:=h',toks:=tk }):
  wpAny (model prog w) A (call (.type "dict") [.ref l]) Q E s:=by
 refine callType_codes (Q₁:=fun obj s₁=>obj=.ref s.heap.objs.size/\s₁={ s with heap:=s.heap.push { cls:=.type "dict",data:=.dict #[] } }) F.kt_called_dict (F.kt_typeCall_dict_1 _) F.entry_dict_init (kt_code_dict_new _ ⟨rfl,rfl⟩) ?_;rintro obj s₁ ⟨rfl,rfl⟩;have O:(s.heap.push { cls:=.type "dict",data:=.dict #[] }).DictOf (cA prog w) s.heap.objs.size []:=Heap.DictOf.new s.heap;refine⟨O.typeIs,F.args_dict_init_2 _ _,?_⟩;unfold Builtin.«dict.__init__»;refine Ab ?_;unfold Builtin.Dict.selfAndRest;refine Ab (wpAny_notOrdered_dict O.typeIs ?_);show wpAny _ _ (pure (s.heap.objs.size,[AG l])) _ _ _;refine Ag ?_;show wpAny _ _ (Builtin.Dict.updateFrom "dict.__init__" s.heap.objs.size (.ref l) [] .none) _ _ _;unfold Builtin.Dict.updateFrom;have aa:=Ak { cls:=.type "dict",data:=.dict #[] } hl;refine Ab (Cv ⟨_,aa,rfl⟩ ?_);rw[Iq (by decide)];refine Ab (aDt aa rfl rfl rfl hh fun h2 aq Z=>?_);rw[Iq (by rfl)];have ae:=Z _ _ aa;refine Ab (Ck (Ab (Eg ⟨_,ae,rfl,_,rfl⟩ ?_)));have al:h2.DictOf (cA prog w) s.heap.objs.size []:=by
  obtain⟨o,es,ep,ho,cE⟩:=O;exact⟨o,es,ep,Z _ _ ho,cE⟩
 have Y:s.heap.objs.size<h2.objs.size:=Ax (Z _ _ (AH s.heap rfl));have af:l<s.heap.objs.size:=Ax hl;have aj:l≠h2.objs.size:=AI (G8 af Y);refine Ag ⟨Fz (by decide) _,?_⟩;have J:∀{b:Af} {o:Obj},h2.get? b=some o->(h2.push { cls:=.type "list_iterator",data:=.fields #[.ref l,.int 0 0] }).get? b=some o:=fun e=>Ak _ e;have ak:A.in1.in1.handled=none:=hh;have ag:∀{b:Af} {o:Obj},s.heap.get? b=some o->h2.get? b=some o:=fun e=>Z _ _ (Ak _ e);refine aBy (n:=(qs.map AG).toArray.size) (Walks.toS (Hq ak _ l aj (qs.map AG).toArray)) s.heap.objs.size ?_ vs qs (fun i v hv=>?_) (by simp[ah]) (by simp;omega) (fun q hq=>?_) ((qs.map AG).toArray.size-0) 0 _ rfl (A8 _) ⟨⟨_,AH _ rfl,rfl,rfl⟩,Heap.IsList.push ⟨_,ae,rfl,_,rfl⟩ _⟩ ?_ (fun j q kv e1 e2=>(hT j q kv e1 e2).on fun o e=>J (ag e)) ?_
 .simp only[An,AC,or_false,not_or];exact⟨AI Y,D9 af⟩
 .rw[List.getElem?_toArray,Au]at hv;obtain⟨q,e1,e2⟩:=AU.mp hv;exact⟨q,e2.symm,e1⟩
 .obtain⟨j,hj⟩:=Bq hq;obtain⟨hj1,_⟩:=Al.mp hj;obtain⟨o,key,n,e,_⟩:=hT j q _ hj (Ai (by omega));have G:=Ax e;simp only[An,AC,or_false];exact⟨AI (G8 G Y),AI G⟩
 .obtain⟨o,es,ep,ho,cE⟩:=al;exact⟨o,es,ep,J ho,cE⟩
 .rintro⟨h',g',d',tk',os'⟩ hm hS';have e1:=hm.gens;have e2:=hm.drawn;have e3:=hm.os;dsimp only at e1 e2 e3;subst e1 e2 e3;refine⟨rfl,h h' tk' hS' fun b o e=>hm.heap b o ?_ (J (ag e))⟩;have G:=Ax e;simp only[An,AC,or_false,not_or];exact⟨AI G,AI (G8 G Y)⟩
theorem aIh{ip:List (Key×V)}{vs:List (Key×Ac)}(r:KV ip vs):KV (cX [] ip) (iG vs):=by
 have:∀{ip:List (Key×V)} {vs:List (Key×Ac)},KV ip vs->∀{a:List (Key×V)} {b:List (Key×Ac)},KV a b->KV (cX a ip) (vs.foldl (fun d F=>stored d F.1 F.2) b):=by
  intro ip vs r
  induction r with
  | nil=>intro a b h;exact h
  | @cons x y _ _ h _ J=>
   intro a b G;obtain⟨h1,h2⟩:=h;have:=G.put x.1 h2;rw[h1]at this;have e:=J this;unfold cX at e ⊢;rw[Bh,Bh,h1];exact e
 exact this r .nil
theorem pE:∀(ip a:List (Key×V)),(cX a ip).length<=a.length+ip.length
 | [],a=>Aj _
 | x::r,a=>by
  have h1:=pE r (b0 a x.1 x.2);have h2:=cJ a x.1 x.2;show(cX (b0 a x.1 x.2) r).length<=_;rw[AR];omega
inductive lX(xs:List V)(H:Hp)(Q:VK):Prop
 | mk (p:Af) (rs:List Af) (ip:List (Key×V)) (q0:xs=[.ref p]) (q1:H p=some (.lst (rs.map V.ref))) (q2:BI (fun(r:Af) (kv:Key×V)=>H r=some (.tup [kV kv.1,kv.2])) rs ip) (q3:∀(d:Af),H d=none->Q (.ref d) (upd H d (.dK (cX [] ip)))):lX xs H Q
def xK:List V->Hp->VK->Prop:=fun xs H Q=>lX xs H Q
theorem tY(hc:X.calm=true):fF X (.type "dict") xK:=by
 intro im s σ H xs us Q I r h;obtain⟨p,rs,ip,rfl,hx,hP,q⟩:=h;obtain⟨u,rfl,ru⟩:=fG r;cases ru;obtain⟨hz,F,n,hv,ho⟩:cR X.prog X.w H s.heap p (.lst (rs.map V.ref)):=I.hok p _ hx;have J:F=rs.map AG:=by
  have:∀{rs:List Af} {F:List Ac},bU (rs.map V.ref) F->F=rs.map AG:=by
   intro rs
   induction rs with
   | nil=>intro F h;cases h;rfl
   | cons a r Z=>
    intro F h;cases h with
    | cons h1 h2=>
     cases h1;rw[Z h2];rfl
  exact this hv
 subst J;obtain⟨vs,hvs,hT⟩:∃ vs:List (Key×Ac),KV ip vs/\∀(j:Nat) q G,rs[j]?=some q->vs[j]?=some G->nZ X.prog X.w s.heap q G:=by
  clear hx ho hv hz q r
  induction hP with
  | nil=>exact⟨[],.nil,fun j q G e=>by simp at e⟩
  | @cons a G as bs h _ Z=>
   obtain⟨vs,h1,h2⟩:=Z;obtain⟨_,F,hv,o,ho,⟨hc,n,hd⟩,_⟩:cR X.prog X.w H s.heap a (.tup [kV G.1,G.2]):=I.hok a _ h;cases hv with
   | cons r1 hv=>
   cases hv with
   | @cons _ u2 _ _ r2 hv=>
   cases hv;refine⟨(G.1,u2)::vs,.cons ⟨rfl,r2⟩ h1,fun j q aa O Y=>?_⟩;cases j with
   | zero=>
    simp only[List.getElem?_cons_zero,BD.injEq]at O Y;subst O Y;exact⟨o,_,n,ho,hc,hd,nJ r1⟩
   | succ j=>
    rw[List.getElem?_cons_succ]at O Y;exact h2 j q aa O Y
 have ae:=hvs.length;have ah:=hP.length;rw[Aa]at hz;refine rM (I.ok.hd hc) ho hT (by omega) (by omega) fun h' tk hd hk=>?_;have:=pE ip [];exact⟨.ref s.heap.objs.size,_,I.laid (t':=tk) (o:=.dK (cX [] ip)) hk (Aj _) (w9 (by simp at this;omega) (beq_eq_false_iff_ne.mpr (Cy (AI I.big))) (aIh hvs) hd),rfl,q _ (I.hok.fresh (Aj _))⟩
def leK(a1 b1:Int)(c1:Str)(a2 b2:Int)(c2:Str):Bool:=if a1=a2 then(if b1=b2 then(if c1=c2 then true else !decide (c2.cps.toList<c1.cps.toList)) else decide (b1<=b2)) else decide (a1<=a2)
theorem aDw(l b:Af)(n n2:Nat)(dd af:Option Af)(sl ag:Array (Option Ac))(a1 J:Int)(G:Str)(a2 O:Int)(F:Str)(t1 t2 t3 Z u2 Y:Tok):
  Meets (Builtin.«tuple.__le__» ⟨[.ref l,.ref b],[]⟩)
   (fun _ R s=>s.heap.get? l=some { cls:=.type "tuple",dict:=dd,data:=.seq #[.int a1 t1,.int J t2,.str G t3] n,slots:=sl }/\s.heap.get? b=some { cls:=.type "tuple",dict:=af,data:=.seq #[.int a2 Z,.int O u2,.str F Y] n2,slots:=ag }/\
    R (.ok (.ret (.bool (leK a1 J G a2 O F)))) s):=
 .of_wp fun prog w A R s h=>by
  obtain⟨hp,g,d,tk,os⟩:=s;obtain⟨hl,hb,h⟩:=h;have f2:=AutoSeq1.sub_tuple_tuple
  wp_walk using Gc hl,Gc hb
  show wpAny (model prog w) A.in1 (eqBool (BS a1 t1) (BS a2 Z)) _ _ _;obtain⟨e,he,hiff⟩:=HT.eqAt_int A.in1 ⟨hp,g,d,tk,os⟩ a1 t1 a2 Z;refine he prog w _ _ ?_;unfold leK at h;cases e with
  | false=>
   rw[Ip (fun z=>Am (hiff.mpr z))]at h;refine B7 (by decide) ?_;refine Ab (Ck ?_);refine Ab ?_;show wpAny _ _ (compareOp .LtE (BS a1 t1) (BS a2 Z)) _ _ _;refine le_int ?_
   wp_walk
   exact⟨_,rfl,h⟩
  | true=>
   rw[Iq (hiff.mp rfl)]at h;refine AX (by decide) (Ag ?_)
   wp_walk
   show wpAny (model prog w) A.in1 (eqBool (BS J t2) (BS O u2)) _ _ _;obtain⟨e,he,hiff⟩:=HT.eqAt_int A.in1 ⟨hp,g,d,tk,os⟩ J t2 O u2;refine he prog w _ _ ?_;cases e with
   | false=>
    rw[Ip (fun z=>Am (hiff.mpr z))]at h;refine B7 (by decide) ?_;refine Ab (Ck ?_);refine Ab ?_;show wpAny _ _ (compareOp .LtE (BS J t2) (BS O u2)) _ _ _;refine le_int ?_
    wp_walk
    exact⟨_,rfl,h⟩
   | true=>
    rw[Iq (hiff.mp rfl)]at h;refine AX (by decide) (Ag ?_)
    wp_walk
    show wpAny (model prog w) A.in1 (eqBool (Bz G t3) (Bz F Y)) _ _ _;refine Em G t3 F Y prog w _ _ ?_;cases hc:(G==F)with
    | false=>
     rw[Ip (fun z=>by rw[z,beq_self_eq_true]at hc;cases hc)]at h;refine B7 (by decide) ?_;refine Ab (Ck ?_);refine Ab ?_;show wpAny _ _ (compareOp .LtE (Bz G t3) (Bz F Y)) _ _ _;refine PySem.P.le_str ?_
     wp_walk
     exact⟨_,rfl,h⟩
    | true=>
     rw[Iq (eq_of_beq hc)]at h;refine AX (by decide) (Ag ?_)
     wp_walk
     exact⟨_,rfl,h⟩
inductive tZ(x:V)(y:V)(H:Hp)(Q:VK):Prop
 | mk (p:_) (q:_) (a1:_) (b1:_) (c1:_) (a2:_) (b2:_) (c2:_) (q0:x=.ref p) (q1:y=.ref q) (q2:H p=some (.tup [.int a1,.int b1,.str c1])) (q3:H q=some (.tup [.int a2,.int b2,.str c2])) (q4:Q (.bl (leK a1 b1 c1 a2 b2 c2)) H):tZ x y H Q
def aEV:V->V->Hp->VK->Prop:=fun x y H Q=>tZ x y H Q
theorem aIi{X:Cx}(hu:X.A.units<cLine):OpR X (compareOp .LtE) aEV:=by
 intro im s σ H x y v u Q I J G h;obtain⟨p,q,a1,b1,c1,a2,b2,c2,rfl,rfl,hp,hq,k⟩:=h;cases J;cases G;obtain⟨t1,t2,t3,hl⟩:=zH I hp;obtain⟨u1,u2,u3,hb⟩:=zH I hq;obtain⟨⟨cls,dd,data,sl⟩,ho,hc,n,hd⟩:=id hl;obtain⟨⟨cls2,dd2,data2,sl2⟩,ho2,hc2,n2,hd2⟩:=id hb;simp only at hc hd hc2 hd2;subst hc hd hc2 hd2;exact richCompare_meets_room (op:=.LtE) ⟨_,ho,rfl⟩ ⟨_,ho2,rfl⟩ PySem.F.slot_tuple_le PySem.F.entry_tuple_le (PySem.F.args_tuple_le_2 _ _) (aDw p q n n2 dd dd2 sl sl2 a1 b1 c1 a2 b2 c2 t1 t2 t3 u1 u2 u3)
  ⟨ho,ho2,⟨(fun x=>nomatch x),⟨.bl _,H,I,rfl,k⟩⟩⟩ hu
theorem aGx{X:Cx}{K:Ah}{o:Bi}{to:TE}{name:Str}{jh jb:Pos}{T id:String}{r:V->List V->Hp->VK->Prop}(O:PlainAttrs T)(slot:Slot T name id)(J:typeOf (.builtin id)=pure (.type "method_descriptor"))(hm:MtR X id r)(ho:PE X o to)(Y:X.K=K:=by rfl)
  (G:attributeBase o name X.env (eval o X.env)=eval o X.env:=by rfl) (F:(jh.endLine==jb.line)=true:=by rfl):PE X (.Call (.Attribute o name jh) [] [] jb) (aJc K T r to):=by
 subst Y;exact aBd O slot J hm ho G F
open PySem.W in
theorem t4(x y:P3):oY x y=true↔ltS x.1 y.1=true\/(x.1=y.1/\(ltS x.2.1 y.2.1=true\/(x.2.1=y.2.1/\x.2.2<y.2.2))):=by
 unfold oY;simp only[jG];have n:∀ z:Str,¬ z.cps.toList<z.cps.toList:=fun z=>F3 _;by_cases F:x.1=y.1
 .rw[beq_iff_eq.mpr F,Iq rfl];by_cases G:x.2.1=y.2.1
  .rw[beq_iff_eq.mpr G,Iq rfl];by_cases J:x.2.2=y.2.2
   .rw[beq_iff_eq.mpr J,Iq rfl,F,G,J];refine⟨fun h=>(by cases h),?_⟩;rintro(h|⟨_,h|⟨_,h⟩⟩)
    .exact absurd h (n _)
    .exact absurd h (n _)
    .omega
   .rw[beq_eq_false_iff_ne.mpr J,Ip Am,decide_eq_true_iff,F,G];refine⟨fun h=>.inr ⟨rfl,.inr ⟨rfl,h⟩⟩,?_⟩;rintro(h|⟨_,h|⟨_,h⟩⟩)
    .exact absurd h (n _)
    .exact absurd h (n _)
    .exact h
  .rw[beq_eq_false_iff_ne.mpr G,Ip Am,decide_eq_true_iff,F];refine⟨fun h=>.inr ⟨rfl,.inl h⟩,?_⟩;rintro(h|⟨_,h|⟨h,_⟩⟩)
   .exact absurd h (n _)
   .exact h
   .exact absurd h G
 .rw[beq_eq_false_iff_ne.mpr F,Ip Am,decide_eq_true_iff];refine⟨.inl,?_⟩;rintro(h|⟨h,_⟩)
  .exact h
  .exact absurd h F
theorem aCh(x y:Str):ltS x y=true\/x=y\/ltS y x=true:=by
 simp only[jG];refine Ew fun h=>?_;simp only[not_or]at h;exact h.2.1 (aB7 (List.le_antisymm (F2.mp h.2.2) (F2.mp h.1)))
theorem aEW(a:P3):oY a a=false:=by
 rw[E7];intro h;rw[t4,sB,sB]at h;rcases h with h|⟨_,h|⟨_,h⟩⟩
 .cases h
 .cases h
 .omega
theorem aCi(a b c:P3)(h1:oY a b=true)(h2:oY b c=true):oY a c=true:=by
 rw[t4]at *;rcases h1 with h1|⟨h1,G⟩
 .rcases h2 with h2|⟨h2,_⟩
  .exact .inl (xJ _ _ _ h1 h2)
  .exact .inl (by rw[<- h2];exact h1)
 .rcases h2 with h2|⟨h2,F⟩
  .exact .inl (by rw[h1];exact h2)
  .refine .inr ⟨h1.trans h2,?_⟩;rcases G with G|⟨G,i1⟩
   .rcases F with F|⟨F,_⟩
    .exact .inl (xJ _ _ _ G F)
    .exact .inl (by rw[<- F];exact G)
   .rcases F with F|⟨F,i2⟩
    .exact .inl (by rw[G];exact F)
    .exact .inr ⟨G.trans F,by omega⟩
theorem aGy(a b c:P3)(h1:oY a b=false)(h2:oY c b=true):oY c a=true:=by
 have t:a=b\/oY b a=true:=by
  have h1:¬ oY a b=true:=by rw[h1];exact Am
  rw[t4]at h1 ⊢;rcases aCh a.1 b.1 with z|z|z
  .exact absurd (.inl z) h1
  .rcases aCh a.2.1 b.2.1 with y|y|y
   .exact absurd (.inr ⟨z,.inl y⟩) h1
   .rcases Int.lt_trichotomy a.2.2 b.2.2 with x|x|x
    .exact absurd (.inr ⟨z,.inr ⟨y,x⟩⟩) h1
    .exact .inl (EJ z (EJ y x))
    .exact .inr (.inr ⟨z.symm,.inr ⟨y.symm,x⟩⟩)
   .exact .inr (.inr ⟨z.symm,.inl y⟩)
  .exact .inr (.inl z)
 rcases t with rfl|t
 .exact h2
 .exact aCi _ _ _ h2 t
def aDx(H:Hp)(v:Ac):P3:=match v with
 | .ref a=>match H a with
  | some (.tup [.str x,.str y,.int z])=>(x,y,z)
  | _=>("","",0)
 | _=>("","",0)
def aDy(H:Hp)(r:Af)(x:P3):Prop:=H r=some (.tup [.str x.1,.str x.2.1,.int x.2.2])
theorem aDz{out:List Ac}:∀{rs:List Af},out.Perm (rs.map AG)->∃ F:List Af,out=F.map AG/\F.Perm rs:=by
 intro rs h;generalize hm:rs.map AG=m at h
 induction h generalizing rs with
 | nil=>exact⟨[],rfl,by cases rs with|nil=>exact .refl _|cons _ _=>simp at hm⟩
 | cons x _ O=>
  cases rs with
  | nil=>simp at hm
  | cons a r=>
   rw[Aq]at hm;injection hm with h1 h2;obtain⟨r',e,p⟩:=O h2;exact⟨a::r',by rw[e,<- h1];rfl,p.cons a⟩
 | swap x y l=>
  cases rs with
  | nil=>simp at hm
  | cons a r=>
   cases r with
   | nil=>simp at hm
   | cons b r=>
    rw[Aq,Aq]at hm;injection hm with h1 h2;injection h2 with h2 h3;exact⟨b::a::r,by rw[<- h1,<- h2,<- h3];rfl,.swap _ _ _⟩
 | trans _ _ G J=>
  obtain⟨r2,e2,p2⟩:=J hm;obtain⟨r1,e1,p1⟩:=G e2.symm;exact⟨r1,e1,p1.trans p2⟩
theorem zZ{α β:Type}{R:α->β->Prop}{G as:List α}(h:G.Perm as):∀{bs:List β},BI R as bs->∃ F,F.Perm bs/\BI R G F:=by
 induction h with
 | nil=>intro bs p;exact⟨bs,.refl _,p⟩
 | cons x _ Y=>
  intro bs p;cases p with
  | cons r t=>
   obtain⟨b',p1,p2⟩:=Y t;exact⟨_::b',p1.cons _,.cons r p2⟩
 | swap x y l=>
  intro bs p;cases p with
  | cons r t=>
   cases t with
   | cons Z t=>exact⟨_,.swap _ _ _,.cons Z (.cons r t)⟩
 | trans _ _ O J=>
  intro bs p;obtain⟨b2,p2,q2⟩:=J p;obtain⟨b1,p1,q1⟩:=O q2;exact⟨b1,p1.trans p2,q1⟩
inductive jI(xs:List V)(H:Hp)(Q:VK):Prop
 | mk (p:Af) (rs:List Af) (T:List P3) (q0:xs=[.ref p]) (q1:H p=some (.lst (rs.map V.ref))) (q2:BI (aDy H) rs T) (q3:T.length<=60) (q4:∀(l:Af) (rs':List Af) (R:List P3),H l=none->R.Perm T->BI (aDy H) rs' R->Q (.ref l) (upd H l (.lst (rs'.map V.ref)))):jI xs H Q
def rN:List V->Hp->VK->Prop:=fun xs H Q=>jI xs H Q
theorem vH:fF X (.builtin "sorted") rN:=by
 intro im s σ H xs us Q I r h;obtain⟨p,rs,T,rfl,hx,hP,h6,q⟩:=h;obtain⟨u,rfl,ru⟩:=fG r;cases ru;obtain⟨its,rv,pl,_⟩:=I.list (aU hx);have aj:=hP.length;have ah:=rv.length;rw[Aa]at ah;refine DE Gz F6 F7 (Ho _) ?_;unfold Builtin.«sorted»;apply Ab (m:=checkCount "sorted" 1 1 _);apply Ag;refine Ab (Hm pl.isList ?_ (aP (by omega)));have hk:∀ b u,s.heap.get? b=some u->((s.heap.push (seqObj "list" #[] 0)).update s.heap.objs.size (Bg (·++its.toArray))).get? b=some u:=fun b u e=>by
  rw[BR _ _ _ _ (AI (Ax e))];exact Ak _ e
 have ad:s.heap.objs.size<((s.heap.push (seqObj "list" #[] 0)).update s.heap.objs.size (Bg (·++its.toArray))).objs.size:=by
  rw[CA,CV];exact DF _
 dsimp only;generalize (s.heap.push (seqObj "list" #[] 0)).update s.heap.objs.size (Bg (·++its.toArray))=h1 at hk ad ⊢
 have Z:its.length<=sizeLine:=aP (by omega);apply Ab;refine DV ?_ Z;have J:(h1.push (seqObj "list" its.toArray 0)).get? h1.objs.size=some (seqObj "list" its.toArray 0):=AH _ rfl;have ae:∀ b u,s.heap.get? b=some u->(h1.push (seqObj "list" its.toArray 0)).get? b=some u:=fun b u e=>Ak _ (hk b u e);have ab:its=rs.map AG:=rT rv;subst ab;have Y:∀ v∈rs.map AG,oZ s.heap v (aDx H v)/\aDx H v∈T:=fun v hv=>by
  obtain⟨r,hr,rfl⟩:=AL.mp hv;obtain⟨i,hi⟩:=Bq hr;obtain⟨hlt,_⟩:=Al.mp hi;have hp:=Paired.at hP hi (Ai (by omega:i<T.length));have e:aDx H (.ref r)=T[i]'(by omega):=by
   unfold aDx;dsimp only;rw[show H r=some (.tup [.str (T[i]'(by omega)).1,.str (T[i]'(by omega)).2.1,.int (T[i]'(by omega)).2.2]) from hp]
  rw[e];exact⟨aEH.real I ⟨_,rfl,hp⟩ rfl,Bk _⟩
 refine Ab (Bx (CJ slot_list_sort ⟨_,J,rfl⟩ entry_list_sort (qH (rk:=fun v=>T.countP fun z=>oY z (aDx H v)) J (fun v1 v2 cE e s' Q' ks q'=>?_) Z fun out hp _=>⟨_,rfl,?_⟩) (GF _)))
 .have G:∀ v∈rs.map AG,oZ s'.heap v (aDx H v):=fun v hv=>(Y v hv).1.keep fun b o eb _=>ks b o (AI (Ax (hk b o eb))) (ae b o eb);refine aJq (fun v hv=>⟨_,G v hv⟩) fun fb=>q' _ fun x y hx hy C hC=>?_;obtain⟨e1,m1⟩:=iQ hx;obtain⟨e2,m2⟩:=iQ hy;dsimp only at hC;rw[rZ aEW aCi aGy (Y _ m1).2]at hC;rw[e1,e2];exact ltP (G _ m1) (G _ m2) hC
 .refine Ag ⟨_,rfl,?_⟩;have F:s.heap.objs.size<=h1.objs.size:=BU ad;obtain⟨rs',rfl,pr⟩:=aDz hp;obtain⟨R,p1,p2⟩:=zZ pr hP;obtain⟨e,he⟩:=HV (vs:=rs.map AG) (out:=(rs'.map AG).toArray) J;refine⟨.ref h1.objs.size,_,I.laid (t':=s.toks) (o:=.lst (rs'.map V.ref)) (fun b u eb=>?_) F ⟨aP (by rw[Aa,pr.length_eq];omega),rs'.map AG,e,qE rs',by rw[he]<;>rfl⟩,rfl,q _ rs' R (I.hok.fresh F) p1 p2⟩;have O:=Ax (hk b u eb);rw[HM (AI O) (by rw[CV];exact CL O)];exact ae b u eb
theorem v6(hc:X.calm=true):fF X (.type "set") (fun xs H Q=>∃(p:Af) (ss:List Str),xs=[.ref p]/\SqL X.K H p (ss.map V.str)/\ss.length<=1000/\∀ a,H a=none->Q (.ref a) (upd H a (zJ X.prog X.w a ss))):=by
 intro im s σ H xs Y Q I r h;obtain⟨p,ss,rfl,hx,h1000,q⟩:=h;obtain⟨u,rfl,ru⟩:=fG r;cases ru;obtain⟨its,rv,pl,_⟩:=I.list hx;have hl:=rv.length;rw[Aa]at hl;refine zI (val:=fun i=>ss.getD i "") (I.ok.hd hc) pl.isList (fun i v hv=>aEG rv hv) (by rw[Aw,<- hl];show _<4096;omega) fun h' tk F O=>?_;have G:its.toArray.size=ss.length:=by rw[Aw,hl]
 rw[G]at F;have J:∀ b u,s.heap.get? b=some u->h'.get? b=some u:=fun b u e=>O b u (Ax e) e;have hn:H s.heap.objs.size=none:=I.hok.fresh (Aj _);refine⟨.ref s.heap.objs.size,_,I.laid (t':=tk) (o:=zJ X.prog X.w s.heap.objs.size ss) J (Aj _) ⟨F,?_,fun h1 h2 f g=>f.at g⟩,rfl,q _ hn⟩;obtain⟨o,_,_,_,e,_⟩:=F;exact⟨o,e⟩
theorem v7:fF X (.builtin "len") (fun xs H Q=>∃(p:Af) (ss:List Str),xs=[.ref p]/\H p=some (zJ X.prog X.w p ss)/\ss.length<=1000/\Q (.int ((hZ (fun i=>ss.getD i "") ss.length).length:Nat)) H):=by
 intro im s σ H xs J Q I r h;obtain⟨p,ss,rfl,hx,h1000,q⟩:=h;obtain⟨u,rfl,ru⟩:=fG r;cases ru;obtain⟨⟨o,es,ep,t,ho,hex,hd,_,_,_,hf,hn,_⟩,_,_⟩:cR X.prog X.w H s.heap p (zJ X.prog X.w p ss):=I.hok p _ hx;have G:=oW (fun i=>ss.getD i "") ss.length;have F:es.size=(hZ (fun i=>ss.getD i "") ss.length).length:=hn;exact call_len_set ho hex hd hf (by omega) ⟨.int _,H,I.tok _,⟨_,by rw[F]⟩,q⟩
theorem aJz{P:AE}{w:AW}{k:Key}{u:Ac}(h:(cA P w).is k u=true):cC (kV k) u:=by
 rcases c6 (show oJ k u=true from h)with⟨i,t,q,q2⟩|⟨x,t,q,q2⟩
 .rw[q,q2];exact⟨t,rfl⟩
 .rw[q,q2];exact⟨t,rfl⟩
theorem KV.at{ip:List (Key×V)}{vs:List (Key×Ac)}(r:KV ip vs):∀{i:Nat}{k:Key}{v:V},ip[i]?=some (k,v)->∃ u,vs[i]?=some (k,u)/\cC v u:=by
 unfold KV at r
 induction r with
 | nil=>intro i k v h;simp at h
 | @cons p q _ _ h t J=>
  intro i k v e;cases i with
  | zero=>
   have G:p=(k,v):=by simpa using e
   subst G;obtain⟨q1,q2⟩:=q;obtain⟨h1,h2⟩:=h;have F:k=q1:=h1;subst F;exact⟨q2,rfl,h2⟩
  | succ i=>exact J (by simpa using e)
section
variable{d:Af}{ip:List (Key×V)}
theorem Inv.freeze(I:Inv X im σ H s)(e:H d=some (.dK ip)):∃ od es ep,s.heap.get? d=some od/\od.ExactDict/\od.data=.dict es ep/\es.size=ip.length/\(d==sysModules)=false/\Inv X im σ (upd H d (.frz od (.dK ip))) s:=by
 obtain⟨hz,hm,vs,rel,od,es,ep,ho,hex,hd,r⟩:cR X.prog X.w H s.heap d (.dK ip):=I.hok d _ e;have F:es.size=ip.length:=by
  have h1:=r.2.1.length;have h2:=congrArg Ct (sC rel);rw[Aa,Aa]at h2;rw[<- AY,h1,h2]
 exact⟨od,es,ep,ho,hex,hd,F,hm,I.write (x:=d) (e:=d) (t':=s.toks) (by rw[e];exact Dy) (.inl rfl) (fun _ _ _ q=>q) ⟨od,ho⟩ ⟨ho,hz,hm,vs,rel,od,es,ep,ho,hex,hd,r⟩⟩
theorem Inv.fast{od:Obj}{es:Array Ic}{ep:Nat}(I:Inv X im σ H s)(e:H d=some (.frz od (.dK ip)))(hd:od.data=.dict es ep):s.heap.get? d=some od/\∃ vs,KV ip vs/\vs.length=ip.length/\s.heap.DictAt (cA X.prog X.w) d vs ep/\PySem.Pairs (cA X.prog X.w) es.toList vs:=by
 obtain⟨ho,hz,hm,vs,rel,od',es',ep',ho',hex,hd',r⟩:cR X.prog X.w H s.heap d (.frz od (.dK ip)):=I.hok d _ e;rw[ho]at ho';cases ho';rw[hd]at hd';cases hd';have h2:=congrArg Ct (sC rel);rw[Aa,Aa]at h2;exact⟨ho,vs,rel,h2.symm,⟨od,es,ho,hex,hd,r⟩,r.2.1⟩
end
def Iti(d:Af)(od:Obj)(ip:List (Key×V)):It:=
 ⟨fun i H=>H d=some (.frz od (.dK ip))/\i<ip.length,fun i H x H'=>∃ t k v,x=.ref t/\H t=none/\ip[i]?=some (k,v)/\H'=upd H t (.tup [kV k,v]),fun i H=>H d=some (.frz od (.dK ip))/\ip.length<=i⟩
theorem aBz{P:AE}{w:AW}{K:Ah}{xs:List Bi}{kk:Nat}{tp:Pos}(d it:Af)(od:Obj)(ip:List (Key×V)){es:Array Ic}{ep:Nat}(hd:od.data=.dict es ep):
  aC8 P w K (.Tuple xs kk tp) (Iti d od ip) [it] it (fun i h=>∃ ok G,IsItemIter h it d i ip.length ep ok G) where
 mem:=by simp
 obj:=fun i h st b J=>by
  have e:b=it:=by simpa using J
  subst e;obtain⟨_,_,st⟩:=st;exact⟨_,st,fun v z=>by
   have z':HR _=Data.cell v:=z;cases z'⟩
 keep:=fun i h h' st k=>by
  obtain⟨ok,G,st⟩:=st;exact⟨ok,G,k it (by simp) _ st⟩
 item:=by
  intro X hP hw hK hc i im s σ H E I hf st hg;subst hP hw hK;obtain⟨hH,hi⟩:=hg;obtain⟨f0,f1,f2,f3,f4,f5⟩:=hf it (by simp);obtain⟨ho,vs,rel,hvl,hat,hpr⟩:=I.fast hH hd;obtain⟨ok,G,st⟩:=st;obtain⟨⟨k,v⟩,hk⟩:∃ p,ip[i]?=some p:=⟨ip[i],by simp[hi]⟩
  obtain⟨u,hu,ru⟩:=KV.at rel hk;refine wpAny_pyNext_items_item (kvs:=vs) (by rw[hvl];exact st) hat hu fun key h' Z Y hT ao ae=>⟨_,rfl,?_⟩
  refine wpAny_letOwnedTupleGo_items Y fun F O sb=>?_;have nT:H s.heap.objs.size=none:=I.hok.fresh (Aj _);have nI:s.heap.objs.size≠it:=D9 (Ax st);have I1:Inv X im σ H { s with heap:=F,toks:=s.toks }:=I.turned (fun b o J e=>sb.extBut b o J (ae b o J e)) f0 f1 f3 f4 f5;have af:F.get? s.heap.objs.size=some { cls:=.type "tuple",data:=.seq #[key,u] }:=sb.extBut _ _ nI hT;have I2:Inv X im σ (upd H s.heap.objs.size (.tup [kV k,v])) { s with heap:=F,toks:=s.toks }:=
   I1.track (I.fpOk (Aj _) nT) ⟨aP (show 2<=1000000 by decide),[key,u],.cons (aJz Z) (.cons ru .nil),_,af,⟨rfl,_,rfl⟩,rfl⟩
  refine⟨.ref s.heap.objs.size,_,I2,rfl,⟨_,k,v,rfl,nT,hk,rfl⟩,⟨key,u,by rw[<- hvl];exact O⟩,fun c hc=>?_⟩;have e:c=it:=by simpa using hc
  rw[e,aG nI.symm];exact f0
 done:=by
  intro X hP hw hK hc i im s σ H E I hf st hg;subst hP hw hK;obtain⟨hH,hi⟩:=hg;obtain⟨f0,f1,f2,f3,f4,f5⟩:=hf it (by simp);obtain⟨ho,vs,rel,hvl,hat,hpr⟩:=I.fast hH hd;obtain⟨ok,G,st⟩:=st;exact wpAny_pyNext_items_end (I.ok.hd hc) (kvs:=vs) (by rw[hvl];exact st) hat (CZ (by omega)) fun h' eb=>⟨rfl,I.turned (t':=s.toks) (fun b o J e=>eb b o J e) f0 f1 f3 f4 f5⟩
 self:=fun _ i _ _ _ st h=>by
  obtain⟨ok,G,st⟩:=st;exact kcp_self st h
section
variable{tg:Bi}
def aIj(tl:TE):TI:=fun σ H R=>tl σ H fun x H1=>∃ d ip,x=.ref d/\H1 d=some (.dK ip)/\∀ od,R (Iti d od ip) (upd H1 d (.frz od (.dK ip)))
theorem z9{o:Bi}{td:TE}{jh jb:Pos}{xs:List Bi}{kk:Nat}{tp:Pos}(ho:PE X o td)(J:attributeBase o "items" X.env (eval o X.env)=eval o X.env:=by rfl)(G:(jh.endLine==jb.line)=true:=by rfl):
  PI X (.Tuple xs kk tp) (.Call (.Attribute o "items" jh) [] [] jb) (aIj td):=by
 constructor;intro im s σ H R I h;refine wpAny_Call_method0_late J G (thn (ho im s σ H _ I h) fun v s1 ⟨x,H1,Z,r1,d,ip,ex,hq,q1⟩=>?_);subst ex;obtain rfl:v=AG d:=r1;obtain⟨t1,t2,_⟩:=aBh Z (.inl ⟨ip,.inl hq⟩);obtain⟨zz,hds,vs,rel,dd⟩:=aBZ Z.hok hq;refine⟨"dict","dict.items",EZ,PySem.F.slot_dict_items,PySem.F.type_dict_items,t1,t2,Df rfl (PySem.evalArgs_none ?_)⟩;refine Hn PySem.F.slot_dict_items dd.typeIs PySem.F.entry_dict_items (PySem.F.args_dict_items_1 _) (meets_dict_items (cA X.prog X.w) d hds) ⟨⟨vs,dd⟩,?_⟩;obtain⟨od,es,ep,ho,hex,hd,hel,hm,I2⟩:=Z.freeze hq;have Y:Inv X im σ (upd H1 d (.frz od (.dK ip))) { s1 with heap:=s1.heap.push { cls:=.type "dict_items",data:=.fields #[.ref d] },toks:=s1.toks }:=I2.kept fun b o e=>Ak _ e;obtain⟨ho3,vs3,rel3,hvl3,hat3,hpr3⟩:=Y.fast aA hd;have O:Heap.IsItemsView (s1.heap.push { cls:=.type "dict_items",data:=.fields #[.ref d] }) s1.heap.objs.size d:=⟨_,AH _ rfl,rfl,rfl⟩
 refine wpAny_pyIter_items (s:={ s1 with heap:=s1.heap.push { cls:=.type "dict_items",data:=.fields #[.ref d] },toks:=s1.toks }) O hat3 ?_;refine⟨_,[(s1.heap.push { cls:=.type "dict_items",data:=.fields #[.ref d] }).objs.size],_,_,_,rfl,Y.kept (t':=s1.toks) fun b o e=>Ak _ e,aBz d _ od ip hd,⟨.none,.none,by rw[<- hvl3];exact AH _ rfl⟩,fun b hb=>?_,q1 od⟩;have e:b=(s1.heap.push { cls:=.type "dict_items",data:=.fields #[.ref d] }).objs.size:=by simpa using hb
 subst e;exact Y.fpOk (Aj _) (Y.hok.fresh (Aj _))
theorem t6{d:Af}{od:Obj}{ip:List (Key×V)}{g:TG}{Y:TT}{te:TE}{Z:St}{H₀:Hp}{Q:VK}(F:Nat->List V->St->Hp->Prop)(h0:F 0 [] Z H₀)(hn:ip.length<=sizeLine)(G:∀ i ys σ H,F i ys σ H->ys.length<=i)
  (hl:∀ i ys σ H,F i ys σ H->H d=some (.frz od (.dK ip)))
  (hs:∀ i k x t ys σ H,ip[i]?=some (k,x)->H t=none->F i ys σ H->g (.ref t) σ (upd H t (.tup [kV k,x])) fun J H2=>Y J H2 fun b O=>if b=true then te J O fun v H4=>F (i+1) (ys++[v]) J H4 else F (i+1) ys J O)
  (hd:∀ ys σ H,F ip.length ys σ H->∀ D,H D=none->Q (.ref D) (upd H D (.lst ys))):tK (Iti d od ip) g Y te Z H₀ Q:=
 rR ip.length F h0 hn G (fun i ys σ H h p=>⟨hl i ys σ H p,h⟩) (fun ys σ H p=>⟨hl _ ys σ H p,Aj _⟩) (fun i ys σ H v H' hi p y=>by
  obtain⟨t,k,x,e,ht,hk,e2⟩:=y;subst e e2;exact hs i k x t ys σ _ hk ht p) hd
end
inductive aHr(h:Bl)(v:Ac)(z:Str):Prop
 | mk (t:_) (u:_) (a:_) (b:_) (q0:v=.ref t) (q1:Fh h t #[.str z u,a,b]):aHr h v z
def NmT(h:Bl)(v:Ac)(z:Str):Prop:=aHr h v z
theorem ltN{J:Bool}{Y G:Ac}{x y:Str}{C:Bool->Ae->Prop}(F:NmT s.heap Y x)(O:NmT s.heap G y)(hs:x=y->Y=G)(h:C (ltS x y) s):wpAny (model prog w) A (keyLt' (tuples' J) Y G) C E s:=by
 unfold ltS at h;obtain⟨p1,t1,a1,b1,rfl,F⟩:=F;by_cases e:x=y
 .subst e;have Z:=hs rfl;subst Z;rw[beq_self_eq_true,Iq rfl]at h;show wpAny _ _ (Ci (.ref p1) >>= _) _ _ _
  iterate 2 refine Ab (dN F ?_)
  dsimp only[EK,Ee,E3];rw[FC];refine Ab ?_;rw[Cf];refine Ab (Ab (EX _ prog w _ _ ?_));refine AX (by decide) (Ag ?_);dsimp only;rw[Cf];refine Ab (Ab (EX _ prog w _ _ ?_));refine AX (by decide) (Ag ?_);dsimp only;rw[Cf];refine Ab (Ab (EX _ prog w _ _ ?_));refine AX (by decide) (Ag ?_);dsimp only;rw[F4];exact Ag (Ag h)
 .obtain⟨p2,u1,a2,b2,rfl,O⟩:=O;have hz:(x==y)=false:=by simpa using e
  rw[hz]at h;show wpAny _ _ (Ci (.ref p1) >>= _) _ _ _;refine Ab (dN F ?_);refine Ab (dN O ?_);dsimp only[EK,Ee,E3];rw[FC];refine Ab ?_;rw[Cf];refine Ab (Ab (Em _ _ _ _ prog w _ _ ?_));rw[hz];refine B7 (by decide) ?_;refine Ab ?_;show wpAny _ _ (oneLt' (J&&0==0) (Bz x t1) (Bz y u1)) _ _ _;cases J
  .exact xE (Ag (Ag (Ag h)))
  .exact oneLt_str (Ag (Ag (Ag h)))
theorem aJA{ks:List Ac}{Q:Cn->Ae->Prop}(Z:∀ v∈ks,∃ z,NmT s.heap v z)(h:∀ b,Q (tuples' b) s):wpAny (model prog w) A (keyKind' ks.toArray) Q E s:=by
 rw[keyKind'_eq,Cu];refine Ab ?_;rw[<- bind_pure_comp];refine Ab (iX (R:=fun _ r=>∃ a u,r=some (Bz a u)) ks (fun v hv=>?_) fun rs hl F=>Ag ?_)
 .obtain⟨z,t,u,a,b,rfl,ht⟩:=Z v hv;refine⟨some (.str z u),⟨z,u,rfl⟩,fun Q' q=>?_⟩;rw[Ie];refine Ab (Cv ht.typeIs ?_);refine AX (by decide) ?_;refine Ab (dN ht ?_);exact Ag q
 .have G:(rs.toArray.all fun x=>x.isSome)=true:=by
   rw[He,A7];intro r Y;obtain⟨v,_,a,u,rfl⟩:=F r Y;rfl
  refine B7 (by rw[G];rfl) ?_;refine Ab (Ck ?_);rw[oneTypeOnly'_eq,Cu]
  iterate 2 refine Ab ?_
  rw[<- bind_pure_comp];refine Ab (iX (R:=fun _ r=>r=Bt "str") _ (fun v hv=>?_) fun ts aa ad=>Ag ?_)
  .have J:some v∈rs:=by simpa using hv
   obtain⟨_,_,a,u,e⟩:=F _ J;cases e;exact⟨_,rfl,fun Q' q=>Cv (Hf s a u) q⟩
  .cases O:ts.toArray[0]? with
   | none=>exact Ag (Ag (h _))
   | some t=>exact Ag (Ag (h _))
inductive aHs(H:Hp)(r:Af)(z:Str):Prop
 | mk (a:_) (b:_) (q0:H r=some (.tup [.str z,a,b])):aHs H r z
def NmH(H:Hp)(r:Af)(z:Str):Prop:=aHs H r z
mutual
def ltD:Bc->Bc->Bool
 | .str x,.str y=>decide (x.cps.toList<y.cps.toList)
 | .int i,.int j=>decide (i<j)
 | .tuple xs,.tuple ys=>ltL xs ys
 | _,_=>false
def ltL:List Bc->List Bc->Bool
 | [],[]=>false
 | [],_::_=>true
 | _::_,[]=>false
 | x::xs,y::ys=>if PyData.eqv x y=true then ltL xs ys else ltD x y
end
mutual
def okD:Bc->Bc->Bool
 | .str _,.str _=>true
 | .int _,.int _=>true
 | .tuple xs,.tuple ys=>okL xs ys
 | _,_=>false
def okL:List Bc->List Bc->Bool
 | x::xs,y::ys=>if PyData.eqv x y=true then okL xs ys else okD x y
 | _,_=>true
end
mutual
def plD:Bc->Bool
 | .str _=>true
 | .int _=>true
 | .tuple xs=>plL xs
 | _=>false
def plL:List Bc->Bool
 | []=>true
 | x::xs=>plD x&&plL xs
end
structure aKR(d:Bc):Prop where
 fm:∃ k xs,d=.tuple (.str k::xs)
 pl:plD d=true
 ly:d.canLay0=true
 dp:d.depth<=6
inductive aHt(h:Bl)(v:Ac)(d:Bc):Prop
 | mk (as:_) (q0:Reads h v d as):aHt h v d
def RdT(h:Bl)(v:Ac)(d:Bc):Prop:=aHt h v d
inductive aHu(h:Bl)(v:Ac):Prop
 | mk (t:_) (z:_) (u:_) (cE:_) (q0:v=.ref t) (q1:Fh h t (Bz z u::cE).toArray):aHu h v
def FsT(h:Bl)(v:Ac):Prop:=aHu h v
inductive pF(K:Ah)(x:V)(y:V)(H:Hp)(Q:VK):Prop
 | mk (p:_) (q:_) (xs:_) (q0:x=.ref p) (q1:y=.ref q) (q2:SqL K H p xs) (q3:SqL K H q []) (q4:Q (.bl (decide (0<xs.length))) H):pF K x y H Q
def aBA(K:Ah):V->V->Hp->VK->Prop:=fun x y H Q=>pF K x y H Q
theorem aEX(hu:X.A.units<cLine):OpR X (compareOp .NotEq) (aBA X.K):=by
 intro im s σ H x y v u Q I G F h;obtain⟨p,q,xs,rfl,rfl,h1,h2,hq⟩:=h;cases xs with
 | nil=>exact aEw hu im s σ H _ _ v u Q I G F ⟨p,q,[],[],rfl,rfl,h1,h2,rfl,rfl,hq⟩
 | cons z r=>
  cases G;cases F;obtain⟨us,r1,p1,_⟩:=I.list h1;obtain⟨ws,r2,p2,_⟩:=I.list h2;have J:=r1.length;have O:=r2.length;refine SeqAt.RcNeAt.lists_lengths p1.isList p2.isList (by simp at J O ⊢;omega) hu X.prog X.w _ _ ?_;rw[Ir (show 0<(z::r).length by simp)]at hq;exact⟨.bl _,H,I,rfl,hq⟩
def ltI(x y:Int×Int):Bool:=if x.1==y.1 then decide (x.2<y.2) else decide (x.1<y.1)
theorem pG(x y:Int×Int):ltI x y=true↔x.1<y.1\/(x.1=y.1/\x.2<y.2):=by
 unfold ltI;by_cases e:x.1=y.1
 .rw[beq_iff_eq.mpr e,Iq rfl,decide_eq_true_iff];constructor
  .intro h;exact .inr ⟨e,h⟩
  .intro h;rcases h with h|h
   .omega
   .exact h.2
 .rw[beq_eq_false_iff_ne.mpr e,Ip Am,decide_eq_true_iff];constructor
  .intro h;exact .inl h
  .intro h;rcases h with h|h
   .exact h
   .exact absurd h.1 e
theorem aCj(a:Int×Int):ltI a a=false:=by
 rw[E7];intro h;rw[pG]at h;omega
theorem aEY(a b c:Int×Int)(h1:ltI a b=true)(h2:ltI b c=true):ltI a c=true:=by
 rw[pG]at *;omega
theorem aEZ(a b c:Int×Int)(h1:ltI a b=false)(h2:ltI c b=true):ltI c a=true:=by
 have h1:¬ ltI a b=true:=by rw[h1];exact Am
 rw[pG]at *;omega
inductive aCk(h:Bl)(v:Ac)(d:Int×Int):Prop
 | mk (t:_) (u1:_) (u2:_) (q0:v=.ref t) (q1:Fh h t #[.int d.1 u1,.int d.2 u2]):aCk h v d
def qZ(h:Bl)(v:Ac)(d:Int×Int):Prop:=aCk h v d
theorem qZ.any{h:Bl}{v:Ac}{d:Int×Int}(k:qZ h v d):aHq h v:=by
 obtain⟨t,u1,u2,e,ht⟩:=k;exact⟨t,d.1,d.2,u1,u2,e,ht⟩
theorem aKm{F:Bool}{v1 Z:Ac}{x y:Int×Int}{C:Bool->Ae->Prop}(G:qZ s.heap v1 x)(J:qZ s.heap Z y)(h:C (ltI x y) s):
  wpAny (model prog w) A (keyLt' (tuples' F) v1 Z) C E s:=by
 obtain⟨a1,b1⟩:=x;obtain⟨a2,b2⟩:=y;obtain⟨p1,t1,t2,rfl,G⟩:=G;obtain⟨p2,u1,u2,rfl,J⟩:=J;dsimp only at G J;unfold ltI at h;dsimp only at h;show wpAny _ _ (Ci (.ref p1) >>= _) _ _ _;refine Ab (dN G ?_);refine Ab (dN J ?_);dsimp only[EK,Ee,E3];rw[FC];have Y:∀{Q:Bool->Ae->Prop} {a b:Int} {t u:Tok},Q (a==b) s->wpAny (model prog w) A (eqBool (.int a t) (.int b u)) Q E s:=fun{Q a b t u} q=>FK a t b u prog w _ _ q;refine Ab ?_;rw[Cf];refine Ab (Ab (Y ?_));cases hz:(a1==a2)with
 | false=>
  rw[hz,Ip Am]at h;refine B7 (by decide) ?_;refine Ab ?_;show wpAny _ _ (oneLt' (F&&0==0) (BS a1 t1) (BS a2 u1)) _ _ _;cases F
  .exact xD (Ag (Ag (Ag h)))
  .exact oneLt_int (Ag (Ag (Ag h)))
 | true=>
  rw[hz,Iq rfl]at h;refine AX (by decide) (Ag ?_);dsimp only;rw[Cf];refine Ab (Ab (Y ?_));cases O:(b1==b2)with
  | false=>
   refine B7 (by decide) ?_;refine Ab ?_;have ez:(F&&((0+1:Nat)==0))=false:=by cases F<;>rfl
   show wpAny _ _ (oneLt' (F&&(0+1==0)) (BS b1 t2) (BS b2 u2)) _ _ _;rw[ez];exact xD (Ag (Ag (Ag h)))
  | true=>
   rw[Is (by rw[beq_iff_eq.mp O];omega)]at h;refine AX (by decide) (Ag ?_);dsimp only;rw[F4];exact Ag (Ag h)
theorem aJB{a kS:Af}{ks its:List Ac}{e e1:Nat}{P:HA->Ae->Prop}(ha:s.heap.get? a=some (seqObj "list" #[] e1))(hk:s.heap.get? kS=some (seqObj "list" ks.toArray e))(ab:a≠kS)(hl:ks.length=its.length)(Y:its.length<=sizeLine){kf:Ac->Int×Int}(hK:∀ k v,(k,v)∈ks.zip its->qZ s.heap k (kf v))
  (h:∀ out:List Ac,out.Perm its->(out.Pairwise fun a b=>ltI (kf b) (kf a)=false)->P (Fin.done (HQ DK)) { s with heap:=(s.heap.update kS (Bg fun _=>#[])).update a (Bg fun _=>out.toArray) }):wpAny (model prog w) A (ksk_end a false its.toArray e1 (.ref kS) ks.toArray) P E s:=by
 have F:(ks.toArray.zip its.toArray).size=its.length:=by simp[hl]
 have fin:∀ st:Bn,(arrOf st).Perm (ks.toArray.zip its.toArray)->((arrOf st).toList.Pairwise fun x y=>ltI (kf y.2) (kf x.2)=false)->failedOf st=none->wpAny (model prog w) A (ksk_tail a false e1 (.ref kS) st) P E s:=fun st J hu hf=>by
  refine aJl ha hk ab (by rw[Aw,hl];exact Y) (by rw[J.size_eq,F];exact Y) hf ?_;have ad:((arrOf st).map (·.2)).toList.Perm its:=by
   rw[Fi];have:=(Bb.mp J).map (·.2)
   have e2:(ks.toArray.zip its.toArray).toList.map (·.2)=its:=by
    rw[Array.toList_zip];exact List.map_snd_zip (by simp[hl])
   rw[e2]at this;exact this
  have:=h _ ad (by rw[Fi];exact FH _ (fun _ _ h=>h) hu);rw[Array.toArray_toList]at this;exact this
 unfold ksk_end;dsimp only;by_cases h2:its.length<2
 .have G:its.toArray.size<2:=by simpa using h2
  rw[Ip Am,Iq G];refine Ab (Ag ?_);rw[Iq G,Ip Am];refine Ab (Ag ?_);refine fin _ (DC _) ?_ rfl;show(ks.toArray.zip its.toArray).toList.Pairwise _;exact zU (by rw[AY,F];exact h2)
 .have G:¬ its.toArray.size<2:=by simpa using h2
  rw[Ip Am,Ip G];have Z:∀ z:A0,z∈(ks.toArray.zip its.toArray).toList->qZ s.heap z.1 (kf z.2):=fun z hz=>by
   rw[Array.toList_zip]at hz;obtain⟨p,q⟩:=z;exact hK p q hz
  refine Ab (aIg (fun v hv=>?_) fun b=>?_)
  .obtain⟨i,hi,rfl⟩:=Bp.mp hv;exact(hK _ (its[i]'(by omega)) (by rw[Bp];exact⟨i,by rw[List.length_zip];omega,by rw[Hd]⟩)).any
  rw[Ip G,Ip Am];have hR:∀ x y:A0,x∈(ks.toArray.zip its.toArray).toList->decide ((ks.toArray.zip its.toArray).toList.countP (fun z=>ltI (kf z.2) (kf x.2))<(ks.toArray.zip its.toArray).toList.countP (fun z=>ltI (kf z.2) (kf y.2)))=ltI (kf x.2) (kf y.2):=fun x y O=>
   rZ (lt:=fun x y:A0=>ltI (kf x.2) (kf y.2)) (fun _=>aCj _) (fun _ _ _=>aEY _ _ _) (fun _ _ _=>aEZ _ _ _) O
  refine Ab (aCe (rk:=fun x:A0=>(ks.toArray.zip its.toArray).toList.countP fun z=>ltI (kf z.2) (kf x.2)) (fun x y O hy C hC=>?_) fun st J hu hf=>fin st J ?_ hf)
  .dsimp only at hC;rw[hR x y O]at hC;exact aKm (Z x O) (Z y hy) hC
  .refine List.Pairwise.imp_of_mem (fun{x y} O hy h=>?_) hu;rw[<- hR y x ((Bb.mp J).mem_iff.mp hy)];exact Is (Hz.mpr h)
theorem aCl{z:V}:∀{xs:List V}{F:List Ac},bU xs F->z∈xs->∃ v∈F,cC z v
 | _,_,.nil,h=>by simp at h
 | _,_,.cons r t,h=>by
  rcases An.mp h with rfl|h
  .exact⟨_,Ap,r⟩
  .obtain⟨v,hv,hr⟩:=aCl t h;exact⟨v,Ao _ hv,hr⟩
theorem t7{kf:V->Int×Int}{gf:Ac->V}:∀{ys:List V}{out:List Ac},bU ys out->(∀ y∈ys,∀ v,cC y v->gf v=y)->(out.Pairwise fun a b=>ltI (kf (gf b)) (kf (gf a))=false)->ys.Pairwise fun a b=>ltI (kf b) (kf a)=false
 | _,_,.nil,_,_=>B6
 | _,_,.cons Y J,F,G=>by
  obtain⟨p1,p2⟩:=Cz.mp G;refine Cz.mpr ⟨fun z hz=>?_,t7 J (fun y O=>F y (Ao _ O)) p2⟩;obtain⟨v,hv,hr⟩:=aCl J hz;have:=p1 v hv;rw[F _ Ap _ Y,F z (Ao _ hz) _ hr]at this;exact this
theorem aCm{α β:Type}{R:α->β->Prop}{a:α}{b:β}(r:R a b):∀{as:List α}{bs:List β},BI R as bs->BI R (as++[a]) (bs++[b])
 | _,_,.nil=>.cons r .nil
 | _,_,.cons q t=>.cons q (aCm r t)
inductive aCn(H:Hp)(v:Ac)(d:Int×Int):Prop
 | mk (t:_) (q0:v=.ref t) (q1:H t=some (.tup [.int d.1,.int d.2])):aCn H v d
def t8(H:Hp)(v:Ac)(d:Int×Int):Prop:=aCn H v d
theorem t8.same{H H':Hp}{v:Ac}{d:Int×Int}(h:t8 H v d)(s:b8 H H'):t8 H' v d:=by
 obtain⟨t,e,ht⟩:=h;exact⟨t,e,s _ _ ht⟩
theorem t8.real{H:Hp}{s:Ae}{v:Ac}{d:Int×Int}(I:Inv X im σ H s)(h:t8 H v d):qZ s.heap v d:=by
 obtain⟨t,rfl,ht⟩:=h;obtain⟨_,its,F,hT⟩:cR X.prog X.w H s.heap t (.tup [.int d.1,.int d.2]):=I.hok _ _ ht;cases F with
 | cons J F=>
  cases F with
  | cons G F=>
   cases F;obtain⟨u1,e1⟩:=J;obtain⟨u2,e2⟩:=G;subst e1 e2;exact⟨t,u1,u2,rfl,hT⟩
theorem aDA{f:Af}{A':AV}{E:Ac->Ae->Prop}
  {D kS:Af} {H0:Hp} {e1:Nat} {xs:List V} {kf:V->Int×Int} (fD:∀ H',H' D=none->lH X im H' D) (fK:∀ H',H' kS=none->lH X im H' kS) (aq:D≠kS)
  (af:∀ y∈xs,∀(v:Ac) (aa:List (Af×Obj)) (H':Hp) (s':Ae),cC y v->Inv X aa σ H' s'->b8 H0 H'->codeAny (model X.prog X.w) A' (.call (.ref f) ⟨[v],[]⟩) (CR CX0 X.stack X.prog X.w H' s' (fun u G=>∃ t,u=.ref t/\G t=some (.tup [.int (kf y).1,.int (kf y).2])/\b8 H' G) E0) s') {er:Ac->Ac->Sem (ForInStep PUnit)} {Q:Ae->Prop}
  {J:Ac->PUnit->Sem (ForInStep PUnit)} (Y:∀ v u,J v u=(do
   let r <- (call (.ref f) [v]).attempt
   match r with
   | Ib k=>do
    EA (.ref kS) fun x=>x.push k
    pure (CG HZ)
   | Except.error e=>er v e)):
  ∀(cE:List Ac) (xr:List V) (s:Ae) (H:Hp) (ks:List Ac) (xd:List V) (e:Nat),bU xr cE->(∀ y∈xr,y∈xs)->Inv X im σ H s->b8 H0 H->H D=none->H kS=none->s.heap.get? D=some (seqObj "list" #[] e1)->s.heap.get? kS=some (seqObj "list" ks.toArray e)->BI (fun k y=>t8 H k (kf y)) ks xd->ks.length+cE.length<=sizeLine->
   (∀(s':Ae) (H':Hp) (O:List Ac) (e':Nat),Inv X im σ H' s'->b8 H0 H'->H' D=none->H' kS=none->s'.heap.get? D=some (seqObj "list" #[] e1)->s'.heap.get? kS=some (seqObj "list" O.toArray e')->BI (fun k y=>t8 H' k (kf y)) O (xd++xr)->O.length=ks.length+cE.length->Q s')->
   wpAny (model X.prog X.w) A' (forIn cE HZ J) (fun _ s'=>Q s') E s:=by
 intro cE
 induction cE with
 | nil=>
  intro xr s H ks xd e r F I S hD hK gD gK hk ag q;rw[F4];cases r;exact Ag (q s H ks e I S hD hK gD gK (by rw[A6];exact hk) rfl)
 | cons v cE ih=>
  intro xr s H ks xd e r F I S hD hK gD gK hk ag q;rw[AR]at ag;cases r with
  | @cons y _ ak _ r1 r2=>
  rw[Cf,Y];refine Ab (Ab (HU ?_));have I3:Inv X ((D,seqObj "list" #[] e1)::(kS,seqObj "list" ks.toArray e)::im) σ H s:=I.pins_of fun p Z=>by
   rcases An.mp Z with z|Z
   .subst z;exact⟨gD,hD,(fD H hD).2.1,(fD H hD).2.2.1,fun v z=>by cases z⟩
   .rcases An.mp Z with z|Z
    .subst z;exact⟨gK,hK,(fK H hK).2.1,(fK H hK).2.2.1,fun v z=>by cases z⟩
    .exact I.pin p (AS _ Z)
  refine F5 (Eh (af y (F y Ap) v _ H s r1 I3 S) fun r s' hq=>?_);cases r with
  | error e=>exact B9 hq
  | ok fl=>
   cases fl with
   | next=>exact B9 hq
   | brk=>exact B9 hq
   | cont=>exact B9 hq
   | ret u=>
    obtain⟨vv,H',I',r',t,rfl,ht,S'⟩:=I3.after hq;cases r';obtain⟨gD',hD',_⟩:=I'.pin (D,seqObj "list" #[] e1) (AS _ Ap);obtain⟨gK',hK',_⟩:=I'.pin (kS,seqObj "list" ks.toArray e) (AS _ (Ao _ Ap));have I4:Inv X im σ H' s':=I'.pins_of fun p Z=>I'.pin p (AS _ (Ao _ (Ao _ Z)));refine Ab (Dw gK' rfl ?_ (by rw[Aw];omega) (by rw[Array.size_push,Aw];omega));refine Ag ?_;have ah:=get?_update_seq gK' (fun x=>x.push (.ref t));have ep:(ks.toArray.push (.ref t))=(ks++[AG t]).toArray:=by simp
    rw[ep]at ah;have I5:Inv X im σ H' { s' with heap:=s'.heap.update kS (Bg fun x=>x.push (.ref t)) }:=I4.turnedL (t':=s'.toks) (fp:=[kS]) (fun b o hb e=>by
     rw[BR _ _ _ _ (fun z=>hb (by simp[z]))];exact e) fun b hb=>by
      rw[AK.mp hb];exact fK H' hK'
    refine ih ak _ H' (ks++[AG t]) (xd++[y]) _ r2 (fun y hy=>F y (Ao _ hy)) I5 (S.trans S') hD' hK' ?_ ah (aCm ⟨t,rfl,ht⟩ (Paired.mapP hk fun k z h=>h.same S')) (by rw[Av,B5];omega) fun au G ad am a1 a2 a3 a4 a5 a6 a7 a8=>?_
    .show(s'.heap.update kS _).get? D=_;rw[BR _ _ _ _ aq];exact gD'
    .exact q au G ad am a1 a2 a3 a4 a5 a6 (by rw[AF]at a7;exact a7) (by rw[a8,Av,B5,AR];omega)
theorem aE0{f l:Af}{xs:List V}{kf:V->Int×Int}{gf:Ac->V}{Q:VK}{E:Ac->Ae->Prop}
  (I:Inv X im σ H s) (hl:SqL X.K H l xs) (bo:xs.length<=sizeLine) (hg:∀ y v,y∈xs->cC y v->gf v=y)
  (am:∀ y∈xs,∀(v:Ac) (ah:List (Af×Obj)) (H':Hp) (s':Ae),cC y v->Inv X ah σ H' s'->b8 H H'->codeAny (model X.prog X.w) X.A.in1.in1 (.call (.ref f) ⟨[v],[]⟩) (CR CX0 X.stack X.prog X.w H' s' (fun u aj=>∃ t,u=.ref t/\aj t=some (.tup [.int (kf y).1,.int (kf y).2])/\b8 H' aj) E0) s')
  (q:∀ D ys H',b8 H H'->H D=none->ys.Perm xs->(ys.Pairwise fun a b=>ltI (kf b) (kf a)=false)->H' D=some (.lst ys)->Q (.ref D) H'):
  wpAny (model X.prog X.w) X.A (call (.builtin "sorted") [.ref l] [(Bv "key",.ref f)]) (EP X im σ Q) E s:=by
 obtain⟨its,rv,pl,_⟩:=I.list hl;have be:=rv.length;have zz:its.length<=sizeLine:=by omega
 refine call_function_entry_kw Gz F6 F7 (ksk_s1 _ _) ?_;refine Ab (Ag ?_);refine Ab (Hm pl.isList ?_ zz);refine Ab (DV ?_ zz);have F:((s.heap.push (seqObj "list" #[] 0)).update s.heap.objs.size (Bg fun x=>x++its.toArray)).objs.size=s.heap.objs.size+1:=by
  rw[CA,Hg]
 generalize az:(s.heap.push (seqObj "list" #[] 0)).update s.heap.objs.size (Bg fun x=>x++its.toArray)=h1 at F ⊢;have ak:∀ b o,s.heap.get? b=some o->h1.get? b=some o:=fun b o e=>by
  rw[<- az,BR _ _ _ _ (AI (Ax e))];exact Ak _ e
 dsimp only;obtain⟨D,hD⟩:∃ D,D=h1.objs.size:=⟨_,rfl⟩
 have G:(h1.push (seqObj "list" its.toArray 0)).get? D=some (seqObj "list" its.toArray 0):=by
  rw[hD];exact AH _ rfl
 have ab:∀ b o,s.heap.get? b=some o->(h1.push (seqObj "list" its.toArray 0)).get? b=some o:=fun b o e=>Ak _ (ak b o e);have aa:(h1.push (seqObj "list" its.toArray 0)).objs.size=s.heap.objs.size+2:=by rw[Hg,F]
 change wpAny _ _ (do let _ <- holding [AG h1.objs.size] (call (.builtin "list.sort") [AG h1.objs.size] [(Bv "key",.ref f)]);ret (AG h1.objs.size)) _ _ { s with heap:=h1.push (seqObj "list" its.toArray 0) };rw[<- hD];generalize h1.push (seqObj "list" its.toArray 0)=h2 at G ab aa ⊢;have af:D=s.heap.objs.size+1:=by rw[hD,F]
 refine Ab (Bx (wpAny_call_entry_kw slot_list_sort ⟨_,G,rfl⟩ entry_list_sort ?_ (ksk_l1 _ _)));rw[ksk_t1];unfold ksk_tree;refine Ab (Hl G rfl ?_);refine Ab (Dw G rfl ?_ (by rw[Aw];exact zz) (A8 _));have J:=get?_update_seq G (fun _=>#[]);generalize (if ((#[]:Array Ac).size==its.toArray.size)=true then 0 else 0+1)=e1 at J;have O:∀ b o,s.heap.get? b=some o->(h2.update D (Bg fun _=>#[])).get? b=some o:=fun b o e=>by
  rw[BR _ _ _ _ (AI (by rw[af];exact CL (Ax e)))];exact ab b o e
 have Z:(h2.update D (Bg fun _=>#[])).objs.size=s.heap.objs.size+2:=by rw[CA,aa]
 dsimp only;generalize h2.update D (Bg fun _=>#[])=h3 at J O Z ⊢;refine Ab (Gy J rfl ?_);refine Ab (wpAny_newTuple ?_ (by simpa using zz));refine Ab (DV ?_ (A8 _));dsimp only;refine Bx ?_;obtain⟨kS,hkS⟩:∃ kS,kS=(h3.push { cls:=Bt "tuple",data:=EO its.toArray.toList.toArray }).objs.size:=⟨_,rfl⟩
 have al:((h3.push { cls:=Bt "tuple",data:=EO its.toArray.toList.toArray }).push { cls:=Bt "list",data:=EO ([]:List Ac).toArray }).get? kS=some (seqObj "list" ([]:List Ac).toArray 0):=by
  rw[hkS];exact AH _ rfl
 have ar:((h3.push { cls:=Bt "tuple",data:=EO its.toArray.toList.toArray }).push { cls:=Bt "list",data:=EO ([]:List Ac).toArray }).get? D=some (seqObj "list" #[] e1):=Ak _ (Ak _ J);have ad:∀ b o,s.heap.get? b=some o->((h3.push { cls:=Bt "tuple",data:=EO its.toArray.toList.toArray }).push { cls:=Bt "list",data:=EO ([]:List Ac).toArray }).get? b=some o:=fun b o e=>Ak _ (Ak _ (O b o e));have Y:kS=s.heap.objs.size+3:=by rw[hkS,CV,Z]
 rw[<- hkS];generalize (h3.push { cls:=Bt "tuple",data:=EO its.toArray.toList.toArray }).push { cls:=Bt "list",data:=EO ([]:List Ac).toArray }=h4 at al ar ad ⊢;have ag:D≠kS:=AI (by rw[af,Y];omega);have I4:Inv X im σ H { s with heap:=h4 }:=I.kept (t':=s.toks) ad;have lD:s.heap.objs.size<=D:=by rw[af];exact Dg _
 have lK:s.heap.objs.size<=kS:=by rw[Y];exact Nat.le_add_right _ _
 have nD:H D=none:=I.hok.fresh lD;have nK:H kS=none:=I.hok.fresh lK;have fD:∀ H',H' D=none->lH X im H' D:=fun H' hn=>I.fpOk lD hn;have fK:∀ H',H' kS=none->lH X im H' kS:=fun H' hn=>I.fpOk lK hn;unfold ksk_rest;refine Ab (Ck ?_);refine Ab ?_;rw[<- Array.forIn_toList];refine aDA (X:=X) (kf:=kf) (im:=im) (σ:=σ) (f:=f) (A':=X.A.in1.in1) (D:=D) (kS:=kS) (H0:=H) (e1:=e1) (xs:=xs) fD fK ag am (er:=fun v e=>do
     rule "list.sort.key-raised"
     let made <- Ci (.ref kS)
     EA (.ref kS) fun x=>#[]
     letGo made.toList.reverse [e]
     EA (AG D) fun x=>its.toArray
     throw e
     pure (CG HZ)) (fun v u=>by congr 1) its xs _ H [] [] 0 rv (fun y hy=>hy) I4 (b8.refl H) nD nK ar al .nil (by simp;omega) ?_
 intro s' H' ks e' I' S ae ax an au aI a0;refine Ab (Hl au rfl ?_);have ap:∀ k v,(k,v)∈ks.zip its->qZ s'.heap k (kf (gf v)):=fun k v hm=>by
  obtain⟨i,hi,e⟩:=Bp.mp hm;rw[Hd]at e;injection e with e1 e2;rw[List.length_zip]at hi;have av:i<xs.length:=by omega
  have hy:=Paired.at rv (Ai av) (Ai (by omega:i<its.length));have aT:=Paired.at aI (Ai (by omega:i<ks.length)) (by rw[FG];exact Ai av);rw[<- e2,hg _ _ (Bk _) hy,<- e1];exact aT.real I'
 refine aJB an au ag (by simpa using a0) (by omega) ap fun out hp ay=>?_;refine⟨_,rfl,Ag ⟨_,rfl,?_⟩⟩;obtain⟨ys,hys,rys⟩:=v3 hp rv;have I6:Inv X im σ H' { s' with heap:=(s'.heap.update kS (Bg fun _=>#[])).update D (Bg fun _=>out.toArray) }:=I'.turnedL (t':=s'.toks) (fp:=[kS,D]) (fun b o hb e=>by
  rw[BR _ _ _ _ (fun z=>hb (by simp[z])),BR _ _ _ _ (fun z=>hb (by simp[z]))];exact e) fun b hb=>by
   simp only[An,AC,or_false]at hb;rcases hb with rfl|rfl
   .exact fK H' ax
   .exact fD H' ae
 have aC:((s'.heap.update kS (Bg fun _=>#[])).update D (Bg fun _=>out.toArray)).get? D=_:=get?_update_seq (c:="list") (xs:=#[]) (n:=e1) (by
  rw[BR _ _ _ _ ag];exact an) fun _=>out.toArray
 have bb:ys.length<=sizeLine:=by rw[hys.length_eq];omega
 have ba:ys.Pairwise fun a b=>ltI (kf b) (kf a)=false:=t7 rys (fun y hy v=>hg y v (hys.mem_iff.mp hy)) ay;exact⟨.ref D,_,I6.track (ob:=.lst ys) (fD H' ae) ⟨bb,out,_,rys,aC⟩,rfl,q D ys _ (S.trans (aJ ae)) nD hys ba aA⟩
section
variable{ta:TA}
def aKn(X:Cx)(T:Af)(vI:Pos)(fs:List Str)(te:TE)(ta:TA):TE:=fun σ H Q=>ta σ H fun vs H1=>∃ l xs zs,∃(kf:V->Int×Int) (gf:Ac->V),vs=[V.ref l]/\(∀ y v,y∈xs->cC y v->gf v=y)/\SqL X.K H1 l xs/\xs.length<=sizeLine/\aHp X σ fs zs/\lF T vI (X.env.qual++"<lambda>") H1/\
 (∀ y∈xs,∀ H',eY T H1 H'->te (some y::zs.map some) H' fun u H''=>∃ t,u=.ref t/\H'' t=some (.tup [.int (kf y).1,.int (kf y).2])/\b8 H' H'')/\
 ∀ D ys H',eY T H1 H'->lF T vI (X.env.qual++"<lambda>") H'->H1 D=none->ys.Perm xs->(ys.Pairwise fun a b=>ltI (kf b) (kf a)=false)->H' D=some (.lst ys)->Q (.ref D) H'
theorem aAa{k:Nat}{c T:Af}{x:Str}{fs:List Str}{F:Fd}{G:Bi}{scope:De}{cl:List (Str×Af)}{te:TE}{p vI kp pos:Pos}(hr:dC (k+3) X.A)(Z:X.env.code=.ref c)(hC:codeHdIn X.K c T=true)(hB:vF X.mg X.base)(hg:Gl X "sorted")(hm:X.mg "sorted"=none)(S:zS [x] fs scope)
  (hc:∀ x b,cl.lookup x=some b->X.env.cells.lookup x=some b) (hhas:∀ x,scope.names.lookup x=some .free->∃ b,cl.lookup x=some b) (hb:∀(pm aa O u:Ac),bindArgs (kla_fn "<lambda>" (X.env.qual++"<lambda>") F G scope cl pm aa O) ⟨[u],[]⟩=pure [(x,u)])
  (Y:∀(f c:Af) (s:Ae) (H:Hp),PE (zQ X ([x]++fs) (X.env.qual++"<lambda>") scope f (.ref c) cl X.A.in1.in1 s H) G te) (ha:PA X [e] ta)
  (af:closureFor scope X.env=pure cl:=by rfl) (ab:defaultsOf F X.env=([],[]):=by rfl) (he:starEach [e] X.env=[(false,eval e X.env)]:=by rfl):
  PE X (.Call (.Name "sorted" p) [e] [⟨some "key",.Lambda F G scope vI,kp⟩] pos) (aKn X T vI fs te ta):=by
 constructor;intro im s σ H Q I h;refine Dr (wW I hg hm boot_sorted ?_ (by decide) (by decide));refine callWith_builtin_kwB (by rw[he];rfl) (by rfl) ?_;have J:=ha pos im s σ H _ I h;rw[he]at J ⊢;refine evalArgs_kwB (by rfl) (thn J fun us s1 ⟨vs,H1,I1,r,q1⟩=>?_);obtain⟨l,xs,zs,kf,gf,rfl,hg,hl,hlen,ht,gt,hkey,q⟩:=q1;obtain⟨ps,hT,_⟩:=gt.ex;have ad:PK X [⟨some "key",.Lambda F G scope vI,kp⟩] (aBV (aJx T vI (X.env.qual++"<lambda>") F G scope cl) aHU):=aGe (aIf Z hC hB af ab) aHV;refine thn (ad pos im s1 σ H1 (fun ws H2=>∃ f c,ws=[V.ref f]/\eY T H1 H2/\lF T vI (X.env.qual++"<lambda>") H2/\H2 c=some (nY c (X.env.qual++"<lambda>"))/\H2 f=some (qY f (X.env.qual++"<lambda>") F G scope cl c)) I1 ⟨gt,fun f c H2 a1 a2 a3 a4=>⟨f,c,rfl,a1,a2,a3,a4⟩⟩) fun ws s2 ⟨az,H2,I2,rz,f,c',ez,a1,a2,a3,a4⟩=>?_;subst ez;cases rz with
 | cons r1 r2=>
  cases r1;cases r2;cases r with
  | cons r3 r4=>
   cases r3;cases r4;refine aE0 (kf:=kf) (gf:=gf) I2 (a1.seq hT hl) hlen hg (fun y hy v ag H' s' rv I' S'=>?_) fun D ys H' s' n1 n2 n3 n4=>q D ys H' (a1.trans s'.butT) (a2.same s') ?_ n2 n3 n4
   .exact aER (k:=k) (ps:=[x]) (fs:=fs) I' I'.ok.frames ((hr.in1).in1) S hc hhas (S' _ _ a4) (S' _ _ a3) (fun pm aa O=>hb pm aa O v) (.cons rv .nil) rfl ht (Y f c' s' H') (hkey y hy H' (a1.trans S'.butT))
   .cases qD:H1 D with
    | none=>rfl
    | some o=>
     by_cases hD:D=T
     .subst hD;obtain⟨ps',hT',_⟩:=a2.ex;rw[hT']at n1;cases n1
     .rw[a1 _ _ hD qD]at n1;cases n1
end
def iD(H:Hp)(v:Ac):Str:=match v with
 | .ref a=>match H a with
  | some (.tup (.str z::_))=>z
  | _=>""
 | _=>""
theorem aAb{α β:Type}{f:α->β}{ys:List β}:∀{zs:List β},ys.Perm zs->∀{rs:List α},zs=rs.map f->∃ F:List α,F.Perm rs/\ys=F.map f:=by
 intro zs h
 induction h with
 | nil=>intro rs e;exact⟨[],by cases rs with|nil=>exact .refl _|cons _ _=>simp at e,rfl⟩
 | cons a _ O=>
  intro rs e;cases rs with
  | nil=>simp at e
  | cons r rs=>
   rw[Aq]at e;injection e with e1 e2;obtain⟨F,h1,h2⟩:=O e2;exact⟨r::F,h1.cons _,by rw[Aq,e1,h2]⟩
 | swap a b l=>
  intro rs e;cases rs with
  | nil=>simp at e
  | cons r rs=>
   cases rs with
   | nil=>simp at e
   | cons Y rs=>
    rw[Aq,Aq]at e;injection e with e1 e2;injection e2 with e2 e3;exact⟨Y::r::rs,.swap _ _ _,by rw[Aq,Aq,e1,e2,e3]⟩
 | trans _ _ J G=>
  intro rs e;obtain⟨F,h1,h2⟩:=G e;obtain⟨ns,h3,h4⟩:=J h2;exact⟨ns,h3.trans h1,h4⟩
inductive jJ(xs:List V)(H:Hp)(Q:VK):Prop
 | mk (p:Af) (rs:List Af) (zs:List Str) (q0:xs=[.ref p]) (q1:H p=some (.lst (rs.map V.ref))) (q2:BI (NmH H) rs zs) (q3:zs.Nodup) (q4:zs.length<=sizeLine) (q5:∀(l:Af) (ms:List Af),H l=none->ms.Perm rs->(ms.Pairwise fun a b=>(iD H (.ref a)).cps.toList<(iD H (.ref b)).cps.toList)->Q (.ref l) (upd H l (.lst (ms.map V.ref)))):jJ xs H Q
def rO:List V->Hp->VK->Prop:=fun xs H Q=>jJ xs H Q
theorem nP:fF X (.builtin "sorted") rO:=by
 intro im s σ H xs us Q I r h;obtain⟨p,rs,zs,rfl,hx,hP,hn,h64,q⟩:=h;obtain⟨u,rfl,ru⟩:=fG r;cases ru;obtain⟨its,rv,pl,_⟩:=I.list (aU hx);have al:=hP.length;have aq:=rv.length;rw[Aa]at aq;have aj:its=rs.map AG:=rT rv;subst aj;have ad:(rs.map AG).length<=sizeLine:=by rw[Aa];omega
 have G:∀ i,(hi:i<rs.length)->iD H (.ref rs[i])=zs[i]'(by omega):=fun i hi=>by
  obtain⟨a,b,hp⟩:=Paired.at hP (Ai hi) (Ai (by omega:i<zs.length));unfold iD;dsimp only;rw[hp]
 have ah:zs=rs.map fun r=>iD H (.ref r):=List.ext_getElem (by simp[al]) fun i h1 h2=>by
  rw[List.getElem_map,G i (by omega)]
 refine DE Gz F6 F7 (Ho _) ?_;unfold Builtin.«sorted»;apply Ab (m:=checkCount "sorted" 1 1 _);apply Ag;refine Ab (Hm pl.isList ?_ ad);have hk:∀ b u,s.heap.get? b=some u->((s.heap.push (seqObj "list" #[] 0)).update s.heap.objs.size (Bg (·++(rs.map AG).toArray))).get? b=some u:=fun b u e=>by
  rw[BR _ _ _ _ (AI (Ax e))];exact Ak _ e
 have ak:s.heap.objs.size<((s.heap.push (seqObj "list" #[] 0)).update s.heap.objs.size (Bg (·++(rs.map AG).toArray))).objs.size:=by
  rw[CA,CV];exact DF _
 dsimp only;generalize (s.heap.push (seqObj "list" #[] 0)).update s.heap.objs.size (Bg (·++(rs.map AG).toArray))=F at hk ak ⊢
 apply Ab;refine DV ?_ ad;have O:(F.push (seqObj "list" (rs.map AG).toArray 0)).get? F.objs.size=some (seqObj "list" (rs.map AG).toArray 0):=AH _ rfl;have ae:∀ b u,s.heap.get? b=some u->(F.push (seqObj "list" (rs.map AG).toArray 0)).get? b=some u:=fun b u e=>Ak _ (hk b u e);have Y:s.heap.objs.size<=F.objs.size:=BU ak;have hN:∀ v∈rs.map AG,NmT (F.push (seqObj "list" (rs.map AG).toArray 0)) v (iD H v)/\iD H v∈zs/\∀ b u,s.heap.get? b=some u->(∀ t,v=.ref t->b≠F.objs.size):=fun v hv=>by
  obtain⟨r,hr,rfl⟩:=AL.mp hv;obtain⟨i,hi,rfl⟩:=Bp.mp hr;obtain⟨a,b,hp⟩:=Paired.at hP (Ai hi) (Ai (by omega:i<zs.length));obtain⟨_,its',rv',ht⟩:cR X.prog X.w H s.heap _ (.tup _):=I.hok _ _ hp;refine⟨?_,by rw[G i hi];exact Bk _,fun b u eb t _=>AI (Ax (hk b u eb))⟩;rw[G i hi];cases rv' with
  | cons r1 t1=>
   cases t1 with
   | cons r2 t2=>
    cases t2 with
    | cons r3 t3=>
     cases t3;obtain⟨u,rfl⟩:=r1;obtain⟨o,ho,hc,_⟩:=ht;exact⟨_,u,_,_,rfl,o,ae _ _ ho,hc⟩
 have inj:∀ v1∈rs.map AG,∀ v2∈rs.map AG,iD H v1=iD H v2->v1=v2:=fun v1 h1 v2 h2 e=>by
  obtain⟨r1,hr1,rfl⟩:=AL.mp h1;obtain⟨r2,hr2,rfl⟩:=AL.mp h2;obtain⟨i,hi,rfl⟩:=Bp.mp hr1;obtain⟨j,hj,rfl⟩:=Bp.mp hr2;rw[G i hi,G j hj]at e;have:=(Ef hn).mp e;subst this;rfl
 have hR:∀ x y:Ac,iD H x∈zs->decide (zs.countP (fun z=>ltS z (iD H x))<zs.countP (fun z=>ltS z (iD H y)))=ltS (iD H x) (iD H y):=fun x y hx=>rZ sB xJ aET hx;refine Ab (Bx (CJ slot_list_sort ⟨_,O,rfl⟩ entry_list_sort (qH (rk:=fun v=>zs.countP fun z=>ltS z (iD H v)) O (fun v1 v2 cE e s' Q' k' kq=>?_) ad fun out hp hu=>⟨_,rfl,?_⟩) (GF _)))
 .have ab:∀ v∈rs.map AG,NmT s'.heap v (iD H v):=fun v hv=>by
   obtain⟨⟨t,u,a,b,e1,o,ho,hc⟩,_⟩:=hN v hv;refine⟨t,u,a,b,e1,o,k' _ _ (fun z=>?_) ho,hc⟩;rw[z,O]at ho;cases ho;have ap:(Bt "list")=Bt "tuple":=hc.1;injection ap with z2;exact absurd z2 (by decide)
  refine aJA (fun v hv=>⟨_,ab v hv⟩) fun b=>kq _ fun x y hx hy C hC=>?_;have J:=iQ hx;have Z:=iQ hy;rw[hR _ _ (hN _ J.2).2.1]at hC;rw[J.1,Z.1];exact ltN (ab _ J.2) (ab _ Z.2) (inj _ J.2 _ Z.2) hC
 .obtain⟨e,he⟩:=HV (vs:=rs.map AG) (out:=out.toArray) O;obtain⟨ys,hys,rys⟩:=v3 hp rv;obtain⟨ms,hms,rfl⟩:∃ ms:List Af,ms.Perm rs/\ys=ms.map V.ref:=aAb hys rfl;have ho:out=ms.map AG:=rT rys;subst ho;refine Ag ⟨_,rfl,.ref F.objs.size,_,I.laid (t':=s.toks) (o:=.lst (ms.map V.ref)) (fun b u eb=>?_) Y ⟨by rw[Aa,hms.length_eq];omega,_,e,qE _,by rw[he]<;>rfl⟩,rfl,q _ ms (I.hok.fresh Y) hms ?_⟩
  .rw[HM (AI (Ax (hk b u eb))) (Ax (ae b u eb))];exact ae b u eb
  .have au:=D0.mp hu;have ar:(ms.map fun r=>iD H (.ref r)).Nodup:=(hms.map _).nodup_iff.mpr (by rw[<- ah];exact hn);refine((D0.mp ar).and au).imp_of_mem fun{a b} ha hb h=>?_;obtain⟨h1,h2⟩:=h;have av:iD H (.ref b)∈zs:=by rw[ah];exact Ba (hms.mem_iff.mp hb)
   have h3:ltS (iD H (.ref b)) (iD H (.ref a))=false:=by
    rw[<- hR (.ref b) (.ref a) av];exact Is (Hz.mpr h2)
   have h4:¬ (iD H (.ref b)).cps.toList<(iD H (.ref a)).cps.toList:=fun z=>by
    rw[(jG _ _).mpr z]at h3;cases h3
   refine Ew fun z=>h1 (aB7 (List.le_antisymm (F2.mp h4) (F2.mp z)))
end L2
namespace K11
open PySem L2
theorem nW{a b:Str}{X Y:Prop}(n:a≠b)(h:Y):if decide (V.str a=V.str b)=true then X else Y:=dB (fun g=>absurd (V.str.inj (Iu g)) n) fun _=>h
theorem yW{a:Str}{X Y:Prop}(h:X):if decide (V.str a=V.str a)=true then X else Y:=dB (fun _=>h) fun g=>absurd (Ir rfl) g
theorem zZ1{F:V}:[F].length<=sizeLine:=aP (show 1<=1000000 by decide)
theorem zZ2{F a1:V}:[F,a1].length<=sizeLine:=aP (show 2<=1000000 by decide)
theorem zZ3{F a1 a2:V}:[F,a1,a2].length<=sizeLine:=aP (show 3<=1000000 by decide)
theorem zZ4{F a1 a2 a3:V}:[F,a1,a2,a3].length<=sizeLine:=aP (show 4<=1000000 by decide)
theorem zZ6{F a1 a2 a3 a4 a5:V}:[F,a1,a2,a3,a4,a5].length<=sizeLine:=aP (show 6<=1000000 by decide)
theorem zZ8{F a1 a2 a3 a4 a5 a6 a7:V}:[F,a1,a2,a3,a4,a5,a6,a7].length<=sizeLine:=aP (show 8<=1000000 by decide)
theorem aKo{G a1 a2 a3 a4 a5 a6 a7 a8 a9 a10 F:V}:[G,a1,a2,a3,a4,a5,a6,a7,a8,a9,a10,F].length<=sizeLine:=aP (show 12<=1000000 by decide)
def Cl(P:AE)(w:AW)(K:Ah)(mg:Str->Option Ac)(base:Bl)(k:Nat)(n:Str)(ps:List Str)(sp:Sp):Prop:=∃ f fd,cW P w K mg base CX0 k f fd ps sp/\mg n=some (.ref f)/\A4 K (.ref f)=true/\fH K fd ps []
theorem cK{X:Cx}{k:Nat}{ps:List Str}{sp:Sp}{x:Str}{p pos:Pos}{e:Bi}{es:List Bi}{t:TA}(c:Cl X.prog X.w X.K X.mg X.base k x ps sp)(Z:dC k X.A)(ha:PA X (e::es) t)(O:Gl X x:=by rfl)(J:(x==("__debug__":Str))=false:=by decide)(Y:starEach (e::es) X.env=(false,eval e X.env)::starEach es X.env:=by rfl)(G:(backTo pos (starEach es X.env)).any (·.1)=false:=by rfl):PE X (.Call (.Name x p) (e::es) [] pos) (aHh sp [] E0 t):=by
 obtain⟨f,fd,F,hm,hk,hb⟩:=c;exact cP F Z O hm hk hb .nil dU ha J Y G
abbrev Mnd:=List (Key×V)
def nxt(m:Mnd)(h:Str):Option Str:=match bG m (Ad h)with
 | some (.str o)=>some o
 | _=>none
inductive Ends(m:Mnd):Str->List Str->Prop
 | stop {h:Str} (e:nxt m h=none):Ends m h [h]
 | on {h o:Str} {l:List Str} (e:nxt m h=some o) (r:Ends m o l):Ends m h (h::l)
theorem gW(m:Mnd)(k j:Key):bG (bZ m k) j=if j=k then none else bG m j:=by
 induction m with
 | nil=>split<;>rfl
 | cons p m G=>
  by_cases e:p.1=k
  .rw[m4 e,G];by_cases F:j=k
   .rw[Iq F,Iq F]
   .rw[Ip F,Ip F,cH fun z=>F (z.symm.trans e)]
  .rw[m5 e];by_cases F:p.1=j
   .rw[cZ F,cZ F,Ip fun z=>e (F.trans z)]
   .rw[cH F,cH F,G]
structure aKS(m:Mnd):Prop where
 tx:∀ p∈m,∃ o,p.2=.str o
 ends : ∀ h, ∃ l, Ends m h l
open Classical in
noncomputable def rd(m:Mnd)(h:Str):List Str:=if e:∃ l,Ends m h l then e.choose else[h]
noncomputable def aKG(m:Mnd)(h o:Str):Mnd:=if h∈rd m o then m else b0 m (Ad h) (.str o)
def aKp(m:Mnd)(h:Str):Mnd:=if (bG m (Ad h)).isSome=true then bZ m (Ad h) else m
def top(i:Nat):Cw:=PySem.Challenge.pw_dykelengths_k11_lands_joined.main.body.getD i (.Pass ⟨0,0,0,0⟩)
abbrev aGz:Cw:=top 1
abbrev xL:Cw:=top 2
abbrev aIk:Cw:=top 3
abbrev qI:Cw:=top 4
abbrev jK:Cw:=top 6
abbrev jL:Cw:=top 7
abbrev gZ:Cw:=top 8
abbrev aBB:Cw:=top 14
abbrev xM:Cw:=top 15
abbrev xN:Cw:=top 17
abbrev aIl:Cw:=top 19
abbrev aE1:Cw:=top 20
abbrev n9:Cw:=top 21
abbrev uA:Cw:=top 22
abbrev xO:Cw:=top 23
abbrev j6:Cw:=top 25
abbrev j7:Cw:=top 26
abbrev aE2:Cw:=top 27
abbrev sDo:Cw:=top 28
abbrev qJ:Cw:=top 29
abbrev xP:Cw:=top 30
abbrev v8:Cw:=top 31
abbrev aCo:Cw:=top 32
abbrev aE3:Cw:=top 33
abbrev aE4:Cw:=top 34
abbrev xQ:Cw:=top 35
abbrev aAc:Cw:=top 36
abbrev aCp:Cw:=top 37
abbrev aBC:Cw:=top 38
abbrev xR:Cw:=top 39
def b9(z:Str):Bool:=decide (1<=z.length/\z.length<=8)&&z.cps.toList.all fun c=>decide (97<=c/\c<=122)
def isL(c:Nat):Bool:=decide (97<=c/\c<=122)
def e8(i:Nat):Nat:=97+i%26
theorem uB(i:Nat):isL (e8 i)=true:=by
 unfold isL e8;exact Ir (by omega)
abbrev abc:Str:=Bv "abcdefghijklmnopqrstuvwxyz"
theorem aE5:abc.cps.toList=F0 97 26:=by decide
theorem xS{i:Int}(F:0<=i)(h1:i<26):atI abc.cps.toList i=some (e8 i.toNat):=by
 obtain⟨j,rfl⟩:∃ j:Nat,i=j:=⟨i.toNat,by omega⟩
 unfold atI ixN;rw[aE5,Iq F,Iq (by simpa using h1)];simp only[Cb,Option.bind_some];rw[List.getElem?_range' (by omega)];unfold e8;congr 1;omega
theorem aGA:abc.length=26:=by decide
def mk(l:List Nat):Str:=⟨l.toArray⟩
theorem aBD{a b:List Nat}(h:mk a=mk b):a=b:=by
 have:=congrArg (fun z:Str=>z.cps.toList) h;simpa[mk]using this
theorem iH(l:List Nat):(mk l).length=l.length:=by
 show l.toArray.size=_;simp
theorem aE6(a b:List Nat):mk a++mk b=mk (a++b):=by
 show(⟨a.toArray++b.toArray⟩:Str)=_;simp[mk]
def aKq(t k:Nat):List Nat:=[e8 (t+7*k),e8 (t+k/26)]
def bij:Nat->Nat->List Nat
 | 0,_=>[]
 | f+1,n=>if n=0 then[] else bij f ((n-1)/2)++[n%2]
def bin(t n:Nat):List Nat:=(bij 6 n).map fun d=>e8 (t+9*d)
def word(one:Bool)(b:List Nat)(sp t k:Nat):List Nat:=if one then bin t (k+1) else b.take sp++aKq t k++b.drop sp
theorem aIm{α:Type}{f:Nat->α}{n m:Nat}(h:((A3 n).map f).Nodup)(hm:m<=n):((A3 m).map f).Nodup:=by
 obtain⟨d,rfl⟩:∃ d,n=m+d:=⟨n-m,by omega⟩
 rw[List.range_add,Ar]at h;exact(Bu.mp h).1
theorem uC{l:List Nat}(h1:1<=l.length)(F:l.length<=8)(ha:∀ c∈l,isL c=true):b9 (mk l)=true:=by
 unfold b9;rw[iH,Ir ⟨h1,F⟩,Fc];have e:(mk l).cps.toList=l:=by simp[mk]
 rw[e,A7];exact ha
theorem j8{z:Str}(h:b9 z=true):1<=z.length/\z.length<=8:=by
 unfold b9 at h;rw[BC]at h;exact Iu h.1
theorem j9:∀ ns:List Str,(ns.map V.str).all iV=true
 | []=>rfl
 | _::r=>by simpa[iV]using j9 r
abbrev pH:Key:=Ad ("script":Str)
abbrev kAt:Key:=Ad ("at":Str)
abbrev jM:Key:=Ad ("left":Str)
def f8(c:Af)(a l:Int):List (Key×V):=[(pH,.ref c),(kAt,.int a),(jM,.int l)]
theorem aIo:¬ (pH=kAt):=by decide
theorem aIp:¬ (pH=jM):=by decide
theorem aGB:¬ (kAt=jM):=by decide
theorem aKr:¬ (jM=kAt):=fun e=>aGB e.symm
theorem aGC(c:Af)(a l:Int):bG (f8 c a l) pH=some (.ref c):=by
 unfold f8;rw[cZ rfl]
theorem aIq(c:Af)(a l:Int):bG (f8 c a l) kAt=some (.int a):=by
 unfold f8;rw[cH aIo,cZ rfl]
theorem aE7(c:Af)(a l:Int):bG (f8 c a l) jM=some (.int l):=by
 unfold f8;rw[cH aIp,cH aGB,cZ rfl]
theorem aIr(c:Af)(a l a':Int):b0 (f8 c a l) kAt (.int a')=f8 c a' l:=by
 unfold b0 f8;rw[Iq (by rw[BN];exact⟨(kAt,.int a),by simp,Ir rfl⟩)];simp only[Aq,Dh,Ip aIo,Ip aKr,Iq]
theorem aE8(c:Af)(a l F:Int):b0 (f8 c a l) jM (.int F)=f8 c a F:=by
 unfold b0 f8;rw[Iq (by rw[BN];exact⟨(jM,.int l),by simp,Ir rfl⟩)];simp only[Aq,Dh,Ip aIp,Ip aGB,Iq]
theorem aIs{H:Hp}{p c:Af}{a l:Int}(h:H p=some (.dK (f8 c a l))):gH H p (.str "left") (some (.int l)):=by
 have:=gH.k (k:=jM) h;rw[aE7]at this;exact this
theorem aKs{H:Hp}{p c:Af}{a l:Int}(h:H p=some (.dK (f8 c a l))):gH H p (.str "at") (some (.int a)):=by
 have:=gH.k (k:=kAt) h;rw[aIq]at this;exact this
theorem aKt{H:Hp}{p c:Af}{a l:Int}(h:H p=some (.dK (f8 c a l))):gH H p (.str "script") (some (.ref c)):=by
 have:=gH.k (k:=pH) h;rw[aGC]at this;exact this
theorem aJC{H:Hp}{p c:Af}{a l:Int}(F:Int)(h:H p=some (.dK (f8 c a l))):iF H p (.str "left") (.int F) (upd H p (.dK (f8 c a F))):=by
 have:=iF.k (k:=jM) (v:=.int F) h (c5 (by show 3<=1000;decide));rw[aE8]at this;exact this
theorem aKu{H:Hp}{p c:Af}{a l:Int}(a':Int)(h:H p=some (.dK (f8 c a l))):iF H p (.str "at") (.int a') (upd H p (.dK (f8 c a' l))):=by
 have:=iF.k (k:=kAt) (v:=.int a') h (c5 (by show 3<=1000;decide));rw[aIr]at this;exact this
structure c9(K:Ah)(H:Hp)(p c:Af)(ns:List Int)(a:Int):Prop where
 ob:∃ l,0<=l/\H p=some (.dK (f8 c a l))
 ce:SqL K H c (ns.map V.int)
 ge:0<=a
 sm:ns.length<=63
theorem c9.same{K:Ah}{H H':Hp}{p c:Af}{ns:List Int}{a:Int}(x:c9 K H p c ns a)(h:b8 H H'):c9 K H' p c ns a:=by
 obtain⟨⟨l,hl,e⟩,ce,ge,sm⟩:=x;exact⟨⟨l,hl,h _ _ e⟩,h.seq ce,ge,sm⟩
theorem aIt{K:Ah}{H H':Hp}{p c:Af}{ys:List V}{ip:List (Key×V)}(h:SqL K H c ys)(e:H p=some (.dK ip))(k:bA p H H'):SqL K H' c ys:=by
 rcases h with(h|⟨o',h⟩)|h
 .exact .inl (.inl (k _ _ h (bS h e (fun z=>nomatch z))))
 .exact .inl (.inr ⟨o',k _ _ h (bS h e (fun z=>nomatch z))⟩)
 .exact .inr h
theorem c9.put{K:Ah}{H H':Hp}{p c:Af}{ns:List Int}{a a' l:Int}(x:c9 K H p c ns a)(k:bA p H H')(hl:0<=l)(ha:0<=a')(e:H' p=some (.dK (f8 c a' l))):c9 K H' p c ns a':=by
 obtain⟨⟨l0,hl0,e0⟩,ce,ge,sm⟩:=x;exact⟨⟨l,hl,e⟩,aIt ce e0 k,ha,sm⟩
theorem aJD{x j:Int}(F:0<j)(h1:j<=2^63):-(2^64)<x%j/\x%j<2^64:=by
 have J:=DP x (show j≠0 by omega);have G:=DR x F;omega
inductive aCq(K:Ah)(vs:List V)(H:Hp)(Q:VK)(u3_:XK):Prop
 | mk (c:Af) (ns:List Int) (q0:vs=[.ref c]) (q1:SqL K H c (ns.map V.int)) (q2:ns.length<=63) (q3:∀ p H',c9 K H' p c ns 0->b8 H H'->H p=none->Q (.ref p) H'):aCq K vs H Q u3_
def aHv(K:Ah):Sp:=fun vs H Q u3_=>aCq K vs H Q u3_
inductive aAd(K:Ah)(vs:List V)(H:Hp)(Q:VK)(u3_:XK):Prop
 | mk (p c:Af) (ns:List Int) (a m:Int) (q0:vs=[.ref p,.int m]) (q1:c9 K H p c ns a) (q2:a<=1000000) (q3:0<m) (q4:m<2^512) (q5:∀ r a' H',0<=r->r<m->a<=a'->a'<=a+1->c9 K H' p c ns a'->bA p H H'->Q (.int r) H'):aAd K vs H Q u3_
def lY(K:Ah):Sp:=fun vs H Q u3_=>aAd K vs H Q u3_
variable{P:AE}{w:AW}{K:Ah}{mg:Str->Option Ac}{base:Bl}
theorem aJE:cB ["_law_script"] ["_law_script"] (aQ aIl):=⟨rfl,rfl,rfl,by decide,rfl,by decide,by decide⟩
theorem aIu{f:Af}{fd:Be}(F:Fun K "_law_pen" "_law_pen" aIl f fd):cW P w K mg base CX0 1 f fd ["_law_script"] (aHv K):=by
 refine F.ok aJE (fun vs H Q E h=>?_) (fun O A outer s H vs Q E hr h=>?_)
 .obtain⟨a,ns,rfl,_⟩:=h;rfl
 .obtain⟨c,ns,rfl,hS,hn,k⟩:=h;refine⟨_,aM (bT (xB (d8 aO (pv 0) (d8 aO aD (d8 aO aD xA))) rfl rfl (by simp) (by decide))),?_⟩;intro p G;have sp:=aJ (o:=.dK []) G;refine⟨_,rfl,aA,[(pH,.ref c),(kAt,.int 0),(jM,.int 0)],rfl,by show 3<=15;decide,?_⟩;have em:cX [] [(pH,V.ref c),(kAt,.int 0),(jM,.int 0)]=f8 c 0 0:=by
   have Z:b0 ([]:List (Key×V)) pH (.ref c)=[(pH,.ref c)]:=by rw[hV _ sV];rfl
   have Y:b0 [(pH,V.ref c)] kAt (.int 0)=[(pH,.ref c),(kAt,.int 0)]:=by rw[hV _ (by rw[cH aIo,sV])];rfl
   have J:b0 [(pH,V.ref c),(kAt,.int 0)] jM (.int 0)=[(pH,.ref c),(kAt,.int 0),(jM,.int 0)]:=by rw[hV _ (by rw[cH aIp,cH aGB,sV])];rfl
   show b0 (b0 (b0 [] pH (.ref c)) kAt (.int 0)) jM (.int 0)=_;rw[Z,Y,J];rfl
  rw[em];have S:b8 H (upd (upd H p (.dK [])) p (.dK (f8 c 0 0))):=fun b o e=>by rw[aG (aH e G),aG (aH e G)];exact e
  exact k p _ ⟨⟨0,E9 _,aA⟩,S.seq hS,E9 _,hn⟩ S G
theorem aE9:cB ["_law_pen_here","_law_many","_law_script","_law_found","_law_at","_law_cell","_law_number"] ["_law_pen_here","_law_many"] (aQ aE1):=⟨rfl,rfl,rfl,by decide,rfl,by decide,by decide⟩
theorem aGD{f:Af}{fd:Be}(F:Fun K "_law_draw" "_law_draw" aE1 f fd)(Z:mg "len"=none)(O:mg "abs"=none)
  :cW P w K mg base CX0 1 f fd ["_law_pen_here","_law_many"] (lY K):=by
 refine F.ok aE9 (fun vs H Q E h=>?_) (fun ak A outer s H vs Q E hr h=>?_)
 .obtain⟨p,c,ns,a,m,rfl,_⟩:=h;rfl
 .obtain⟨p,c,ns,a,m,rfl,hp,ha,hm,hm2,k⟩:=h;have hu:=fS hr;have nd:=aE9.nd;refine⟨_,(aB (aR (i:=2) nd rfl (Az rfl) (bQ hu (pv 0) aO Iv))
   (aB (cD (aZ aBT (bQ hu (pv 0) aO Iv) aD (bJ _)) (aB (aR (i:=3) nd rfl (Az rfl) (aY eO (bQ hu (pv 0) aO Iv) (pv 1)))
    (aB (dM hu (pv 0) aO (aY tL (bQ hu (pv 0) aO Iv) (pv 1)) rfl)
    (aM (bT (pv 3))))) bF)
   (aB (aR (i:=4) nd rfl (Az rfl) (bQ hu (pv 0) aO Iv))
   (aB (dM hu (pv 0) aO (aY cQ (pv 4) aD) rfl)
   (aB (aR (i:=5) nd rfl (Az rfl) (aY cQ (aY cQ (aY dZ (aY dZ aD (pv 4)) (pv 4)) (aY dZ aD (pv 4))) aD))
   (aB (eQ <| cD (aZ qQ (pv 4) (aX bH (by rfl) Z A1 (aF (pv 2) aE)) (bJ _)) (aB (aR (i:=5) nd rfl (Az rfl) (aW bX (pv 2) (pv 4) Iv))
    (aM (cD (aZ aI3 (aX sJ (by rfl) O (by kernel_rfl) (aF (pv 5) aE)) (aY sH aD aD) (bJ _)) (aB (dM hu (pv 0) aO (aY tL (aX sJ (by rfl) O (by kernel_rfl) (aF (pv 5) aE)) (pv 1)) rfl)
     (aM (bT (aY eO (aX sJ (by rfl) O (by kernel_rfl) (aF (pv 5) aE)) (pv 1))))) bF))) (aM (cD (aZ aBT (aX bH (by rfl) Z A1 (aF (pv 2) aE)) aD (bJ _)) (aM (aR (i:=5) nd rfl (Az rfl) (aY cQ (aY eO (aW bX (pv 2) (aY eO (pv 4) (aX bH (by rfl) Z A1 (aF (pv 2) aE))) Iv) (aY sH aD aD)) (aY dZ aD (pv 4))))) bF)))
   (aB (aR (i:=6) nd rfl (Az rfl) (aY eO (aY dZ (aY cQ (aY cQ (aY eO (pv 5) aD) (aY dZ aD (pv 4))) aD) aD) aD))
   (aB (aR (i:=6) nd rfl (Az rfl) (aY eO (aY cQ (aY dZ (pv 6) (aY cQ (aY eO (pv 6) aD) aD)) (aY dZ aD (pv 4))) aD))
   (aM (bT (aY eO (aY tL (aY eO (aY dZ (pv 6) (aY cQ (aY eO (pv 6) aD) aD)) aD) aD) (pv 1)))))))))))),?_⟩
  obtain⟨⟨l,hl0,hob⟩,hce,hge,hsm⟩:=id hp;refine⟨_,rfl,p,_,rfl,aKt hob,_,rfl,p,_,rfl,aIs hob,_,_,rfl,rfl,_,rfl,dB (fun h0=>?_) (fun h0=>?_)⟩
  .exact⟨_,rfl,p,_,rfl,aIs hob,_,rfl,_,_,rfl,rfl,hm,_,rfl,p,_,rfl,aIs hob,_,rfl,_,_,rfl,rfl,vY.of hm hm2,_,rfl,p,_,rfl,aJC _ hob,_,rfl,k (l%m) a _ (DP _ (by omega)) (DR _ hm) (E9 _) (by omega) (hp.put (bA.refl p H).upd (DQ hl0 (by omega)) hge aA) (bA.refl p H).upd⟩
  .refine⟨_,rfl,p,_,rfl,aKs hob,_,rfl,_,_,rfl,rfl,_,rfl,p,_,rfl,aKu _ hob,_,rfl,_,_,rfl,rfl,.inl (by decide),_,rfl,_,_,rfl,rfl,.inr (by omega),_,rfl,_,_,rfl,rfl,.inl (by decide),_,_,rfl,rfl,_,_,rfl,rfl,?_⟩;have G:bA p H (upd H p (.dK (f8 c (a+1) l))):=(bA.refl p H).upd;have aa:c9 K (upd H p (.dK (f8 c (a+1) l))) p c ns (a+1):=hp.put G hl0 (by omega) aA;have ep:upd H p (.dK (f8 c (a+1) l)) p=some (.dK (f8 c (a+1) l)):=aA;generalize upd H p (.dK (f8 c (a+1) l))=H1 at G aa ep ⊢;have J:=aa.ce;refine⟨fun σ' H'=>∃ Y:Int,σ'=[some (.ref p),some (.int m),some (.ref c),none,some (.int a),some (.int Y),none]/\H'=H1,?_,?_⟩
   .refine⟨_,rfl,_,rfl,c,_,rfl,.inl J,_,_,rfl,rfl,_,rfl,dB (fun h1=>?_) (fun h1=>?_)⟩
    .have af:a<((ns.map V.int).length:Nat):=Iu h1;rw[Aa]at af;obtain⟨Y,hcv⟩:∃ Y,ns[a.toNat]?=some Y:=⟨_,Ai (by omega)⟩
     have ad:atI (ns.map V.int) a=some (.int Y):=by
      have e:=fU (xs:=ns.map V.int) (j:=a.toNat) (v:=.int Y) (by rw[Au,hcv];rfl);rw[Dd hge]at e;exact e
     refine⟨_,rfl,_,rfl,c,_,_,_,rfl,rfl,J,ad,_,rfl,_,rfl,_,_,rfl,rfl,⟨by decide,by decide,by decide⟩,_,_,rfl,rfl,_,rfl,dB (fun h2=>?_) (fun h2=>?_)⟩
     .refine⟨_,rfl,_,rfl,_,rfl,_,_,rfl,rfl,vY.of hm hm2,_,rfl,p,_,rfl,aJC _ ep,_,rfl,_,rfl,_,rfl,_,_,rfl,rfl,hm,?_⟩;have ab:0<=(if Y<0 then -Y else Y):=by split<;>omega
      exact k _ (a+1) _ (DP _ (by omega)) (DR _ hm) (by omega) (E9 _) (aa.put (bA.refl p H1).upd (DQ ab (by omega)) (by omega) aA) G.upd
     .exact⟨Y,rfl,rfl⟩
    .refine⟨_,rfl,c,_,rfl,.inl J,_,_,rfl,rfl,_,rfl,dB (fun h2=>?_) (fun h2=>⟨_,rfl,rfl⟩)⟩;have ag:0<ns.length:=by
      have:=Iu h2;rw[Aa]at this;omega
     have ae:(a%(ns.length:Int)).toNat<ns.length:=by
      have h1:=DR a (show(0:Int)<ns.length by omega);have h2:=DP a (show(ns.length:Int)≠0 by omega);omega
     have ad:atI (ns.map V.int) (a%((ns.map V.int).length:Int))=some (.int (ns[(a%(ns.length:Int)).toNat])):=by
      rw[Aa];have h2:=DP a (show(ns.length:Int)≠0 by omega);have e:=fU (xs:=ns.map V.int) (j:=(a%(ns.length:Int)).toNat) (v:=.int (ns[(a%(ns.length:Int)).toNat])) (by rw[Au,Ai ae];rfl);rw[Dd h2]at e;exact e
     exact⟨_,rfl,_,rfl,_,rfl,c,_,rfl,.inl J,_,_,rfl,rfl,(by rw[Aa];omega),c,_,_,_,rfl,rfl,J,ad,_,_,rfl,rfl,⟨by decide,by decide,by decide⟩,_,_,rfl,rfl,(by show(0:Int)<10^Int.toNat 17;decide),_,rfl,_,_,rfl,rfl,.inl (by decide),_,_,rfl,rfl,_,rfl,rfl⟩
   .rintro σ' H' ⟨Y,rfl,rfl⟩;have c0:∀{j:Int},0<j->(0:Int)<j:=fun h=>h;exact⟨_,rfl,_,_,rfl,rfl,(by show(0:Int)<_;decide),_,rfl,_,_,rfl,rfl,.inl (by decide),_,_,rfl,rfl,_,_,rfl,rfl,_,_,rfl,rfl,.inr (by decide),_,_,rfl,rfl,(by show(0:Int)<_;decide),_,rfl,_,rfl,_,_,rfl,rfl,(by show(0:Int)<_;decide),_,_,rfl,rfl,_,_,rfl,rfl,.inl (aJD (by decide) (by decide)),_,rfl,_,_,rfl,rfl,.inl (by decide),_,_,rfl,rfl,_,_,rfl,rfl,(by show(0:Int)<_;decide),_,rfl,_,rfl,_,_,rfl,rfl,(by show(0:Int)<_;decide),_,_,rfl,rfl,_,_,rfl,rfl,.inl (aJD (by decide) (by decide)),_,_,rfl,rfl,(by show(0:Int)<_;decide),_,_,rfl,rfl,vY.of (by decide) (by decide),_,rfl,_,_,rfl,rfl,hm,k _ (a+1) _ (DP _ (by omega)) (DR _ hm) (by omega) (E9 _) aa G⟩
structure Nms(ws:List Str):Prop where
 nd:ws.Nodup
 ok:∀ w∈ws,b9 w=true
inductive v9(K:Ah)(vs:List V)(H:Hp)(Q:VK)(u3_:XK):Prop
 | mk (p c:Af) (ns:List Int) (a:Int) (m:Nat) (q0:vs=[.ref p,.int m]) (q1:c9 K H p c ns a) (q2:a<=900000) (q3:m<=300) (q4:∀ l ws a' H',H l=none->H' l=some (.lst (ws.map V.str))->ws.length=m->Nms ws->a<=a'->a'<=a+320->c9 K H' p c ns a'->bA p H H'->Q (.ref l) H'):v9 K vs H Q u3_
def xT(K:Ah):Sp:=fun vs H Q u3_=>v9 K vs H Q u3_
theorem oA(l:List Nat):∀(m s:Nat),(F0 s m).filterMap (fun j=>l.toArray[j]?)=(l.drop s).take m
 | 0,s=>by simp
 | m+1,s=>by
  rw[List.range'_succ,Eu];have F:=oA l m (s+1);by_cases h:s<l.length
  .have e:l.toArray[s]?=some l[s]:=by simp[h]
   rw[e];dsimp only;rw[F,EV h,Gk]
  .have e:l.toArray[s]?=none:=by simp;omega
   rw[e];dsimp only;rw[F,D5 (by omega),D5 (by omega)];simp
theorem aGE:∀ n:Nat,n<7->∀ s:Nat,s<7->s<=n->Builtin.Str.strSliceIndices none (some (s:Int)) 1 n=F0 0 s:=by decide
theorem aDB:∀ n:Nat,n<7->∀ s:Nat,s<7->s<=n->Builtin.Str.strSliceIndices (some (s:Int)) none 1 n=F0 s (n-s):=by decide
theorem aHw{b:List Nat}{s:Nat}(F:b.length<=6)(hs:s<=b.length):EH (mk b) none (some (s:Int))=mk (b.take s):=by
 unfold EH;rw[iH,aGE _ (by omega) _ (by omega) hs];split
 .next h=>
  simp at h;rw[h,AN]
 .have e:=oA b s 0;rw[Cr]at e;exact congrArg mk e
theorem aGF{b:List Nat}{s:Nat}(G:b.length<=6)(hs:s<=b.length):EH (mk b) (some (s:Int)) none=mk (b.drop s):=by
 unfold EH;rw[iH,aDB _ (by omega) _ (by omega) hs];split
 .next h=>
  simp at h;have:s=0\/b.length=0:=by omega
  rcases this with rfl|F
  .rfl
  .rw[List.length_eq_zero_iff.mp F];simp
 .have e:=oA b (b.length-s) s;rw[show(b.drop s).take (b.length-s)=b.drop s from A9 (by rw[B3];exact Aj _)]at e;exact congrArg mk e
theorem aDC(bs:List Nat):∀ F:Array Nat,(bs.map fun c=>mk [c]).foldl (fun(F:Array Nat) (p:Str)=>F++(Bv "").cps++p.cps) F=F++bs.toArray:=by
 have J:(Bv "").cps=#[]:=by decide
 induction bs with
 | nil=>intro F;simp
 | cons x r G=>
  intro F;rw[Aq,Bh,G,J];simp[mk]
theorem aGG(bs:List Nat):Txt.join "" (bs.map fun c=>mk [c])=mk bs:=by
 show Builtin.Str.glued _ _=_;unfold Builtin.Str.glued;cases bs with
 | nil=>rfl
 | cons x r=>
  have:=aDC r #[x];simp only[Aq,List.headD_cons,List.drop_succ_cons,Cr];show(⟨Fu _ _ _⟩:Str)=_;rw[show(mk [x]).cps=#[x] from rfl];rw[this];simp[mk]
theorem xU(x:Nat){j:Int}(G:j=(x:Int)%26):atI abc.cps.toList j=some (e8 x):=by
 have F:0<=j:=by omega
 have h1:j<26:=by omega
 rw[xS F h1];unfold e8;congr 1;omega
def t12:List Str:=["part","join","forfeit","measure","mend","alone","breach","view","field","as","with","none"]
def w0(f k:Nat):Str:=t12.getD ((f+7*k)%12) ""
def q0(k:Nat):Str:=mk [113,e8 (k/26),e8 k]
def w1(f k:Nat):Str:=mk [e8 (f+5*k)]
def w2(b:List Nat)(sp n t:Nat):Str:=mk (b.take sp++[e8 (n/26),e8 n]++(b.drop sp).take t)
theorem aIv(f k:Nat):w0 f k=w0 (f%12) k:=by
 unfold w0;congr 1;omega
theorem aJF:∀ g<12,((A3 12).map (w0 g)).Nodup:=by decide
theorem aHx(f k:Nat):w0 f k∈t12:=by
 unfold w0;have h:(f+7*k)%12<t12.length:=by show _<12;omega
 rw[DA,Ai h];exact Bk h
theorem aFa:∀ z∈t12,b9 z=true/\z.cps.toList.head?≠some 113:=by decide
theorem aHy(k:Nat):b9 (q0 k)=true/\(q0 k).cps.toList.head?=some 113:=by
 refine⟨uC (by show 1<=3;decide) (by show 3<=8;decide) fun c hc=>?_,rfl⟩;simp only[An,AC,or_false]at hc;rcases hc with rfl|rfl|rfl
 .decide
 .exact uB _
 .exact uB _
theorem aIw{j k:Nat}(G:j<676)(F:k<676)(e:q0 j=q0 k):j=k:=by
 have:=aBD e;injection this with _ this;injection this with h1 this;injection this with h2 _;unfold e8 at h1 h2;omega
theorem wA{α:Type}{f:Nat->α}{n:Nat}(h:∀ i j,i<n->j<n->f i=f j->i=j):((A3 n).map f).Nodup:=by
 unfold List.Nodup;rw[D0];exact(List.nodup_range (n:=n)).imp_of_mem fun{i j} hi hj ne e=>ne (h i j (CH.mp hi) (CH.mp hj) e)
theorem nm0{f m:Nat}(hm:m<=300):Nms ((A3 (min m 12)).map (w0 f)++(A3 (m-min m 12)).map q0):=by
 refine⟨Bu.mpr ⟨?_,wA fun i j hi J e=>aIw (by omega) (by omega) e,fun x F y G e=>?_⟩,fun z hz=>?_⟩
 .have h:=aIm (aJF (f%12) (by omega)) (show min m 12<=12 by omega);have e:(A3 (min m 12)).map (w0 f)=(A3 (min m 12)).map (w0 (f%12)):=Et fun k _=>aIv f k;rw[e];exact h
 .obtain⟨k,_,rfl⟩:=AL.mp F;obtain⟨j,_,rfl⟩:=AL.mp G;have:=(aFa _ (aHx f k)).2;rw[e]at this;exact this (aHy j).2
 .rcases AO.mp hz with hz|hz
  .obtain⟨k,_,rfl⟩:=AL.mp hz;exact(aFa _ (aHx f k)).1
  .obtain⟨k,_,rfl⟩:=AL.mp hz;exact(aHy k).1
theorem nm1{f m:Nat}(hm:m<27):Nms ((A3 m).map (w1 f)):=by
 refine⟨wA fun i j hi F e=>?_,fun z hz=>?_⟩
 .have:=aBD e;injection this with h1 _;unfold e8 at h1;omega
 .obtain⟨k,_,rfl⟩:=AL.mp hz;refine uC (by show 1<=1;decide) (by show 1<=8;decide) fun c hc=>?_;rw[AK.mp hc];exact uB _
theorem aIx{b:List Nat}{sp n F t t':Nat}(hn:n<676)(G:F<676)(e:w2 b sp n t=w2 b sp F t'):n=F:=by
 have:=aBD e;rw[AF,AF]at this;have h:=List.append_cancel_left this;injection h with h1 h;injection h with h2 _;unfold e8 at h1 h2;omega
theorem aJG{b:List Nat}{sp n t:Nat}(F:b.length<=6)(ha:∀ c∈b,isL c=true):b9 (w2 b sp n t)=true:=by
 refine uC (by simp;omega) (by simp;omega) fun c hc=>?_;rcases AO.mp hc with hc|hc
 .rcases AO.mp hc with hc|hc
  .exact ha c (BY hc)
  .simp only[An,AC,or_false]at hc;rcases hc with rfl|rfl<;>exact uB _
 .exact ha c (C5 (BY hc))
theorem aGH{s f i k:Nat}(hs:s∈[1,5,27,85,181,335])(hi:i<676)(F:k<676)(e:(f+s*i)%676=(f+s*k)%676):i=k:=by
 have c:=(by decide:∀ s∈[1,5,27,85,181,335],Nat.Coprime 676 s) s hs;have g:∀{a b:Nat},b<676->(f+s*a)%676=(f+s*b)%676->b<=a:=fun{a b} h e=>by
  have d:=Nat.dvd_of_mod_eq_zero (Nat.sub_mod_eq_zero_of_mod_eq e.symm);rw[Nat.add_sub_add_left,<- Nat.mul_sub]at d;have:=Nat.eq_zero_of_dvd_of_lt (c.dvd_of_dvd_mul_left d) (by omega);omega
 exact Nat.le_antisymm (g hi e.symm) (g F e)
theorem aFb{K:Ah}{H:Hp}{p c a:Af}{ns:List Int}{t:Int}{o:HO}(F:c9 K H p c ns t)(e:H a=some o)(h:∀ G r,o≠.dK (G::r)):a≠p:=by
 obtain⟨l,_,e2⟩:=F.ob;exact bS e e2 (h _ _)
theorem cT{K:Ah}{H H':Hp}{p c a:Af}{ns:List Int}{t:Int}{xs:List V}(e:H a=some (.lst xs))(F:c9 K H p c ns t)(k:bA p H H'):H' a=some (.lst xs):=k a _ e (aFb F e (fun _ _ z=>nomatch z))
theorem lB{K:Ah}{H H':Hp}{p c L:Af}{ns:List Int}{t:Int}(F:c9 K H' p c ns t)(k:bA p H H')(h:H' L=none):H L=none:=by
 cases e:H L with
 | none=>rfl
 | some x=>
  obtain⟨l,_,z⟩:=F.ob;rw[k L x e (aH z h).symm]at h;cases h
theorem aGI{ws:List Str}(h:∀ w∈ws,w.length=1):(ws.map (·.length)).sum=ws.length:=by
 induction ws with
 | nil=>rfl
 | cons x r F=>
  rw[Aq,CD,F fun w hw=>h w (Ao _ hw),h x Ap,AR];omega
theorem c9.app{K:Ah}{H H':Hp}{p c L:Af}{ns:List Int}{a a':Int}{xs ys:List V}(G:c9 K H p c ns a)(x:c9 K H' p c ns a')(k:bA p H H')(h:H L=none)(e:H' L=some (.lst xs)):
  c9 K (upd H' L (.lst ys)) p c ns a'/\bA p H (upd H' L (.lst ys)):=by
 have kk:bA p H (upd H' L (.lst ys)):=fun b o z n=>by
  by_cases F:b=L
  .rw[F,h]at z;cases z
  .rw[aG F];exact k b o z n
 obtain⟨l,hl,z⟩:=x.ob;exact⟨G.put kk hl x.ge (by rw[aG (bS z e (fun q=>nomatch q))];exact z),kk⟩
theorem aJH{s:Nat}(hs:s∈[1,5,27,85,181,335]):s<=335:=by
 simp only[An,AC,or_false]at hs;omega
theorem aCr:cB ["_law_pen_here","_law_many","_law_letters","_law_terms","_law_way","_law_first","_law_found","_law_step","_law_base","_law_spot","_law_k","_law_number","_law_tail","_law_pair"] ["_law_pen_here","_law_many"] (aQ n9):=⟨rfl,rfl,rfl,by decide,rfl,by decide,by decide⟩
theorem aFc{f fD:Af}{fd bb:Be}(F:Fun K "_law_names" "_law_names" n9 f fd)(Z:mg "len"=none)(J:mg "range"=none)(bf:mg "min"=none)
  (GD:cW P w K mg base CX0 1 fD bb ["_law_pen_here","_law_many"] (lY K)) (mD:mg "_law_draw"=some (.ref fD)) (Y:A4 K (.ref fD)=true) (bD:fH K bb ["_law_pen_here","_law_many"] [])
  :cW P w K mg base CX0 2 f fd ["_law_pen_here","_law_many"] (xT K):=by
 refine F.ok aCr (fun vs H Q E h=>?_) (fun dj A outer s H vs Q E hr h=>?_)
 .obtain⟨p,c,ns,a,m,rfl,_⟩:=h;rfl
 .obtain⟨p,c,ns,a,m,rfl,hp,ha,hm,k⟩:=h;have nd:=aCr.nd;refine⟨_,(aB (aR (i:=2) nd rfl (DT rfl) aO)
   (aB (aR (i:=3) nd rfl (DT rfl) (dA (aF aO (aF aO (aF aO (aF aO (aF aO (aF aO (aF aO (aF aO (aF aO (aF aO (aF aO (aF aO aE))))))))))))))
   (aB (aR (i:=4) nd rfl (Az rfl) (cP GD hr rfl mD Y bD .nil dU (aF (pv 0) (aF aD aE))))
   (aB (aR (i:=5) nd rfl (DT rfl) (cP GD hr rfl mD Y bD .nil dU (aF (pv 0) (aF aD aE))))
   (aB (cD (aZ cV (pv 4) aD (bJ _)) (aB (iW (i:=6) (N:=["_law_k","_law_terms","_law_first"]) (src:=[none,some 3,some 5]) (osc:=aQ n9) (oN:=["_law_pen_here","_law_many","_law_letters","_law_terms","_law_way","_law_first","_law_found","_law_step","_law_base","_law_spot","_law_k","_law_number","_law_tail","_law_pair"]) ⟨by rfl,by decide,by decide,by decide,rfl,by rfl⟩ nd rfl (eB rfl J (aF (aX (mX rfl) (by rfl) bf (by kernel_rfl) (aF (pv 1) (aF aD aE))) aE)) (fun cl s H fp im C=>⟨aV (i:=0) (show(["_law_k","_law_terms","_law_first"]:List Str).Nodup by decide) rfl (Az rfl),dE,aW (r:=aEc K) bX (pv 1) (aY eO (aY cQ (pv 2) (aY dZ aD (pv 0))) aD) Iv⟩))
    (aM (bT (aY aBf (pv 6) (dF (N:=["_law_k","_law_letters"]) (src:=[none,some 2]) (osc:=aQ n9) (oN:=["_law_pen_here","_law_many","_law_letters","_law_terms","_law_way","_law_first","_law_found","_law_step","_law_base","_law_spot","_law_k","_law_number","_law_tail","_law_pair"]) ⟨by rfl,by decide,by decide,by decide,rfl,by rfl⟩ (eB rfl J (aF (aY kK (pv 1) (aX bH (by rfl) Z A1 (aF (pv 6) aE))) aE)) (fun cl s H fp im C=>⟨aV (i:=0) (show(["_law_k","_law_letters"]:List Str).Nodup by decide) rfl (Az rfl),dE,aY iS (aY iS aO (aW p7 (pv 1) (aY mV (pv 0) aD) Iv)) (aW p7 (pv 1) (aY eO (pv 0) aD) Iv)⟩)))))) bF)
   (aB (eQ <| cD (PW.pt (gS (aZ cV (pv 4) aD (bJ _)) (gJ (aZ qQ (pv 1) aD (bJ _))))) (aM (bT (dF (N:=["_law_k","_law_letters","_law_first"]) (src:=[none,some 2,some 5]) (osc:=aQ n9) (oN:=["_law_pen_here","_law_many","_law_letters","_law_terms","_law_way","_law_first","_law_found","_law_step","_law_base","_law_spot","_law_k","_law_number","_law_tail","_law_pair"]) ⟨by rfl,by decide,by decide,by decide,rfl,by rfl⟩ (eB rfl J (aF (pv 1) aE)) (fun cl s H fp im C=>⟨aV (i:=0) (show(["_law_k","_law_letters","_law_first"]:List Str).Nodup by decide) rfl (Az rfl),dE,aW p7 (pv 1) (aY eO (aY cQ (pv 2) (aY dZ aD (pv 0))) aD) Iv⟩)))) bF)
   (aB (aR (i:=7) nd rfl (Az rfl) (aW bX (dA (aF aD (aF aD (aF aD (aF aD (aF aD (aF aD aE))))))) (cP GD hr rfl mD Y bD .nil dU (aF (pv 0) (aF aD aE))) Iv))
   (aB (aR (i:=8) nd rfl (Az rfl) (lE PySem.F.plainAttrs_str PySem.F.slot_str_join PySem.F.type_str_join aGo aO (aF (dF (N:=["_law_k","_law_pen_here","_law_letters"]) (src:=[none,some 0,some 2]) (osc:=aQ n9) (oN:=["_law_pen_here","_law_many","_law_letters","_law_terms","_law_way","_law_first","_law_found","_law_step","_law_base","_law_spot","_law_k","_law_number","_law_tail","_law_pair"]) ⟨by rfl,by decide,by decide,by decide,rfl,by rfl⟩ (eB rfl J (aF (cP GD hr rfl mD Y bD .nil dU (aF (pv 0) (aF aD aE))) aE)) (fun cl s H fp im C=>⟨aV (i:=0) (show(["_law_k","_law_pen_here","_law_letters"]:List Str).Nodup by decide) rfl (Az rfl),dE,aW p7 (pv 2) (cP GD hr rfl mD Y bD .nil dU (aF (pv 1) (aF aD aE))) Iv⟩)) aE)))
   (aB (aR (i:=9) nd rfl (Az rfl) (cP GD hr rfl mD Y bD .nil dU (aF (pv 0) (aF (aY cQ (aX oO (by rfl) Z A1 (aF (pv 8) aE)) aD) aE))))
   (aB (aR (i:=6) nd rfl (Az rfl) (dA aE))
   (aB (dY Bj rfl (eB rfl J (aF (pv 1) aE)) (g:=aS 10) (aV (i:=10) nd rfl (Az rfl))
   (aB (aR (i:=11) nd rfl (Az rfl) (aY eO (aY cQ (pv 5) (aY dZ (pv 7) (pv 10))) aD))
    (aB (aR (i:=12) nd rfl (Az rfl) (g9 aBi (pv 8) (jC (pv 9)) jB))
    (aB (eQ <| cD (aZ cV (pv 4) aD (bJ _)) (aM (aR (i:=12) nd rfl (Az rfl) (g9 aBi (pv 12) jB (jC (cP GD hr rfl mD Y bD .nil dU (aF (pv 0) (aF (aY cQ (aX oO (by rfl) Z A1 (aF (pv 12) aE)) aD) aE))))))) bF)
    (aB (aR (i:=13) nd rfl (Az rfl) (aY iS (aW p7 (pv 2) (aY mV (pv 11) aD) Iv) (aW p7 (pv 2) (aY eO (pv 11) aD) Iv)))
    (aM (dP (lE Bd B0 BZ gE (pv 6) (aF (aY iS (aY iS (g9 aBi (pv 8) jB (jC (pv 9))) (pv 13)) (pv 12)) aE)))))))))
   (aM (bT (pv 6)))))))))))))),?_⟩
  have zA:abc.length<=sizeLine:=aP (by rw[aGA];decide);refine⟨aKo,fun lt bq=>?_⟩;have st:=aJ (o:=.lst (t12.map V.str)) bq;refine⟨_,rfl,p,c,ns,a,5,rfl,hp.same st,by omega,by decide,by decide,fun av a1 H1 cg w5 cf c0 al ao=>?_⟩;refine⟨_,rfl,p,c,ns,a1,676,rfl,al,by omega,by decide,by decide,fun fi a2 H2 f0 b1 df cv aa aL=>?_⟩;obtain⟨f,rfl⟩:∃ f:Nat,fi=f:=⟨fi.toNat,by omega⟩
  have k2:bA p H H2:=(st.but.trans ao).trans aL;have bO:H2 lt=some (.lst (t12.map V.str)):=cT (cT aA (hp.same st) ao) al aL;clear al ao st;refine⟨_,rfl,rfl,_,rfl,dB (fun g0=>?_) (fun g0=>?_)⟩
  .refine⟨_,rfl,_,_,rfl,_,rfl,?_⟩;have a0:(if (12:Int)<(m:Int) then(12:Int) else(m:Int))=((min m 12:Nat):Int):=by
    split<;>omega
   rw[a0];refine⟨by omega,by omega,?_⟩;rw[Cb];refine gU (n:=min m 12) (fun i ys G H'=>∃(o:Option V),G=[o,some (.ref lt),some (.int f)]/\H'=H2/\ys=((A3 i).map (w0 f)).map V.str) ⟨none,rfl,rfl,rfl⟩ (aP (by omega)) (fun i ys σ H p=>by obtain⟨_,_,_,e⟩:=p;rw[e];simp) ?_ ?_
   .rintro i ys G H' hi ⟨o,rfl,rfl,rfl⟩;dsimp only[aS];refine gI ?_;have aC:atI (t12.map V.str) (((f:Int)+7*(0+(i:Int)))%12)=some (.str (w0 f i)):=by
     have h:(f+7*i)%12<t12.length:=by show _<12;omega
     have e:=fU (xs:=t12.map V.str) (j:=(f+7*i)%12) (v:=.str (w0 f i)) (by
      rw[Au,Ai h];unfold w0;rw[DA,Ai h];rfl)
     rw[show(((f:Int)+7*(0+(i:Int)))%12)=(((f+7*i)%12:Nat):Int) by omega];exact e
    exact⟨_,rfl,_,rfl,_,rfl,_,_,rfl,rfl,.inl ⟨by decide,by decide⟩,_,_,rfl,rfl,_,_,rfl,rfl,(by show(0:Int)<12;decide),lt,_,_,_,rfl,rfl,aU bO,aC,_,rfl,rfl,by rw[DL];simp⟩
   .rintro ys G H' ⟨o,rfl,rfl,rfl⟩ D hD;have sD:=aJ (o:=.lst (((A3 (min m 12)).map (w0 f)).map V.str)) hD;have eD:upd H' D (.lst (((A3 (min m 12)).map (w0 f)).map V.str)) D=some (.lst (((A3 (min m 12)).map (w0 f)).map V.str)):=aA;have am:=aa.same sD;have Y:=k2.same sD;generalize upd H' D (.lst (((A3 (min m 12)).map (w0 f)).map V.str))=H3 at eD am Y ⊢;refine⟨_,rfl,_,rfl,_,rfl,D,_,rfl,.inl (aU eD),_,_,rfl,rfl,_,rfl,?_⟩;rw[show((m:Int)-((((A3 (min m 12)).map (w0 f)).map V.str).length:Nat))=((m-min m 12:Nat):Int) by simp;omega];refine⟨by omega,by omega,?_⟩;rw[Cb];refine gU (n:=m-min m 12) (fun i ys G H'=>∃(o:Option V),G=[o,some (.str abc)]/\H'=H3/\ys=((A3 i).map q0).map V.str) ⟨none,rfl,rfl,rfl⟩ (aP (by omega)) (fun i ys σ H p=>by obtain⟨_,_,_,e⟩:=p;rw[e];simp) ?_ ?_
    .rintro i ys G H' hi ⟨o,rfl,rfl,rfl⟩;dsimp only[aS];refine gI ?_;refine⟨_,rfl,_,rfl,_,_,rfl,rfl,⟨by decide,by decide⟩,_,_,e8 (i/26),rfl,rfl,zA,?_,_,_,rfl,rfl,aP (by show 1+1<=1000000;decide),_,rfl,_,rfl,_,_,rfl,rfl,(by show(0:Int)<26;decide),_,_,e8 i,rfl,rfl,zA,?_,_,_,rfl,rfl,aP (by show 2+1<=1000000;decide),?_⟩
     .rw[xS (by omega) (by omega)];unfold e8;congr 1;omega
     .exact xU _ (by omega)
     .exact⟨_,rfl,rfl,by rw[DL];simp;rfl⟩
    .rintro ys G H' ⟨o,rfl,rfl,rfl⟩ E2 bW;have sE:=aJ (o:=.lst (((A3 (m-min m 12)).map q0).map V.str)) bW;refine⟨D,E2,_,_,rfl,rfl,sE _ _ eD,aA,aP (by simp;omega),fun L hL=>?_⟩;have sL:=aJ (o:=.lst (((A3 (min m 12)).map (w0 f)).map V.str++((A3 (m-min m 12)).map q0).map V.str)) hL;refine k L _ a2 _ ?_ (by rw[aA,<- Ar]) (by simp;omega) (nm0 hm) (by omega) (by omega) ((am.same sE).same sL) ((Y.same sE).same sL);exact lB (am.same sE) (Y.same sE) hL
  .refine⟨fun G H'=>G=[some (.ref p),some (.int m),some (.str abc),some (.ref lt),some (.int av),some (.int f),none,none,none,none,none,none,none,none]/\H'=H2,?_,?_⟩
   .refine⟨_,rfl,rfl,_,rfl,dB (fun g1=>?_) (fun g1=>nE ⟨rfl,rfl⟩)⟩;refine⟨_,rfl,_,_,rfl,rfl,_,rfl,dB (fun g2=>?_) (fun g2=>⟨rfl,rfl⟩)⟩;have bi:m<27:=by have:=Iu g2;omega
    refine⟨_,rfl,_,rfl,by omega,by omega,?_⟩;rw[Cb];refine gU (n:=m) (fun i ys G H'=>∃(o:Option V),G=[o,some (.str abc),some (.int f)]/\H'=H2/\ys=((A3 i).map (w1 f)).map V.str) ⟨none,rfl,rfl,rfl⟩ (aP (by omega)) (fun i ys σ H p=>by obtain⟨_,_,_,e⟩:=p;rw[e];simp) ?_ ?_
    .rintro i ys G H' hi ⟨o,rfl,rfl,rfl⟩;dsimp only[aS];refine gI ?_;exact⟨_,rfl,_,rfl,_,rfl,_,_,rfl,rfl,.inl ⟨by decide,by decide⟩,_,_,rfl,rfl,_,_,rfl,rfl,(by show(0:Int)<26;decide),_,_,e8 (f+5*i),rfl,rfl,zA,xU _ (by omega),_,rfl,rfl,by rw[DL];simp;rfl⟩
    .rintro ys G H' ⟨o,rfl,rfl,rfl⟩ L hL;have sL:=aJ (o:=.lst (((A3 m).map (w1 f)).map V.str)) hL;exact k L _ a2 _ (lB aa k2 hL) aA (by simp) (nm1 bi) (by omega) (by omega) (aa.same sL) (k2.same sL)
   .rintro G H' ⟨rfl,rfl⟩;refine⟨zZ6,fun q hq=>?_⟩;have sq:=aJ (o:=.lst [V.int 1,.int 5,.int 27,.int 85,.int 181,.int 335]) hq;refine⟨_,rfl,p,c,ns,a2,6,rfl,aa.same sq,by omega,by decide,by decide,fun r3 a3 H3 br cy cm dl bw be=>?_⟩;obtain⟨v,hv,aC⟩:=aH8 (xs:=[V.int 1,.int 5,.int 27,.int 85,.int 181,.int 335]) (i:=r3) br (by show r3<6;omega);obtain⟨sp,rfl,hsp⟩:∃ s:Nat,v=.int s/\s∈[1,5,27,85,181,335]:=by
     simp only[An,AC,or_false]at hv;rcases hv with rfl|rfl|rfl|rfl|rfl|rfl
     .exact⟨1,rfl,by simp⟩
     .exact⟨5,rfl,by simp⟩
     .exact⟨27,rfl,by simp⟩
     .exact⟨85,rfl,by simp⟩
     .exact⟨181,rfl,by simp⟩
     .exact⟨335,rfl,by simp⟩
    have k3:=(k2.same sq).trans be;refine⟨q,_,r3,_,rfl,rfl,aU (cT aA (aa.same sq) be),aC,rfl,_,rfl,p,c,ns,a3,7,rfl,bw,by omega,by decide,by decide,fun n4 a4 H4 cz cL cs dd bx bz=>?_⟩;refine⟨n4,rfl,by omega,by omega,?_⟩;have k4:=k3.trans bz;refine gU (fun i ys G H'=>∃(a':Int) (bs:List Nat) (o:Option V),G=[o,some (.ref p),some (.str abc)]/\c9 K H' p c ns a'/\bA p H H'/\a4<=a'/\a'<=a4+i/\ys=(bs.map fun c=>mk [c]).map V.str/\bs.length=i/\(∀ c∈bs,isL c=true))
     ⟨a4,[],none,rfl,bx,k4,by omega,by omega,rfl,rfl,fun w hw=>by simp at hw⟩ (aP (by omega)) (fun i ys σ H p=>by obtain⟨_,bs,_,_,_,_,_,_,rfl,e,_⟩:=p;rw[Aa,Aa,e];exact Aj _) ?_ ?_
    .rintro i' ys G H5 cr ⟨a',bs,o,rfl,au,aj,c1,dc,rfl,hl,hb⟩;dsimp only[aS];refine gI ?_;refine⟨_,rfl,_,rfl,p,c,ns,a',_,rfl,au,by omega,by decide,by decide,fun r6 a6 H6 bP bE l6 u6 ad ae=>?_⟩;refine⟨_,r6,e8 r6.toNat,rfl,rfl,zA,xS bP bE,a6,bs++[e8 r6.toNat],_,rfl,ad,aj.trans ae,by omega,by omega,by rw[Ar,Ar];rfl,by rw[Av,hl];rfl,fun c hc=>?_⟩;rcases AO.mp hc with z|z
     .exact hb c z
     .rw[AK.mp z];exact uB _
    .rintro ys G H5 ⟨a5,b,o,rfl,au,aj,l5,u5,rfl,cu,hb⟩ D hD;have an:b.length<=6:=by omega
     have e0:(Bv "").length=0:=by decide
     refine⟨_,D,b.map (fun c=>mk [c]),rfl,rfl,aU aA,by
      rw[aGI (fun w hw=>by obtain⟨x,_,rfl⟩:=AL.mp hw;rfl),Aa,e0];omega,?_⟩
     rw[aGG];have ad:=au.same (aJ (o:=.lst ((b.map fun c=>mk [c]).map V.str)) hD);have ae:bA p H _:=aj.same (aJ (o:=.lst ((b.map fun c=>mk [c]).map V.str)) hD);generalize upd H5 D (.lst ((b.map fun c=>mk [c]).map V.str))=H6 at ad ae ⊢;refine⟨_,rfl,_,rfl,mk b,rfl,aP (by rw[iH];omega),_,_,rfl,rfl,p,c,ns,a5,_,rfl,ad,by omega,by omega,by rw[iH];omega,fun ss a7 H7 s0 s1 l7 u7 ba bv=>?_⟩;rw[iH]at s1;obtain⟨st,rfl⟩:∃ st:Nat,ss=st:=⟨ss.toNat,by omega⟩
     refine⟨A8 _,fun L hL=>?_⟩;have bd:=ae.trans bv;have bg:=lB ba bd hL;have sL:=aJ (o:=.lst []) hL;have cq:=aJH hsp;refine⟨_,rfl,m,rfl,by omega,by omega,mU (n:=(m:Int).toNat) (fun i σ H'=>Ex3 fun(ai aq ar:Option V)=>Ex3 fun(ab:Option V) (a':Int) (ws:List Str)=>Aw6 (σ=[some (.ref p),some (.int m),some (.str abc),some (.ref lt),some (.int av),some (.int f),some (.ref L),some (.int sp),some (.str (mk b)),some (.int st),ai,aq,ar,ab]) (c9 K H' p c ns a') (bA p H H') (a7<=a') (a'<=a7+i) (Aw3 (H' L=some (.lst (ws.map V.str))) (ws.length=i) (Nms ws/\∀ z∈ws,∃ k t,k<i/\z=w2 b st ((f+sp*k)%676) t)))
      ⟨_,_,_,_,a7,[],rfl,ba.same sL,bd.same sL,by omega,by omega,aA,rfl,⟨EL,fun z hz=>by simp at hz⟩,fun z hz=>by simp at hz⟩ ?_ ?_⟩
     .rintro i σ H8 hi ⟨ai,aq,ar,ab,a8,ws,rfl,O,k8,l8,u8,eL,bc,hN,hW⟩;dsimp only[aS];have zB:(mk b).length<=sizeLine:=aP (by rw[iH];omega);refine⟨_,rfl,_,rfl,_,rfl,_,_,rfl,rfl,.inl ⟨by omega,by omega⟩,_,_,rfl,rfl,_,_,rfl,rfl,(by show(0:Int)<676;decide),?_⟩;dsimp only[aS];rw[show(((f:Int)+(sp:Int)*(0+(i:Int)))%676)=(((f+sp*i)%676:Nat):Int) by rw[EE,<- Int.natCast_mul,<- CP];rfl];have hn:(f+sp*i)%676<676:=Nat.mod_lt _ (by decide);have ah:∀ k,k<i->(f+sp*k)%676≠(f+sp*i)%676:=fun k hk e=>by
       have:=aGH hsp (by omega) (by omega) e;omega
      generalize bN:(f+sp*i)%676=n at hn ah ⊢;refine⟨_,rfl,_,rfl,_,rfl,mk b,rfl,zB,?_⟩;rw[aGF an (by omega)];refine⟨fun G H'=>∃(t:Nat) (a':Int),G=[some (.ref p),some (.int m),some (.str abc),some (.ref lt),some (.int av),some (.int f),some (.ref L),some (.int sp),some (.str (mk b)),some (.int st),some (.int (0+i)),some (.int n),some (.str (mk ((b.drop st).take t))),ab]/\c9 K H' p c ns a'/\bA p H H'/\a8<=a'/\a'<=a8+1/\H' L=some (.lst (ws.map V.str)),?_,?_⟩
      .refine⟨_,rfl,rfl,_,rfl,dB (fun g=>?_) (fun g=>?_)⟩
       .have zT:(mk (b.drop st)).length<=sizeLine:=aP (by rw[iH,B3];omega);refine⟨_,rfl,_,rfl,_,rfl,mk (b.drop st),rfl,zT,_,_,rfl,rfl,p,c,ns,a8,_,rfl,O,by omega,by omega,by rw[iH,B3];omega,fun r a9 H9 r0 r1 l9 u9 ak k9=>?_⟩;rw[iH]at r1;obtain⟨t,rfl⟩:∃ t:Nat,r=t:=⟨r.toNat,by omega⟩
        refine⟨_,rfl,_,rfl,zT,?_⟩;rw[aHw (by rw[B3];omega) (by omega)];exact⟨t,a9,rfl,ak,k8.trans k9,by omega,by omega,cT eL O k9⟩
       .exact⟨b.length,a8,by rw[A9 (by rw[B3];omega)];rfl,O,k8,by omega,by omega,eL⟩
      .rintro G H9 ⟨t,a9,rfl,ak,k9,l9,u9,ax⟩;refine⟨_,rfl,_,rfl,_,_,rfl,rfl,⟨by decide,by decide⟩,_,_,e8 (n/26),rfl,rfl,zA,?_,_,rfl,_,rfl,_,_,rfl,rfl,(by show(0:Int)<26;decide),_,_,e8 n,rfl,rfl,zA,?_,_,_,rfl,rfl,aP (by show 1+1<=1000000;decide),?_⟩
       .rw[xS (by omega) (by omega)];unfold e8;congr 1
       .exact xU _ (by omega)
       have bh:∀{x y},(EH (mk b) x y).length<=6:=fun{x y}=>Ay (FA _ x y) (by rw[iH];omega);have h2:((⟨#[e8 (n/26)]⟩:Str)++⟨#[e8 n]⟩).length=2:=rfl;have h3:(mk ((b.drop st).take t)).length<=6:=by rw[iH,AJ,B3];omega
       refine⟨_,rfl,.inl ⟨rfl,_,aU ax⟩,_,rfl,_,rfl,_,rfl,mk b,rfl,zB,_,rfl,_,_,rfl,rfl,aP (by have:=bh (x:=none) (y:=some (st:Int));omega),_,rfl,_,_,rfl,rfl,aP (by have:=bh (x:=none) (y:=some (st:Int));rw[C6];omega),L,_,_,rfl,rfl,ax,by rw[Aa];exact c5 (by omega),?_⟩;have ew:(EH (mk b) none (some (st:Int))++((⟨#[e8 (n/26)]⟩:Str)++⟨#[e8 n]⟩))++mk ((b.drop st).take t)=w2 b st n t:=by
        rw[aHw an (by omega)];rw[show((⟨#[e8 (n/26)]⟩:Str)++⟨#[e8 n]⟩)=mk [e8 (n/26),e8 n] from rfl,aE6,aE6];rfl
       rw[ew];obtain⟨hpA,kA⟩:=c9.app (ys:=ws.map V.str++[V.str (w2 b st n t)]) hp ak k9 bg ax;refine⟨_,_,_,_,a9,ws++[w2 b st n t],rfl,hpA,kA,by omega,by omega,by rw[aA,Ar];rfl,by rw[Av,bc];rfl,⟨Bu.mpr ⟨hN.nd,(by simp),fun x hx y hy e=>?_⟩,fun z hz=>?_⟩,fun z hz=>?_⟩
       .rw[AK.mp hy]at e;obtain⟨k',t',hk',rfl⟩:=hW x hx;exact ah k' hk' (aIx (Nat.mod_lt _ (by decide)) hn e)
       .rcases AO.mp hz with hz|hz
        .exact hN.ok z hz
        .rw[AK.mp hz];exact aJG an hb
       .rcases AO.mp hz with hz|hz
        .obtain⟨k',t',hk',e⟩:=hW z hz;exact⟨k',t',by omega,e⟩
        .exact⟨i,t,by omega,by rw[bN];exact AK.mp hz⟩
     .rintro σ H8 ⟨ai,aq,ar,ab,a8,ws,rfl,O,k8,l8,u8,eL,bc,hN,hW⟩;exact⟨_,rfl,k L ws a8 H8 bg eL (by omega) hN (by omega) (by omega) O k8⟩
abbrev Pc:=Str×Int×Int
def pcT(p:Pc):HO:=.tup [.str p.1,.int p.2.1,.int p.2.2]
def dI(H:Hp)(xs:List V)(ps:List Pc):Prop:=BI (fun(x:V) (p:Pc)=>∃ q,x=.ref q/\H q=some (pcT p)) xs ps
def fT(H H':Hp):Prop:=∀ q xs,H q=some (.tup xs)->H' q=some (.tup xs)
theorem bV{H H':Hp}(s:b8 H H'):fT H H':=fun q xs e=>s _ _ e
theorem dI.on{H H':Hp}{xs:List V}{ps:List Pc}(h:dI H xs ps)(t:fT H H'):dI H' xs ps:=Paired.mapP h fun x p ⟨q,e,F⟩=>⟨q,e,t _ _ F⟩
theorem dI.same{H H':Hp}{xs:List V}{ps:List Pc}(h:dI H xs ps)(s:b8 H H'):dI H' xs ps:=h.on fun q xs e=>s _ _ e
theorem Cg{α β:Type}{R:α->β->Prop}{a:α}{b:β}(r:R a b):∀{as:List α}{bs:List β},BI R as bs->BI R (as++[a]) (bs++[b])
 | _,_,.nil=>.cons r .nil
 | _,_,.cons q t=>.cons q (Cg r t)
theorem Paired.app{α β:Type}{R:α->β->Prop}:∀{as G:List α}{bs F:List β},BI R as bs->BI R G F->BI R (as++G) (bs++F)
 | _,_,_,_,.nil,s=>s
 | _,_,_,_,.cons q t,s=>.cons q (Paired.app t s)
theorem dI.at{H:Hp}{xs:List V}{ps:List Pc}(h:dI H xs ps){i:Nat}{x:V}(e:xs[i]?=some x):∃ p q,ps[i]?=some p/\x=.ref q/\H q=some (pcT p):=by
 have hl:=Bm h;obtain⟨hi,_⟩:=Al.mp e;obtain⟨q,e1,e2⟩:=Paired.at h e (Ai (show i<ps.length by omega));exact⟨_,q,Ai (by omega),e1,e2⟩
def jP(p:Pc):Int:=p.2.2-p.2.1
def acr(ps:List Pc):Int:=(ps.map jP).sum
theorem aAe(p:Pc)(ps:List Pc):acr (p::ps)=jP p+acr ps:=by simp[acr]
theorem aGJ(ps qs:List Pc):acr (ps++qs)=acr ps+acr qs:=by simp[acr]
structure aKH(ws:List Str)(ps:List Pc):Prop where
 ok:∀ p∈ps,p.1∈ws/\p.2.1<p.2.2
def rA(f:Str)(s e:Int):List Pc:=if s<e then[(f,s,e)] else[]
def iZ(p:Pc)(lo hi:Int):List Pc:=rA p.1 (if p.2.1+lo>p.2.1 then p.2.1+lo else p.2.1) (if p.2.1+hi<p.2.2 then p.2.1+hi else p.2.2)
def oB:List Pc->Int->Int->List Pc
 | [],_,_=>[]
 | p::r,lo,hi=>iZ p lo hi++oB r (lo-jP p) (hi-jP p)
theorem wB(p:Pc):∀(ps:List Pc) (lo hi:Int),oB (ps++[p]) lo hi=oB ps lo hi++iZ p (lo-acr ps) (hi-acr ps)
 | [],lo,hi=>by simp[oB,acr]
 | q::ps,lo,hi=>by
  show iZ q lo hi++oB (ps++[p]) (lo-jP q) (hi-jP q)=(iZ q lo hi++oB ps (lo-jP q) (hi-jP q))++_;rw[wB p ps,AF,aAe,Int.sub_sub,Int.sub_sub]
theorem aDD(f:Str)(s e:Int):(rA f s e).length<=1:=by
 unfold rA;split<;>simp
theorem aDE(p:Pc)(lo hi a:Int):iZ p (lo-a) (hi-a)=rA p.1 (if p.2.1+lo-a>p.2.1 then p.2.1+lo-a else p.2.1) (if p.2.1+hi-a<p.2.2 then p.2.1+hi-a else p.2.2):=by
 unfold iZ;rw[Int.add_sub_assoc,Int.add_sub_assoc]
theorem aAf:∀(ps:List Pc) (lo hi:Int),(oB ps lo hi).length<=ps.length
 | [],_,_=>Aj _
 | p::r,lo,hi=>by
  have:=aAf r (lo-jP p) (hi-jP p);have h2:(iZ p lo hi).length<=1:=aDD _ _ _;show(iZ p lo hi++oB r (lo-jP p) (hi-jP p)).length<=_;rw[Av,AR];omega
inductive wC(vs:List V)(H:Hp)(Q:VK)(u3_:XK):Prop
 | mk (t:Af) (xs:List V) (ps:List Pc) (q0:vs=[.ref t]) (q1:H t=some (.tup xs)) (q2:dI H xs ps) (q3:xs.length<=sizeLine) (q4:∀ H',b8 H H'->Q (.int (acr ps)) H'):wC vs H Q u3_
def aCs:Sp:=fun vs H Q u3_=>wC vs H Q u3_
inductive aCt(vs:List V)(H:Hp)(Q:VK)(u3_:XK):Prop
 | mk (t:Af) (xs:List V) (ps:List Pc) (lo hi:Int) (q0:vs=[.ref t,.int lo,.int hi]) (q1:H t=some (.tup xs)) (q2:dI H xs ps) (q3:xs.length<=sizeLine) (q4:∀(t':Af) (ys:List V) (H':Hp),b8 H H'->H' t'=some (.tup ys)->dI H' ys (oB ps lo hi)->Q (.ref t') H'):aCt vs H Q u3_
def aHz:Sp:=fun vs H Q u3_=>aCt vs H Q u3_
theorem aGK:cB ["pieces"] ["pieces"] (aQ xL):=⟨rfl,rfl,rfl,by decide,rfl,by decide,by decide⟩
theorem aFd{f:Af}{fd:Be}(F:Fun K "acres_in" "acres_in" xL f fd)(G:mg "sum"=none):cW P w K mg base CX0 1 f fd ["pieces"] aCs:=by
 refine F.ok aGK (fun vs H Q E h=>?_) (fun ab A outer s H vs Q E hr h=>?_)
 .obtain⟨t,xs,ps,rfl,_⟩:=h;rfl
 .obtain⟨t,xs,ps,rfl,ht,hps,hz,k⟩:=h;have nd:(["field","low","high"]:List Str).Nodup:=by decide
  refine⟨_,aM (bT (aX (tQ rfl) (by rfl) G EU (aF (dF (N:=["field","low","high"]) (src:=[none,none,none]) (osc:=aQ xL) (oN:=["pieces"]) (g:=rG K 3 (dH (aS 0) (dH (aS 1) (dH (aS 2) rF)))) ⟨by rfl,by decide,by decide,by decide,rfl,by rfl⟩ (dQ (pv 0))
   fun cl s H fp im C=>⟨f6 rfl (bK (aV (i:=0) nd rfl (Az rfl)) (bK (aV (i:=1) nd rfl (Az rfl)) (bK (aV (i:=2) nd rfl (Az rfl)) dX))),dE,aY kK (pv 2) (pv 1)⟩) aE))),?_⟩
  have hl:=Bm hps;refine⟨_,rfl,t,rfl,⟨_,aN ht⟩,?_⟩;refine d9 (K:=K) (xs:=xs) (fun i ys Z H'=>Ex3 fun(J O Y:Option V)=>Aw3 (Z=[J,O,Y]) (b8 H H') (ys=((ps.take i).map jP).map V.int)) ⟨none,none,none,rfl,b8.refl H,by simp⟩
   hz (fun i ys σ H' p=>by obtain⟨_,_,_,_,_,rfl⟩:=p;simp;omega) (fun i ys σ H' p=>by obtain⟨_,_,_,_,S,_⟩:=p;exact aN (S _ _ ht)) ?_ ?_
  .rintro i v ys Z H1 hv ⟨J,O,Y,rfl,S,rfl⟩;obtain⟨p,q,hp,rfl,hq⟩:=hps.at hv;refine⟨q,_,rfl,aN (S _ _ hq),rfl,_,_,rfl,_,_,rfl,_,_,rfl,rfl,gI ?_⟩;refine⟨_,rfl,_,rfl,_,_,rfl,rfl,_,_,_,rfl,S,?_⟩;rw[AA,hp];simp[jP]
  .rintro ys Z H1 ⟨J,O,Y,rfl,S,rfl⟩ D hD;rw[hl,AN];exact⟨D,ps.map jP,rfl,aU aA,k _ (S.trans (aJ hD))⟩
theorem pI:cB ["pieces","low","high","told","ahead","field","first","last","start","end"] ["pieces","low","high"] (aQ aIk):=⟨rfl,rfl,rfl,by decide,rfl,by decide,by decide⟩
theorem aIy{f:Af}{fd:Be}(F:Fun K "cut" "cut" aIk f fd)(Y:mg "max"=none)(ad:mg "min"=none)(Z:mg "tuple"=none):cW P w K mg base CX0 1 f fd ["pieces","low","high"] aHz:=by
 refine F.ok pI (fun vs H Q E h=>?_) (fun au A outer s H vs Q E hr h=>?_)
 .obtain⟨t,xs,ps,lo,hi,rfl,_⟩:=h;rfl
 .obtain⟨t,xs,ps,lo,hi,rfl,ht,hps,hz,k⟩:=h;refine⟨_,aB (aR (i:=3) pI.nd rfl (Az rfl) (dA aE))
   (aB (aR (i:=4) pI.nd rfl (Az rfl) aD)
   (aB (dY Bj rfl (dQ (pv 0)) (g:=rG K 3 (dH (aS 5) (dH (aS 6) (dH (aS 7) rF)))) (f6 rfl (bK (aV (i:=5) pI.nd rfl (Az rfl)) (bK (aV (i:=6) pI.nd rfl (Az rfl)) (bK (aV (i:=7) pI.nd rfl (Az rfl)) dX))))
    (aB (aR (i:=8) pI.nd rfl (Az rfl) (aX (vM rfl) (by rfl) Y (by kernel_rfl) (aF (pv 6) (aF (aY kK (aY cQ (pv 6) (pv 1)) (pv 4)) aE))))
    (aB (aR (i:=9) pI.nd rfl (Az rfl) (aX (mX rfl) (by rfl) ad (by kernel_rfl) (aF (pv 7) (aF (aY kK (aY cQ (pv 6) (pv 2)) (pv 4)) aE))))
    (aB (cD (aZ qQ (pv 8) (pv 9) (bJ _)) (aM (dP (lE Bd B0 BZ gE (pv 3) (aF (cO (aF (pv 5) (aF (pv 8) (aF (pv 9) aE)))) aE)))) bF)
    (aM (aDZ (i:=4) pI.nd rfl (Az rfl) (aY kK (pv 7) (pv 6)) aD0))))))
   (aM (bT (c8 dR (by rfl) Z (by kernel_rfl) (aF (pv 3) aE)))))),?_⟩
  have hl:=Bm hps;refine⟨A8 _,fun L hL=>?_⟩;have sL:=aJ (o:=.lst []) hL;refine⟨_,rfl,t,rfl,⟨_,aN (sL _ _ ht)⟩,?_⟩;refine iM (K:=K) (xs:=xs) (fun i σ H'=>Ex3 fun(o5 o6 o7:Option V)=>Ex3 fun(o8 o9:Option V) (ys:List V)=>Aw3 (σ=[some (.ref t),some (.int lo),some (.int hi),some (.ref L),some (.int (acr (ps.take i))),o5,o6,o7,o8,o9]) (b8 H H') (H' L=some (.lst ys)/\dI H' ys (oB (ps.take i) lo hi)))
   ⟨none,none,none,none,none,[],rfl,sL,aA,.nil⟩ (fun i σ H' _ p=>by obtain⟨_,_,_,_,_,_,_,S,_⟩:=p;exact aN (S _ _ ht)) ?_ ?_
  .rintro i v σ H1 hv ⟨o5,o6,o7,o8,o9,ys,rfl,S,G,O⟩;obtain⟨p,q,hp,rfl,hq⟩:=hps.at hv;refine⟨q,_,rfl,aN (S _ _ hq),rfl,_,_,rfl,_,_,rfl,_,_,rfl,rfl,_,rfl,_,rfl,_,rfl,_,_,rfl,rfl,_,rfl,_,_,rfl,rfl,_,_,rfl,_,rfl,_,rfl,_,rfl,_,_,rfl,rfl,_,rfl,_,_,rfl,rfl,_,_,rfl,_,rfl,_,rfl,_,_,rfl,rfl,_,rfl,?_⟩;have ea:acr (ps.take (i+1))=acr (ps.take i)+(p.2.2-p.2.1):=by
    rw[AA,hp,aGJ];simp[acr,jP]
   have J:=wB p (ps.take i) lo hi;rw[aDE]at J;have et:ps.take (i+1)=ps.take i++[p]:=by rw[AA,hp];rfl
   rw[<- et]at J;have ar:=Bm O;have al:=aAf (ps.take i) lo hi;have an:=List.length_take_le i ps;refine dB (fun g=>?_) fun g=>?_
   .have g':=Iu g;unfold rA at J;rw[Iq g']at J;refine⟨_,rfl,.inl ⟨rfl,_,aU G⟩,_,rfl,_,rfl,_,rfl,zZ3,fun q2 ab=>?_⟩;have s2:=aJ (o:=pcT (p.1,(if p.2.1+lo-acr (ps.take i)>p.2.1 then p.2.1+lo-acr (ps.take i) else p.2.1),(if p.2.1+hi-acr (ps.take i)<p.2.2 then p.2.1+hi-acr (ps.take i) else p.2.2))) ab;have af:L≠q2:=aH G ab;refine⟨L,ys,_,rfl,rfl,s2 _ _ G,?_,?_⟩
    .obtain⟨hi',_⟩:=Al.mp hp;rw[AJ]at an al;omega
    .refine⟨_,rfl,_,rfl,_,rfl,_,_,rfl,rfl,_,_,rfl,rfl,_,_,_,_,_,ys++[.ref q2],by rw[ea];rfl,fun b o e=>?_,aA,?_⟩
     .rw[aG (aH e hL)];exact s2 _ _ (S _ _ e)
     .rw[J];have aj:=O.on (H':=upd (upd H1 q2 _) L (.lst (ys++[.ref q2]))) fun b us e=>by
       rw[aG (fun z=>by rw[z,G]at e;cases e)];exact s2 _ _ e
      exact Cg ⟨q2,rfl,by rw[aG af.symm];exact aA⟩ aj
   .have g':¬ _:=fun z=>g (Ir z);unfold rA at J;rw[Ip g',A6]at J;exact⟨_,rfl,_,rfl,_,rfl,_,_,rfl,rfl,_,_,rfl,rfl,_,_,_,_,_,ys,by rw[ea];rfl,S,G,by rw[J];exact O⟩
  .rintro σ H1 ⟨o5,o6,o7,o8,o9,ys,rfl,S,G,O⟩;rw[hl,AN]at O;refine⟨_,rfl,L,ys,rfl,.inl ⟨aU G,fun t' ah=>?_⟩⟩;have s2:=aJ (o:=.tup ys) ah;exact k t' ys _ (S.trans s2) aA (O.same s2)
abbrev UK:=Str×Nat
def e9(ps:List Pc)(p:Pc):List Pc:=match ps.getLast? with
 | some q=>if q.1=p.1/\q.2.2=p.2.1 then ps.dropLast++[(p.1,q.2.1,p.2.2)] else ps++[p]
 | none=>ps++[p]
def mrg(ps:List Pc):List Pc:=ps.foldl e9 []
theorem aAg(p:Pc):e9 [] p=[p]:=rfl
theorem dJ(ps:List Pc)(q p:Pc):e9 (ps++[q]) p=if q.1=p.1/\q.2.2=p.2.1 then ps++[(p.1,q.2.1,p.2.2)] else ps++[q,p]:=by
 unfold e9;rw[List.getLast?_concat,List.dropLast_concat];dsimp only;split
 .rfl
 .rw[AF];rfl
theorem uD{α:Type}(l:List α):l=[]\/∃ r x,l=r++[x]:=by
 rcases List.eq_nil_or_concat l with h|⟨r,x,h⟩
 .exact .inl h
 .exact .inr ⟨r,x,by rw[h,List.concat_eq_append]⟩
theorem aFe(F:List Pc)(f:Str)(a b c:Int):e9 (e9 F (f,a,b)) (f,b,c)=e9 F (f,a,c):=by
 rcases uD F with rfl|⟨r,q,rfl⟩
 .rw[aAg,aAg];exact(dJ [] _ _).trans (Iq ⟨rfl,rfl⟩)
 .rw[dJ,dJ];dsimp only;split
  .rw[dJ,Iq ⟨rfl,rfl⟩]
  .rw[show r++[q,(f,a,b)]=(r++[q])++[(f,a,b)] by rw[AF];rfl,dJ,Iq ⟨rfl,rfl⟩,AF];rfl
def i0(sc:Int)(k:UK):Pc:=(k.1,(k.2:Int)*sc,(k.2:Int)*sc+sc)
def run(f:Str)(a n:Nat):List UK:=(F0 a n).map fun i=>(f,i)
theorem lZ(f:Str)(a n:Nat):run f a (n+1)=(f,a)::run f (a+1) n:=by
 unfold run;rw[List.range'_succ];rfl
theorem aAh(sc:Int)(f:Str):∀(n a:Nat) (x:Int) (F:List Pc),((run f a n).map (i0 sc)).foldl e9 (e9 F (f,x,(a:Int)*sc))=e9 F (f,x,((a+n:Nat):Int)*sc)
 | 0,a,x,F=>rfl
 | n+1,a,x,F=>by
  rw[lZ,Aq,Bh];show Fu e9 (e9 (e9 F (f,x,(a:Int)*sc)) (f,(a:Int)*sc,(a:Int)*sc+sc)) _=_;have e:(a:Int)*sc+sc=((a+1:Nat):Int)*sc:=by rw[CP,Fb];omega
  rw[aFe,e,aAh sc f n (a+1) x F];congr 4;omega
abbrev UP:=Str×Nat×Nat
def pcU(sc:Int)(q:UP):Pc:=(q.1,(q.2.1:Int)*sc,((q.2.1+q.2.2:Nat):Int)*sc)
def exU(q:UP):List UK:=run q.1 q.2.1 q.2.2
def fJ(qs:List UP):List UK:=(qs.map exU).flatten
theorem gG(q:UP)(qs:List UP):fJ (q::qs)=exU q++fJ qs:=rfl
theorem mB(ps qs:List UP):fJ (ps++qs)=fJ ps++fJ qs:=by
 unfold fJ;rw[Ar,List.flatten_append]
theorem pJ(q:UP):(exU q).length=q.2.2:=by unfold exU run;simp
theorem aFf(sc:Int)(q:UP)(h:1<=q.2.2)(F:List Pc):((exU q).map (i0 sc)).foldl e9 F=e9 F (pcU sc q):=by
 obtain⟨f,a,n⟩:=q;obtain⟨m,rfl⟩:∃ m,n=m+1:=⟨n-1,by dsimp only at h;omega⟩
 unfold exU pcU;dsimp only;rw[lZ,Aq,Bh];show Fu e9 (e9 F (f,(a:Int)*sc,(a:Int)*sc+sc)) _=_;have e:(a:Int)*sc+sc=((a+1:Nat):Int)*sc:=by rw[CP,Fb];omega
 rw[e,aAh sc f m (a+1)];congr 4;omega
theorem wD(sc:Int):∀(qs:List UP) (F:List Pc),(∀ q∈qs,1<=q.2.2)->((fJ qs).map (i0 sc)).foldl e9 F=(qs.map (pcU sc)).foldl e9 F
 | [],F,_=>rfl
 | q::qs,F,h=>by
  rw[gG,Ar,Cp,aFf sc q (h q Ap),Aq,Bh];exact wD sc qs _ fun x G=>h x (Ao _ G)
def iL:List UP->Prop
 | q::r::t=>¬ (q.1=r.1/\q.2.1+q.2.2=r.2.1)/\iL (r::t)
 | _=>True
theorem aBE{q:UP}{t:List UP}(h:iL (q::t)):iL t:=by
 cases t with
 | nil=>trivial
 | cons r t=>exact h.2
theorem uE{sc:Int}(hs:1<=sc):∀(t:List UP) (F:List Pc) (q:UP),iL (q::t)->(t.map (pcU sc)).foldl e9 (F++[pcU sc q])=F++(q::t).map (pcU sc)
 | [],F,q,_=>rfl
 | r::t,F,q,h=>by
  rw[Aq,Bh,dJ,Ip]
  .rw[show F++[pcU sc q,pcU sc r]=(F++[pcU sc q])++[pcU sc r] by rw[AF];rfl,uE hs t _ r h.2,AF];rfl
  .rintro⟨e1,e2⟩;unfold pcU at e1 e2;dsimp only at e1 e2;have:=ES (by omega) e2;exact h.1 ⟨e1,by omega⟩
theorem aDF{sc:Int}(hs:1<=sc){qs:List UP}(h:iL qs):mrg (qs.map (pcU sc))=qs.map (pcU sc):=by
 cases qs with
 | nil=>rfl
 | cons q t=>exact uE hs t [] q h
structure PQ(sc:Int)(ps:List Pc)(us:List UK):Prop where
 ex:∃ qs:List UP,ps=qs.map (pcU sc)/\(∀ q∈qs,1<=q.2.2)/\fJ qs=us/\iL qs
theorem PQ.law{sc:Int}{ps:List Pc}{F:List UK}(hs:1<=sc)(h:PQ sc ps F):(F.map (i0 sc)).foldl e9 []=ps:=by
 obtain⟨qs,rfl,h1,rfl,h2⟩:=h.ex;rw[wD sc qs [] h1];exact aDF hs h2
theorem aCu(sc:Int):∀ qs:List UP,acr (qs.map (pcU sc))=sc*((fJ qs).length:Int)
 | []=>by simp[acr,fJ]
 | q::qs=>by
  rw[Aq,aAe,aCu sc qs,gG,Av,pJ];unfold jP pcU;dsimp only;rw[CP,CP,Fb,Ia,FJ (q.2.2:Int) sc];omega
theorem PQ.acr{sc:Int}{ps:List Pc}{F:List UK}(h:PQ sc ps F):sc*(F.length:Int)=acr ps:=by
 obtain⟨qs,rfl,h1,rfl,h2⟩:=h.ex;exact(aCu sc qs).symm
def sl(us:List UK)(a b:Int):List UK:=(us.take b.toNat).drop a.toNat
theorem aIz(l r:List UK)(a b:Int)(F:b.toNat<=l.length\/(l.length:Int)<=b):sl (l++r) a b=sl l a b++sl r (a-l.length) (b-l.length):=by
 unfold sl;rw[List.take_append,List.drop_append,AJ];congr 1;rcases F with h|h
 .rw[show(b-(l.length:Int)).toNat=0 by omega,show b.toNat-l.length=0 by omega,FZ,List.drop_nil,List.drop_nil]
 .rw[show a.toNat-min b.toNat l.length=(a-(l.length:Int)).toNat by omega,show b.toNat-l.length=(b-(l.length:Int)).toNat by omega]
theorem aAi(f:Str):∀(n a m:Nat),(run f a n).take m=run f a (min m n)
 | 0,a,m=>by rw[Nat.min_zero];exact List.take_nil
 | n+1,a,0=>by rw[Nat.zero_min];rfl
 | n+1,a,m+1=>by rw[lZ,Gk,aAi f n (a+1) m,show min (m+1) (n+1)=min m n+1 by omega,lZ]
theorem aFg(f:Str)(n a m:Nat):(run f a n).drop m=run f (a+m) (n-m):=by
 unfold run;rw[<- List.map_drop,List.drop_range',Nat.mul_one]
theorem aIA(f:Str)(a n:Nat)(x y:Int):sl (run f a n) x y=run f (a+x.toNat) (min y.toNat n-x.toNat):=by
 unfold sl;rw[aAi,aFg]
def i4(q:UP)(x y:Int):List UP:=if x.toNat<min y.toNat q.2.2 then[(q.1,q.2.1+x.toNat,min y.toNat q.2.2-x.toNat)] else[]
def oC:List UP->Int->Int->List UP
 | [],_,_=>[]
 | q::r,x,y=>i4 q x y++oC r (x-q.2.2) (y-q.2.2)
theorem aFh(q:UP)(x y:Int):fJ (i4 q x y)=sl (exU q) x y:=by
 unfold i4 exU;rw[aIA];split
 .exact A6 _
 .rw[show min y.toNat q.2.2-x.toNat=0 by omega];rfl
theorem aCv:∀(qs:List UP) (x y:Int),fJ (oC qs x y)=sl (fJ qs) x y
 | [],x,y=>by unfold oC sl fJ;simp
 | q::r,x,y=>by
  show fJ (i4 q x y++oC r (x-q.2.2) (y-q.2.2))=_;rw[mB,aFh,aCv r,gG,aIz _ _ _ _ (by rw[pJ];omega),pJ]
theorem aFi{sc:Int}(hs:1<=sc)(q:UP)(x y:Int):iZ (pcU sc q) (sc*x) (sc*y)=(i4 q x y).map (pcU sc):=by
 obtain⟨f,a,n⟩:=q;unfold iZ i4 pcU;dsimp only;have G:(if (a:Int)*sc+sc*x>(a:Int)*sc then(a:Int)*sc+sc*x else(a:Int)*sc)=((a+x.toNat:Nat):Int)*sc:=by
  by_cases J:0<x
  .have F:0<sc*x:=Int.mul_pos (by omega) J;rw[Iq (by omega),CP,Fb,FJ sc x,Dd (by omega)]
  .have F:sc*x<=0:=Int.mul_nonpos_of_nonneg_of_nonpos (by omega) (by omega);rw[Ip (by omega),show x.toNat=0 by omega,Dl]
 rw[G];by_cases Z:0<y
 .have Y:(if (a:Int)*sc+sc*y<((a+n:Nat):Int)*sc then(a:Int)*sc+sc*y else((a+n:Nat):Int)*sc)=((a+min y.toNat n:Nat):Int)*sc:=by
   have O:(a:Int)*sc+sc*y=((a+y.toNat:Nat):Int)*sc:=by
    rw[CP,Fb,FJ sc y,Dd (by omega)]
   rw[O];by_cases hn:y.toNat<n
   .rw[Iq (EF (by omega) (by omega)),show min y.toNat n=y.toNat by omega]
   .rw[Ip (Int.not_lt.mpr (BK (by omega) (by omega))),show min y.toNat n=n by omega]
  rw[Y];unfold rA;by_cases h:x.toNat<min y.toNat n
  .rw[Iq h,Iq (EF (by omega) (by omega))];show _=[(f,((a+x.toNat:Nat):Int)*sc,((a+x.toNat+(min y.toNat n-x.toNat):Nat):Int)*sc)]
   rw[show a+x.toNat+(min y.toNat n-x.toNat)=a+min y.toNat n by omega]
  .rw[Ip h,Ip (Int.not_lt.mpr (BK (by omega) (by omega)))];rfl
 .have F:sc*y<=0:=Int.mul_nonpos_of_nonneg_of_nonpos (by omega) (by omega);have h1:(a:Int)*sc<=((a+x.toNat:Nat):Int)*sc:=BK (by omega) (by omega);have h2:(a:Int)*sc<=((a+n:Nat):Int)*sc:=BK (by omega) (by omega);rw[Ip (show¬ x.toNat<min y.toNat n by omega)];unfold rA;rw[Ip]
  .rfl
  .split<;>omega
theorem aCw{sc:Int}(hs:1<=sc):∀(qs:List UP) (x y:Int),oB (qs.map (pcU sc)) (sc*x) (sc*y)=(oC qs x y).map (pcU sc)
 | [],_,_=>rfl
 | q::r,x,y=>by
  have e:∀ z:Int,sc*z-jP (pcU sc q)=sc*(z-q.2.2):=fun z=>by
   unfold jP pcU;dsimp only;rw[CP,Fb,Int.mul_sub,FJ sc (q.2.2:Int)];omega
  show iZ (pcU sc q) (sc*x) (sc*y)++oB (r.map (pcU sc)) (sc*x-jP (pcU sc q)) (sc*y-jP (pcU sc q))=(i4 q x y++oC r (x-q.2.2) (y-q.2.2)).map (pcU sc);rw[e,e,aFi hs,aCw hs r,Ar]
theorem aAj:∀(qs:List UP) (x y:Int),y<=0->oC qs x y=[]
 | [],_,_,_=>rfl
 | q::r,x,y,h=>by
  show i4 q x y++oC r (x-q.2.2) (y-q.2.2)=[]
  rw[aAj r _ _ (by omega)];unfold i4;rw[Ip (by omega)];rfl
theorem aAk:∀(qs:List UP) (x y:Int),∀ q∈oC qs x y,1<=q.2.2
 | [],_,_,q,h=>by cases h
 | p::r,x,y,q,h=>by
  rcases AO.mp (show q∈i4 p x y++oC r (x-p.2.2) (y-p.2.2) from h)with h|h
  .unfold i4 at h;split at h
   .rw[AK.mp h];dsimp only;omega
   .cases h
  .exact aAk r _ _ q h
theorem uF:∀(qs:List UP) (x y:Int),(∀ q∈qs,1<=q.2.2)->iL qs->iL (oC qs x y)
 | [],_,_,_,_=>trivial
 | q::r,x,y,h1,hc=>by
  have G:=uF r (x-q.2.2) (y-q.2.2) (fun p O=>h1 p (Ao _ O)) (aBE hc);show iL (i4 q x y++oC r (x-q.2.2) (y-q.2.2));unfold i4;by_cases J:x.toNat<min y.toNat q.2.2
  .rw[Iq J];by_cases Y:y-q.2.2<=0
   .rw[aAj r _ _ Y];trivial
   .cases r with
    | nil=>trivial
    | cons F t=>
     have Z:=h1 F (by simp);have e:oC (F::t) (x-q.2.2) (y-q.2.2)=(F.1,F.2.1,min (y-q.2.2).toNat F.2.2)::oC t (x-q.2.2-F.2.2) (y-q.2.2-F.2.2):=by
      show i4 F _ _++_=_;unfold i4;rw[Iq (by omega),show(x-(q.2.2:Int)).toNat=0 by omega,Dl,Dk];rfl
     rw[e]at G ⊢;refine⟨fun z=>hc.1 ⟨z.1,?_⟩,G⟩;have:=z.2;dsimp only at this;omega
  .rw[Ip J];exact G
theorem PQ.cut{sc:Int}{ps:List Pc}{F:List UK}(hs:1<=sc)(h:PQ sc ps F)(x y:Int):PQ sc (oB ps (sc*x) (sc*y)) (sl F x y):=by
 obtain⟨qs,rfl,h1,rfl,h2⟩:=h.ex;exact⟨oC qs x y,aCw hs qs x y,aAk qs x y,aCv qs x y,uF qs x y h1 h2⟩
def kk(ws:List Str)(p:Pc):Int×Int:=((ws.idxOf p.1:Nat),p.2.1)
def srt(ws:List Str)(ps:List Pc):List Pc:=ps.mergeSort fun a b=>!ltI (kk ws b) (kk ws a)
def rB(ws:List Str)(ps:List Pc):List Pc:=mrg (srt ws ps)
theorem uG(ws:List Str)(ps:List Pc):(srt ws ps).Pairwise fun a b=>ltI (kk ws b) (kk ws a)=false:=by
 refine(List.pairwise_mergeSort (le:=fun a b=>!ltI (kk ws b) (kk ws a)) (fun a b c h1 h2=>?_) (fun a b=>?_) ps).imp fun h=>by simpa using h
 .have h1:ltI (kk ws b) (kk ws a)=false:=by simpa using h1
  have h2:ltI (kk ws c) (kk ws b)=false:=by simpa using h2
  cases h:ltI (kk ws c) (kk ws a)with
  | false=>rfl
  | true=>exact absurd (aEZ (kk ws b) (kk ws a) (kk ws c) h1 h) (by rw[h2];exact Am)
 .cases h:ltI (kk ws b) (kk ws a)with
  | false=>rfl
  | true=>
   cases h2:ltI (kk ws a) (kk ws b)with
   | false=>rfl
   | true=>exact absurd (aEY _ _ _ h h2) (by rw[aCj];exact Am)
theorem aIB{a b:Int×Int}(h1:ltI a b=false)(h2:ltI b a=false):a=b:=by
 have h1:¬ ltI a b=true:=by rw[h1];exact Am
 have h2:¬ ltI b a=true:=by rw[h2];exact Am
 rw[pG]at h1 h2;exact EJ (by omega) (by omega)
def TF(ws:List Str)(ps:List Pc):Prop:=∀ a∈ps,∀ b∈ps,kk ws a=kk ws b->a=b
theorem aFj{ws:List Str}{ps qs:List Pc}(t:TF ws ps)(F:qs.Perm ps)(hs:qs.Pairwise fun a b=>ltI (kk ws b) (kk ws a)=false):qs=srt ws ps:=
 ED (le:=fun a b=>ltI (kk ws b) (kk ws a)=false) (fun a b ha G h1 h2=>t a (F.mem_iff.mp ha) b ((Gm ps _).mem_iff.mp G) (aIB h2 h1)) hs (uG ws ps) (F.trans (Gm ps _).symm)
theorem i5{k:UK}{qs:List UP}:k∈fJ qs↔∃ q∈qs,k∈exU q:=by
 unfold fJ;rw[Hc];constructor
 .rintro⟨l,hl,hk⟩;obtain⟨q,hq,rfl⟩:=AL.mp hl;exact⟨q,hq,hk⟩
 .rintro⟨q,hq,hk⟩;exact⟨_,Ba hq,hk⟩
theorem gN{k:UK}{q:UP}:k∈exU q↔k.1=q.1/\q.2.1<=k.2/\k.2<q.2.1+q.2.2:=by
 unfold exU run;rw[AL];constructor
 .rintro⟨i,hi,rfl⟩;rw[GT]at hi;exact⟨rfl,hi⟩
 .rintro⟨h1,h2⟩;exact⟨k.2,GT.mpr h2,EJ h1.symm rfl⟩
theorem aCx:∀{qs:List UP},(fJ qs).Nodup->∀{q G:UP}{k:UK},q∈qs->G∈qs->k∈exU q->k∈exU G->q=G
 | [],_,q,G,k,h,_,_,_=>by cases h
 | r::t,hn,q,G,k,h,h',J,F=>by
  rw[gG]at hn;obtain⟨_,n2,n3⟩:=Bu.mp hn;rcases An.mp h with e|g
  .rcases An.mp h' with O|g'
   .rw[e,O]
   .rw[e]at J;exact absurd rfl (n3 k J k (i5.mpr ⟨G,g',F⟩))
  .rcases An.mp h' with O|g'
   .rw[O]at F;exact absurd rfl (n3 k F k (i5.mpr ⟨q,g,J⟩))
   .exact aCx n2 g g' J F
theorem aCy{ws:List Str}{a b:Str}(ha:a∈ws)(h:ws.idxOf a=ws.idxOf b):a=b:=by
 have h1:=List.idxOf_lt_length_of_mem ha;have G:=Gv h1;have h2:ws.idxOf b<ws.length:=by rw[<- h];exact h1
 have F:=Gv h2;rw[<- G,<- F];congr 1
def ult(ws:List Str)(a b:UK):Prop:=ws.idxOf a.1<ws.idxOf b.1\/(a.1=b.1/\a.2<b.2)
theorem aJI{ws:List Str}{sc:Int}(hs:1<=sc){qs:List UP}(hn:(fJ qs).Nodup)(h1:∀ q∈qs,1<=q.2.2)(hw:∀ q∈qs,q.1∈ws):TF ws (qs.map (pcU sc)):=fun a ha b Y e=>by
 obtain⟨q,hq,rfl⟩:=AL.mp ha;obtain⟨q',hq',rfl⟩:=AL.mp Y;unfold kk pcU at e;injection e with F G;dsimp only at F G;have F:=aCy (hw q hq) (Gn.inj F);have G:q.2.1=q'.2.1:=Gn.inj (ES (by omega) G);have O:=h1 q hq;have J:=h1 q' hq';rw[aCx hn hq hq' (k:=(q.1,q.2.1)) (gN.mpr ⟨rfl,Aj _,by dsimp only;omega⟩) (gN.mpr ⟨F,by dsimp only;omega,by dsimp only;omega⟩)]
theorem aBF(ws:List Str)(f:Str):∀(n a:Nat),(run f a n).Pairwise (ult ws)
 | 0,a=>B6
 | n+1,a=>by
  rw[lZ];refine Cz.mpr ⟨fun k F=>?_,aBF ws f n (a+1)⟩;unfold run at F;obtain⟨i,hi,rfl⟩:=AL.mp F;rw[GT]at hi;exact .inr ⟨rfl,by dsimp only;omega⟩
theorem aHA{ws:List Str}{sc:Int}(hs:1<=sc):∀{qs:List UP},(fJ qs).Nodup->(∀ q∈qs,1<=q.2.2)->(∀ q∈qs,q.1∈ws)->(qs.Pairwise fun a b=>ltI (kk ws (pcU sc b)) (kk ws (pcU sc a))=false)->(fJ qs).Pairwise (ult ws)
 | [],_,_,_,_=>B6
 | q::t,hn,h1,hw,O=>by
  obtain⟨p1,p2⟩:=Cz.mp O;have Z:=hn;rw[gG]at hn ⊢;obtain⟨_,n2,n3⟩:=Bu.mp hn;refine F1.mpr ⟨aBF ws _ _ _,aHA hs n2 (fun x J=>h1 x (Ao _ J)) (fun x J=>hw x (Ao _ J)) p2,fun k Y k' G=>?_⟩;obtain⟨q',hq',G⟩:=i5.mp G;have F:=p1 q' hq';have F:¬ ltI (kk ws (pcU sc q')) (kk ws (pcU sc q))=true:=by rw[F];exact Am
  rw[pG]at F;unfold kk pcU at F;dsimp only at F;obtain⟨b1,b2,b3⟩:=gN.mp Y;obtain⟨c1,c2,c3⟩:=gN.mp G;have aa:=h1 q' (Ao _ hq');by_cases hi:ws.idxOf q.1<ws.idxOf q'.1
  .exact .inl (by rw[b1,c1];exact hi)
  .have hi:ws.idxOf q.1=ws.idxOf q'.1:=by omega
   have ef:=aCy (hw q Ap) hi;have hm:q.2.1<=q'.2.1:=by
    rcases DG q'.2.1 q.2.1 with z|z
    .exfalso;have:(q'.2.1:Int)*sc<(q.2.1:Int)*sc:=EF (by omega) (by omega);exact F (.inr ⟨by omega,this⟩)
    .exact z
   have hd:q.2.1+q.2.2<=q'.2.1:=by
    rcases DG q'.2.1 (q.2.1+q.2.2)with z|z
    .exfalso;exact n3 (q.1,q'.2.1) (gN.mpr ⟨rfl,hm,z⟩) (q.1,q'.2.1) (i5.mpr ⟨q',hq',gN.mpr ⟨ef,Aj _,by dsimp only;omega⟩⟩) rfl
    .exact z
   exact .inr ⟨by rw[b1,c1,ef],by omega⟩
theorem aGL{ws:List Str}{a b:UK}(h1:ult ws a b)(h2:ult ws b a):a=b:=by
 unfold ult at h1 h2;rcases h1 with h1|⟨h1,G⟩
 .rcases h2 with h2|⟨h2,_⟩
  .omega
  .rw[h2]at h1;omega
 .rcases h2 with h2|⟨_,F⟩
  .rw[h1]at h2;omega
  .omega
def aDG(ps:List UP)(p:UP):List UP:=match ps.getLast? with
 | some q=>if q.1=p.1/\q.2.1+q.2.2=p.2.1 then ps.dropLast++[(p.1,q.2.1,q.2.2+p.2.2)] else ps++[p]
 | none=>ps++[p]
theorem aDH(ps:List UP)(q p:UP):aDG (ps++[q]) p=if q.1=p.1/\q.2.1+q.2.2=p.2.1 then ps++[(p.1,q.2.1,q.2.2+p.2.2)] else ps++[q,p]:=by
 unfold aDG;rw[List.getLast?_concat,List.dropLast_concat];dsimp only;split
 .rfl
 .rw[AF];rfl
theorem wE:∀{l:List UP}{r q:UP},iL (l++[r])->¬ (r.1=q.1/\r.2.1+r.2.2=q.2.1)->iL (l++[r,q])
 | [],r,q,_,h=>⟨h,trivial⟩
 | [x],r,q,hc,h=>⟨hc.1,h,trivial⟩
 | x::y::l,r,q,hc,h=>⟨hc.1,wE (l:=y::l) hc.2 h⟩
theorem uH:∀{l:List UP}{r:UP}{k:Nat},iL (l++[r])->iL (l++[(r.1,r.2.1,k)])
 | [],r,k,_=>trivial
 | [x],r,k,hc=>⟨hc.1,trivial⟩
 | x::y::l,r,k,hc=>⟨hc.1,uH (l:=y::l) hc.2⟩
theorem aGM(f:Str)(a n m:Nat):run f a n++run f (a+n) m=run f a (n+m):=by
 unfold run;rw[<- Ar,List.range'_append_1]
theorem aGN{sc:Int}(hs:1<=sc){F:List UP}{p:UP}(J:1<=p.2.2)(h1:∀ q∈F,1<=q.2.2)(hc:iL F):
  e9 (F.map (pcU sc)) (pcU sc p)=(aDG F p).map (pcU sc)/\(∀ q∈aDG F p,1<=q.2.2)/\iL (aDG F p)/\fJ (aDG F p)=fJ F++exU p:=by
 rcases uD F with rfl|⟨l,r,rfl⟩
 .exact⟨rfl,fun q G=>by rw[AK.mp G];exact J,trivial,A6 _⟩
 .rw[Ar,aDH];show e9 (l.map (pcU sc)++[pcU sc r]) (pcU sc p)=_/\_;rw[dJ];have O:=h1 r (by simp);have hi:((pcU sc r).1=(pcU sc p).1/\(pcU sc r).2.2=(pcU sc p).2.1)↔(r.1=p.1/\r.2.1+r.2.2=p.2.1):=by
   unfold pcU;dsimp only;constructor
   .rintro⟨e1,e2⟩;exact⟨e1,Gn.inj (ES (by omega) e2)⟩
   .rintro⟨e1,e2⟩;exact⟨e1,by rw[e2]⟩
  by_cases h:r.1=p.1/\r.2.1+r.2.2=p.2.1
  .rw[Iq (hi.mpr h),Iq h];refine⟨?_,fun q G=>?_,?_,?_⟩
   .rw[Ar];congr 1;show _=[(p.1,(r.2.1:Int)*sc,((r.2.1+(r.2.2+p.2.2):Nat):Int)*sc)]
    rw[show r.2.1+(r.2.2+p.2.2)=p.2.1+p.2.2 by omega];rfl
   .rcases AO.mp G with G|G
    .exact h1 q (BG _ G)
    .rw[AK.mp G];dsimp only;omega
   .have:=uH (k:=r.2.2+p.2.2) hc;rw[h.1]at this;exact this
   .rw[mB,mB,AF];congr 1;show exU (p.1,r.2.1,r.2.2+p.2.2)++[]=(exU r++[])++exU p;rw[A6,A6];unfold exU;rw[h.1,<- h.2];exact(aGM _ _ _ _).symm
  .rw[Ip (fun z=>h (hi.mp z)),Ip h];refine⟨by rw[Ar];rfl,fun q G=>?_,wE hc h,?_⟩
   .rcases AO.mp G with G|G
    .exact h1 q (BG _ G)
    .rcases An.mp G with rfl|G
     .exact O
     .rw[AK.mp G];exact J
   .rw[show l++[r,p]=(l++[r])++[p] by rw[AF];rfl,mB];congr 1;exact A6 _
theorem aJJ{sc:Int}(hs:1<=sc):∀(qs F:List UP),(∀ q∈qs,1<=q.2.2)->(∀ q∈F,1<=q.2.2)->iL F->PQ sc ((qs.map (pcU sc)).foldl e9 (F.map (pcU sc))) (fJ F++fJ qs)
 | [],F,_,h1,hc=>⟨F,rfl,h1,(A6 _).symm,hc⟩
 | q::t,F,h,h1,hc=>by
  obtain⟨e1,e2,e3,e4⟩:=aGN hs (h q Ap) h1 hc;rw[Aq,Bh,e1,gG,<- AF,<- e4];exact aJJ hs t _ (fun x G=>h x (Ao _ G)) e2 e3
theorem wF{α:Type}{p q:α->Bool}(hd:∀ x,p x=true->q x=false):∀ l:List α,(l.filter fun x=>p x||q x).Perm (l.filter p++l.filter q)
 | []=>.refl _
 | x::l=>by
  have J:=wF hd l;cases F:p x with
  | true=>
   rw[Dc (by rw[F];rfl),Dc F,CK (by rw[hd x F];exact Am)];exact J.cons x
  | false=>
   cases G:q x with
   | true=>
    rw[Dc (by rw[G,Bool.or_true]),CK (by rw[F];exact Am),Dc G];exact(J.cons x).trans List.perm_middle.symm
   | false=>
    rw[CK (by rw[F,G];exact Am),CK (by rw[F];exact Am),CK (by rw[G];exact Am)];exact J
theorem aAl{sc:Int}{os:List UK}{own:UK->Str}{pc:Str->List Pc}:∀{R:List Str},R.Nodup->(∀ z∈R,PQ sc (pc z) (os.filter fun k=>decide (own k=z)))->
  ∃ qs:List UP,(R.map pc).flatten=qs.map (pcU sc)/\(∀ q∈qs,1<=q.2.2)/\(fJ qs).Perm (os.filter fun k=>decide (own k∈R))
 | [],_,_=>⟨[],rfl,fun q F=>(by cases F),by rw[Fv.mpr (by simp)];exact .refl _⟩
 | z::R,hn,h=>by
  obtain⟨n1,n2⟩:=A5.mp hn;obtain⟨qs,e1,e2,e3⟩:=aAl n2 fun y J=>h y (Ao _ J);obtain⟨q1,f1,f2,f3,_⟩:=(h z Ap).ex;refine⟨q1++qs,by rw[Aq,Ds,e1,f1,Ar],fun q F=>(AO.mp F).elim (f2 q) (e2 q),?_⟩;rw[mB,f3];refine((BJ _ e3).trans (wF (fun k G=>?_) os).symm).trans (List.Perm.of_eq (Cq fun k _=>?_))
  .rw[Iu G];exact Is n1
  .rw[<- Bool.decide_or];exact decide_eq_decide.mpr An.symm
theorem aCz{ws:List Str}{sc:Int}(hs:1<=sc){os:List UK}{own:UK->Str}{pc:Str->List Pc}{R:List Str}(hn:R.Nodup)(ad:os.Nodup)(aa:os.Pairwise (ult ws))(hw:∀ z∈R,∀ p∈pc z,p.1∈ws)
  (h:∀ z∈R,PQ sc (pc z) (os.filter fun k=>decide (own k=z))):TF ws (R.map pc).flatten/\PQ sc (rB ws (R.map pc).flatten) (os.filter fun k=>decide (own k∈R)):=by
 obtain⟨qs,e1,e2,e3⟩:=aAl hn h;have J:(fJ qs).Nodup:=e3.nodup_iff.mpr (ad.filter _);have Y:∀ q∈qs,q.1∈ws:=fun q F=>by
  have hm:pcU sc q∈(R.map pc).flatten:=by rw[e1];exact Ba F
  obtain⟨l,hl,hm⟩:=Hc.mp hm;obtain⟨z,hz,rfl⟩:=AL.mp hl;exact hw z hz _ hm
 have tf:=aJI hs J e2 Y;rw[e1];refine⟨tf,?_⟩;obtain⟨sq,hsq,es⟩:=aAb (Gm (qs.map (pcU sc)) fun a b=>!ltI (kk ws b) (kk ws a)) rfl;have O:=uG ws (qs.map (pcU sc));unfold rB srt at *;rw[es]at O ⊢;have G:(fJ sq).Perm (fJ qs):=by
  unfold fJ;exact(hsq.map exU).flatten
 have Z:=aHA hs (G.nodup_iff.mpr J) (fun q F=>e2 q (hsq.mem_iff.mp F)) (fun q F=>Y q (hsq.mem_iff.mp F)) (D0.mp O);have ab:fJ sq=os.filter fun k=>decide (own k∈R):=ED (le:=ult ws) (fun _ _ _ _=>aGL) Z (aa.filter _) (G.trans e3);have:=aJJ hs sq [] (fun q F=>e2 q (hsq.mem_iff.mp F)) (fun q F=>(by cases F)) trivial;rw[ab]at this;exact this
def vI:Pos:=⟨29,47,29,88⟩
def aJK:Str:=(("in_one":Str)++".<locals>.")++"<lambda>"
abbrev Tb(T:Af)(H:Hp):Prop:=lF T vI aJK H
theorem f9{T:Af}{H H':Hp}(s:eY T H H')(g:Tb T H):fT H H':=fun q xs e=>s _ _ (fun z=>by
 obtain⟨ps,hT,_⟩:=g.ex;rw[z,hT]at e;cases e) e
theorem aFk{H:Hp}{xs ys:List V}(J:ys.Perm xs):∀{ps:List Pc},dI H xs ps->∃ qs,qs.Perm ps/\dI H ys qs:=by
 induction J with
 | nil=>intro ps h;exact⟨ps,.refl _,h⟩
 | cons a _ O=>
  intro ps h;cases h with
  | cons r t=>
   obtain⟨qs,h1,h2⟩:=O t;exact⟨_::qs,h1.cons _,.cons r h2⟩
 | swap a b l=>
  intro ps h;cases h with
  | cons r t=>
   cases t with
   | cons Y Z=>exact⟨_::_::_,.swap _ _ _,.cons Y (.cons r Z)⟩
 | trans _ _ G F=>
  intro ps h;obtain⟨qs,h1,h2⟩:=F h;obtain⟨rs,h3,h4⟩:=G h2;exact⟨rs,h3.trans h1,h4⟩
theorem mG{α β:Type}{R:α->β->Prop}{a:α}:∀{as:List α}{bs:List β},BI R (as++[a]) bs->∃ F b,bs=F++[b]/\BI R as F/\R a b
 | [],_,h=>by
  cases h with
  | cons r t=>
   cases t;exact⟨[],_,rfl,.nil,r⟩
 | x::as,_,h=>by
  cases h with
  | cons r t=>
   obtain⟨F,b,rfl,h1,h2⟩:=mG t;exact⟨_::F,b,rfl,.cons r h1,h2⟩
theorem rC{α:Type}(l:List α):l=[]\/∃ r x,l=r++[x]:=by
 rcases List.eq_nil_or_concat l with h|⟨r,x,h⟩
 .exact .inl h
 .exact .inr ⟨r,x,by rw[h,List.concat_eq_append]⟩
theorem aCA{T:Af}{H H':Hp}(g:Tb T H)(k:∀ b o,H b=some o->¬ (∃ xs,H b=some (.lst xs))->H' b=some o):Tb T H':=by
 obtain⟨ps,h1,h2,F⟩:=g.ex;refine⟨ps,k _ _ h1 (fun⟨xs,z⟩=>by rw[h1]at z;cases z),h2,?_⟩;rcases F with F|⟨c,F,G⟩
 .exact .inl F
 .exact .inr ⟨c,F,k _ _ G fun⟨xs,z⟩=>by rw[G]at z;cases z⟩
def RkX(rks:List (Key×V))(ws:List Str):Prop:=∀ w∈ws,bG rks (Ad w)=some (.int ((ws.idxOf w:Nat):Int))
def kfP(H:Hp)(ws:List Str):V->Int×Int
 | .ref q=>match H q with
  | some (.tup (.str f::.int lo::_))=>(((ws.idxOf f:Nat):Int),lo)
  | _=>(0,0)
 | _=>(0,0)
def gfP:Ac->V
 | .ref a=>.ref a
 | _=>.non
theorem aBG{H:Hp}{ws:List Str}{q:Af}{p:Pc}(h:H q=some (pcT p)):kfP H ws (.ref q)=kk ws p:=by
 unfold kfP;dsimp only;rw[h];rfl
theorem aFl{H:Hp}{ws:List Str}:∀{ys:List V}{ps:List Pc},dI H ys ps->(ys.Pairwise fun a b=>ltI (kfP H ws b) (kfP H ws a)=false)->ps.Pairwise fun a b=>ltI (kk ws b) (kk ws a)=false
 | _,_,.nil,_=>B6
 | _,_,.cons (b:=p) r t,h=>by
  obtain⟨h1,h2⟩:=Cz.mp h;refine Cz.mpr ⟨fun x F=>?_,aFl t h2⟩;obtain⟨q,rfl,hq⟩:=r;obtain⟨i,hi⟩:=Bq F;have hl:=Bm t;obtain⟨hi',_⟩:=Al.mp hi;have G:=Ai (show i<_ from hl▸hi');obtain⟨q2,e2,hq2⟩:=Paired.at t G hi;have:=h1 _ (Bk (show i<_ from hl▸hi'));rw[e2,aBG hq,aBG hq2]at this;exact this
inductive wG(T:Af)(vs:List V)(H:Hp)(Q:VK)(u3_:XK):Prop
 | mk (r l:Af) (rks:List (Key×V)) (xs:List V) (ps:List Pc) (ws:List Str) (q0:vs=[.ref r,.ref l]) (q1:H r=some (.dK rks)) (q2:RkX rks ws) (q3:H l=some (.lst xs)) (q4:dI H xs ps) (q5:(∀ p∈ps,p.1∈ws)) (q6:TF ws ps) (q7:xs.length<sizeLine) (q8:Tb T H) (q9:∀(t:Af) (ys:List V) (H':Hp),eY T H H'->Tb T H'->H' t=some (.tup ys)->dI H' ys (rB ws ps)->Q (.ref t) H'):wG T vs H Q u3_
def aCB(T:Af):Sp:=fun vs H Q u3_=>wG T vs H Q u3_
theorem aCC:cB ["ranks","pieces","told","field","low","high"] ["ranks","pieces"] (aQ qI):=⟨rfl,rfl,rfl,by decide,rfl,by decide,by decide⟩
theorem aFm{f c T:Af}{fd:Be}(F:Fun K "in_one" "in_one" qI f fd)(br:fd.code=.ref c)(hC:GG K c T=true)(hB:vF mg base)(av:mg "sorted"=none)(ao:mg "tuple"=none):cW P w K mg base CX0 4 f fd ["ranks","pieces"] (aCB T):=by
 refine F.okC aCC (fun vs H Q E h=>?_) (fun b1 A outer s H vs Q E au hr h=>?_)
 .obtain⟨r,l,rks,xs,ps,ws,rfl,_⟩:=h;rfl
 .obtain⟨r,l,rks,xs,ps,ws,rfl,hR,hok,hl,hps,hg,htf,hz,hT,k⟩:=h;rw[br]at au;subst au;have nd:=aCC.nd;refine⟨_,aB (aR (i:=2) nd rfl (Az rfl) (dA aE))
   (aB (dY Bj rfl (g8 (aAa (k:=0) (x:="piece") (fs:=["ranks"]) (cl:=[("ranks",s.heap.objs.size+1)]) (T:=T) hr rfl hC hB (by rfl) av ⟨rfl,rfl,rfl,by decide,by decide,by decide,by decide⟩ ?hc ?hhas (fun _ _ _ _=>rfl)
     (fun f c s H=>cO (aF (bQ ?hu (pv 1) (aW (r:=lR K) bC (pv 0) aD Iv) Iv) (aF (aW (r:=lR K) bC (pv 0) aD Iv) aE))) (aF (pv 1) aE)))
    (g:=rG K 3 (dH (aS 3) (dH (aS 4) (dH (aS 5) rF)))) (f6 rfl (bK (aV (i:=3) nd rfl (Az rfl)) (bK (aV (i:=4) nd rfl (Az rfl)) (bK (aV (i:=5) nd rfl (Az rfl)) dX))))
    (aM (cD (tP (PW.pt (gS (aD5 (pv 2) (fun _=>rfl)) (gS (aZ cV (aW bC (aW bX (pv 2) (jA gL aD) Iv) aD Iv) (pv 3) (bJ _)) (gJ (aZ cV (aW bC (aW bX (pv 2) (jA gL aD) Iv) aD Iv) (pv 4) (bJ _)))))))
     (aM (iR (cO (aF (pv 3) (aF (aW bC (aW bX (pv 2) (jA gL aD) Iv) aD Iv) (aF (pv 5) aE)))) (nS (pv 2) (jA gL aD) iU)))
     (aM (dP (lE Bd B0 BZ gE (pv 2) (aF (cO (aF (pv 3) (aF (pv 4) (aF (pv 5) aE)))) aE)))))))
   (aM (bT (c8 dR (by rfl) ao (by kernel_rfl) (aF (pv 2) aE))))),?_⟩
  case hc=>exact fun x b h=>h
  case hhas=>
   intro x h;have hm:=B2 h;obtain rfl:x="ranks":=(show∀ y∈_,y.2=Bo->y.1=("ranks":Str) from by decide) (x,Bo) hm rfl;exact⟨_,rfl⟩
  case hu=>exact fS ((hr.in1).in1.deeper _)
  refine⟨A8 _,fun L hL=>?_⟩;have sL:=aJ (o:=.lst []) hL;have bg:=sL _ _ hl;have bu:=hps.same sL;have ah:Tb T _:=hT.same sL;have aj:=sL _ _ hR;obtain⟨tps,hTt,_⟩:=ah.ex;refine⟨_,rfl,l,xs,[.ref r],kfP H ws,gfP,rfl,fun y v hy rv=>?_,aU bg,BU hz,.cons ⟨0,rfl,rfl,rfl⟩ .nil,ah,fun y hy H' sT=>?_,fun D ys H1 sT gT nD hp bd hD=>?_⟩
  .obtain⟨i,hi⟩:=Bq hy;obtain⟨p,q,hp,rfl,hq⟩:=hps.at hi;cases rv;rfl
  .obtain⟨i,hi⟩:=Bq hy;obtain⟨p,q,hp,rfl,hqH⟩:=hps.at hi;have hq:=sL _ _ hqH;have ax:=f9 sT ah _ _ hq;have hn:=hok p.1 (hg p (AQ hp));have bn:=aBG (ws:=ws) hqH;have bf:H' r=some (.dK rks):=sT _ _ (fun z=>by rw[z,hTt]at aj;cases aj) aj;refine⟨_,rfl,_,rfl,q,_,0,_,rfl,rfl,aN ax,rfl,r,.int ((ws.idxOf p.1:Nat):Int),rfl,.inl ⟨rks,Ad p.1,.inl bf,rfl,hn.symm⟩,_,rfl,q,_,1,_,rfl,rfl,aN ax,rfl,zZ2,fun t2 bm=>?_⟩;exact⟨t2,rfl,by rw[bn];exact aA,aJ bm⟩
  .obtain⟨ps',hpp,hYH⟩:=aFk hp hps;have ar:=aFl hYH bd;have hY:=hYH.same sL;have bq:=hY.on (f9 sT ah);have ap:D≠L:=fun z=>by rw[z,aA]at nD;cases nD
   have be:L≠T:=fun z=>by rw[<- z,aA]at hTt;cases hTt
   have bp:=Bm hY;have bN:=hp.length_eq;refine⟨D,rfl,⟨_,aU hD⟩,?_⟩;refine jU (K:=K) (xs:=ys) (fun i σ H'=>Ex3 fun(o3 o4 o5:Option V)=>∃(zs:List V) (qs:List Pc),Aw6 (σ=[some (.ref r),some (.ref l),some (.ref L),o3,o4,o5]) (eY T H H') (Tb T H') (H' D=some (.lst ys)) (H' L=some (.lst zs)) (Aw3 (dI H' ys ps') (dI H' zs qs) (qs.length<=i/\qs=mrg (ps'.take i))))
    ⟨none,none,none,[],[],rfl,sL.butT.trans sT,gT,hD,sT _ _ be aA,bq,.nil,Aj _,rfl⟩ (fun i σ H' _ p=>by obtain⟨_,_,_,_,_,_,_,_,e,_⟩:=p;exact aU e) ?_ ?_
   .rintro i v σ H2 hv ⟨o3,o4,o5,zs,qs,rfl,S2,T2,am,G,ag,aa,az,af⟩;obtain⟨p,q,hp,rfl,hq⟩:=ag.at hv;have bY:=Bm aa;have em:mrg (ps'.take (i+1))=e9 (mrg (ps'.take i)) p:=by
     unfold mrg;rw[AA,hp,Cp];rfl
    have bL:i<ys.length:=(Al.mp hv).1;refine⟨q,_,rfl,aN hq,rfl,_,_,rfl,_,_,rfl,_,_,rfl,rfl,fun b H3=>H3=H2/\(b=false->e9 qs p=qs++[p])/\(b=true->∃ J Z O p2,zs=J++[.ref Z]/\qs=O++[p2]/\dI H2 J O/\H2 Z=some (pcT p2)/\p2.1=p.1/\p2.2.2=p.2.1),?_,fun b H3 hb=>?_⟩
    .refine⟨_,rfl,!zs.isEmpty,.inl ⟨zs,aU G,rfl⟩,?_⟩;rcases rC zs with rfl|⟨J,z,rfl⟩
     .exact nE ⟨rfl,fun _=>by cases aa;rfl,fun z=>nomatch z⟩
     .obtain⟨O,p2,rfl,hZ',Z,rfl,hq2⟩:∃ O p2,qs=O++[p2]/\dI H2 J O/\∃ Z,z=.ref Z/\H2 Z=some (pcT p2):=mG aa;rw[show(!(J++[V.ref Z]).isEmpty)=true by cases J<;>rfl];refine gI ?_;refine⟨_,rfl,_,rfl,L,_,-1,_,rfl,rfl,aU G,hJ _ _,Z,_,0,_,rfl,rfl,aN hq2,rfl,_,rfl,rfl,_,rfl,dB (fun g1=>?_) fun g1=>⟨rfl,fun _=>by rw[dJ,Ip (fun z=>g1 (Ir (by rw[z.1]))),AF];rfl,fun z=>nomatch z⟩⟩;refine⟨_,rfl,_,rfl,L,_,-1,_,rfl,rfl,aU G,hJ _ _,Z,_,2,_,rfl,rfl,aN hq2,rfl,_,rfl,rfl,_,rfl,rfl,fun g2=>?_,fun g2=>?_⟩
      .rw[dJ,Ip (fun z=>of_decide_eq_false g2 (by rw[z.2])),AF];rfl
      have e1:=Iu g1;have e2:=Iu g2;injection e1 with e1;injection e2 with e2;exact⟨J,Z,O,p2,rfl,rfl,hZ',hq2,e1,e2⟩
    .obtain⟨rfl,hbf,hb⟩:=hb;have bE:H L=none:=hL;cases b with
     | true=>
      obtain⟨J,Z,O,p2,rfl,rfl,hZ',hq2,e1,e2⟩:=hb rfl;refine gI ?_;refine⟨_,rfl,_,rfl,_,rfl,L,_,-1,_,rfl,rfl,aU G,hJ _ _,Z,_,1,_,rfl,rfl,aN hq2,rfl,_,rfl,zZ3,fun Y ab=>?_⟩;have s3:=aJ (o:=pcT (p.1,p2.2.1,p.2.2)) ab;have ak:L≠Y:=aH G ab;refine⟨_,rfl,_,rfl,L,_,-1,J.length,rfl,rfl,s3 _ _ G,?_,?_⟩
      .unfold ixN;rw[Av,B5,Ip (by decide),Iq (by omega)];congr 1;omega
      .have es:(J++[V.ref Z]).set J.length (.ref Y)=J++[.ref Y]:=by simp
       rw[es];have keep:∀ b o,b≠L->H3 b=some o->upd (upd H3 Y (pcT (p.1,p2.2.1,p.2.2))) L (.lst (J++[.ref Y])) b=some o:=fun b o n e=>by
        rw[aG n];exact s3 _ _ e
       have kt:fT H3 (upd (upd H3 Y (pcT (p.1,p2.2.1,p.2.2))) L (.lst (J++[.ref Y]))):=fun b us e=>keep b _ (fun z=>by rw[z,G]at e;cases e) e;refine⟨_,_,_,J++[.ref Y],O++[(p.1,p2.2.1,p.2.2)],rfl,fun b o n e=>keep b o (aH e hL) (S2 b o n e),?_,keep _ _ ap am,aA,ag.on kt,?_,by rw[Av,B5]at az ⊢;omega,by rw[em,<- af,dJ,Iq ⟨e1,e2⟩]⟩
       .exact aCA T2 fun b o e n=>keep b o (fun z=>n ⟨_,z▸G⟩) e
       .exact Cg ⟨Y,rfl,by rw[aG ak.symm];exact aA⟩ (hZ'.on kt)
     | false=>
      refine nE ?_;refine⟨_,rfl,.inl ⟨rfl,_,aU G⟩,_,rfl,_,rfl,_,rfl,zZ3,fun Y ab=>?_⟩;have s3:=aJ (o:=pcT p) ab;have ak:L≠Y:=aH G ab;refine⟨L,zs,_,rfl,rfl,s3 _ _ G,by omega,?_⟩;have keep:∀ b o,b≠L->H3 b=some o->upd (upd H3 Y (pcT p)) L (.lst (zs++[.ref Y])) b=some o:=fun b o n e=>by
       rw[aG n];exact s3 _ _ e
      have kt:fT H3 (upd (upd H3 Y (pcT p)) L (.lst (zs++[.ref Y]))):=fun b us e=>keep b _ (fun z=>by rw[z,G]at e;cases e) e;refine⟨_,_,_,zs++[.ref Y],qs++[p],rfl,fun b o n e=>keep b o (aH e hL) (S2 b o n e),?_,keep _ _ ap am,aA,ag.on kt,?_,by rw[Av,B5];omega,by rw[em,<- af];exact(hbf rfl).symm⟩
      .exact aCA T2 fun b o e n=>keep b o (fun z=>n ⟨_,z▸G⟩) e
      .exact Cg ⟨Y,rfl,by rw[aG ak.symm];exact aA⟩ (aa.on kt)
   .rintro σ H2 ⟨o3,o4,o5,zs,qs,rfl,S2,T2,am,G,ag,aa,az,af⟩;refine⟨_,rfl,L,zs,rfl,.inl ⟨aU G,fun t' bc=>?_⟩⟩;have s2:=aJ (o:=.tup zs) bc;have eq:rB ws ps=qs:=by rw[af,bp,AN,aFj htf hpp ar];rfl
    exact k t' zs _ (S2.trans s2.butT) (T2.same s2) aA (by rw[eq];exact aa.same s2)
end K11
namespace L2
open PySem PySem.Spec PyProof.Rows
theorem aCD{X:Cx}{e:Bi}:PT X e (fun _ _ _=>False):=⟨fun _ _ _ _ _ _ h=>h.elim⟩
theorem mH{X:Cx}{e:List Cw}:PSs X e (fun _ _ _=>False):=⟨fun _ _ _ _ _ _ h=>h.elim⟩
end L2
namespace K11
open PySem L2
def aAm:Bc->Bool|.str z=>b9 z|_=>false
def aFn(lo hi:Int):Bc->Bool|.int i=>decide (lo<=i/\i<=hi)|_=>false
def uI:Bc->Bool
 | .tuple [l,h,a]=>aAm l&&aAm h&&aFn 1 10000000 a
 | _=>false
def gO:List Str:=["part","join","forfeit"]
def pD(x:P3):Bc:=.tuple [.str x.1,.str x.2.1,.int x.2.2]
theorem wH{m:Bool}{H:Hp}:∀{T:List Str},(∀ z∈T,z.length<=1000)->cF m H (T.map V.str) (T.map BO)
 | [],_=>.nil
 | t::T,h=>.cons (.str t (h t (by simp))) (wH fun z hz=>h z (by simp[hz]))
theorem aAn{z:Str}(h:b9 z=true):Fj z=true:=by
 unfold b9 at h;rw[BC,A7]at h;unfold Fj;rw[Array.all_eq_true_iff_forall_mem];intro c hc;have:=Iu (h.2 c (by simpa using hc));exact Ir (by omega)
theorem pK:∀ R:List P3,Bs (R.map pD)=false
 | []=>rfl
 | x::R=>by
  show((pD x).hasDict||Bs (R.map pD))=false;rw[pK R];rfl
theorem rD:∀ R:List Str,Bs (R.map BO)=false
 | []=>rfl
 | x::R=>by
  show((BO x).hasDict||Bs (R.map BO))=false;rw[rD R];rfl
inductive pL:Str->List Bc->Prop
 | part {land:Str} {R:List P3} (hl:b9 land=true) (hr:(R.map (·.1)).Nodup) (h2:2<=R.length) (h6:R.length<=6) (ha:(R.map pD).all uI=true):pL "part" [.str land,.tuple (R.map pD)]
 | join {land:Str} {R:List Str} (hl:b9 land=true) (hr:R.Nodup) (h2:2<=R.length) (h6:R.length<=6) (ha:(R.map BO).all aAm=true):pL "join" [.tuple (R.map BO),.str land]
 | forfeit {land house:Str} (hl:b9 land=true) (hh:b9 house=true):pL "forfeit" [.str land,.str house]
def xV(word name:Str)(day:Int)(ds:List Bc):Bc:=.tuple (.str word::.str name::.int day::ds)
theorem pM{m:Bool}{H:Hp}{z:Str}(h:b9 z=true):RdV m H (.str z) (.str z):=.str z (by have:=(j8 h).2;omega)
theorem aFp{w:Str}(h:w∈gO):w.length<=1000:=by
 have:∀ w∈gO,w.length<=1000:=by decide
 exact this w h
theorem pL.word{word:Str}{ds:List Bc}(h:pL word ds):word∈gO:=by
 cases h<;>decide
theorem pL.len{word:Str}{ds:List Bc}(h:pL word ds):ds.length<=4:=by
 cases h<;>simp
theorem pL.nodict{word:Str}{ds:List Bc}(h:pL word ds):Bs ds=false:=by
 cases h with
 | @part F R _ _ _ _ _=>
  show(false||(Bs (R.map pD)||false))=false;rw[pK];rfl
 | @join F R _ _ _ _ _=>
  show(Bs (R.map BO)||(false||false))=false;rw[rD];rfl
 | _=>rfl
theorem iE(w:AW)(s:Str):BF w.params s=aHH w (Ad s):=by
 first|rfl|(unfold aHH hashStr BF;rfl)
theorem isS(s:Str)(t:Tok):oJ (Ad s) (.str s t)=true:=by
 show Gi s (.str s t)=true;simp[Gi]
def fmV(g0 g1 g2 g3 g4 g5 g6 g7:Af):List (Key×V):=[(Ad "part",.ref g0),(Ad "join",.ref g1),(Ad "forfeit",.ref g2),(Ad "measure",.ref g3),(Ad "mend",.ref g4),(Ad "alone",.ref g5),(Ad "breach",.ref g6),(Ad "view",.ref g7)]
def fmR(g0 g1 g2 g3 g4 g5 g6 g7:Af):List (Key×Ac):=[(Ad "part",.ref g0),(Ad "join",.ref g1),(Ad "forfeit",.ref g2),(Ad "measure",.ref g3),(Ad "mend",.ref g4),(Ad "alone",.ref g5),(Ad "breach",.ref g6),(Ad "view",.ref g7)]
theorem aIC(Z G J O g4 Y g6 F:Af):KV (fmV Z G J O g4 Y g6 F) (fmR Z G J O g4 Y g6 F):=.cons ⟨rfl,rfl⟩ (.cons ⟨rfl,rfl⟩ (.cons ⟨rfl,rfl⟩ (.cons ⟨rfl,rfl⟩ (.cons ⟨rfl,rfl⟩ (.cons ⟨rfl,rfl⟩ (.cons ⟨rfl,rfl⟩ (.cons ⟨rfl,rfl⟩ (.nil))))))))
theorem aGO{P:AE}{w:AW}{K:Ah}{a:Af}{e:Nat}{x0 G Z F J x5 Y O:Tok}{g0 g1 g2 g3 g4 g5 g6 g7:Af}(l:K.lookup a=some { cls:=.type "dict",data:=.dict #[⟨BF w.params "part",.str "part" x0,.ref g0⟩,⟨BF w.params "join",.str "join" G,.ref g1⟩,⟨BF w.params "forfeit",.str "forfeit" Z,.ref g2⟩,⟨BF w.params "measure",.str "measure" F,.ref g3⟩,⟨BF w.params "mend",.str "mend" J,.ref g4⟩,⟨BF w.params "alone",.str "alone" x5,.ref g5⟩,⟨BF w.params "breach",.str "breach" Y,.ref g6⟩,⟨BF w.params "view",.str "view" O,.ref g7⟩] e }):∀ h:Bl,K.In h->h.DictOf (cA P w) a (fmR g0 g1 g2 g3 g4 g5 g6 g7):=by
 intro h hK;refine⟨_,_,_,hK _ _ l,⟨rfl,rfl,rfl⟩,rfl,?_,?_,?_⟩
 .intro en he;simp only[List.mem_toArray,An,AC,or_false]at he;rcases he with rfl|rfl|rfl|rfl|rfl|rfl|rfl|rfl
  .exact⟨Ad "part",isS "part" x0,iE w "part"⟩
  .exact⟨Ad "join",isS "join" G,iE w "join"⟩
  .exact⟨Ad "forfeit",isS "forfeit" Z,iE w "forfeit"⟩
  .exact⟨Ad "measure",isS "measure" F,iE w "measure"⟩
  .exact⟨Ad "mend",isS "mend" J,iE w "mend"⟩
  .exact⟨Ad "alone",isS "alone" x5,iE w "alone"⟩
  .exact⟨Ad "breach",isS "breach" Y,iE w "breach"⟩
  .exact⟨Ad "view",isS "view" O,iE w "view"⟩
 .exact .cons (isS "part" x0) rfl (.cons (isS "join" G) rfl (.cons (isS "forfeit" Z) rfl (.cons (isS "measure" F) rfl (.cons (isS "mend" J) rfl (.cons (isS "alone" x5) rfl (.cons (isS "breach" Y) rfl (.cons (isS "view" O) rfl (.nil))))))))
 .show([Ad "part",Ad "join",Ad "forfeit",Ad "measure",Ad "mend",Ad "alone",Ad "breach",Ad "view"]:List Key).Nodup;decide
theorem aID{word name:Str}{day:Int}{cE:List V}:atI (V.str word::.str name::.int day::cE) 0=some (.str word)/\atI (V.str word::.str name::.int day::cE) 1=some (.str name)/\atI (V.str word::.str name::.int day::cE) 2=some (.int day):=by
 have hl:(V.str word::V.str name::V.int day::cE).length=cE.length+3:=rfl;unfold atI ixN;rw[hl,Iq (by decide),Iq (by omega),Iq (by decide),Iq (by omega),Iq (by decide),Iq (by omega)];exact⟨rfl,rfl,rfl⟩
structure cS where
 word:Str
 name:Str
 day:Int
 ds:List Bc
def cS.d(r:cS):Bc:=xV r.word r.name r.day r.ds
structure cS.Ok(r:cS)(fs:List Str):Prop where
 rs:pL r.word r.ds
 nm:b9 r.name=true
 d0:0<=r.day
 d1:r.day<=9999
structure mI(H:Hp)(xs:List V)(us:List cS)(fs:List Str):Prop where
 len:xs.length=us.length
 at':∀(i:Nat) (x:V),xs[i]?=some x->∃ u,us[i]?=some u/\RdV false H x u.d/\u.Ok fs
end K11
namespace L2
open PySem PySem.Spec PyProof.Rows
mutual
theorem RdV.onT{H H':Hp}(t:∀ q xs,H q=some (.tup xs)->H' q=some (.tup xs)){x:V}{d:Bc}(r:RdV false H x d)(h:d.hasDict=false):RdV false H' x d:=by
 cases r with
 | non=>exact .non
 | bl b=>exact .bl b
 | int i=>exact .int i
 | str z hz=>exact .str z hz
 | lst hm _ _ _=>cases hm
 | tup e hl q=>exact .tup (t _ _ e) hl (cF.onT t q (by unfold FQ at h;exact h))
 | dct _ _=>unfold FQ at h;cases h
theorem cF.onT{H H':Hp}(t:∀ q xs,H q=some (.tup xs)->H' q=some (.tup xs)){xs:List V}{ds:List Bc}(r:cF false H xs ds)(h:Bs ds=false):cF false H' xs ds:=by
 cases r with
 | nil=>exact .nil
 | cons a r=>
  unfold Bs at h;rw[Bool.or_eq_false_iff]at h;exact .cons (RdV.onT t a h.1) (cF.onT t r h.2)
end
end L2
namespace K11
open PySem L2
theorem cS.Ok.nd{r:cS}{fs:List Str}(h:r.Ok fs):r.d.hasDict=false:=by
 unfold cS.d xV;unfold FQ;show(false||(false||(false||Bs r.ds)))=false;rw[h.rs.nodict];rfl
theorem cS.Ok.on{r:cS}{fs:List Str}(h:r.Ok fs){H H':Hp}{x:V}(rd:RdV false H x r.d)(t:fT H H'):RdV false H' x r.d:=RdV.onT t rd h.nd
theorem cS.Ok.tup{r:cS}{fs:List Str}{H:Hp}{x:V}(rd:RdV false H x r.d):∃ t cE,x=.ref t/\H t=some (.tup (.str r.word::.str r.name::.int r.day::cE))/\cF false H cE r.ds:=by
 unfold cS.d xV at rd;cases rd with
 | tup e hl q=>
  cases q with
  | cons F q=>
   cases q with
   | cons G q=>
    cases q with
    | cons J q=>
     cases F;cases G;cases J;exact⟨_,_,rfl,e,q⟩
theorem mJ{l:List (Key×V)}{k:Key}(v:V)(hn:(l.map (·.1)).Nodup):((b0 l k v).map (·.1)).Nodup:=by
 cases e:bG l k with
 | none=>exact aGn v hn e
 | some u=>
  have G:(l.any fun F=>decide (F.1=k))=true:=by rw[dW,e];rfl
  unfold b0;rw[Iq G,Di];have:((fun x:Key×V=>x.1) ∘ fun F:Key×V=>if F.1=k then(F.1,v) else F)=(·.1):=by
   funext F;show(if F.1=k then(F.1,v) else F).1=F.1;split<;>rfl
  rw[this];exact hn
structure MA where
 dx:Af
 r:Af
 h:Af
 a:Af
 i:Af
 me:Af
def aBH(A:MA):List (Str×V):=[("ranks",.ref A.r),("holdings",.ref A.h),("acres",.ref A.a),("inches",.ref A.i),("menders",.ref A.me)]
structure MC(K:Ah)(C:Af):Prop where
 cl:Cls K C
 r:iT K C "ranks"
 h:iT K C "holdings"
 a:iT K C "acres"
 i:iT K C "inches"
 m:iT K C "menders"
def cY(E:List Af)(H H':Hp):Prop:=∀ b o,b∉E->H b=some o->H' b=some o
theorem cY.trans{E:List Af}{H H1 H2:Hp}(a:cY E H H1)(b:cY E H1 H2):cY E H H2:=fun c o n h=>b c o n (a c o n h)
theorem cY.refl{E:List Af}(H:Hp):cY E H H:=fun _ _ _ h=>h
theorem cY.same{E:List Af}{H H1 H2:Hp}(a:cY E H H1)(b:b8 H1 H2):cY E H H2:=fun c o n h=>b c o (a c o n h)
theorem dS{E:List Af}{H H1:Hp}(a:b8 H H1):cY E H H1:=fun c o _ h=>a c o h
def dv:Bc->Option V
 | .str z=>some (.str z)
 | .int i=>some (.int i)
 | _=>none
def dvs:List Bc->Option (List V)
 | []=>some []
 | d::ds=>match dv d,dvs ds with
  | some v,some vs=>some (v::vs)
  | _,_=>none
theorem aJL{m:Bool}{H:Hp}:∀{xs:List V}{ds:List Bc}{vs:List V},cF m H xs ds->dvs ds=some vs->xs=vs
 | _,_,_,.nil,e=>by cases e;rfl
 | _,_,_,@cF.cons _ _ x d xs ds a r,e=>by
  unfold dvs at e;split at e
  .next v vs e1 e2=>
   cases e;rw[aJL r e2];cases a<;>cases e1<;>rfl
  .cases e
theorem aIE{m:Bool}{H:Hp}{xs:List V}{ds:List Bc}{vs:List V}(h:cF m H xs ds)(e:dvs ds=some vs:=by rfl):xs=vs:=aJL h e
inductive Rd2(m:Bool)(H:Hp)(d e:Bc):List V->Prop
 | mk {x y:V} (a:RdV m H x d) (b:RdV m H y e):Rd2 m H d e [x,y]
theorem rd2{m:Bool}{H:Hp}{xs:List V}{d e:Bc}(h:cF m H xs [d,e]):Rd2 m H d e xs:=by
 cases h with
 | cons a h=>
 cases h with
 | cons b h=>
 cases h;exact⟨a,b⟩
def pN(H:Hp)(ws:List Str)(v:V)(hs:Str)(ps:List Pc):Prop:=∃(t tp:Af) (xs:List V),v=.ref t/\H t=some (.tup [.str hs,.ref tp])/\H tp=some (.tup xs)/\dI H xs ps
theorem pN.on{H H':Hp}{ws:List Str}{v:V}{hs:Str}{ps:List Pc}(h:pN H ws v hs ps)(t:fT H H'):pN H' ws v hs ps:=by
 obtain⟨a,b,xs,h1,h2,h3,h4⟩:=h;exact⟨a,b,xs,h1,t _ _ h2,t _ _ h3,h4.on t⟩
structure Ex where
 hs:List (Key×V)
 pc:Str->List Pc
 ws:List Str
 inc:List (Key×V)
 men:Mnd
def Ex.ac(S:Ex)(z:Str):Int:=acr (S.pc z)
def mK(pc:Str->List Pc)(z:Str)(n:List Pc):Str->List Pc:=fun y=>if y=z then n else pc y
structure oE(H:Hp)(ws:List Str)(hol hs:List (Key×V))(ac:Str->List Pc):Prop where
 ks:hol.map (·.1)=hs.map (·.1)
 at':∀ k v,bG hol k=some v->∃ z house,k=Ad z/\bG hs k=some (.str house)/\pN H ws v house (ac z)
theorem mQ(k:Key):∀ l:List (Key×V),(l.any fun F=>decide (F.1=k))=(l.map (·.1)).any fun j=>decide (j=k)
 | []=>rfl
 | p::r=>by rw[Do,Aq,Do,mQ k r]
theorem m8{l F:List (Key×V)}(h:l.map (·.1)=F.map (·.1))(k:Key):(bG l k).isSome=(bG F k).isSome:=by
 rw[<- dW,<- dW,mQ,mQ,h]
theorem aFq(l:List (Key×V))(k:Key)(v:V):(b0 l k v).map (·.1)=if (bG l k).isSome=true then l.map (·.1) else l.map (·.1)++[k]:=by
 unfold b0;rw[dW];split
 .rw[Di];congr 1;funext F;show(if F.1=k then(F.1,v) else F).1=F.1;split<;>rfl
 .rw[Ar];rfl
theorem xW(k:Key):∀ l:List (Key×V),(bZ l k).map (·.1)=(l.map (·.1)).filter fun j=>decide (j≠k)
 | []=>rfl
 | p::r=>by
  have F:=xW k r;by_cases e:p.1=k
  .rw[m4 e,F,Aq,BW,Ip (by simp[e])]
  .rw[m5 e,Aq,F,Aq,BW,Iq (by simp[e])]
theorem oE.on{H H':Hp}{ws:List Str}{F hs:List (Key×V)}{ac:Str->List Pc}(h:oE H ws F hs ac)(t:fT H H'):oE H' ws F hs ac:=⟨h.ks,fun k v e=>by
 obtain⟨z,house,h1,h2,h3⟩:=h.at' k v e;exact⟨z,house,h1,h2,h3.on t⟩⟩
theorem oE.put{H:Hp}{ws:List Str}{G hs:List (Key×V)}{ac:Str->List Pc}{z:Str}{v:V}{house:Str}{n:List Pc}(h:oE H ws G hs ac)(hv:pN H ws v house n):oE H ws (b0 G (Ad z) v) (b0 hs (Ad z) (.str house)) (mK ac z n):=by
 refine⟨by rw[aFq,aFq,m8 h.ks,h.ks],fun k u e=>?_⟩;rw[d7]at e;by_cases F:k=Ad z
 .rw[Iq F]at e;cases e;refine⟨z,house,F,by rw[d7,Iq F],?_⟩;unfold mK;rw[Iq rfl];exact hv
 .rw[Ip F]at e;obtain⟨y,hy,h1,h2,h3⟩:=h.at' k u e;refine⟨y,hy,h1,by rw[d7,Ip F];exact h2,?_⟩;unfold mK;rw[Ip (fun q=>F (by rw[h1,q]))];exact h3
theorem oE.drop{H:Hp}{ws:List Str}{F hs:List (Key×V)}{ac:Str->List Pc}(h:oE H ws F hs ac)(k:Key):oE H ws (bZ F k) (bZ hs k) ac:=by
 refine⟨by rw[xW,xW,h.ks],fun j u e=>?_⟩;rw[gW]at e;by_cases G:j=k
 .rw[Iq G]at e;cases e
 .rw[Ip G]at e;obtain⟨y,hy,h1,h2,h3⟩:=h.at' j u e;exact⟨y,hy,h1,by rw[gW,Ip G];exact h2,h3⟩
theorem oE.none{H:Hp}{ws:List Str}{F hs:List (Key×V)}{ac:Str->List Pc}(h:oE H ws F hs ac){k:Key}(e:bG F k=none):bG hs k=none:=by
 have:=m8 h.ks k;rw[e]at this;cases q:bG hs k with
 | none=>rfl
 | some x=>rw[q]at this;cases this
structure gP(H:Hp)(C M:Af)(A:MA)(ws:List Str)(n:Nat)(S:Ex):Prop where
 ins:H M=some (.ins C A.dx (aBH A))
 r:∃ rks,H A.r=some (.dK rks)/\RkX rks ws
 h:∃ hol,H A.h=some (.dK hol)/\(hol.map (·.1)).Nodup/\hol.length<=n/\oE H ws hol S.hs S.pc
 rh:A.r≠A.h
 we:ws=S.ws
section
variable{H H':Hp}{C M T L:Af}{A:MA}{ws:List Str}{n k:Nat}{S:Ex}
theorem gP.on(h:gP H C M A ws n S)(go:∀ b o,H b=some o->(∀ xs,o≠.lst xs)->(∀ ps,o≠.tbl ps)->H' b=some o):gP H' C M A ws n S:=by
 obtain⟨rks,hr,r2⟩:=h.r;obtain⟨hol,hh,h2,h3,h4⟩:=h.h;exact⟨go _ _ h.ins (fun _ z=>nomatch z) (fun _ z=>nomatch z),⟨rks,go _ _ hr (fun _ z=>nomatch z) (fun _ z=>nomatch z),r2⟩,⟨hol,go _ _ hh (fun _ z=>nomatch z) (fun _ z=>nomatch z),h2,h3,h4.on fun q F z=>go _ _ z (fun _ z=>nomatch z) (fun _ z=>nomatch z)⟩,h.rh,h.we⟩
theorem gP.same(h:gP H C M A ws n S)(s:b8 H H'):gP H' C M A ws n S:=h.on fun b o e _ _=>s _ _ e
theorem gP.sameT(h:gP H C M A ws n S)(s:eY T H H')(g:Tb T H):gP H' C M A ws n S:=by
 obtain⟨tps,hT,_⟩:=g.ex;exact h.on fun b o e _ ne=>s b o (fun z=>by rw[z,hT]at e;cases e;exact ne _ rfl) e
theorem gP.list{xs ys:List V}(h:gP H C M A ws n S)(e:H L=some (.lst xs)):gP (upd H L (.lst ys)) C M A ws n S:=h.on fun b o q ne _=>by
 rw[aG (fun z=>by rw[z,e]at q;cases q;exact ne _ rfl)];exact q
theorem gP.mono(h:gP H C M A ws n S)(F:n<=k):gP H C M A ws k S:=by
 obtain⟨hol,hh,h2,h3,h4⟩:=h.h;exact⟨h.ins,h.r,⟨hol,hh,h2,by omega,h4⟩,h.rh,h.we⟩
theorem gP.setH{F hs:List (Key×V)}{ac:Str->List Pc}(h:gP H C M A ws n S)(G:(F.map (·.1)).Nodup)(hl:F.length<=k)(J:oE H ws F hs ac):
  gP (upd H A.h (.dK F)) C M A ws k { S with hs:=hs,pc:=ac }:=by
 obtain⟨rks,hr,r2⟩:=h.r;obtain⟨hol0,hh,_⟩:=h.h;exact⟨by rw[aG (bS h.ins hh (fun z=>nomatch z))];exact h.ins,⟨rks,by rw[aG h.rh];exact hr,r2⟩,⟨F,aA,G,hl,J.on fun q xs e=>by rw[aG (bS e hh (fun z=>nomatch z))];exact e⟩,h.rh,h.we⟩
end
def aK(S:Ex)(z:Str):Bool:=(bG S.hs (Ad z)).isSome
def cN(S:Ex)(land:Str)(R:List P3):Str:=if aK S land=false then "land" else if (R.map fun p=>p.2.2).sum≠S.ac land then "acres" else if (R.any fun p=>decide (p.1≠land)&&aK S p.1)=true then "name" else "done"
def kB(S:Ex)(z h:Str)(ps:List Pc):Ex:={ S with hs:=b0 S.hs (Ad z) (.str h),pc:=mK S.pc z ps }
def wI:List P3->Str->Int
 | [],_=>0
 | q::R,z=>if q.1=z then 0 else q.2.2+wI R z
def aBI(orig:List Pc)(R:List P3)(p:P3):List Pc:=oB orig (wI R p.1) (wI R p.1+p.2.2)
def pO(pf:P3->List Pc)(S:Ex)(land:Str)(R:List P3):Ex:=R.foldl (fun S p=>kB S p.1 p.2.1 (pf p)) { S with hs:=bZ S.hs (Ad land) }
def iJ(S:Ex)(land:Str)(R:List P3):Ex:=pO (aBI (S.pc land) R) S land R
theorem uJ:∀{R:List P3}{i:Nat}{p:P3},(R.map (·.1)).Nodup->R[i]?=some p->wI R p.1=((R.take i).map fun p=>p.2.2).sum
 | [],i,p,_,h=>by simp at h
 | q::R,0,p,_,h=>by
  simp at h;subst h;unfold wI;rw[Iq rfl];rfl
 | q::R,i+1,p,hn,h=>by
  rw[Aq,A5]at hn;have h':R[i]?=some p:=by simpa using h
  unfold wI;rw[Ip (fun e=>hn.1 (by rw[e];exact Ba (AQ h'))),uJ hn.2 h',Gk,Aq,CD]
def Jn(S:Ex):Prop:=(∀ z,aK S z=true->(S.pc z).length<=80/\∀ p∈S.pc z,p.1∈S.ws)/\∀ R:List Str,R.Nodup->(∀ z∈R,aK S z=true)->TF S.ws (R.map S.pc).flatten
def cG(S:Ex)(R:List Str)(land:Str):Str:=if R.all (aK S)=false then "land" else if (R.any fun z=>decide (bG S.hs (Ad z)≠bG S.hs (Ad (R.headD ""))))=true then "houses" else if (!decide (land∈R)&&aK S land)=true then "name" else "done"
def fP(S:Ex)(R:List Str)(land:Str):Ex:={ S with hs:=b0 (R.foldl (fun d z=>bZ d (Ad z)) S.hs) (Ad land) ((bG S.hs (Ad (R.headD ""))).getD .non),pc:=mK S.pc land (rB S.ws (R.map S.pc).flatten) }
def dL(S:Ex)(land house:Str):Str:=if aK S land=false then "land" else if bG S.hs (Ad land)=some (.str house) then "same" else "done"
inductive lC(S:Ex):Str->List Bc->Str->Ex->Prop
 | part {land:Str} {R:List P3}:lC S "part" [.str land,.tuple (R.map pD)] (cN S land R) (if cN S land R="done" then iJ S land R else S)
 | join {land:Str} {R:List Str}:lC S "join" [.tuple (R.map BO),.str land] (cG S R land) (if cG S R land="done" then fP S R land else S)
 | forfeit {land house:Str}:lC S "forfeit" [.str land,.str house] (dL S land house) (if dL S land house="done" then{ S with hs:=b0 S.hs (Ad land) (.str house) } else S)
inductive aAo(C T:Af)(W:List Str)(vs:List V)(H:Hp)(Q:VK)(u3_:XK):Prop
 | mk (M:Af) (A:MA) (ws:List Str) (n:Nat) (S:Ex) (x:V) (r:cS) (q0:vs=[.ref M,x]) (q1:gP H C M A ws n S) (q2:n<=10000) (q3:Tb T H) (q4:RdV false H x r.d) (q5:r.Ok ws) (q6:r.word∈W) (q7:Jn S) (q8:∀ z S' H',lC S r.word r.ds z S'->cY [T,A.h] H H'->Tb T H'->gP H' C M A ws (n+6) S'->Q (.str z) H'):aAo C T W vs H Q u3_
def oF(C T:Af)(W:List Str):Sp:=fun vs H Q u3_=>aAo C T W vs H Q u3_
theorem pP{T a:Af}{ip kvs':List (Key×V)}{H:Hp}(g:Tb T H)(e:H a=some (.dK ip)):Tb T (upd H a (.dK kvs')):=by
 obtain⟨ps,h1,h2,F⟩:=g.ex;refine⟨ps,by rw[aG (bS h1 e (fun z=>nomatch z))];exact h1,h2,?_⟩;rcases F with F|⟨c,F,G⟩
 .exact .inl F
 .exact .inr ⟨c,F,by rw[aG (bS G e (fun z=>nomatch z))];exact G⟩
theorem dO{E:List Af}{a:Af}{o:HO}{H:Hp}(h:a∈E):cY E H (upd H a o):=fun b u n e=>by
 rw[aG (fun z=>n (by rw[z];exact h))];exact e
theorem wJ:cB ["moment","row","land","house","holding","pieces"] ["moment","row"] (aQ gZ):=⟨rfl,rfl,rfl,by decide,rfl,by decide,by decide⟩
theorem xX{f C T:Af}{fd:Be}(F:Fun K "do_forfeit" "do_forfeit" gZ f fd)(hc:MC K C):cW P w K mg base CX0 1 f fd ["moment","row"] (oF C T ["forfeit"]):=by
 refine F.ok wJ (fun vs H Q E h=>?_) (fun am A outer s H vs Q E hr h=>?_)
 .obtain⟨M,A,ws,n,S,x,r,rfl,_⟩:=h;rfl
 .obtain⟨M,MA,ws,n,S,x,r,rfl,mx,hn,tb,rdv,ok,hw,jn,k⟩:=h;have Y:=mx;have hu:=fS hr;have nd:=wJ.nd;refine⟨_,aB (aDX (i:=2) (j:=3) rfl nd rfl rfl (by decide) rfl rfl (aF (aW bC (pv 1) aD Iv) (aF (aW bC (pv 1) aD Iv) aE)) rfl)
   (aB (cD (nQ (mZ hu (pv 2) (d6 (pv 0) rfl))) (aM (bT aO)) bF)
   (aB (iR (bQ hu (d6 (pv 0) rfl) (pv 2) Iv) (f6 rfl (bK (aV (i:=4) nd rfl (Az rfl)) (bK (aV (i:=5) nd rfl (Az rfl)) dX))))
   (aB (cD (aZ cV (pv 4) (pv 3) (bJ _)) (aM (bT aO)) bF)
   (aB (dM hu (d6 (pv 0) rfl) (pv 2) (cO (aF (pv 3) (aF (pv 5) aE))) rfl)
   (aM (bT aO)))))),?_⟩
  obtain⟨t,cE,rfl,ht,hrest⟩:=cS.Ok.tup (fs:=ws) rdv;have ae:r.word="forfeit":=by simpa using hw
  have rs:=ok.rs;obtain⟨word,name,day,ds⟩:=r;dsimp only at ae rs hrest ht k;subst ae;cases rs with
  | @forfeit G J hl hh=>
  obtain rfl:=aIE hrest;refine⟨_,rfl,t,_,3,_,rfl,rfl,aN ht,rfl,_,rfl,t,_,4,_,rfl,rfl,aN ht,rfl,_,_,rfl,?_⟩;obtain⟨hol,hh1,hnd,hlen,hX⟩:=mx.h;have kF:∀(z:Str) (S':Ex),dL S G J=z->(if z="done" then{ S with hs:=b0 S.hs (Ad G) (.str J) } else S)=S'->lC S "forfeit" [.str G,.str J] z S':=by
   rintro z S' rfl rfl;exact .forfeit
  refine⟨_,rfl,_,rfl,M,C,_,_,_,rfl,Y.ins,hc.cl,hc.h,rfl,MA.h,_,rfl,.inl ⟨hol,Ad G,.inl hh1,rfl,rfl⟩,_,rfl,?_⟩;cases hv:bG hol (Ad G)with
  | none=>
   have e0:dL S G J="land":=by
    unfold dL aK;rw[hX.none hv];rfl
   exact gI (k _ _ _ (kF _ _ e0 (Ip (by decide))) (cY.refl H) tb (mx.mono (by omega)))
  | some v=>
   refine nE ?_;obtain⟨_,hs,hz,hsv,t3,tp,xs,rfl,e1,e2,e3⟩:=hX.at' _ _ hv;cases hz;have ab:aK S G=true:=by unfold aK;rw[hsv];rfl
   refine⟨_,rfl,M,C,_,_,_,rfl,Y.ins,hc.cl,hc.h,rfl,_,rfl,MA.h,_,rfl,.inl ⟨hol,Ad G,.inl hh1,rfl,hv.symm⟩,t3,_,rfl,aN e1,rfl,_,_,rfl,_,_,rfl,rfl,_,rfl,_,rfl,rfl,_,rfl,dB (fun g=>?_) fun g=>?_⟩
   .have g':hs=J:=V.str.inj (Iu g);have e0:dL S G J="same":=by
     unfold dL;rw[ab,Ip (by decide),hsv,g',Iq rfl]
    exact k _ _ _ (kF _ _ e0 (Ip (by decide))) (cY.refl H) tb (mx.mono (by omega))
   have e0:dL S G J="done":=by
    unfold dL;rw[ab,Ip (by decide),hsv,Ip (fun z=>g (Ir (BD.inj z)))]
   refine⟨_,rfl,_,rfl,zZ2,fun u2 ag=>?_⟩;have O:=aJ (o:=.tup [V.str J,.ref tp]) ag;have aa:=Y.same O;have aj:Tb T _:=tb.same O;refine⟨_,rfl,M,C,_,_,_,rfl,aa.ins,hc.cl,hc.h,rfl,_,rfl,MA.h,_,rfl,iF.k (k:=Ad G) (O _ _ hh1) (CW hlen (by rw[Co];omega)),?_⟩;have ai:pN (upd H u2 (.tup [V.str J,.ref tp])) ws (.ref u2) J (S.pc G):=⟨u2,tp,xs,rfl,aA,O _ _ e2,e3.same O⟩
   have Z:=(hX.on (bV O)).put (z:=G) ai;have ah:mK S.pc G (S.pc G)=S.pc:=by
    funext y;unfold mK;split
    .rename_i e;rw[e]
    .rfl
   rw[ah]at Z;refine k _ _ _ (kF _ _ e0 (Iq rfl)) ((dS O).trans (dO (by simp))) (pP aj (O _ _ hh1)) ((mx.same O).setH (mJ _ hnd) ?_ Z);have:=cJ hol (Ad G) (.ref u2);omega
theorem pQ(x:Str):∀ l:List Str,inV (.str x) (l.map V.str)=decide (x∈l)
 | []=>by simp[inV]
 | y::l=>by
  have F:=pQ x l;unfold inV at F ⊢;rw[Aq,Do,F];show((y==x)||decide (x∈l))=decide (x∈y::l);by_cases e:y=x
  .subst e;simp
  .have:x≠y:=fun z=>e z.symm;simp[e,this]
end K11
namespace L2
open PySem PySem.Spec PyProof.Rows
theorem xY{X:Cx}{K:Ah}{e:Bi}{f:Str}{pos:Pos}{ta:TE}(G:PE X e ta)(J:attributeBase e f X.env (eval e X.env)=eval e X.env:=by rfl)(F:X.K=K:=by rfl):PE X (.Attribute e f pos) (aI6 K ta f):=by
 subst F;exact d6 G J
end L2
namespace K11
open PySem L2
variable{H H':Hp}{K:Ah}
theorem i6{H:Hp}:∀{F:List V}{R:List P3},cF false H F (R.map pD)->∀{i:Nat}{v:V},F[i]?=some v->∃ p q,R[i]?=some p/\v=.ref q/\H q=some (.tup [.str p.1,.str p.2.1,.int p.2.2])
 | _,[],h,i,v,e=>by cases h;simp at e
 | _,p::R,h,i,v,e=>by
  rw[Aq]at h;cases h with
  | cons a r=>
   cases i with
   | zero=>
    simp at e;subst e;unfold pD at a;cases a with
    | tup e hl q=>
     cases q with
     | cons G q=>
      cases q with
      | cons J q=>
       cases q with
       | cons O q=>
        cases q;cases G;cases J;cases O;exact⟨p,_,rfl,rfl,e⟩
   | succ i=>
    obtain⟨p',q,e1,e2⟩:=i6 r (i:=i) (by simpa using e);exact⟨p',q,by simpa using e1,e2⟩
theorem aFr:cB ["moment","row","parted","parts","pieces","low","land","house","acres"] ["moment","row"] (aQ jK):=⟨rfl,rfl,rfl,by decide,rfl,by decide,by decide⟩
theorem aDI{f C T:Af}{fd:Be}(F:Fun K "do_part" "do_part" jK f fd)(hc:MC K C)(bh:mg "sum"=none)(bu:mg "any"=none)
  (GA:Cl P w K mg base 1 "acres_in" ["pieces"] aCs)
  (GC:Cl P w K mg base 1 "cut" ["pieces","low","high"] aHz):cW P w K mg base CX0 2 f fd ["moment","row"] (oF C T ["part"]):=by
 refine F.ok aFr (fun vs H Q E h=>?_) (fun cI A outer s H vs Q E hr h=>?_)
 .obtain⟨M,A,ws,n,S,x,r,rfl,_⟩:=h;rfl
 .obtain⟨M,MA,ws,n,S,x,r,rfl,mx,hn,tb,rdv,ok,hw,jn,k⟩:=h;have c0:=mx;have hu:=fS hr;have nd:=aFr.nd;have bY:(["part","moment","parted"]:List Str).Nodup:=by decide
  refine⟨_,aB (iR (cO (aF (aW bC (pv 1) aD Iv) (aF (aW bC (pv 1) aD Iv) aE))) (f6 rfl (bK (aV (i:=2) nd rfl (DT rfl)) (bK (aV (i:=3) nd rfl (Az rfl)) dX))))
   (aB (cD (nQ (mZ hu (pv 2) (d6 (pv 0) rfl))) (aM (bT aO)) bF)
   (aB (aR (i:=4) nd rfl (Az rfl) (aW bC (bQ hu (d6 (pv 0) rfl) (pv 2) Iv) aD Iv))
   (aB (cD (aZ vL (aX (tQ rfl) (by rfl) bh EU (aF (dF (N:=["part"]) (src:=[none]) (osc:=aQ jK) (oN:=["moment","row","parted","parts","pieces","low","land","house","acres"]) ⟨by rfl,by decide,by decide,by decide,rfl,by rfl⟩ (dQ (pv 3))
     fun cl s H fp im C=>⟨aV (i:=0) (show(["part"]:List Str).Nodup by decide) rfl (Az rfl),dE,aW (r:=lR K) bC (pv 0) aD Iv⟩) aE))
     (cK GA hr (aF (pv 4) aE)) (bJ _)) (aM (bT aO)) bF)
   (aB (cD (wX (aX (y8 rfl) (by rfl) bu (by kernel_rfl) (aF (dF (N:=["part","moment","parted"]) (src:=[none,some 0,some 2]) (osc:=aQ jK) (oN:=["moment","row","parted","parts","pieces","low","land","house","acres"]) ⟨by rfl,by decide,by decide,by decide,rfl,by rfl⟩ (dQ (pv 3))
     fun cl s H fp im C=>⟨aV (i:=0) bY rfl (Az rfl),dE,aDV (kQ vL (aW (r:=lR K) bC (pv 0) aD Iv) (pv 2) (bJ _)) (aDU (aAW (qA hu (aW (r:=lR K) bC (pv 0) aD Iv) (xY (K:=K) (pv 1)))))⟩) aE))) (aM (bT aO)) bF)
   (aB (dP (oP (d6 (pv 0) rfl) (pv 2) ⟨rfl,rfl,rfl,rfl⟩))
   (aB (aR (i:=5) nd rfl (Az rfl) aD)
   (aB (dY Bj rfl (dQ (pv 3)) (g:=rG K 3 (dH (aS 6) (dH (aS 7) (dH (aS 8) rF)))) (f6 rfl (bK (aV (i:=6) nd rfl (Az rfl)) (bK (aV (i:=7) nd rfl (Az rfl)) (bK (aV (i:=8) nd rfl (Az rfl)) dX))))
    (aB (dM hu (d6 (pv 0) rfl) (pv 6) (cO (aF (pv 7) (aF (cK GC hr (aF (pv 4) (aF (pv 5) (aF (aY cQ (pv 5) (pv 8)) aE)))) aE))) rfl)
    (aM (aDZ (i:=5) nd rfl (Az rfl) (pv 8) aD0))))
   (aM (bT aO))))))))),?_⟩
  obtain⟨t,cE,rfl,ht,hrest⟩:=cS.Ok.tup (fs:=ws) rdv;have bj:r.word="part":=by simpa using hw
  have rs:=ok.rs;obtain⟨word,name,day,ds⟩:=r;dsimp only at bj rs hrest ht k;subst bj;cases rs with
  | @part G R hl aq h2 h6 ci=>
  obtain⟨q1,q2⟩:=rd2 hrest;cases q1;cases q2 with
  | @tup tp us _ bO c1 bn=>
  have ak:=bn.len;rw[Aa]at ak;refine⟨_,rfl,t,_,3,_,rfl,rfl,aN ht,rfl,_,rfl,t,_,4,_,rfl,rfl,aN ht,rfl,zZ2,fun u b6=>?_⟩;have su:=aJ (o:=.tup [V.str G,.ref tp]) b6;refine⟨u,_,rfl,aN aA,rfl,_,_,rfl,_,_,rfl,rfl,?_⟩;generalize upd H u (.tup [V.str G,.ref tp])=H0 at su ⊢;have ab:=mx.same su;have aa:=ab;have ay:Tb T H0:=tb.same su;have O:=su _ _ bO;have ad:=bn.same su;obtain⟨hol,hh1,hnd,hlen,hX⟩:=ab.h;have kP:∀(z:Str) (S':Ex),cN S G R=z->(if z="done" then iJ S G R else S)=S'->lC S "part" [.str G,.tuple (R.map pD)] z S':=by
   rintro z S' rfl rfl;exact .part
  refine⟨_,rfl,_,rfl,M,C,_,_,_,rfl,aa.ins,hc.cl,hc.h,rfl,MA.h,_,rfl,.inl ⟨hol,Ad G,.inl hh1,rfl,rfl⟩,_,rfl,?_⟩;cases hv:bG hol (Ad G)with
  | none=>
   have e0:cN S G R="land":=by
    unfold cN aK;rw[hX.none hv];rfl
   exact gI (k _ _ _ (kP _ _ e0 (Ip (by decide))) (dS su) ay (ab.mono (by omega)))
  | some v=>
  refine nE ?_;obtain⟨_,hs,hz,hsv,t3,tp3,xs,rfl,e1,e2,e3⟩:=hX.at' _ _ hv;cases hz;have ag:aK S G=true:=by unfold aK;rw[hsv];rfl
  have bL:=(jn.1 G ag).1;obtain⟨ps,epc⟩:∃ ps,S.pc G=ps:=⟨_,rfl⟩
  rw[epc]at e3 bL;have bp:acr ps=S.ac G:=by
   rw[<- epc];rfl
  obtain⟨pf,hpf⟩:∃ pf,pf=aBI ps R:=⟨_,rfl⟩
  have b2:iJ S G R=pO pf S G R:=by
   unfold iJ;rw[epc,hpf]
  refine⟨_,rfl,M,C,_,_,_,rfl,aa.ins,hc.cl,hc.h,rfl,_,rfl,MA.h,_,rfl,.inl ⟨hol,Ad G,.inl hh1,rfl,hv.symm⟩,t3,_,1,_,rfl,rfl,aN e1,rfl,?_⟩;have cv:=Bm e3;have br:xs.length<=8000000:=by omega
  have z8:∀ i,i<=8000000->i<=sizeLine:=fun i h=>by rw[Co];omega
  refine⟨_,rfl,tp,rfl,⟨_,aN O⟩,?_⟩;refine d9 (K:=K) (xs:=us) (fun i ys σ' H'=>∃ o1:Option V,σ'=[o1]/\b8 H0 H'/\ys=((R.take i).map fun p=>p.2.2).map V.int) ⟨none,rfl,b8.refl H0,by simp⟩
   (z8 _ (by omega)) (fun i ys σ H' p=>by obtain⟨_,_,_,rfl⟩:=p;simp;omega) (fun i ys σ H' p=>by obtain⟨_,_,S,_⟩:=p;exact aN (S _ _ O)) ?_ ?_
  .rintro i v ys σ' H1 hv ⟨o1,rfl,S,rfl⟩;obtain⟨p,q,hp,rfl,hq⟩:=i6 ad hv;dsimp only[aS];refine gI ?_;refine⟨_,rfl,q,_,2,_,rfl,rfl,aN (S _ _ hq),rfl,_,rfl,S,?_⟩;rw[AA,hp];simp
  rintro ys σ' H1 ⟨o1,rfl,S1,rfl⟩ D hD;rw[ak,AN];have S2:=S1.trans (aJ (o:=.lst ((R.map fun p=>p.2.2).map V.int)) hD);refine⟨D,R.map fun p=>p.2.2,rfl,aU aA,_,rfl,tp3,xs,ps,rfl,S2 _ _ e2,e3.same S2,z8 _ br,fun H3 S3=>?_⟩;have S4:=S2.trans S3;generalize upd H1 D _=H2 at S2 S3;refine⟨rfl,_,rfl,dB (fun g=>?_) fun g=>?_⟩
  .have g':(R.map fun p=>p.2.2).sum≠S.ac G:=by
    rw[<- bp];simpa using g
   have e0:cN S G R="acres":=by
    unfold cN;rw[ag,Ip (by decide),Iq g']
   exact k _ _ _ (kP _ _ e0 (Ip (by decide))) (dS (su.trans S4)) (ay.same S4) ((ab.same S4).mono (by omega))
  have g':(R.map fun p=>p.2.2).sum=S.ac G:=by
   rw[<- bp];simpa using g
  refine⟨_,rfl,tp,rfl,⟨_,aN (S4 _ _ O)⟩,?_⟩;refine d9 (K:=K) (xs:=us) (fun i ys σ' H'=>∃(o1:Option V) (bs:List Bool),σ'=[o1,some (.ref M),some (.str G)]/\b8 H3 H'/\ys=bs.map V.bl/\bs.length=i/\bs=(R.take i).map fun p=>decide (p.1≠G)&&aK S p.1) ⟨none,[],rfl,b8.refl H3,rfl,rfl,by simp⟩
   (z8 _ (by omega)) (fun i ys σ H' p=>by obtain⟨_,_,_,_,rfl,e,_⟩:=p;simp;omega) (fun i ys σ H' p=>by obtain⟨_,_,_,S,_⟩:=p;exact aN (S _ _ (S4 _ _ O))) ?_ ?_
  .rintro i v ys σ' H5 hv ⟨o1,bs,rfl,S5,rfl,bg,ah⟩;obtain⟨p,q,hp,rfl,hq⟩:=i6 ad hv;have bf:=S5 _ _ (S4 _ _ hq);have bd:=(aa.same S4).same S5;have nx:∀ c:Bool,(decide (p.1≠G)&&aK S p.1)=c->∃(o1:Option V) (av:List Bool),[some (V.ref q),some (V.ref M),some (.str G)]=[o1,some (.ref M),some (.str G)]/\b8 H3 H5/\bs.map V.bl++[.bl c]=av.map V.bl/\av.length=i+1/\av=(R.take (i+1)).map fun p=>decide (p.1≠G)&&aK S p.1:=fun c hc=>⟨_,bs++[c],rfl,S5,by simp,by simp[bg],by rw[AA,hp,Ar,<- ah,<- hc];rfl⟩
   dsimp only[aS];refine gI ?_;refine⟨_,rfl,q,_,0,_,rfl,rfl,aN bf,rfl,_,rfl,rfl,_,rfl,dB (fun g2=>?_) fun g2=>nx false (by rw[show decide (p.1≠G)=false by simpa using g2];rfl)⟩;refine⟨_,rfl,q,_,0,_,rfl,rfl,aN bf,rfl,_,rfl,M,C,_,_,_,rfl,bd.ins,hc.cl,hc.h,rfl,MA.h,_,rfl,.inl ⟨hol,Ad p.1,.inl (S5 _ _ (S4 _ _ hh1)),rfl,rfl⟩,nx _ (by rw[show decide (p.1≠G)=true by simpa using g2,Fc];unfold aK;exact(m8 hX.ks _).symm)⟩
  rintro ys σ' H5 ⟨o1,bs,rfl,S5,rfl,bg,ah⟩ D2 cc;rw[ak,AN]at ah;have Z:=(S4.trans S5).trans (aJ (o:=.lst (bs.map V.bl)) cc);refine⟨D2,bs,rfl,aU aA,_,rfl,?_⟩;generalize upd H5 D2 _=H6 at Z ⊢;have aC:=ab.same Z;have bv:=aC;have bi:Tb T H6:=ay.same Z;have ae:(R.any fun p=>decide (p.1≠G)&&aK S p.1)=bs.any id:=by
   rw[ah,HJ];rfl
  refine dB (fun g2=>?_) fun g2=>?_
  .have e0:cN S G R="name":=by
    unfold cN;rw[ag,Ip (by decide),Ip (fun z=>z g'),Iq (by rw[ae];simpa using g2)]
   exact k _ _ _ (kP _ _ e0 (Ip (by decide))) (dS (su.trans Z)) bi (aC.mono (by omega))
  have e0:cN S G R="done":=by
   unfold cN;rw[ag,Ip (by decide),Ip (fun z=>z g'),Ip (by rw[ae];simpa using g2)]
  refine⟨_,rfl,M,C,_,_,_,rfl,bv.ins,hc.cl,hc.h,rfl,MA.h,rfl,.inl ⟨hol,.inl (Z _ _ hh1)⟩,_,rfl,hol,Ad G,_,Z _ _ hh1,rfl,hv,?_⟩;have cx:=sW hol (Ad G);have be:gP (upd H6 MA.h (.dK (bZ hol (Ad G)))) C M MA ws n { S with hs:=bZ S.hs (Ad G) }:=aC.setH (jY hnd) (by omega) ((hX.on (bV Z)).drop _);have bo:Tb T (upd H6 MA.h (.dK (bZ hol (Ad G)))):=pP bi (Z _ _ hh1);have K7:cY [T,MA.h] H (upd H6 MA.h (.dK (bZ hol (Ad G)))):=(dS (su.trans Z)).trans (dO (by simp));have T7:fT H0 (upd H6 MA.h (.dK (bZ hol (Ad G)))):=fun q us e=>by
   rw[aG (bS (Z _ _ e) (Z _ _ hh1) (fun z=>nomatch z))];exact Z _ _ e
  generalize upd H6 MA.h (.dK (bZ hol (Ad G)))=H7 at be bo K7 T7 ⊢;refine⟨_,rfl,tp,rfl,⟨_,aN (T7 _ _ O)⟩,?_⟩;refine iM (K:=K) (xs:=us) (fun i σ H'=>Ex3 fun(o6 o7 o8:Option V)=>∃(lo:Int),Aw6 (σ=[some (.ref M),some (.ref t),some (.str G),some (.ref tp),some (.ref tp3),some (.int lo),o6,o7,o8]) (cY [T,MA.h] H H') (fT H0 H') (Tb T H') (gP H' C M MA ws (n+i) (pO pf S G (R.take i))) (lo=((R.take i).map fun p=>p.2.2).sum))
   ⟨none,none,none,0,rfl,K7,T7,bo,be,by simp⟩ (fun i σ H' _ p=>by obtain⟨_,_,_,_,_,_,tt,_⟩:=p;exact aN (tt _ _ O)) ?_ ?_
  .rintro i v σ H8 bM ⟨o6,o7,o8,lo,rfl,K8,T8,aw,Y,aI⟩;obtain⟨p,q,hp,rfl,hq⟩:=i6 ad bM;obtain⟨hl8,hh8,hnd8,hlen8,hX8⟩:=Y.h;have cu:i<R.length:=(Al.mp hp).1;refine⟨q,_,rfl,aN (T8 _ _ hq),rfl,_,_,rfl,_,_,rfl,_,_,rfl,rfl,_,rfl,_,rfl,_,rfl,_,rfl,_,rfl,_,_,rfl,rfl,tp3,xs,ps,lo,lo+p.2.2,rfl,T8 _ _ e2,e3.on T8,z8 _ br,fun t9 bW H9 S9 b3 b5=>?_⟩;refine⟨zZ2,fun u9 ar=>?_⟩;have J:=S9.trans (aJ (o:=.tup [V.str p.2.1,.ref t9]) ar);have an:=b5.same (aJ (o:=.tup [V.str p.2.1,.ref t9]) ar);have am:=(aJ (o:=.tup [V.str p.2.1,.ref t9]) ar) _ _ b3;have ao:upd H9 u9 (.tup [V.str p.2.1,.ref t9]) u9=_:=aA;generalize upd H9 u9 (.tup [V.str p.2.1,.ref t9])=ca at J an am ao ⊢;have ax:=Y.same J;have bm:lo+p.2.2=((R.take (i+1)).map fun p=>p.2.2).sum:=by
    rw[AA,hp,aI];simp
   have b4:pf p=oB ps lo (lo+p.2.2):=by
    rw[hpf];unfold aBI;rw[uJ aq hp,<- aI]
   have bI:pN ca ws (.ref u9) p.2.1 (pf p):=⟨u9,t9,bW,rfl,ao,am,by rw[b4];exact an⟩
   have bq:=(hX8.on (bV J)).put (z:=p.1) bI;have eS:pO pf S G (R.take (i+1))=kB (pO pf S G (R.take i)) p.1 p.2.1 (pf p):=by
    unfold pO;rw[AA,hp,Cp];rfl
   have cr:=cJ hl8 (Ad p.1) (.ref u9);refine⟨_,rfl,M,C,_,_,_,rfl,ax.ins,hc.cl,hc.h,rfl,_,rfl,MA.h,_,rfl,iF.k (k:=Ad p.1) (J _ _ hh8) (CW hlen8 (by rw[Co];omega)),_,rfl,_,rfl,_,_,rfl,rfl,?_⟩;exact⟨_,_,_,lo+p.2.2,rfl,(K8.same J).trans (dO (by simp)),fun q us e=>by
    rw[aG (bS (J _ _ (T8 _ _ e)) (J _ _ hh8) (fun z=>nomatch z))];exact J _ _ (T8 _ _ e),pP (aw.same J) (J _ _ hh8),by rw[eS];exact(Y.same J).setH (mJ _ hnd8) (by omega) bq,bm⟩
  .rintro σ H8 ⟨o6,o7,o8,lo,rfl,K8,T8,aw,Y,aI⟩;rw[ak,AN]at Y;exact k _ _ _ (kP _ _ e0 ((Iq rfl).trans b2)) K8 aw (Y.mono (by omega))
theorem aGP{T L:Af}{xs ys:List V}{H:Hp}(g:Tb T H)(e:H L=some (.lst xs)):Tb T (upd H L (.lst ys)):=aCA g fun b o q n=>by
 rw[aG (fun z=>n ⟨xs,by rw[z];exact e⟩)];exact q
theorem xZ{R:List Str}(h:R.Nodup):R.Nodup:=h
theorem m9{m:Bool}{H:Hp}:∀{F:List V}{R:List Str},cF m H F (R.map BO)->F=R.map V.str
 | _,[],h=>by cases h;rfl
 | _,z::R,h=>by
  rw[Aq]at h;cases h with
  | cons a r=>
   cases a;rw[m9 r];rfl
theorem aFs:cB ["moment","row","joined","land","house","pieces","name"] ["moment","row"] (aQ jL):=⟨rfl,rfl,rfl,by decide,rfl,by decide,by decide⟩
theorem aDJ{f C T:Af}{fd:Be}(F:Fun K "do_join" "do_join" jL f fd)(hc:MC K C)(bM:mg "all"=none)(b3:mg "any"=none)
  (GI:Cl P w K mg base 4 "in_one" ["ranks","pieces"] (aCB T)):cW P w K mg base CX0 5 f fd ["moment","row"] (oF C T ["join"]):=by
 refine F.ok aFs (fun vs H Q E h=>?_) (fun d2 A outer s H vs Q E hr h=>?_)
 .obtain⟨M,A,ws,n,S,x,r,rfl,_⟩:=h;rfl
 .obtain⟨M,MA,ws,n,S0,x,r,rfl,mx,hn,tb,rdv,ok,hw,jn,k⟩:=h;have c4:=mx;have hu:=fS hr;have nd:=aFs.nd;have c2:(["name","moment"]:List Str).Nodup:=by decide
  have cx:(["name","moment","house"]:List Str).Nodup:=by decide
  refine⟨_,aB (aDX (i:=2) (j:=3) rfl nd rfl rfl (by decide) rfl rfl (aF (aW bC (pv 1) aD Iv) (aF (aW bC (pv 1) aD Iv) aE)) rfl)
   (aB (cD (aDT (wX (aX (aEt rfl) (by rfl) bM (by kernel_rfl) (aF (dF (N:=["name","moment"]) (src:=[none,some 0]) (osc:=aQ jL) (oN:=["moment","row","joined","land","house","pieces","name"]) ⟨by rfl,by decide,by decide,by decide,rfl,by rfl⟩ (dQ (pv 2))
     fun cl s H fp im C=>⟨aV (i:=0) c2 rfl (Az rfl),dE,aAW (qA hu (pv 0) (xY (K:=K) (pv 1)))⟩) aE)))) (aM (bT aO)) bF)
   (aB (aR (i:=4) nd rfl (DT rfl) (aW bC (bQ hu (d6 (pv 0) rfl) (aW bC (pv 2) aD Iv) Iv) aD Iv))
   (aB (cD (wX (aX (y8 rfl) (by rfl) b3 (by kernel_rfl) (aF (dF (N:=["name","moment","house"]) (src:=[none,some 0,some 4]) (osc:=aQ jL) (oN:=["moment","row","joined","land","house","pieces","name"]) ⟨by rfl,by decide,by decide,by decide,rfl,by rfl⟩ (dQ (pv 2))
     fun cl s H fp im C=>⟨aV (i:=0) cx rfl (Az rfl),dE,kQ vL (aW (r:=lR K) bC (bQ hu (xY (K:=K) (pv 1)) (pv 0) Iv) aD Iv) (pv 2) (bJ _)⟩) aE))) (aM (bT aO)) bF)
   (aB (cD (tP (PW.pt (gS (aZ kT (pv 3) (pv 2) (by with_unfolding_all rfl)) (gJ (nQ (qA hu (pv 3) (d6 (pv 0) rfl))))))) (aM (bT aO)) bF)
   (aB (aR (i:=5) nd rfl (Az rfl) (dA aE))
   (aB (dY Bj rfl (dQ (pv 2)) (aV (i:=6) nd rfl (Az rfl))
    (aM (dP (lE Bd PySem.F.slot_list_extend PySem.F.type_list_extend aBu (pv 5) (aF (aW bC (oP (d6 (pv 0) rfl) (pv 6) ⟨rfl,rfl,rfl,rfl⟩) aD Iv) aE)))))
   (aB (dM hu (d6 (pv 0) rfl) (pv 3) (cO (aF (pv 4) (aF (cK GI hr (aF (d6 (pv 0) rfl) (aF (pv 5) aE))) aE))) rfl)
   (aM (bT aO))))))))),?_⟩
  obtain⟨t,cE,rfl,ht,hrest⟩:=cS.Ok.tup (fs:=ws) rdv;have bR:r.word="join":=by simpa using hw
  have rs:=ok.rs;obtain⟨word,name,day,ds⟩:=r;dsimp only at bR rs hrest ht k;subst bR;cases rs with
  | @join G R hl bm h2 h6 ck=>
  obtain⟨q1,q2⟩:=rd2 hrest;cases q2;cases q1 with
  | @tup tp us _ aj d4 cw=>
  obtain rfl:=m9 cw;have bN:=xZ bm;refine⟨_,rfl,t,_,3,_,rfl,rfl,aN ht,rfl,_,rfl,t,_,4,_,rfl,rfl,aN ht,rfl,_,_,rfl,?_⟩;obtain⟨hol,hh1,hnd,hlen,hX⟩:=mx.h;have kJ:∀(z:Str) (S':Ex),cG S0 R G=z->(if z="done" then fP S0 R G else S0)=S'->lC S0 "join" [.tuple (R.map BO),.str G] z S':=by
   rintro z S' rfl rfl;exact .join
  have aI:R.all (aK S0)=(R.map fun z=>(bG hol (Ad z)).isSome).all id:=by
   rw[List.all_map];congr 1;funext z;exact(m8 hX.ks _).symm
  have zs:∀ i,i<=8000000->i<=sizeLine:=fun i h=>by rw[Co];omega
  have au:(R.map V.str).length=R.length:=Aa _;refine⟨_,rfl,tp,rfl,⟨_,aN aj⟩,?_⟩;refine d9 (K:=K) (xs:=R.map V.str) (fun i ys σ' H'=>∃(o1:Option V),σ'=[o1,some (.ref M)]/\b8 H H'/\ys=((R.take i).map fun z=>(bG hol (Ad z)).isSome).map V.bl) ⟨none,rfl,b8.refl H,by simp⟩
   (zs _ (by omega)) (fun i ys σ H' p=>by obtain⟨_,_,_,rfl⟩:=p;simp;omega) (fun i ys σ H' p=>by obtain⟨_,_,S,_⟩:=p;exact aN (S _ _ aj)) ?_ ?_
  .rintro i v ys σ' H1 hv ⟨o1,rfl,S,rfl⟩;rw[Au]at hv;obtain⟨z,hz,rfl⟩:=AU.mp hv;dsimp only[aS];refine gI ?_;refine⟨_,rfl,_,rfl,M,C,_,_,_,rfl,(c4.same S).ins,hc.cl,hc.h,rfl,MA.h,_,rfl,.inl ⟨hol,Ad z,.inl (S _ _ hh1),rfl,rfl⟩,_,rfl,S,?_⟩;rw[AA,hz];simp
  rintro ys σ' H1 ⟨o1,rfl,S1,rfl⟩ D hD;rw[au,AN];have S2:=S1.trans (aJ (o:=.lst ((R.map fun z=>(bG hol (Ad z)).isSome).map V.bl)) hD);refine⟨D,R.map fun z=>(bG hol (Ad z)).isSome,rfl,aU aA,_,rfl,?_⟩;generalize upd H1 D _=H2 at S2 ⊢;have bp:=mx.same S2;have a0:=bp;have b1:=hX.on (bV S2);have bz:Tb T H2:=tb.same S2;refine dB (fun g=>?_) fun g=>?_
  .have e0:cG S0 R G="land":=by
    unfold cG;rw[Iq];rw[aI];cases hh:((R.map fun z=>(bG hol (Ad z)).isSome).all id)with
    | true=>rw[hh]at g;cases g
    | false=>rfl
   exact k _ _ _ (kJ _ _ e0 (Ip (by decide))) (dS S2) bz (bp.mono (by omega))
  have bg:∀ z∈R,∃ v,bG hol (Ad z)=some v:=fun z hz=>by
   have g':((R.map fun z=>(bG hol (Ad z)).isSome).all id)=true:=by
    cases hh:((R.map fun z=>(bG hol (Ad z)).isSome).all id)with
    | true=>rfl
    | false=>rw[hh]at g;exact absurd rfl g
   have:=A7.mp g' _ (Ba hz);exact Bf.mp this
  have aa:=S2 _ _ aj;have bo:=S2 _ _ hh1;have ab:¬ R.all (aK S0)=false:=by
   rw[aI];cases hh:((R.map fun z=>(bG hol (Ad z)).isSome).all id)with
   | true=>decide
   | false=>rw[hh]at g;exact absurd rfl g
  obtain⟨z0,R',rfl⟩:∃ z0 R',R=z0::R':=by
   cases R with
   | nil=>simp at h2
   | cons z0 R'=>exact⟨z0,R',rfl⟩
  obtain⟨v0,hv0⟩:=bg z0 Ap;obtain⟨_,hs0,hz0,hsv0,t0,tp0,xs0,rfl,e1,_⟩:=b1.at' _ _ hv0;cases hz0;have an:(z0::R').headD ""=z0:=rfl;have c3:atI ((z0::R').map V.str) 0=some (.str z0):=fU (xs:=(z0::R').map V.str) (j:=0) rfl;refine⟨_,rfl,M,C,_,_,_,rfl,a0.ins,hc.cl,hc.h,rfl,_,rfl,tp,_,0,_,rfl,rfl,aN aa,c3,MA.h,_,rfl,.inl ⟨hol,Ad z0,.inl bo,rfl,hv0.symm⟩,t0,_,0,_,rfl,rfl,aN e1,rfl,?_⟩;generalize dw:z0::R'=R at *;refine⟨_,rfl,tp,rfl,⟨_,aN aa⟩,?_⟩;refine d9 (K:=K) (xs:=R.map V.str) (fun i ys σ' H'=>∃(o1:Option V) (bs:List Bool),σ'=[o1,some (.ref M),some (.str hs0)]/\b8 H2 H'/\ys=bs.map V.bl/\bs.length=i/\bs=(R.take i).map fun z=>decide (bG S0.hs (Ad z)≠bG S0.hs (Ad (R.headD "")))) ⟨none,[],rfl,b8.refl H2,rfl,rfl,by simp⟩
   (zs _ (by omega)) (fun i ys σ H' p=>by obtain⟨_,_,_,_,rfl,e,_⟩:=p;simp;omega) (fun i ys σ H' p=>by obtain⟨_,_,_,S,_⟩:=p;exact aN (S _ _ aa)) ?_ ?_
  .rintro i v ys σ' H5 hv ⟨o1,bs,rfl,S,rfl,bL,av⟩;rw[Au]at hv;obtain⟨z,hz,rfl⟩:=AU.mp hv;obtain⟨v1,hv1⟩:=bg z (AQ hz);obtain⟨_,hs5,hz5,hsv5,t5,tp5,xs5,rfl,e5,_⟩:=b1.at' _ _ hv1;cases hz5;dsimp only[aS];refine gI ?_;refine⟨_,rfl,M,C,_,_,_,rfl,(a0.same S).ins,hc.cl,hc.h,rfl,_,rfl,MA.h,_,rfl,.inl ⟨hol,Ad z,.inl (S _ _ bo),rfl,hv1.symm⟩,t5,_,0,_,rfl,rfl,aN (S _ _ e5),rfl,_,rfl,rfl,?_⟩;exact⟨_,bs++[!decide (V.str hs5=V.str hs0)],rfl,S,by rw[Ar];rfl,by simp[bL],by
    rw[AA,hz,Ar,<- av,an];congr 1;show[_]=[decide (bG S0.hs (Ad z)≠bG S0.hs (Ad z0))]
    rw[hsv5,hsv0];simp⟩
  rintro ys σ' H5 ⟨o1,bs,rfl,S5,rfl,bL,av⟩ D2 da;rw[au,AN]at av;have S6:=S5.trans (aJ (o:=.lst (bs.map V.bl)) da);refine⟨D2,bs,rfl,aU aA,_,rfl,?_⟩;generalize upd H5 D2 _=H6 at S6 ⊢;have az:=bp.same S6;have b6:=az;have bf:Tb T H6:=bz.same S6;have ax:=S2.trans S6;have ap:(R.any fun z=>decide (bG S0.hs (Ad z)≠bG S0.hs (Ad (R.headD ""))))=bs.any id:=by
   rw[av,HJ];rfl
  refine dB (fun g2=>?_) fun g2=>?_
  .have e0:cG S0 R G="houses":=by
    unfold cG;rw[Ip ab,Iq (by rw[ap];simpa using g2)]
   exact k _ _ _ (kJ _ _ e0 (Ip (by decide))) (dS ax) bf (az.mono (by omega))
  have bc:¬ (R.any fun z=>decide (bG S0.hs (Ad z)≠bG S0.hs (Ad (R.headD ""))))=true:=by
   rw[ap];simpa using g2
  refine⟨fun bb H'=>H'=H6/\bb=(!decide (G∈R)&&aK S0 G),?_,fun bb H' e=>?_⟩
  .refine⟨_,rfl,_,rfl,tp,_,rfl,.inr (aN (S6 _ _ aa)),rfl,j9 _,_,rfl,?_⟩;rw[pQ];refine dB (fun g3=>?_) fun g3=>?_
   .exact⟨_,rfl,_,rfl,M,C,_,_,_,rfl,b6.ins,hc.cl,hc.h,rfl,MA.h,_,rfl,.inl ⟨hol,Ad G,.inl (S6 _ _ bo),rfl,rfl⟩,_,rfl,rfl,by
     rw[show(!decide (G∈R))=true by simpa using g3,Fc];unfold aK;exact m8 hX.ks _⟩
   .exact⟨rfl,by rw[show(!decide (G∈R))=false by simpa using g3];rfl⟩
  obtain⟨rfl,ebb⟩:=e;refine dB (fun g3=>?_) fun g3=>?_
  .have e0:cG S0 R G="name":=by
    unfold cG;rw[Ip ab,Ip bc,Iq (by rw[<- ebb];exact g3)]
   exact k _ _ _ (kJ _ _ e0 (Ip (by decide))) (dS ax) bf (az.mono (by omega))
  have e0:cG S0 R G="done":=by
   unfold cG;rw[Ip ab,Ip bc,Ip (by rw[<- ebb];exact g3)]
  refine⟨A8 _,fun L hL=>?_⟩;have sL:=aJ (o:=.lst []) hL;have bw:=az.same sL;have bW:Tb T _:=bf.same sL;have bO:upd H' L (.lst []) L=some (.lst []):=aA;have ah:=ax.trans sL;have cL:H L=none:=ax.free hL;generalize upd H' L (.lst [])=H7 at sL bw bW bO ah ⊢;have bD:=ah _ _ aj;refine⟨_,rfl,tp,rfl,⟨_,aN bD⟩,?_⟩;have bn:=A7.mp (show R.all (aK S0)=true by simpa using ab);refine iM (K:=K) (xs:=R.map V.str) (fun i σ H'=>Ex3 fun(o6:Option V) (hl:List (Key×V)) (xs:List V)=>∃(ps:List Pc),Aw6 (σ=[some (.ref M),some (.ref t),some (.ref tp),some (.str G),some (.str hs0),some (.ref L),o6]) (cY [T,MA.h] H H') (fT H H') (Tb T H') (gP H' C M MA ws n { S0 with hs:=(R.take i).foldl (fun d z=>bZ d (Ad z)) S0.hs }) (Aw6 (ps=((R.take i).map S0.pc).flatten) (H' MA.h=some (.dK hl)) (H' L=some (.lst xs)) (dI H' xs ps) (ps.length<=80*i) (∀ j z,i<=j->R[j]?=some z->∃ v,bG hl (Ad z)=some v)))
   ⟨none,hol,[],[],rfl,dS ah,bV ah,bW,bw,by simp,ah _ _ hh1,bO,.nil,A8 _,fun j z _ e=>bg z (AQ e)⟩ (fun i σ H' _ p=>by obtain⟨_,_,_,_,_,_,tt,_⟩:=p;exact aN (tt _ _ aj)) ?_ ?_
  .rintro i v σ H8 bE ⟨o6,J,xs,ps,rfl,K8,T8,af,Y,ad,O,am,ak,b5,aq⟩;rw[Au]at bE;obtain⟨z,hz,rfl⟩:=AU.mp bE;obtain⟨hl8',hh8',hnd8,hlen8,hX8⟩:=Y.h;rw[O]at hh8';cases hh8';obtain⟨v1,hv1⟩:=aq i z (Aj _) hz;obtain⟨_,hs9,hz9,hsv9,t9,tp9,xs9,rfl,f1,f2,f3⟩:=hX8.at' _ _ hv1;cases hz9;have f3:dI H8 xs9 (S0.pc z):=f3;have dq:=(jn.1 z (bn z (AQ hz))).1;have dt:i<R.length:=(Al.mp hz).1;have cq:(R.take (i+1)).foldl (fun d z=>bZ d (Ad z)) S0.hs=bZ ((R.take i).foldl (fun d z=>bZ d (Ad z)) S0.hs) (Ad z):=by
    rw[AA,hz,Cp];rfl
   have cs:=Bm ak;have dj:=Bm f3;have dy:=sW J (Ad z);dsimp only[aS];have bY:L≠MA.h:=bS am O (fun z=>nomatch z);have bx:gP (upd H8 MA.h (.dK (bZ J (Ad z)))) C M MA ws n { S0 with hs:=(R.take (i+1)).foldl (fun d z=>bZ d (Ad z)) S0.hs }:=by
    rw[cq];exact Y.setH (jY hnd8) (by omega) (hX8.drop _)
   have T9:fT H8 (upd H8 MA.h (.dK (bZ J (Ad z)))):=fun q us e=>by
    rw[aG (bS e O (fun z=>nomatch z))];exact e
   have ai:upd H8 MA.h (.dK (bZ J (Ad z))) L=some (.lst xs):=by
    rw[aG bY];exact am
   have ar:Tb T (upd H8 MA.h (.dK (bZ J (Ad z)))):=pP af O;have K9:cY [T,MA.h] H (upd H8 MA.h (.dK (bZ J (Ad z)))):=K8.trans (dO (by simp));have bP:upd H8 MA.h (.dK (bZ J (Ad z))) MA.h=some (.dK (bZ J (Ad z))):=aA;refine⟨_,rfl,.inl ⟨rfl,_,aU am⟩,_,rfl,M,C,_,_,_,rfl,Y.ins,hc.cl,hc.h,rfl,MA.h,rfl,.inl ⟨J,.inl O⟩,_,rfl,J,Ad z,_,O,rfl,hv1,t9,_,1,_,rfl,rfl,aN (T9 _ _ f1),rfl,L,tp9,xs,xs9,rfl,rfl,ai,T9 _ _ f2,zs _ (by omega),?_⟩;generalize upd H8 MA.h (.dK (bZ J (Ad z)))=H9 at bx T9 ai ar K9 bP ⊢;have bj:fT H9 (upd H9 L (.lst (xs++xs9))):=fun q us e=>by
    rw[aG (bS e ai (fun z=>nomatch z))];exact e
   have bh:fT H8 (upd H9 L (.lst (xs++xs9))):=fun q us e=>bj _ _ (T9 _ _ e);refine⟨_,bZ J (Ad z),xs++xs9,ps++S0.pc z,rfl,fun bb o nn e=>?_,fun q us e=>bh _ _ (T8 _ _ e),aGP ar ai,bx.list ai,by rw[ad,AA,hz];simp,by rw[aG bY.symm];exact bP,aA,Paired.app (ak.on bh) (f3.on bh),by rw[Av];omega,fun j y hj ey=>?_⟩
   .rw[aG (aH e cL)];exact K9 bb o nn e
   .obtain⟨vy,hvy⟩:=aq j y (by omega) ey;rw[gW,Ip]
    .exact⟨vy,hvy⟩
    .intro zz;have cv:=Ad.inj zz;subst cv;obtain⟨h1,e1⟩:=Al.mp hz;obtain⟨h2',e2⟩:=Al.mp ey;have:=(Ef bN).mp (e1.trans e2.symm);omega
  .rintro σ H8 ⟨o6,J,xs,ps,rfl,K8,T8,af,Y,ad,O,am,ak,b5,aq⟩;rw[au]at b5;rw[au,AN]at Y ad;obtain⟨hl8',hh8',hnd8,hlen8,hX8⟩:=Y.h;rw[O]at hh8';cases hh8';obtain⟨rks,hr8,hrk8⟩:=Y.r;have cs:=Bm ak;have cr:∀ p∈ps,p.1∈ws:=fun p hp=>by
    rw[ad]at hp;obtain⟨l,hl,hpl⟩:=Hc.mp hp;obtain⟨z,hz,rfl⟩:=AL.mp hl;rw[mx.we];exact(jn.1 z (bn z hz)).2 p hpl
   have c1:TF ws ps:=by
    rw[ad,mx.we];exact jn.2 R bN bn
   refine⟨_,rfl,_,rfl,M,C,_,_,_,rfl,Y.ins,hc.cl,hc.r,rfl,_,rfl,MA.r,L,rks,xs,ps,ws,rfl,hr8,hrk8,am,ak,cr,c1,CW (show xs.length<=8000000 by omega) (by rw[Co];omega),af,fun t9 cu H9 S9 ar cy c0=>?_⟩;refine⟨zZ2,fun u9 cz=>?_⟩;have Z:=aJ (o:=.tup [V.str hs0,.ref t9]) cz;have ao:=(Y.sameT S9 af).same Z;have aT:Tb T _:=ar.same Z;have al:upd H9 u9 (.tup [V.str hs0,.ref t9]) MA.h=some (.dK J):=by
    obtain⟨tps,hTT,_⟩:=af.ex;exact Z _ _ (S9 _ _ (fun z=>by rw[z,hTT]at O;cases O) O)
   have bj:fT H8 (upd H9 u9 (.tup [V.str hs0,.ref t9])):=fun q us e=>Z _ _ (f9 S9 af _ _ e);have b4:cY [T,MA.h] H (upd H9 u9 (.tup [V.str hs0,.ref t9])):=fun bb o nn e=>Z _ _ (S9 _ _ (fun z=>nn (by rw[z];simp)) (K8 bb o nn e));have cm:pN (upd H9 u9 (.tup [V.str hs0,.ref t9])) ws (.ref u9) hs0 (rB ws ps):=⟨u9,t9,cu,rfl,aA,Z _ _ cy,c0.same Z⟩
   have ba:=(hX8.on bj).put (z:=G) cm;have dr:=cJ J (Ad G) (.ref u9);generalize upd H9 u9 (.tup [V.str hs0,.ref t9])=dV at ao aT al b4 ba ⊢;have eJ:fP S0 R G={ S0 with hs:=b0 (R.foldl (fun d z=>bZ d (Ad z)) S0.hs) (Ad G) (.str hs0),pc:=mK S0.pc G (rB ws ps) }:=by
    unfold fP;rw[an,hsv0,ad,mx.we];rfl
   exact⟨_,rfl,M,C,_,_,_,rfl,ao.ins,hc.cl,hc.h,rfl,_,rfl,MA.h,_,rfl,iF.k (k:=Ad G) al (CW hlen8 (by rw[Co];omega)),k _ _ _ (kJ _ _ e0 ((Iq rfl).trans eJ)) (b4.trans (dO (by simp))) (pP aT al) (ao.setH (mJ _ hnd8) (by omega) ba)⟩
structure aBJ(P:AE)(w:AW)(K:Ah)(mg:Str->Option Ac)(base:Bl)(C T:Af)(g:Af)(W:List Str):Prop where
 ex:∃ fd,cW P w K mg base CX0 5 g fd ["moment","row"] (oF C T W)/\A4 K (.ref g)=true/\fH K fd ["moment","row"] []
theorem aCE:cB ["moment","row","deed"] ["moment","row"] (aQ aBB):=⟨rfl,rfl,rfl,by decide,rfl,by decide,by decide⟩
theorem aFt{f C T ra Y Z O g3 g4 g5 J:Af}{fd:Be}(F:Fun K "carry_out" "carry_out" aBB f fd)
  (ae:∀ h:Bl,K.In h->h.DictOf (cA P w) ra (fmR Y Z O g3 g4 g5 J J)) (mF:mg "DEEDS"=some (.ref ra))
  (G0:aBJ P w K mg base C T Y ["part"]) (G1:aBJ P w K mg base C T Z ["join"]) (G2:aBJ P w K mg base C T O ["forfeit"]):
  cW P w K mg base CX0 6 f fd ["moment","row"] (oF C T gO):=by
 refine F.ok aCE (fun vs H Q E h=>?_) (fun aj A outer s H vs Q E hr h=>?_)
 .obtain⟨M,A,ws,n,S,x,r,rfl,_⟩:=h;rfl
 .obtain⟨M,MA,ws,n,S,x,r,rfl,mx,hn,tb,rdv,ok,hw,jn,k⟩:=h;have nd:=aCE.nd;refine⟨_,aB (aR (i:=2) nd rfl (Az rfl) (aGq ae (aIC Y Z O g3 g4 g5 J J) (by rfl) mF (aW bC (pv 1) aD Iv) Iv))
   (aM (bT (aEE (k:=5) (ps:=["moment","row"]) (pv 2) hr (aF (pv 0) (aF (pv 1) aE))))),?_⟩
  obtain⟨t,cE,rfl,ht,hrest⟩:=cS.Ok.tup (fs:=ws) rdv;have a0:=(aID (word:=r.word) (name:=r.name) (day:=r.day) (cE:=cE)).1;obtain⟨g,W,hg,hW,fdg,Gg,kg,bg⟩:∃ g W,bG (fmV Y Z O g3 g4 g5 J J) (Ad r.word)=some (.ref g)/\r.word∈W/\∃ fd,cW P w K mg base CX0 5 g fd ["moment","row"] (oF C T W)/\A4 K (.ref g)=true/\fH K fd ["moment","row"] []:=by
   have G:=ok.rs.word;unfold gO at G;simp only[An,AC,or_false]at G;rcases G with e|e|e<;>rw[e]
   .exact⟨Y,_,rfl,Ap,G0.ex⟩
   .exact⟨Z,_,rfl,Ap,G1.ex⟩
   .exact⟨O,_,rfl,Ap,G2.ex⟩
  exact⟨_,rfl,t,_,0,_,rfl,rfl,aN ht,a0,Ad r.word,.ref g,rfl,hg,_,rfl,g,_,rfl,⟨fdg,Gg,kg,bg⟩,_,rfl,_,rfl,M,MA,ws,n,S,_,r,rfl,mx,hn,tb,rdv,ok,hW,jn,k⟩
abbrev L4:=Str×Str×Int×Int
def mS(l:L4):Bc:=.tuple [.str l.1,.str l.2.1,.int l.2.2.1,.int l.2.2.2]
structure LOk(l:L4):Prop where
 f:b9 l.1=true
 h:b9 l.2.1=true
 a1:1<=l.2.2.1
 a2:l.2.2.1<=1000000
 i1:0<=l.2.2.2
 i2:l.2.2.2<=10000000
def lG(S:Ex)(l:L4):Ex:={ S with hs:=b0 S.hs (Ad l.1) (.str l.2.1),pc:=mK S.pc l.1 [(l.1,0,l.2.2.1)],ws:=S.ws++[l.1],inc:=b0 S.inc (Ad l.1) (.int l.2.2.2) }
def ex0(Ls:List L4):Ex:=Ls.foldl lG ⟨[],fun _=>[],[],[],[]⟩
theorem wK:∀(Ls:List L4) (S:Ex),(Ls.foldl lG S).men=S.men
 | [],_=>rfl
 | l::Ls,S=>wK Ls (lG S l)
theorem aGQ(Ls:List L4):(ex0 Ls).men=[]:=wK Ls _
theorem aAp:∀(Ls:List L4) (S:Ex),(Ls.foldl lG S).ws=S.ws++Ls.map (·.1)
 | [],S=>(A6 _).symm
 | l::Ls,S=>by
  rw[Bh,aAp Ls];show(S.ws++[l.1])++_=_;rw[AF];rfl
theorem x9(Ls:List L4):(ex0 Ls).ws=Ls.map (·.1):=(aAp Ls _).trans (FG _)
theorem gQ:∀(Ls:List L4),Bs (Ls.map mS)=false
 | []=>by simp[Bs]
 | l::Ls=>by
  rw[Aq];unfold Bs;rw[gQ Ls];simp[mS,FQ,Bs]
inductive aAq(C:Af)(vs:List V)(H:Hp)(Q:VK)(u3_:XK):Prop
 | mk (x dx lay:Af) (xs:List V) (Ls:List L4) (q0:vs=[.ref x,.ref lay]) (q1:H x=some (.ins C dx [])) (q2:H lay=some (.tup xs)) (q3:cF false H xs (Ls.map mS)) (q4:(∀ l∈Ls,LOk l)) (q5:Ls.length<=8) (q6:(Ls.map (·.1)).Nodup) (q7:∀(A:MA) (H':Hp),bA x H H'->H A.h=none->gP H' C x A (Ls.map (·.1)) 8 (ex0 Ls)->Q .non H'):aAq C vs H Q u3_
def aFu(C:Af):Sp:=fun vs H Q u3_=>aAq C vs H Q u3_
structure RkI(rks:List (Key×V))(ws:List Str)(i:Nat):Prop where
 ks:rks.map (·.1)=(ws.take i).map Ad
 vs:∀ j y,j<i->ws[j]?=some y->bG rks (Ad y)=some (.int (j:Int))
structure aJM(H:Hp)(C x:Af)(A:MA)(ws:List Str)(i:Nat)(S:Ex):Prop where
 ins:H x=some (.ins C A.dx (aBH A))
 r:∃ rks,H A.r=some (.dK rks)/\RkI rks ws i/\rks.length<=i
 h:∃ hol,H A.h=some (.dK hol)/\(hol.map (·.1)).Nodup/\hol.length<=i/\oE H ws hol S.hs S.pc
 a:∃ acs,H A.a=some (.dK acs)/\acs.length<=i
 i:∃ inc,H A.i=some (.dK inc)/\inc.length<=i
 nd:[A.r,A.h,A.a,A.i].Nodup
theorem aGR{F:List (Key×V)}{ws:List Str}{i:Nat}{z:Str}(hn:ws.Nodup)(h:RkI F ws i)(e:ws[i]?=some z):RkI (b0 F (Ad z) (.int (F.length:Int))) ws (i+1):=by
 obtain⟨hi,rfl⟩:=Al.mp e;have hz:ws[i]∉ws.take i:=fun hm=>by
  obtain⟨j,O,ej⟩:=Bp.mp hm;rw[GZ]at ej;have Z:j<i:=by rw[AJ]at O;omega
  have:=(Ef hn).mp ej;omega
 have hv:bG F (Ad ws[i])=none:=by
  cases q:bG F (Ad ws[i])with
  | none=>rfl
  | some v=>
   have J:(F.any fun Y=>decide (Y.1=Ad ws[i]))=true:=by rw[dW,q];rfl
   rw[mQ,h.ks,HJ,BN]at J;obtain⟨y,hy,G⟩:=J;have:y=ws[i]:=by simpa using G
   exact absurd (this▸hy) hz
 have hl:F.length=i:=by
  have:=congrArg Ct h.ks;rw[Aa,Aa,AJ]at this;omega
 refine⟨by rw[hV _ hv,Ar,h.ks,AA,e,Ar];rfl,fun j y O G=>?_⟩;rw[d7];by_cases ez:j=i
 .subst ez;rw[e]at G;cases G;rw[Iq rfl,hl]
 .rw[Ip]
  .exact h.vs j y (by omega) G
  .intro q;have q:=Ad.inj q;obtain⟨hj2,ej⟩:=Al.mp G;have:=(Ef hn).mp (ej.trans q);omega
theorem aGS{F:List (Key×V)}{ws:List Str}(h:RkI F ws ws.length):RkX F ws:=fun w hw=>by
 have h1:=List.idxOf_lt_length_of_mem hw;exact h.vs _ w h1 (by rw[Ai h1,Gv])
theorem mT{H:Hp}{x:V}{l:L4}(r:RdV false H x (mS l)):∃(q:Af),x=.ref q/\H q=some (.tup [.str l.1,.str l.2.1,.int l.2.2.1,.int l.2.2.2]):=by
 unfold mS at r;cases r with
 | tup e hl q=>
  cases q with
  | cons G q=>
   cases q with
   | cons J q=>
    cases q with
    | cons O q=>
     cases q with
     | cons F q=>
      cases q;cases G;cases J;cases O;cases F;exact⟨_,rfl,e⟩
abbrev wL:Cw:=aGm aGz 0
theorem aFv:cB ["self","laying","field","house","acres","inches"] ["self","laying"] (aQ wL):=⟨rfl,rfl,rfl,by decide,rfl,by decide,by decide⟩
theorem aGT{f C:Af}{fd:Be}(F:Fun K "__init__" "Moment.__init__" wL f fd)(hc:MC K C)(ar:mg "len"=none):cW P w K mg base CX0 1 f fd ["self","laying"] (aFu C):=by
 refine F.ok aFv (fun vs H Q E h=>?_) (fun cr A outer s H vs Q E hr h=>?_)
 .obtain⟨x,dx,lay,xs,Ls,rfl,_⟩:=h;rfl
 .obtain⟨x,dx,lay,xs,Ls,rfl,hx,hlay,hrd,hfl,h8,hnn,k⟩:=h;obtain⟨ws,hws⟩:∃ ws,ws=Ls.map (·.1):=⟨_,rfl⟩
  rw[<- hws]at k hnn;have hu:=fS hr;have nd:=aFv.nd;refine⟨_,aB (sK (pv 0) jX rfl) (aB (sK (pv 0) jX rfl) (aB (sK (pv 0) jX rfl) (aB (sK (pv 0) jX rfl) (aB (sK (pv 0) jX rfl)
   (aM (dY Bj rfl (dQ (pv 1)) (g:=rG K 4 (dH (aS 2) (dH (aS 3) (dH (aS 4) (dH (aS 5) rF))))) (f6 rfl (bK (aV (i:=2) nd rfl (Az rfl)) (bK (aV (i:=3) nd rfl (Az rfl)) (bK (aV (i:=4) nd rfl (Az rfl)) (bK (aV (i:=5) nd rfl (Az rfl)) dX)))))
    (aB (dM hu (d6 (pv 0) rfl) (pv 2) (aX aDi (by rfl) ar A1 (aF (d6 (pv 0) rfl) aE)) rfl)
    (aB (dM hu (d6 (pv 0) rfl) (pv 2) (cO (aF (pv 3) (aF (cO (aF (cO (aF (pv 2) (aF aD (aF (pv 4) aE)))) aE)) aE))) rfl)
    (aB (dM hu (d6 (pv 0) rfl) (pv 2) (pv 4) rfl)
    (aM (dM hu (d6 (pv 0) rfl) (pv 2) (pv 5) rfl))))))))))),?_⟩
  have st:∀(H0:Hp) (d:Af) (fs jo:List (Str×V)),H0 d=none->H0 x=some (.ins C dx fs)->upd (upd H0 d (.dK [])) x (.ins C dx jo) x=some (.ins C dx jo)/\upd (upd H0 d (.dK [])) x (.ins C dx jo) d=some (.dK [])/\∀ b o,b≠x->H0 b=some o->upd (upd H0 d (.dK [])) x (.ins C dx jo) b=some o:=fun H0 d fs jo hd bz=>by
   have dx:d≠x:=(aH bz hd).symm;refine⟨aA,by rw[aG dx];exact aA,fun b o n e=>?_⟩;rw[aG n,aG (aH e hd)];exact e
  refine fun d1 ah=>⟨_,rfl,x,C,dx,_,rfl,(by rw[aG (aH hx ah)];exact hx),hc.cl,hc.r,by decide,?_⟩
  obtain⟨x1,y1,k1⟩:=st H d1 _ (f7 "ranks" (.ref d1) []) ah hx;generalize upd (upd H d1 (.dK [])) x _=H1 at x1 y1 k1 ⊢;refine fun Z af=>⟨_,rfl,x,C,dx,_,rfl,(by rw[aG (aH x1 af)];exact x1),hc.cl,hc.h,(by show(1:Nat)<1000;decide),?_⟩
  obtain⟨x2,y2,k2⟩:=st H1 Z _ (f7 "holdings" (.ref Z) (f7 "ranks" (.ref d1) [])) af x1;generalize upd (upd H1 Z (.dK [])) x _=H2 at x2 y2 k2 ⊢;refine fun d3 aa=>⟨_,rfl,x,C,dx,_,rfl,(by rw[aG (aH x2 aa)];exact x2),hc.cl,hc.a,(by show(2:Nat)<1000;decide),?_⟩
  obtain⟨x3,y3,k3⟩:=st H2 d3 _ (f7 "acres" (.ref d3) (f7 "holdings" (.ref Z) (f7 "ranks" (.ref d1) []))) aa x2;generalize upd (upd H2 d3 (.dK [])) x _=H3 at x3 y3 k3 ⊢;refine fun d4 Y=>⟨_,rfl,x,C,dx,_,rfl,(by rw[aG (aH x3 Y)];exact x3),hc.cl,hc.i,(by show(3:Nat)<1000;decide),?_⟩
  obtain⟨x4,y4,k4⟩:=st H3 d4 _ (f7 "inches" (.ref d4) (f7 "acres" (.ref d3) (f7 "holdings" (.ref Z) (f7 "ranks" (.ref d1) [])))) Y x3;generalize upd (upd H3 d4 (.dK [])) x _=H4 at x4 y4 k4 ⊢;refine fun d5 am=>⟨_,rfl,x,C,dx,_,rfl,(by rw[aG (aH x4 am)];exact x4),hc.cl,hc.m,(by show(4:Nat)<1000;decide),?_⟩
  obtain⟨x5,y5,k5⟩:=st H4 d5 _ (aBH ⟨dx,d1,Z,d3,d4,d5⟩) am x4;have ef:f7 "menders" (.ref d5) (f7 "inches" (.ref d4) (f7 "acres" (.ref d3) (f7 "holdings" (.ref Z) (f7 "ranks" (.ref d1) []))))=aBH ⟨dx,d1,Z,d3,d4,d5⟩:=rfl;rw[ef];generalize upd (upd H4 d5 (.dK [])) x _=H5 at x5 y5 k5 ⊢;have nx:∀{G:Hp} {d:Af} {ip:List (Key×V)} {fs:List (Str×V)},G d=some (.dK ip)->G x=some (.ins C dx fs)->d≠x:=fun a b=>bS a b (fun z=>nomatch z);have e1:=k5 _ _ (nx y1 x1) (k4 _ _ (nx y1 x1) (k3 _ _ (nx y1 x1) (k2 _ _ (nx y1 x1) y1)));have e2:=k5 _ _ (nx y2 x2) (k4 _ _ (nx y2 x2) (k3 _ _ (nx y2 x2) y2));have e3:=k5 _ _ (nx y3 x3) (k4 _ _ (nx y3 x3) y3);have e4:=k5 _ _ (nx y4 x4) y4;have K0:bA x H H5:=fun b o e n=>k5 _ _ n (k4 _ _ n (k3 _ _ n (k2 _ _ n (k1 _ _ n e))));have aL:[d1,Z,d3,d4].Nodup:=by
   have bi:d1≠Z:=aH y1 af;have bu:d1≠d3:=aH (k2 _ _ (nx y1 x1) y1) aa;have bh:Z≠d3:=aH y2 aa;have br:d1≠d4:=aH (k3 _ _ (nx y1 x1) (k2 _ _ (nx y1 x1) y1)) Y;have bg:Z≠d4:=aH (k3 _ _ (nx y2 x2) y2) Y;have bE:d3≠d4:=aH y3 Y;simp[bi,bu,br,bh,bg,bE]
  have fr:∀{G G':Hp} {d:Af},(∀ b o,b≠x->G b=some o->G' b=some o)->(∃ o,G' x=some o)->G' d=none->G d=none:=fun{G G' d} kq hx' hd=>by
   cases q:G d with
   | none=>rfl
   | some o=>
    by_cases e:d=x
    .obtain⟨o',hx'⟩:=hx';rw[e,hx']at hd;cases hd
    .rw[kq d o e q]at hd;cases hd
  have f2:H Z=none:=fr k1 ⟨_,x1⟩ af;have f3:H d3=none:=fr k1 ⟨_,x1⟩ (fr k2 ⟨_,x2⟩ aa);have f4:H d4=none:=fr k1 ⟨_,x1⟩ (fr k2 ⟨_,x2⟩ (fr k3 ⟨_,x3⟩ Y));obtain⟨MA,hMA⟩:∃ MA:MA,MA=⟨dx,d1,Z,d3,d4,d5⟩:=⟨_,rfl⟩
  have I0:aJM H5 C x MA ws 0 (ex0 (Ls.take 0)):=by
   subst hMA;exact⟨x5,⟨[],e1,⟨by simp,fun j y hj=>absurd hj (Nat.not_lt_zero _)⟩,Aj _⟩,⟨[],e2,by simp,Aj _,⟨rfl,fun k v e=>by cases e⟩⟩,⟨[],e3,Aj _⟩,⟨[],e4,Aj _⟩,aL⟩
  have av:H MA.r=none/\H MA.h=none/\H MA.a=none/\H MA.i=none:=by
   subst hMA;exact⟨ah,f2,f3,f4⟩
  have al:H5 lay=some (.tup xs):=K0 _ _ hlay (bS hlay hx (fun z=>nomatch z));have aC:=hrd.len;refine⟨_,rfl,lay,rfl,⟨_,aN al⟩,?_⟩;refine iM (K:=K) (xs:=xs) (fun i σ H'=>Ex3 fun(o2 o3 o4:Option V)=>∃(o5:Option V),Aw3 (σ=[some (.ref x),some (.ref lay),o2,o3,o4,o5]) (bA x H H') (aJM H' C x MA ws i (ex0 (Ls.take i)))) ⟨none,none,none,none,rfl,K0,I0⟩ (fun i σ H' _ p=>by obtain⟨_,_,_,_,_,kk,_⟩:=p;exact aN (kk _ _ hlay (bS hlay hx (fun z=>nomatch z)))) ?_ ?_
  .rintro i v σ O hv ⟨o2,o3,o4,o5,rfl,kk,I⟩;clear x1 y1 k1 x2 y2 k2 x3 y3 k3 x4 y4 k4 x5 y5 k5 e1 e2 e3 e4 I0 aL ah af aa Y am st nx ef fr f2 f3 f4;obtain⟨d,hd,rd'⟩:=hrd.at hv;rw[Au]at hd;obtain⟨l,hl,rfl⟩:=AU.mp hd;obtain⟨f1,g1,a1,i1⟩:=l;have aw:=hfl _ (AQ hl);have ck:1<=a1:=aw.a1;have cg:a1<=1000000:=aw.a2;have bn:∀ b us,H b=some (.tup us)->O b=some (.tup us):=fun b us e=>kk _ _ e (bS e hx (fun z=>nomatch z));obtain⟨q,rfl,hq0⟩:=mT rd';have hq:O q=some (.tup [.str f1,.str g1,.int a1,.int i1]):=bn _ _ hq0;have az:ws[i]?=some f1:=by rw[hws,Au,hl];rfl
   have ci:f1∈ws:=AQ az;have cf:i<Ls.length:=(Al.mp hl).1;have eS:ex0 (Ls.take (i+1))=lG (ex0 (Ls.take i)) (f1,g1,a1,i1):=by
    unfold ex0;rw[AA,hl,Cp];rfl
   generalize ex0 (Ls.take i)=S at eS I;have hn:=I.nd;simp only[A5,An,AC,or_false,not_or]at hn;obtain⟨⟨n12,n13,n14⟩,⟨n23,n24⟩,n34,_⟩:=hn;obtain⟨rks,r1,r2,r3⟩:=I.r;obtain⟨hol,h1,h2,h3,hX⟩:=I.h;obtain⟨acs,c1,c2⟩:=I.a;obtain⟨inc,j1,j3⟩:=I.i;have ins:=I.ins;have zl:∀ k,k<=8->k<sizeLine:=fun k h=>by rw[Co];omega
   have ai:∀{G:Hp} {d:Af} {ip:List (Key×V)} {fs:List (Str×V)},G d=some (.dK ip)->G x=some (.ins C MA.dx fs)->x≠d:=fun a b=>(bS a b (fun z=>nomatch z)).symm;refine⟨q,_,rfl,aN hq,rfl,_,_,rfl,_,_,rfl,_,_,rfl,_,_,rfl,rfl,_,rfl,x,C,_,_,_,rfl,ins,hc.cl,hc.r,rfl,MA.r,rks,rfl,r1,_,rfl,x,C,_,_,_,rfl,ins,hc.cl,hc.r,rfl,_,rfl,MA.r,_,rfl,iF.k (k:=Ad f1) r1 (zl _ (by omega)),?_⟩;have L1:=cJ rks (Ad f1) (.int (rks.length:Int));have R2:=aGR hnn r2 az;obtain⟨fr1,fr2,fr3,fr4⟩:=av;have ay:bA x H (upd O MA.r (.dK (b0 rks (Ad f1) (.int (rks.length:Int))))):=fun b o e n=>by
    rw[aG (aH e fr1)];exact kk b o e n
   have aI:upd O MA.r (.dK (b0 rks (Ad f1) (.int (rks.length:Int)))) MA.r=some (.dK (b0 rks (Ad f1) (.int (rks.length:Int)))):=aA;have g2:upd O MA.r (.dK (b0 rks (Ad f1) (.int (rks.length:Int)))) MA.h=some (.dK hol):=by rw[aG (Cy n12)];exact h1
   have g3:upd O MA.r (.dK (b0 rks (Ad f1) (.int (rks.length:Int)))) MA.a=some (.dK acs):=by rw[aG (Cy n13)];exact c1
   have g4:upd O MA.r (.dK (b0 rks (Ad f1) (.int (rks.length:Int)))) MA.i=some (.dK inc):=by rw[aG (Cy n14)];exact j1
   have g6:upd O MA.r (.dK (b0 rks (Ad f1) (.int (rks.length:Int)))) x=some (.ins C MA.dx (aBH MA)):=by rw[aG (ai r1 ins)];exact ins
   have gX:oE (upd O MA.r (.dK (b0 rks (Ad f1) (.int (rks.length:Int))))) ws hol S.hs S.pc:=hX.on fun b us e=>by rw[aG (bS e r1 (fun z=>nomatch z))];exact e
   generalize upd O MA.r (.dK (b0 rks (Ad f1) (.int (rks.length:Int))))=G1 at ay aI g2 g3 g4 g6 gX ⊢;refine⟨_,rfl,_,rfl,_,rfl,zZ3,fun u1 bo=>?_⟩;have s1:=aJ (o:=.tup [V.str f1,.int 0,.int a1]) bo;refine⟨zZ1,fun u2 bv=>?_⟩;have s2:=aJ (o:=.tup [V.ref u1]) bv;refine⟨zZ2,fun u3 bM=>?_⟩;have s3:=aJ (o:=.tup [V.str g1,.ref u2]) bM;have J:=(s1.trans s2).trans s3;have ax:pN (upd (upd (upd G1 u1 (.tup [V.str f1,.int 0,.int a1])) u2 (.tup [V.ref u1])) u3 (.tup [V.str g1,.ref u2])) ws (.ref u3) g1 [(f1,0,a1)]:=⟨u3,u2,[.ref u1],rfl,aA,s3 _ _ aA,.cons ⟨u1,rfl,s3 _ _ (s2 _ _ aA)⟩ .nil⟩
   have au:bA x H (upd (upd (upd G1 u1 (.tup [V.str f1,.int 0,.int a1])) u2 (.tup [V.ref u1])) u3 (.tup [V.str g1,.ref u2])):=ay.same J;refine⟨_,rfl,x,C,_,_,_,rfl,J _ _ g6,hc.cl,hc.h,rfl,_,rfl,MA.h,_,rfl,iF.k (k:=Ad f1) (J _ _ g2) (zl _ (by omega)),?_⟩;have q1:=J _ _ aI;have q2:=J _ _ g2;have q3:=J _ _ g3;have q4:=J _ _ g4;have q6:=J _ _ g6;have qX:=(gX.on (bV J)).put (z:=f1) ax;generalize upd (upd (upd G1 u1 (.tup [V.str f1,.int 0,.int a1])) u2 (.tup [V.ref u1])) u3 (.tup [V.str g1,.ref u2])=G2 at ax au q1 q2 q3 q4 q6 qX ⊢;have L2:=cJ hol (Ad f1) (.ref u3);have L3:=cJ acs (Ad f1) (.int a1);have L4:=cJ inc (Ad f1) (.int i1);have e6:upd G2 MA.h (.dK (b0 hol (Ad f1) (.ref u3))) x=some (.ins C MA.dx (aBH MA)):=by rw[aG (ai q2 q6)];exact q6
   have e3:upd G2 MA.h (.dK (b0 hol (Ad f1) (.ref u3))) MA.a=some (.dK acs):=by rw[aG (Cy n23)];exact q3
   refine⟨_,rfl,_,rfl,x,C,_,_,_,rfl,e6,hc.cl,hc.a,rfl,_,rfl,MA.a,_,rfl,iF.k (k:=Ad f1) e3 (zl _ (by omega)),?_⟩;have ak:upd (upd G2 MA.h (.dK (b0 hol (Ad f1) (.ref u3)))) MA.a (.dK (b0 acs (Ad f1) (.int a1))) x=some (.ins C MA.dx (aBH MA)):=by rw[aG (ai e3 e6)];exact e6
   have e4:upd (upd G2 MA.h (.dK (b0 hol (Ad f1) (.ref u3)))) MA.a (.dK (b0 acs (Ad f1) (.int a1))) MA.i=some (.dK inc):=by rw[aG (Cy n34),aG (Cy n24)];exact q4
   refine⟨_,rfl,_,rfl,x,C,_,_,_,rfl,ak,hc.cl,hc.i,rfl,_,rfl,MA.i,_,rfl,iF.k (k:=Ad f1) e4 (zl _ (by omega)),?_⟩;have tt:fT G2 (upd (upd (upd G2 MA.h (.dK (b0 hol (Ad f1) (.ref u3)))) MA.a (.dK (b0 acs (Ad f1) (.int a1)))) MA.i (.dK (b0 inc (Ad f1) (.int i1)))):=fun b us e=>by
    rw[aG (bS e q4 (fun z=>nomatch z)),aG (bS e q3 (fun z=>nomatch z)),aG (bS e q2 (fun z=>nomatch z))];exact e
   refine⟨_,_,_,_,rfl,fun b o e n=>?_,?_,⟨_,?_,R2,by omega⟩,⟨b0 hol (Ad f1) (.ref u3),?_,mJ _ h2,by omega,by rw[eS];exact qX.on tt⟩,⟨b0 acs (Ad f1) (.int a1),?_,by omega⟩,⟨b0 inc (Ad f1) (.int i1),aA,by omega⟩,I.nd⟩
   .rw[aG (aH e fr4),aG (aH e fr3),aG (aH e fr2)];exact au b o e n
   .rw[aG (ai e4 ak)];exact ak
   .rw[aG n14,aG n13,aG n12];exact q1
   .rw[aG n24,aG n23];exact aA
   .rw[aG n34];exact aA
  .rintro σ H' ⟨o2,o3,o4,o5,rfl,kk,I⟩;rw[Aa]at aC;rw[aC,AN]at I;have bq:ws.length=Ls.length:=by rw[hws,Aa]
   obtain⟨rks,r1,r2,r3⟩:=I.r;obtain⟨hol,h1,h2,h3,hX⟩:=I.h;rw[<- bq]at r2;have r2:=aGS r2;have hn:=I.nd;simp only[A5,An,AC,or_false,not_or]at hn;exact k MA H' kk av.2.1 ⟨I.ins,⟨rks,r1,r2⟩,⟨hol,h1,h2,by omega,hX⟩,hn.1.1,hws.trans (x9 Ls).symm⟩
inductive Run(S:Ex):List cS->List Str->Ex->Prop
 | nil:Run S [] [] S
 | snoc {us:List cS} {zs:List Str} {S1 S2:Ex} {r:cS} {z:Str} (h:Run S us zs S1) (s:lC S1 r.word r.ds z S2):Run S (us++[r]) (zs++[z]) S2
theorem Run.len{S S':Ex}{F:List cS}{zs:List Str}(h:Run S F zs S'):zs.length=F.length:=by
 induction h with
 | nil=>rfl
 | snoc _ _ G=>rw[Av,Av,G];rfl
structure fQ(H:Hp)(t:Af)(Ls:List L4)(us:List cS):Prop where
 ex:∃(lay rw:Af) (xs ys:List V),H t=some (.tup [.ref lay,.ref rw])/\H lay=some (.tup xs)/\cF false H xs (Ls.map mS)/\(∀ l∈Ls,LOk l)/\Ls.length<=8/\H rw=some (.tup ys)/\mI H ys us (Ls.map (·.1))/\us.length<=40
theorem mI.on{H H':Hp}{xs:List V}{F:List cS}{fs:List Str}(h:mI H xs F fs)(t:fT H H'):mI H' xs F fs:=⟨h.len,fun i x G=>by
 obtain⟨u,h1,h2,h3⟩:=h.at' i x G;exact⟨u,h1,h3.on h2 t,h3⟩⟩
theorem fQ.on{H H':Hp}{t:Af}{Ls:List L4}{F:List cS}(h:fQ H t Ls F)(k:fT H H'):fQ H' t Ls F:=by
 obtain⟨lay,rw,xs,ys,h1,h2,h3,h4,h6,h7,h8,h9⟩:=h.ex;exact⟨lay,rw,xs,ys,k _ _ h1,k _ _ h2,cF.onT k h3 (gQ Ls),h4,h6,k _ _ h7,h8.on k,h9⟩
theorem aIF{T x C dx:Af}{fs:List (Str×V)}{H H':Hp}(g:Tb T H)(e:H x=some (.ins C dx fs))(k:bA x H H'):Tb T H':=by
 obtain⟨ps,h1,h2,F⟩:=g.ex;refine⟨ps,k _ _ h1 (bS h1 e (fun z=>nomatch z)),h2,?_⟩;rcases F with F|⟨c,F,G⟩
 .exact .inl F
 .exact .inr ⟨c,F,k _ _ G (bS G e (fun z=>nomatch z))⟩
theorem gP.tups{H H':Hp}{C M T:Af}{A:MA}{ws:List Str}{n:Nat}{S:Ex}(h:gP H C M A ws n S)(g:Tb T H)(k:cY [T,A.h] H H'):fT H H':=fun q xs e=>by
 obtain⟨hol,hh,_⟩:=h.h;obtain⟨ps,hT,_⟩:=g.ex;refine k q _ (fun z=>?_) e;simp only[An,AC,or_false]at z;rcases z with z|z<;>rw[z]at e
 .rw[hT]at e;cases e
 .rw[hh]at e;cases e
theorem aGU{T L:Af}{H H':Hp}(g:Tb T H')(s:eY T H H')(h:H' L=none):H L=none:=by
 cases q:H L with
 | none=>rfl
 | some o=>
  obtain⟨ps,h1,_⟩:=g.ex;rw[s _ _ (fun z=>by rw[z,h1]at h;cases h) q]at h;cases h
def JnR(Ls:List L4)(us:List cS)(n:Nat):Prop:=∀ i,i<=n->∀ zs S,Run (ex0 Ls) (us.take i) zs S->Jn S
inductive uK(C T:Af)(vs:List V)(H:Hp)(Q:VK)(u3_:XK):Prop
 | mk (t:Af) (Ls:List L4) (us:List cS) (n:Nat) (q0:vs=[.ref t,.int n]) (q1:fQ H t Ls us) (q2:Tb T H) (q3:(Ls.map (·.1)).Nodup) (q4:JnR Ls us n) (q5:∀ M (A:MA) zs S H',Run (ex0 Ls) (us.take n) zs S->eY T H H'->Tb T H'->gP H' C M A (Ls.map (·.1)) 248 S->H A.h=none->Q (.ref M) H'):uK C T vs H Q u3_
def aAr(C T:Af):Sp:=fun vs H Q u3_=>uK C T vs H Q u3_
abbrev LD:=Str×Str×List Pc
inductive aAs(H:Hp)(r:Af)(d:LD):Prop
 | mk (u:Af) (xs:List V) (q0:H r=some (.tup [.str d.1,.str d.2.1,.ref u])) (q1:H u=some (.tup xs)) (q2:dI H xs d.2.2):aAs H r d
def eZ(H:Hp)(r:Af)(d:LD):Prop:=aAs H r d
theorem eZ.on{H H':Hp}{r:Af}{l:LD}(h:eZ H r l)(t:fT H H'):eZ H' r l:=by
 obtain⟨u,xs,h1,h2,h3⟩:=h;exact⟨u,xs,t _ _ h1,t _ _ h2,h3.on t⟩
def kz:Key->Str
 | .inr z=>z
 | _=>""
def hz:V->Str
 | .str h=>h
 | _=>""
def aKv(S:Ex)(kv:Key×V):LD:=(kz kv.1,hz kv.2,S.pc (kz kv.1))
def lds(S:Ex):List LD:=S.hs.map (aKv S)
def aAt(S:Ex)(ds:List LD):Prop:=ds.Perm (lds S)/\ds.Pairwise fun a b=>a.1.cps.toList<b.1.cps.toList
theorem aAu{S:Ex}{ds es:List LD}(h1:aAt S ds)(h2:aAt S es):ds=es:=
 ED (le:=fun a b:LD=>a.1.cps.toList<b.1.cps.toList) (fun a b _ _ x y=>absurd (List.lt_trans x y) (F3 _)) h1.2 h2.2 (h1.1.trans h2.1.symm)
theorem nB{l:List (Key×V)}(hn:(l.map (·.1)).Nodup):∀{i:Nat}{k:Key}{v:V},l[i]?=some (k,v)->bG l k=some v:=by
 induction l with
 | nil=>intro i k v h;simp at h
 | cons p r F=>
  intro i k v h;obtain⟨h1,h2⟩:=A5.mp hn;cases i with
  | zero=>
   simp at h;subst h;exact cZ rfl
  | succ i=>
   have h':r[i]?=some (k,v):=by simpa using h
   rw[cH (fun e=>h1 (by show p.1∈_;rw[e];exact AL.mpr ⟨_,AQ h',rfl⟩))];exact F h2 h'
theorem aCF{H:Hp}{J rs:List Af}(O:J.Perm rs):∀{ds:List LD},BI (eZ H) rs ds->∃ es,es.Perm ds/\BI (eZ H) J es:=by
 induction O with
 | nil=>intro ds h;exact⟨ds,.refl _,h⟩
 | cons a _ Y=>
  intro ds h;cases h with
  | cons r t=>
   obtain⟨es,h1,h2⟩:=Y t;exact⟨_::es,h1.cons _,.cons r h2⟩
 | swap a b l=>
  intro ds h;cases h with
  | cons r t=>
   cases t with
   | cons Z t2=>exact⟨_::_::_,.swap _ _ _,.cons Z (.cons r t2)⟩
 | trans _ _ G F=>
  intro ds h;obtain⟨es,h1,h2⟩:=F h;obtain⟨fs,h3,h4⟩:=G h2;exact⟨fs,h3.trans h1,h4⟩
theorem i7{α β γ:Type}{R:α->β->Prop}{S:α->γ->Prop}{f:β->γ}(h:∀ a b,R a b->S a (f b)):∀{as:List α}{bs:List β},BI R as bs->BI S as (bs.map f)
 | _,_,.nil=>.nil
 | _,_,.cons r t=>.cons (h _ _ r) (i7 h t)
theorem aHB{H:Hp}{r:Af}{d:LD}(h:eZ H r d):iD H (.ref r)=d.1:=by
 obtain⟨u,xs,h1,_⟩:=h;unfold iD;dsimp only;rw[h1]
theorem aFw{H:Hp}:∀{F:List Af}{ds:List LD},BI (eZ H) F ds->(F.Pairwise fun a b=>(iD H (.ref a)).cps.toList<(iD H (.ref b)).cps.toList)->ds.Pairwise fun a b=>a.1.cps.toList<b.1.cps.toList
 | _,_,.nil,_=>B6
 | _,_,.cons (a:=r) O t,h=>by
  obtain⟨h1,h2⟩:=Cz.mp h;refine Cz.mpr ⟨fun x G=>?_,aFw t h2⟩;obtain⟨i,hi⟩:=Bq G;have hl:=Bm t;obtain⟨hi',_⟩:=Al.mp hi;have J:=Ai (show i<_ from hl▸hi');have:=h1 _ (Bk (show i<_ from hl▸hi'));rw[aHB O,aHB (Paired.at t J hi)]at this;exact this
inductive wM(T:Af)(vs:List V)(H:Hp)(Q:VK)(u3_:XK):Prop
 | mk (t:Af) (Ls:List L4) (us:List cS) (n:Nat) (q0:vs=[.ref t,.int n]) (q1:fQ H t Ls us) (q2:Tb T H) (q3:(Ls.map (·.1)).Nodup) (q4:JnR Ls us n) (q5:∀(l:Af) (rs:List Af) (ds:List LD) zs S (H':Hp),Run (ex0 Ls) (us.take n) zs S->H l=none->eY T H H'->Tb T H'->H' l=some (.lst (rs.map V.ref))->BI (eZ H') rs ds->aAt S ds->ds.length<=300->Q (.ref l) H'):wM T vs H Q u3_
def aCG(T:Af):Sp:=fun vs H Q u3_=>wM T vs H Q u3_
theorem aIG{T d:Af}{od:Obj}{ip:List (Key×V)}{H:Hp}(g:Tb T H)(e:H d=some (.dK ip)):Tb T (upd H d (.frz od (.dK ip))):=by
 obtain⟨ps,h1,h2,F⟩:=g.ex;refine⟨ps,by rw[aG (bS h1 e (fun z=>nomatch z))];exact h1,h2,?_⟩;rcases F with F|⟨c,F,G⟩
 .exact .inl F
 .exact .inr ⟨c,F,by rw[aG (bS G e (fun z=>nomatch z))];exact G⟩
theorem aAv:cB ["roll","at","laying","rows","moment","row"] ["roll","at"] (aQ xM):=⟨rfl,rfl,rfl,by decide,rfl,by decide,by decide⟩
theorem aDK{f fI fC C T:Af}{fd ab aa:Be}(F:Fun K "moment_behind" "moment_behind" xM f fd)(mk:Mk K C fI)
  (GI:cW P w K mg base CX0 1 fI ab ["self","laying"] (aFu C)) (mC:mg "Moment"=some (.ref C)) (bI:fH K ab ["self","laying"] [])
  (GC:cW P w K mg base CX0 6 fC aa ["moment","row"] (oF C T gO)) (mD:mg "carry_out"=some (.ref fC)) (kD:A4 K (.ref fC)=true) (bD:fH K aa ["moment","row"] []):
  cW P w K mg base CX0 7 f fd ["roll","at"] (aAr C T):=by
 refine F.ok aAv (fun vs H Q E h=>?_) (fun bf A outer s H vs Q E hr h=>?_)
 .obtain⟨t,Ls,us,n,rfl,_⟩:=h;rfl
 .obtain⟨t,Ls,us,n,rfl,roll,tb,hnn,jr,k⟩:=h;have nd:=aAv.nd;have ak:dC 2 _:=hr.mono (by decide);refine⟨_,aB (iR (pv 0) (f6 rfl (bK (aV (i:=2) nd rfl (Az rfl)) (bK (aV (i:=3) nd rfl (Az rfl)) dX))))
   (aB (aR (i:=4) nd rfl (Az rfl) (aGd mk GI ak rfl mC bI .nil dU (aF (pv 2) aE)))
   (aB (dY Bj rfl (dQ (g9 aB5 (pv 3) jB (jC (pv 1)))) (g:=aS 5) (aV (i:=5) nd rfl (Az rfl))
    (aM (dP (cP GC hr rfl mD kD bD .nil dU (aF (pv 4) (aF (pv 5) aE))))))
   (aM (bT (pv 4))))),?_⟩
  obtain⟨lay,rw,xs,ys,h1,h2,h3,h4,h6,h7,h8,h9⟩:=roll.ex;refine⟨_,rfl,t,_,rfl,aN h1,rfl,_,_,rfl,_,_,rfl,rfl,_,rfl,fun x dx hx an ne=>?_⟩;have s1:=aJ (o:=.own x) an;have s2:=aJ (H:=upd H dx (.own x)) (o:=.ins C dx []) (p:=x) (by rw[aG (Cy ne)];exact hx);have O:=s1.trans s2;have ex:upd (upd H dx (.own x)) x (.ins C dx []) x=some (.ins C dx []):=aA;generalize upd (upd H dx (.own x)) x (.ins C dx [])=H0 at O ex ⊢;clear s2;refine⟨x,dx,lay,xs,Ls,rfl,ex,O _ _ h2,h3.same O,h4,h6,hnn,fun MA H1 k1 n1 am=>⟨rfl,?_⟩⟩;have f:∀{a:Af},H0 a=none->H a=none:=fun{a} z=>by
   cases q:H a with
   | none=>rfl
   | some o=>rw[O _ _ q]at z;cases z
  have f1:=f n1;have S1:eY T H H1:=fun b o _ e=>k1 b o (O _ _ e) (aH e hx);have ao:Tb T H1:=aIF (tb.same O) ex k1;have ah:=f9 S1 tb _ _ h7;refine⟨_,rfl,_,rfl,_,rfl,rw,_,rfl,ah,fun t2 H2 s2 Z=>?_⟩;rw[xC (α:=Unit)]at Z;have S2:eY T H H2:=S1.trans s2.butT;refine⟨t2,rfl,⟨_,aN Z⟩,?_⟩;refine iM (K:=K) (xs:=ys.take n) (fun i σ H'=>Ex3 fun(o5:Option V) (zs:List Str) (S:Ex)=>Aw6 (σ=[some (.ref t),some (.int n),some (.ref lay),some (.ref rw),some (.ref x),o5]) (eY T H H') (Tb T H') (H' t2=some (.tup (ys.take n))) (gP H' C x MA (Ls.map (·.1)) (8+6*i) S) (Run (ex0 Ls) (us.take i) zs S)) ⟨none,[],ex0 Ls,rfl,S2,ao.same s2,Z,am.same s2,.nil⟩ (fun i σ H' _ p=>by obtain⟨_,_,_,_,_,_,e,_⟩:=p;exact aN e) ?_ ?_
  .rintro i v σ H3 hv ⟨o5,zs,S,rfl,S3,Y,e3,J,G⟩;have ad:i<n:=by
    have:=(Al.mp hv).1;rw[AJ]at this;omega
   have af:ys[i]?=some v:=by
    rw[BP,Iq ad]at hv;exact hv
   have hi:i<ys.length:=(Al.mp af).1;have hl:=h8.len;obtain⟨u,hu,rdu,oku⟩:=h8.at' i v af;have T3:=f9 S3 tb;refine⟨_,rfl,_,rfl,x,MA,_,8+6*i,S,v,u,rfl,J,by omega,Y,oku.on rdu T3,oku,oku.rs.word,jr i (BU ad) _ _ G,fun z S' H4 st k4 aj ae=>?_⟩;refine⟨_,zs++[z],S',rfl,fun b o nb e=>k4 b o (fun z=>?_) (S3 b o nb e),aj,J.tups Y k4 _ _ e3,ae,?_⟩
   .simp only[An,AC,or_false]at z;rcases z with z|z
    .exact nb z
    .rw[z,f1]at e;cases e
   .rw[AA,hu];exact .snoc G st
  .rintro σ H3 ⟨o5,zs,S,rfl,S3,Y,e3,J,G⟩;have hl:=h8.len;have e1:us.take (ys.take n).length=us.take n:=by
    rw[AJ,hl];by_cases z:n<=us.length
    .rw[DN z]
    .rw[Fo (by omega),AN,A9 (by omega)]
   rw[e1]at G;exact⟨_,rfl,k x MA zs S H3 G S3 Y (J.mono (by rw[AJ];omega)) f1⟩
theorem aCH:cB ["roll","at","moment"] ["roll","at"] (aQ xN):=⟨rfl,rfl,rfl,by decide,rfl,by decide,by decide⟩
theorem aFx{f:Af}{fd:Be}(F:Fun K "lands" "lands" xN f fd){C T:Af}(hc:MC K C)(aj:mg "sorted"=none)
  (GB:Cl P w K mg base 7 "moment_behind" ["roll","at"] (aAr C T))
  :cW P w K mg base CX0 8 f fd ["roll","at"] (aCG T):=by
 refine F.ok aCH (fun vs H Q E h=>?_) (fun bu A outer s H vs Q E hr h=>?_)
 .obtain⟨t,Ls,us,n,rfl,_⟩:=h;rfl
 .obtain⟨t,Ls,us,n,rfl,roll,tb,hnd,jr,k⟩:=h;have nd:=aCH.nd;refine⟨_,(aB (aR (i:=2) nd rfl (Az rfl) (cK GB hr (aF (pv 0) (aF (pv 1) aE))))
   (aM (bT (aX nP (by rfl) aj (by kernel_rfl) (aF (dF (N:=["land","house","pieces"]) (src:=[none,none,none]) (osc:=aQ xN) (oN:=["roll","at","moment"]) (g:=rG K 2 (dH (aS 0) (dH (rG K 2 (dH (aS 1) (dH (aS 2) rF))) rF))) ⟨by rfl,by decide,by decide,by decide,rfl,by rfl⟩ (z9 (d6 (pv 2) rfl)) (fun cl s H fp im C=>⟨f6 rfl (bK (aV (i:=0) (show(["land","house","pieces"]:List Str).Nodup by decide) rfl (Az rfl)) (bK (f6 rfl (bK (aV (i:=1) (show(["land","house","pieces"]:List Str).Nodup by decide) rfl (Az rfl)) (bK (aV (i:=2) (show(["land","house","pieces"]:List Str).Nodup by decide) rfl (Az rfl)) dX))) dX)),dE,cO (aF (pv 0) (aF (pv 1) (aF (pv 2) aE)))⟩)) aE))))),?_⟩
  refine⟨_,rfl,_,rfl,t,Ls,us,n,rfl,roll,tb,hnd,jr,fun M A zs S H1 run S1 be mx aI=>?_⟩;have bc:=mx;obtain⟨hol,hh,hkn,hlen,hX⟩:=mx.h;have ao:S.hs.length=hol.length:=by
   have:=congrArg Ct hX.ks;rw[Aa,Aa]at this;exact this.symm
  dsimp only[aS];refine⟨_,rfl,M,C,_,_,_,rfl,bc.ins,hc.cl,hc.h,rfl,A.h,hol,rfl,hh,fun od=>?_⟩;have eF:upd H1 A.h (.frz od (.dK hol)) A.h=some (.frz od (.dK hol)):=aA;have tF:fT H1 (upd H1 A.h (.frz od (.dK hol))):=fun b us e=>by rw[aG (bS e hh (fun z=>nomatch z))];exact e
  have SF:eY T H (upd H1 A.h (.frz od (.dK hol))):=fun b o nb e=>by rw[aG (aH e aI)];exact S1 b o nb e
  have ag:=aIG (od:=od) be hh;generalize upd H1 A.h (.frz od (.dK hol))=H2 at eF tF SF ag ⊢;refine t6 (fun i ys σ' H'=>Ex3 fun(o1 o2 o3:Option V)=>∃(rs:List Af),Aw3 (σ'=[o1,o2,o3]) (b8 H2 H') (Aw3 (ys=rs.map V.ref) (rs.length=i) (BI (eZ H') rs ((lds S).take i)))) ⟨none,none,none,[],rfl,fun _ _ e=>e,rfl,rfl,.nil⟩
   (aP (by omega)) (fun i ys σ H' p=>by obtain⟨_,_,_,_,_,_,rfl,e,_⟩:=p;rw[Aa];omega) (fun i ys σ H' p=>by obtain⟨_,_,_,_,_,q,_⟩:=p;exact q _ _ eF) ?_ ?_
  .rintro i k' x t' ys σ' Z hk ht ⟨o1,o2,o3,rs,rfl,S3,rfl,ai,pr⟩;have hi:i<hol.length:=(Al.mp hk).1;obtain⟨z,house,hk0,hsv,a1,a2,xs2,hx',e1,e2,e3⟩:=hX.at' k' x (nB hkn hk);subst hk0 hx';have ax:S.hs[i]?=some (Ad z,.str house):=by
    have O:i<S.hs.length:=by omega
    have ek:S.hs[i].1=Ad z:=by
     have h1:(hol.map (·.1))[i]?=some (Ad z):=by rw[Au,hk];rfl
     rw[hX.ks,Au,Ai O]at h1;simpa using h1
    have G:(S.hs.map (·.1)).Nodup:=by rw[<- hX.ks];exact hkn
    have J:=nB G (i:=i) (k:=S.hs[i].1) (v:=S.hs[i].2) (Ai O);rw[ek,hsv]at J;rw[Ai O];exact congrArg some (EJ ek (BD.inj J).symm)
   have aq:(lds S)[i]?=some (z,house,S.pc z):=by
    unfold lds;rw[Au,ax];rfl
   have sT:=aJ (o:=.tup [kV (Ad z),.ref a1]) ht;have sA:∀ b us,H1 b=some (.tup us)->upd Z t' (.tup [kV (Ad z),.ref a1]) b=some (.tup us):=fun b us e=>sT _ _ (S3 _ _ (tF _ _ e));have eT:upd Z t' (.tup [kV (Ad z),.ref a1]) t'=some (.tup [.str z,.ref a1]):=aA;generalize upd Z t' _=H4 at sT sA eT ⊢;dsimp only[aS];refine⟨t',_,rfl,aN eT,rfl,_,_,rfl,_,_,rfl,⟨a1,_,rfl,aN (sA _ _ e1),rfl,_,_,rfl,_,_,rfl,rfl,rfl,?_⟩⟩;refine gI ?_;refine⟨_,rfl,_,rfl,_,rfl,zZ3,fun r hr=>?_⟩;have sr:=aJ (o:=.tup [V.str z,.str house,.ref a2]) hr;refine⟨_,_,_,rs++[r],rfl,(S3.trans sT).trans sr,by rw[Ar];rfl,by rw[Av,ai];rfl,?_⟩;rw[AA,aq];exact Cg (R:=eZ _) (b:=(z,house,S.pc z)) ⟨a2,xs2,aA,sr _ _ (sA _ _ e2),(e3.on sA).same sr⟩ (Paired.mapP pr fun _ _ z=>z.on (bV (sT.trans sr)))
  .rintro ys σ' Z ⟨o1,o2,o3,rs,rfl,S3,rfl,ai,pr⟩ D hD;have sD:=aJ (o:=.lst (rs.map V.ref)) hD;have aT:(lds S).length=hol.length:=by unfold lds;rw[Aa];exact ao
   rw[<- aT,AN]at pr;have aa:=Paired.mapP pr fun _ _ z=>z.on (bV sD);have eD:upd Z D (.lst (rs.map V.ref)) D=some (.lst (rs.map V.ref)):=aA;have S5:eY T H (upd Z D (.lst (rs.map V.ref))):=SF.trans (S3.trans sD).butT;have Y:=ag.same (S3.trans sD);generalize upd Z D (.lst (rs.map V.ref))=H5 at aa eD S5 Y ⊢;have aC:BI (NmH H5) rs ((lds S).map (·.1)):=i7 (f:=fun l:LD=>l.1) (R:=eZ H5) (S:=NmH H5) (fun r l z=>by
    obtain⟨u,p,h1,_⟩:=z;exact⟨_,_,h1⟩) aa
   have ae:((lds S).map (·.1)).Nodup:=by
    have G:(S.hs.map (·.1)).Nodup:=by rw[<- hX.ks];exact hkn
    have e:S.hs.map (·.1)=((lds S).map (·.1)).map Ad:=by
     unfold lds;rw[Di,Di];refine Et fun kv az=>?_;obtain⟨j,hj⟩:=Bq az;have J:(bG S.hs kv.1).isSome=true:=by rw[nB G (i:=j) (k:=kv.1) (v:=kv.2) hj];rfl
     rw[<- m8 hX.ks]at J;obtain⟨x,hx⟩:=Bf.mp J;obtain⟨z,_,hz,_⟩:=hX.at' kv.1 x hx;show kv.1=Ad (kz kv.1);rw[hz];rfl
    rw[e]at G;exact E5 Ad (fun a b h e=>h (by rw[e])) G
   refine⟨D,rs,(lds S).map (·.1),rfl,eD,aC,ae,aP (by rw[Aa];omega),fun l ms hl aL ap=>?_⟩
   have sl:=aJ (o:=.lst (ms.map V.ref)) hl;obtain⟨es,hes,pe⟩:=aCF aL aa;have au:=aFw pe ap;refine k l ms es zs S _ run (aGU Y S5 hl) (S5.trans sl.butT) (Y.same sl) aA (Paired.mapP pe fun _ _ z=>z.on (bV sl)) ⟨hes,au⟩ (by rw[hes.length_eq];omega)
structure WA where
 o:Af
 ow:Af
 me:Af
 ho:Af
 ic:Af
abbrev jQ:Key:=Ad "scale"
abbrev jR:Key:=Ad "order"
abbrev jS:Key:=Ad "owner"
abbrev kC:Key:=Ad "menders"
abbrev qK:Key:=Ad "houses"
abbrev aGV:Key:=Ad "inches"
def i8(sc:Int)(B:WA):List (Key×V):=[(jQ,.int sc),(jR,.ref B.o),(jS,.ref B.ow),(kC,.ref B.me),(qK,.ref B.ho),(aGV,.ref B.ic)]
def iP(os:List UK)(own:UK->Str):List (List Key×V):=os.map fun k=>([Ad k.1,Cs (k.2:Int)],.str (own k))
structure dD(H:Hp)(W:Af)(B:WA)(sc:Int)(os:List UK)(own:UK->Str)(S:Ex):Prop where
 d:H W=some (.dK (i8 sc B))
 o:∃ qs:List Af,H B.o=some (.lst (qs.map V.ref))/\BI (fun(q:Af) (k:UK)=>H q=some (.tup [.str k.1,.int (k.2:Int)])) qs os
 ow:H B.ow=some (.dT (iP os own))
 me:H B.me=some (.dK S.men)
 ho:H B.ho=some (.dK S.hs)
 ic:H B.ic=some (.dK S.inc)
 nd:os.Nodup
 ol:os.length<=80
 s1:1<=sc
 s2:sc<=100000
 pq:∀ z,aK S z=true->PQ sc (S.pc z) (os.filter fun k=>decide (own k=z))
 ne:[W,B.me,B.ho,B.ic].Nodup
 hv:∀ k v,bG S.hs k=some v->∃ h z,v=.str h/\k=Ad z
 ks:(S.hs.map (·.1)).Nodup
 hl:S.hs.length<=1000
 so:∀ k∈os,aK S (own k)=true
 od:os.Pairwise (ult S.ws)
 ofw:∀ k∈os,k.1∈S.ws/\k.2<=1000
theorem dD.cn{H:Hp}{W:Af}{B:WA}{sc:Int}{os:List UK}{own:UK->Str}{S:Ex}(h:dD H W B sc os own S)(z:Str)(hz:aK S z=true):sc*((os.filter fun k=>decide (own k=z)).length:Int)=S.ac z:=(h.pq z hz).acr
theorem PQ.fld{sc:Int}{ps:List Pc}{F:List UK}(h:PQ sc ps F){p:Pc}(G:p∈ps):∃ k∈F,k.1=p.1:=by
 obtain⟨qs,rfl,h1,rfl,_⟩:=h.ex;obtain⟨q,hq,rfl⟩:=AL.mp G;exact⟨(q.1,q.2.1),i5.mpr ⟨q,hq,gN.mpr ⟨rfl,Aj _,by have:=h1 q hq;dsimp only;omega⟩⟩,rfl⟩
theorem dD.pw{H:Hp}{W:Af}{B:WA}{sc:Int}{os:List UK}{own:UK->Str}{S:Ex}(h:dD H W B sc os own S){z:Str}(hz:aK S z=true):∀ p∈S.pc z,p.1∈S.ws:=fun p F=>by
 obtain⟨k,hk,e⟩:=(h.pq z hz).fld F;rw[<- e];exact(h.ofw k (BL.mp hk).1).1
theorem aAw:∀ qs:List UP,(∀ q∈qs,1<=q.2.2)->qs.length<=(fJ qs).length
 | [],_=>Aj _
 | q::qs,h=>by
  have h1:=aAw qs fun q F=>h q (Ao _ F);have h2:=h q Ap;rw[gG,Av,pJ,AR];omega
theorem dD.jn{H:Hp}{W:Af}{B:WA}{sc:Int}{os:List UK}{own:UK->Str}{S:Ex}(h:dD H W B sc os own S):Jn S:=by
 refine⟨fun z hz=>⟨?_,h.pw hz⟩,fun R hn hs=>(aCz h.s1 hn h.nd h.od (fun z hz=>h.pw (hs z hz)) fun z hz=>h.pq z (hs z hz)).1⟩;obtain⟨qs,e1,h1,e2,_⟩:=(h.pq z hz).ex;rw[e1,Aa];have h2:=aAw qs h1;rw[e2]at h2;exact Ay h2 (Ay (BE _ _) h.ol)
theorem dD.same{H H':Hp}{W:Af}{B:WA}{sc:Int}{os:List UK}{own:UK->Str}{S:Ex}(h:dD H W B sc os own S)(s:b8 H H'):dD H' W B sc os own S:=by
 obtain⟨qs,o1,o2⟩:=h.o;exact⟨s _ _ h.d,⟨qs,s _ _ o1,Paired.mapP o2 fun q k e=>s _ _ e⟩,s _ _ h.ow,s _ _ h.me,s _ _ h.ho,s _ _ h.ic,h.nd,h.ol,h.s1,h.s2,h.pq,h.ne,h.hv,h.ks,h.hl,h.so,h.od,h.ofw⟩
theorem aAx(sc:Int)(B:WA):bG (i8 sc B) jQ=some (.int sc):=rfl
theorem aFy(sc:Int)(B:WA):bG (i8 sc B) jR=some (.ref B.o):=rfl
theorem aAy(sc:Int)(B:WA):bG (i8 sc B) jS=some (.ref B.ow):=rfl
theorem jN(sc:Int)(B:WA):bG (i8 sc B) qK=some (.ref B.ho):=rfl
theorem aHC(sc:Int)(B:WA):bG (i8 sc B) aGV=some (.ref B.ic):=rfl
theorem dD.get{H:Hp}{W:Af}{B:WA}{sc:Int}{os:List UK}{own:UK->Str}{S:Ex}(h:dD H W B sc os own S){z:Str}{v:V}(e:bG (i8 sc B) (Ad z)=some v):gH H W (.str z) (some v):=by
 have:=gH.k (k:=Ad z) h.d;rw[e]at this;exact this
def UAt(H:Hp)(rs:List Af)(ks:List UK):Prop:=BI (fun(q:Af) (k:UK)=>H q=some (.tup [.str k.1,.int (k.2:Int)])) rs ks
structure aAz(H:Hp)(W:Af)(B:WA)(sc:Int)(os:List UK)(own:UK->Str):Prop where
 d:H W=some (.dK (i8 sc B))
 o:∃ qs:List Af,H B.o=some (.lst (qs.map V.ref))/\BI (fun(q:Af) (k:UK)=>H q=some (.tup [.str k.1,.int (k.2:Int)])) qs os
 ow:H B.ow=some (.dT (iP os own))
 ol:os.length<=80
theorem dD.u{H:Hp}{W:Af}{B:WA}{sc:Int}{os:List UK}{own:UK->Str}{S:Ex}(h:dD H W B sc os own S):aAz H W B sc os own:=⟨h.d,h.o,h.ow,h.ol⟩
theorem aAz.get{H:Hp}{W:Af}{B:WA}{sc:Int}{os:List UK}{own:UK->Str}(h:aAz H W B sc os own){z:Str}{v:V}(e:bG (i8 sc B) (Ad z)=some v):gH H W (.str z) (some v):=by
 have:=gH.k (k:=Ad z) h.d;rw[e]at this;exact this
inductive wN(vs:List V)(H:Hp)(Q:VK)(u3_:XK):Prop
 | mk (W:Af) (B:WA) (sc:Int) (os:List UK) (own:UK->Str) (z:Str) (q0:vs=[.ref W,.str z]) (q1:aAz H W B sc os own) (q2:∀(L:Af) (rs:List Af) (H':Hp),H L=none->b8 H H'->H' L=some (.lst (rs.map V.ref))->UAt H' rs (os.filter fun k=>decide (own k=z))->Q (.ref L) H'):wN vs H Q u3_
def pR:Sp:=fun vs H Q u3_=>wN vs H Q u3_
theorem yA{own:UK->Str}:∀{os:List UK}{k:UK},k∈os->bG (iP os own) [Ad k.1,Cs (k.2:Int)]=some (.str (own k))
 | [],_,h=>by simp at h
 | k'::os,k,h=>by
  show bG (([Ad k'.1,Cs (k'.2:Int)],V.str (own k'))::iP os own) _=_;by_cases e:k'=k
  .subst e;exact cZ rfl
  .have F:k∈os:=(An.mp h).resolve_left fun z=>e z.symm;rw[cH]
   .exact yA F
   .intro z;injection z with z1 z2;injection z2 with z2;injection z1 with z1;injection z2 with z2;exact e (EJ z1 (Gn.inj z2))
theorem aCI:cB ["_law_world_here","_law_land"] ["_law_world_here","_law_land"] (aQ xO):=⟨rfl,rfl,rfl,by decide,rfl,by decide,by decide⟩
theorem aFz{f:Af}{fd:Be}(F:Fun K "_law_units" "_law_units" xO f fd)
  :cW P w K mg base CX0 1 f fd ["_law_world_here","_law_land"] pR:=by
 refine F.ok aCI (fun vs H Q E h=>?_) (fun ag A outer s H vs Q E hr h=>?_)
 .obtain⟨W,B,sc,os,own,z,rfl,_⟩:=h;rfl
 .obtain⟨W,B,sc,os,own,z,rfl,wl,k⟩:=h;have hu:=fS hr;have nd:=aCI.nd;refine⟨_,(aM (bT (dF (N:=["_law_key","_law_world_here","_law_land"]) (src:=[none,some 0,some 1]) (osc:=aQ xO) (oN:=["_law_world_here","_law_land"]) ⟨by rfl,by decide,by decide,by decide,rfl,by rfl⟩ (g8 (bQ hu (pv 0) aO Iv)) (fun cl s H fp im C=>⟨aV (i:=0) (show(["_law_key","_law_world_here","_law_land"]:List Str).Nodup by decide) rfl (Az rfl),oS (aZ cV (bQ hu (bQ hu (pv 1) aO Iv) (pv 0) Iv) (pv 2) (bJ _)),pv 0⟩)))),?_⟩;obtain⟨qs,o1,o2⟩:=wl.o;have Y:=Bm o2;have ah:=wl.ol;refine⟨_,rfl,W,_,rfl,wl.get (aFy _ _),B.o,rfl,⟨_,aU o1⟩,?_⟩;refine m6 (K:=K) (xs:=qs.map V.ref) (fun i ys Z H'=>∃(o:Option V) (rs:List Af),Aw3 (Z=[o,some (.ref W),some (.str z)]) (H'=H) (Aw3 (ys=rs.map V.ref) (rs.length<=i) (UAt H rs ((os.take i).filter fun k=>decide (own k=z))))) ⟨none,[],rfl,rfl,rfl,Aj _,.nil⟩
   (aP (by rw[Aa];omega)) (fun i ys σ H' p=>by obtain⟨_,rs,_,_,rfl,e,_⟩:=p;rw[Aa];exact e) (fun i ys σ H' p=>by obtain⟨_,_,_,rfl,_⟩:=p;exact aU o1) ?_ ?_
  .rintro i x ys Z H' hx ⟨o,rs,rfl,rfl,rfl,G,J⟩;rw[Au]at hx;obtain⟨q,hq,rfl⟩:=AU.mp hx;obtain⟨hi,_⟩:=Al.mp hq;obtain⟨u,hu'⟩:∃ u,os[i]?=some u:=⟨_,Ai (by omega)⟩
   have O:=Paired.at o2 hq hu';have hD:gH H' B.ow (.ref q) (some (.str (own u))):=by
    have:=gH.t (k:=[Ad u.1,Cs (u.2:Int)]) wl.ow O;rw[yA (AQ hu')]at this;exact this
   dsimp only[aS];refine⟨_,rfl,W,_,rfl,wl.get (aAy _ _),_,rfl,B.ow,_,rfl,hD,_,rfl,rfl,_,rfl,dB (fun g=>?_) fun g=>?_⟩
   .have g':own u=z:=V.str.inj (Iu g);refine⟨_,rfl,_,rs++[q],rfl,rfl,by rw[Ar];rfl,by rw[Av];exact Nat.succ_le_succ G,?_⟩;rw[AA,hu',CU];show UAt H' _ (_++E4 _ [u]);rw[BW,Iq (Ir g')];exact Cg (R:=fun(q:Af) (k:UK)=>H' q=some (.tup [.str k.1,.int (k.2:Int)])) O J
   .have g':¬ own u=z:=fun e=>g (Ir (by rw[e]));refine⟨_,rs,rfl,rfl,rfl,Nat.le_succ_of_le G,?_⟩;rw[AA,hu',CU];show UAt H' _ (_++E4 _ [u]);rw[BW,Ip (by simpa using g'),Eo,A6];exact J
  .rintro ys Z H' ⟨o,rs,rfl,rfl,rfl,G,J⟩ L hL;have sL:=aJ (o:=.lst (rs.map V.ref)) hL;rw[Aa,Y,AN]at J;exact k L rs _ hL sL aA (Paired.mapP J fun q k e=>sL _ _ e)
inductive pS(vs:List V)(H:Hp)(Q:VK)(u3_:XK):Prop
 | mk (W:Af) (B:WA) (sc:Int) (os:List UK) (own:UK->Str) (S:Ex) (x:V) (r:cS) (ws:List Str) (land:Str) (R:List P3) (q0:vs=[.ref W,x]) (q1:dD H W B sc os own S) (q2:RdV false H x r.d) (q3:r.Ok ws) (q4:r.word="part") (q5:r.ds=[.str land,.tuple (R.map pD)]) (q6:∀ H',b8 H H'->Q (.str (cN S land R)) H'):pS vs H Q u3_
def uL:Sp:=fun vs H Q u3_=>pS vs H Q u3_
theorem uM:cB ["_law_world_here","_law_row","_law_stand","_law_taken"] ["_law_world_here","_law_row"] (aQ j6):=⟨rfl,rfl,rfl,by decide,rfl,by decide,by decide⟩
theorem aAA{f:Af}{fd:Be}(F:Fun K "_law_part_word" "_law_part_word" j6 f fd)(aj:mg "len"=none)(ai:mg "sum"=none)(ah:mg "int"=none)
  (GU:Cl P w K mg base 1 "_law_units" ["_law_world_here","_law_land"] pR)
  :cW P w K mg base CX0 2 f fd ["_law_world_here","_law_row"] uL:=by
 refine F.ok uM (fun vs H Q E h=>?_) (fun bp A outer s H vs Q E hr h=>?_)
 .obtain⟨W,B,sc,os,own,S,x,r,ws,land,R,rfl,_⟩:=h;rfl
 .obtain⟨W,B,sc,os,own,S,x,r,ws,land,R,rfl,wl,rdv,ok,hwd,hds,k⟩:=h;have hu:=fS hr;have nd:=uM.nd;refine⟨_,(aB (aR (i:=2) nd rfl (DT rfl) (bQ hu (pv 0) aO Iv))
   (aB (cD (nQ (mZ hu (aW bC (pv 1) aD Iv) (pv 2))) (aM (bT aO)) bF)
   (aB (cD (aZ vL (aY dZ (aX bH (by rfl) aj A1 (aF (cK GU hr (aF (pv 0) (aF (aW bC (pv 1) aD Iv) aE))) aE)) (bQ hu (pv 0) aO Iv)) (aX (tQ rfl) (by rfl) ai EU (aF (dF (N:=["_law_part_here"]) (src:=[none]) (osc:=aQ j6) (oN:=["_law_world_here","_law_row","_law_stand","_law_taken"]) ⟨by rfl,by decide,by decide,by decide,rfl,by rfl⟩ (dQ (aW bC (pv 1) aD Iv)) (fun cl s H fp im C=>⟨aV (i:=0) (show(["_law_part_here"]:List Str).Nodup by decide) rfl (Az rfl),dE,aW (r:=lR K) bC (pv 0) aD Iv⟩)) aE)) (bJ _)) (aM (bT aO)) bF)
   (aB (iW (i:=3) (N:=["_law_part_here","_law_row","_law_stand"]) (src:=[none,some 1,some 2]) (osc:=aQ j6) (oN:=["_law_world_here","_law_row","_law_stand","_law_taken"]) ⟨by rfl,by decide,by decide,by decide,rfl,by rfl⟩ nd rfl (dQ (aW bC (pv 1) aD Iv)) (fun cl s H fp im C=>⟨aV (i:=0) (show(["_law_part_here","_law_row","_law_stand"]:List Str).Nodup by decide) rfl (Az rfl),oS (PW.pt (gS (nQ (qA hu (aW (r:=lR K) bC (pv 0) aD Iv) (pv 2))) (gJ (aZ vL (aW (r:=lR K) bC (pv 0) aD Iv) (aW (r:=lR K) bC (pv 1) aD Iv) (bJ _))))),aW (r:=lR K) bC (pv 0) aD Iv⟩))
   (aM (bT (aW bX (dA (aF aO (aF aO aE))) (c8 pZ (by rfl) ah (by kernel_rfl) (aF (kQ (aEw (G9 hu)) (pv 3) (dA aE) (bJ _)) aE)) Iv))))))),?_⟩
  obtain⟨t,cE,rfl,ht,hrest⟩:=cS.Ok.tup (fs:=ws) rdv;rw[hds]at hrest;obtain⟨q1,q2⟩:=rd2 hrest;cases q1;cases q2 with
  | @tup tp us _ O bt aa=>
  have ad:=aa.len;rw[Aa]at ad;have bi:R.length<=6:=by
   have rs:=ok.rs;rw[hwd,hds]at rs;generalize hg:R.map pD=ps at rs;have ak:=congrArg Ct hg;rw[Aa]at ak;cases rs with
   | part _ _ _ h6 _=>rw[ak,Aa];exact h6
  have z8:us.length<=sizeLine:=aP (by omega);refine⟨_,rfl,W,_,rfl,wl.get (jN _ _),_,rfl,t,_,3,_,rfl,rfl,aN ht,rfl,_,rfl,B.ho,_,rfl,.inl ⟨S.hs,Ad land,.inl wl.ho,rfl,rfl⟩,_,rfl,?_⟩;cases hv:bG S.hs (Ad land)with
  | none=>
   have e0:cN S land R="land":=by
    unfold cN aK;rw[hv];rfl
   rw[e0]at k;exact gI (k H (b8.refl H))
  | some v=>
  refine nE ?_;have J:aK S land=true:=by unfold aK;rw[hv];rfl
  refine⟨_,rfl,_,rfl,t,_,3,_,rfl,rfl,aN ht,rfl,W,B,sc,os,own,land,rfl,wl.u,fun L rs H1 hL S1 aw hU=>?_⟩;have aI:=Bm hU;have ax:=wl.cn land J;have s1:=wl.s1;have s2:=wl.s2;refine⟨L,_,rfl,.inl (aU aw),_,rfl,W,_,rfl,(wl.same S1).get (aAx _ _),_,_,rfl,rfl,.inr ⟨by omega,by omega⟩,_,rfl,t,_,4,_,rfl,rfl,aN (S1 _ _ ht),rfl,tp,rfl,⟨_,aN (S1 _ _ O)⟩,?_⟩;refine d9 (K:=K) (xs:=us) (fun i ys Y H'=>∃ o1:Option V,Y=[o1]/\b8 H1 H'/\ys=((R.take i).map fun p=>p.2.2).map V.int) ⟨none,rfl,b8.refl H1,by simp⟩
   z8 (fun i ys σ H' p=>by obtain⟨_,_,_,rfl⟩:=p;simp;omega) (fun i ys σ H' p=>by obtain⟨_,_,S,_⟩:=p;exact aN (S _ _ (S1 _ _ O))) ?_ ?_
  .rintro i v ys Y H2 Z ⟨o1,rfl,S2,rfl⟩;obtain⟨p,q,hp,rfl,hq⟩:=i6 aa Z;dsimp only[aS];refine gI ?_;refine⟨_,rfl,q,_,2,_,rfl,rfl,aN (S2 _ _ (S1 _ _ hq)),rfl,_,rfl,S2,?_⟩;rw[AA,hp];simp
  rintro ys Y H2 ⟨o1,rfl,S2,rfl⟩ D hD;rw[ad,AN];have G:=(S1.trans S2).trans (aJ (o:=.lst ((R.map fun p=>p.2.2).map V.int)) hD);refine⟨D,R.map fun p=>p.2.2,rfl,aU aA,rfl,_,rfl,?_⟩;generalize upd H2 D _=H3 at G ⊢;have ay:(((rs.map V.ref).length:Nat):Int)*sc=S.ac land:=by
   rw[Aa,aI,FJ];exact ax
  rw[show V.int ((((rs.map V.ref).length:Nat):Int)*sc)=V.int (S.ac land) from congrArg V.int ay];refine dB (fun g=>?_) fun g=>?_
  .have g':(R.map fun p=>p.2.2).sum≠S.ac land:=fun z=>by
    rw[z]at g;simp at g
   have e0:cN S land R="acres":=by
    unfold cN;rw[J,Ip (by decide),Iq g']
   rw[e0]at k;exact k H3 G
  have g':(R.map fun p=>p.2.2).sum=S.ac land:=by
   have:S.ac land=(R.map fun p=>p.2.2).sum:=by simpa using g
   exact this.symm
  have ap:=wl.same G;refine⟨_,rfl,t,_,4,_,rfl,rfl,aN (G _ _ ht),rfl,tp,rfl,⟨_,aN (G _ _ O)⟩,?_⟩;refine d9 (K:=K) (xs:=us) (fun i ys Y H'=>∃ o1:Option V,Y=[o1,some (.ref t),some (.ref B.ho)]/\H'=H3/\ys=((R.take i).filter fun p=>decide (p.1≠land)&&aK S p.1).map fun p=>V.str p.1) ⟨none,rfl,rfl,by simp⟩
   z8 (fun i ys σ H' p=>by obtain⟨_,_,_,rfl⟩:=p;rw[Aa];exact Ay (BE _ _) (by rw[AJ];exact Er _ _)) (fun i ys σ H' p=>by obtain⟨_,_,rfl,_⟩:=p;exact aN (G _ _ O)) ?_ ?_
  .rintro i v ys Y H4 Z ⟨o1,rfl,rfl,rfl⟩;obtain⟨p,q,hp,rfl,hq⟩:=i6 aa Z;have ab:=G _ _ hq;have et:(R.take (i+1)).filter (fun p=>decide (p.1≠land)&&aK S p.1)=(R.take i).filter (fun p=>decide (p.1≠land)&&aK S p.1)++if (decide (p.1≠land)&&aK S p.1)=true then[p] else[]:=by
    rw[AA,hp,CU];congr 1;show E4 _ [p]=_;rw[BW,Eo]
   dsimp only[aS];refine⟨_,rfl,q,_,0,_,rfl,rfl,aN ab,rfl,_,rfl,B.ho,_,rfl,.inl ⟨S.hs,Ad p.1,.inl ap.ho,rfl,rfl⟩,_,rfl,dB (fun g1=>?_) fun g1=>?_⟩
   .refine⟨_,rfl,q,_,0,_,rfl,rfl,aN ab,rfl,_,rfl,t,_,3,_,rfl,rfl,aN (G _ _ ht),rfl,rfl,_,rfl,dB (fun g2=>?_) fun g2=>?_⟩
    .refine⟨_,rfl,q,_,0,_,rfl,rfl,aN ab,rfl,_,rfl,rfl,?_⟩;rw[et,Iq,Ar]
     .rfl
     .rw[show decide (p.1≠land)=true by simpa using g2,Fc];exact g1
    .refine⟨_,rfl,rfl,?_⟩;rw[et,Ip,A6];rw[show decide (p.1≠land)=false by simpa using g2];simp
   .refine nE ⟨_,rfl,rfl,?_⟩;rw[et,Ip,A6];intro z;exact g1 (Bool.and_eq_true_iff.mp z).2
  rintro ys Y H4 ⟨o1,rfl,rfl,rfl⟩ D4 au;rw[ad,AN];have S4:=G.trans (aJ (o:=.lst ((R.filter fun p=>decide (p.1≠land)&&aK S p.1).map fun p=>V.str p.1)) au);have al:upd H4 D4 (.lst ((R.filter fun p=>decide (p.1≠land)&&aK S p.1).map fun p=>V.str p.1)) D4=some (.lst ((R.filter fun p=>decide (p.1≠land)&&aK S p.1).map fun p=>V.str p.1)):=aA;generalize upd H4 D4 _=H5 at S4 al ⊢;refine⟨zZ2,fun L6 aq=>?_⟩;have s6:=aJ (o:=.lst [V.str "done",.str "name"]) aq;refine⟨_,rfl,A8 _,fun L7 ar=>?_⟩;have s7:=aJ (o:=.lst []) ar;refine⟨D4,L7,_,_,rfl,rfl,aU (s7 _ _ (s6 _ _ al)),aU aA,by simp[iV],rfl,.inr ⟨_,rfl,?_⟩⟩;have hS:=(S4.trans s6).trans s7;cases hf:R.filter (fun p=>decide (p.1≠land)&&aK S p.1)with
  | nil=>
   have e0:cN S land R="done":=by
    unfold cN;rw[J,Ip (by decide),Ip (fun z=>z g'),Ip];intro z;obtain⟨p,hp,hz⟩:=BN.mp z;have:p∈R.filter (fun p=>decide (p.1≠land)&&aK S p.1):=BL.mpr ⟨hp,hz⟩;rw[hf]at this;simp at this
   rw[e0]at k;exact⟨L6,_,_,_,rfl,rfl,aU (s7 _ _ aA),rfl,k _ hS⟩
  | cons p ps=>
   have e0:cN S land R="name":=by
    unfold cN;rw[J,Ip (by decide),Ip (fun z=>z g'),Iq];have:p∈R.filter (fun p=>decide (p.1≠land)&&aK S p.1):=by rw[hf];exact Ap
    exact BN.mpr ⟨p,(BL.mp this).1,(BL.mp this).2⟩
   rw[e0]at k;exact⟨L6,_,_,_,rfl,rfl,aU (s7 _ _ aA),rfl,k _ hS⟩
inductive pT(vs:List V)(H:Hp)(Q:VK)(u3_:XK):Prop
 | mk (W:Af) (B:WA) (sc:Int) (os:List UK) (own:UK->Str) (S:Ex) (x:V) (r:cS) (ws:List Str) (land:Str) (R:List Str) (q0:vs=[.ref W,x]) (q1:dD H W B sc os own S) (q2:RdV false H x r.d) (q3:r.Ok ws) (q4:r.word="join") (q5:r.ds=[.tuple (R.map BO),.str land]) (q6:∀ H',(∀ b o,H b=some o->H' b=some o)->Q (.str (cG S R land)) H'):pT vs H Q u3_
def uN:Sp:=fun vs H Q u3_=>pT vs H Q u3_
def hof(S:Ex)(z:Str):Str:=match bG S.hs (Ad z)with
 | some (.str h)=>h
 | _=>""
theorem aFA{a:Str}{l:List Str}:1<(rK (a::l)).length↔∃ z∈a::l,z≠a:=by
 have nd:=aBr (a::l);have mem:=aEF (a::l);constructor
 .intro h;cases hm:rK (a::l)with
  | nil=>rw[hm]at h;simp at h
  | cons x r=>
   cases r with
   | nil=>rw[hm]at h;simp at h
   | cons y r=>
    rw[hm]at nd mem;have F:x≠y:=fun e=>(A5.mp nd).1 (by rw[e];exact Ap);by_cases e:x=a
    .exact⟨y,(mem y).mp (by simp),fun z=>F (by rw[e,z])⟩
    .exact⟨x,(mem x).mp (by simp),e⟩
 .rintro⟨z,hz,hne⟩;have h1:=(mem z).mpr hz;have h2:=(mem a).mpr Ap;cases hm:rK (a::l)with
  | nil=>rw[hm]at h1;simp at h1
  | cons x r=>
   cases r with
   | nil=>
    rw[hm]at h1 h2;simp at h1 h2;exact absurd (h1.trans h2.symm) hne
   | cons y r=>simp
theorem uO:cB ["_law_world_here","_law_row","_law_stand"] ["_law_world_here","_law_row"] (aQ j7):=⟨rfl,rfl,rfl,by decide,rfl,by decide,by decide⟩
theorem aAB{f:Af}{fd:Be}(F:Fun K "_law_join_word" "_law_join_word" j7 f fd)(Z:mg "len"=none)(ar:mg "set"=none)(al:mg "int"=none)
  :cW P w K mg base CX0 1 f fd ["_law_world_here","_law_row"] uN:=by
 refine F.ok uO (fun vs H Q E h=>?_) (fun bo A outer s H vs Q E hr h=>?_)
 .obtain⟨W,B,sc,os,own,S,x,r,ws,land,R,rfl,_⟩:=h;rfl
 .obtain⟨W,B,sc,os,own,S,x,r,ws,land,R,rfl,wl,rdv,ok,hwd,hds,k⟩:=h;have hu:=fS hr;have nd:=uO.nd;refine⟨_,(aB (aR (i:=2) nd rfl (DT rfl) (bQ hu (pv 0) aO Iv))
   (aB (cD (aZ qQ (aX bH (by rfl) Z A1 (aF (dF (N:=["_law_land","_law_stand"]) (src:=[none,some 2]) (osc:=aQ j7) (oN:=["_law_world_here","_law_row","_law_stand"]) ⟨by rfl,by decide,by decide,by decide,rfl,by rfl⟩ (dQ (aW bC (pv 1) aD Iv)) (fun cl s H fp im C=>⟨aV (i:=0) (show(["_law_land","_law_stand"]:List Str).Nodup by decide) rfl (Az rfl),oS (nQ (qA hu (pv 0) (pv 1))),pv 0⟩)) aE)) (aX bH (by rfl) Z A1 (aF (aW bC (pv 1) aD Iv) aE)) (bJ _)) (aM (bT aO)) bF)
   (aB (cD (aZ aBT (aX v7 (by rfl) Z A1 (aF (c8 (v6 rfl) (by rfl) ar (by kernel_rfl) (aF (dF (N:=["_law_land","_law_stand"]) (src:=[none,some 2]) (osc:=aQ j7) (oN:=["_law_world_here","_law_row","_law_stand"]) ⟨by rfl,by decide,by decide,by decide,rfl,by rfl⟩ (dQ (aW bC (pv 1) aD Iv)) (fun cl s H fp im C=>⟨aV (i:=0) (show(["_law_land","_law_stand"]:List Str).Nodup by decide) rfl (Az rfl),dE,bQ hu (pv 1) (pv 0) Iv⟩)) aE)) aE)) aD (bJ _)) (aM (bT aO)) bF)
   (aM (bT (aW bX (dA (aF aO (aF aO aE))) (c8 pZ (by rfl) al (by kernel_rfl) (aF (aDV (aAW (qA hu (aW bC (pv 1) aD Iv) (pv 2))) (aDU (kQ kT (aW bC (pv 1) aD Iv) (aW bC (pv 1) aD Iv) (by with_unfolding_all rfl)))) aE)) Iv)))))),?_⟩
  obtain⟨t,cE,rfl,ht,hrest⟩:=cS.Ok.tup (fs:=ws) rdv;rw[hds]at hrest;obtain⟨q1,q2⟩:=rd2 hrest;cases q2;cases q1 with
  | @tup tp us _ O bq ay=>
  obtain rfl:=m9 ay;obtain⟨hR2,hR6⟩:2<=R.length/\R.length<=6:=by
   have rs:=ok.rs;rw[hwd,hds]at rs;generalize hg:R.map BO=ps at rs;have aq:=congrArg Ct hg;rw[Aa]at aq;cases rs with
   | join _ _ h2 h6 _=>rw[aq,Aa];exact⟨h2,h6⟩
  have am:(R.map V.str).length=R.length:=Aa _;have z8:(R.map V.str).length<=sizeLine:=aP (by omega);refine⟨_,rfl,W,_,rfl,wl.get (jN _ _),_,rfl,t,_,3,_,rfl,rfl,aN ht,rfl,tp,rfl,⟨_,aN O⟩,?_⟩;refine d9 (K:=K) (xs:=R.map V.str) (fun i ys σ' H'=>∃ o1:Option V,σ'=[o1,some (.ref B.ho)]/\H'=H/\ys=((R.take i).filter (aK S)).map V.str) ⟨none,rfl,rfl,by simp⟩
   z8 (fun i ys σ H' p=>by obtain⟨_,_,_,rfl⟩:=p;rw[Aa];exact Ay (BE _ _) (by rw[AJ];exact Er _ _)) (fun i ys σ H' p=>by obtain⟨_,_,rfl,_⟩:=p;exact aN O) ?_ ?_
  .rintro i v ys σ' H1 hv ⟨o1,rfl,rfl,rfl⟩;rw[Au]at hv;obtain⟨z,hz,rfl⟩:=AU.mp hv;have et:(R.take (i+1)).filter (aK S)=(R.take i).filter (aK S)++if aK S z=true then[z] else[]:=by
    rw[AA,hz,CU];congr 1;show E4 _ [z]=_;rw[BW,Eo]
   dsimp only[aS];refine⟨_,rfl,_,rfl,B.ho,_,rfl,.inl ⟨S.hs,Ad z,.inl wl.ho,rfl,rfl⟩,_,rfl,dB (fun g1=>?_) fun g1=>?_⟩
   .refine⟨_,rfl,_,rfl,rfl,?_⟩;rw[et,Iq (show aK S z=true from g1),Ar];rfl
   .refine⟨_,rfl,rfl,?_⟩;rw[et,Ip (show¬ aK S z=true from g1),A6]
  rintro ys σ' H1 ⟨o1,rfl,rfl,rfl⟩ D hD;rw[am,AN];have S1:=aJ (o:=.lst ((R.filter (aK S)).map V.str)) hD;have ao:upd H1 D (.lst ((R.filter (aK S)).map V.str)) D=some (.lst ((R.filter (aK S)).map V.str)):=aA;generalize upd H1 D _=H2 at S1 ao ⊢;refine⟨D,_,rfl,.inl (aU ao),_,rfl,t,_,3,_,rfl,rfl,aN (S1 _ _ ht),rfl,tp,_,rfl,.inr (aN (S1 _ _ O)),_,_,rfl,rfl,_,rfl,?_⟩;have ap:(R.filter (aK S)).length<R.length↔R.all (aK S)=false:=by
   constructor
   .intro h;cases e:R.all (aK S)with
    | false=>rfl
    | true=>
     rw[List.filter_eq_self.mpr (A7.mp e)]at h;omega
   .intro h;have h1:=BE (aK S) R;rcases DG (R.filter (aK S)).length R.length with z|z
    .exact z
    .have e:=List.length_filter_eq_length_iff.mp (Nat.le_antisymm h1 z);rw[A7.mpr e]at h;cases h
  refine dB (fun g=>?_) fun g=>?_
  .have g':=ap.mp (by have:=Iu g;rw[Aa,Aa]at this;omega);have e0:cG S R land="land":=by
    unfold cG;rw[Iq g']
   rw[e0]at k;exact k H2 S1
  have G:¬ R.all (aK S)=false:=fun z=>g (Ir (by rw[Aa,Aa];exact HP.mpr (ap.mpr z)));have ab:∀ z∈R,bG S.hs (Ad z)=some (.str (hof S z)):=fun z hz=>by
   have ha:R.all (aK S)=true:=by
    cases e:R.all (aK S)with
    | true=>rfl
    | false=>exact absurd e G
   have h1:(bG S.hs (Ad z)).isSome=true:=A7.mp ha z hz;cases e:bG S.hs (Ad z)with
   | none=>rw[e]at h1;cases h1
   | some v=>
    obtain⟨h,y,rfl,_⟩:=wl.hv _ _ e;unfold hof;rw[e]
  have az:=wl.same S1;refine⟨_,rfl,t,_,3,_,rfl,rfl,aN (S1 _ _ ht),rfl,tp,rfl,⟨_,aN (S1 _ _ O)⟩,?_⟩;refine d9 (K:=K) (xs:=R.map V.str) (fun i ys σ' H'=>∃ o1:Option V,σ'=[o1,some (.ref B.ho)]/\H'=H2/\ys=((R.take i).map (hof S)).map V.str) ⟨none,rfl,rfl,by simp⟩
   z8 (fun i ys σ H' p=>by obtain⟨_,_,_,rfl⟩:=p;rw[Aa,Aa,AJ];exact Er _ _) (fun i ys σ H' p=>by obtain⟨_,_,rfl,_⟩:=p;exact aN (S1 _ _ O)) ?_ ?_
  .rintro i v ys σ' H3 hv ⟨o1,rfl,rfl,rfl⟩;rw[Au]at hv;obtain⟨z,hz,rfl⟩:=AU.mp hv;dsimp only[aS];refine gI ?_;refine⟨_,rfl,_,rfl,B.ho,_,rfl,.inl ⟨S.hs,Ad z,.inl az.ho,rfl,(ab z (AQ hz)).symm⟩,_,rfl,rfl,?_⟩;rw[AA,hz];simp
  rintro ys σ' H3 ⟨o1,rfl,rfl,rfl⟩ D2 a0;rw[am,AN];have s3:=aJ (o:=.lst ((R.map (hof S)).map V.str)) a0;refine⟨D2,R.map (hof S),rfl,aU aA,by rw[Aa];omega,fun a ha=>⟨a,R.map (hof S),rfl,aA,by rw[Aa];omega,?_⟩⟩;have s4:=(S1.trans s3).trans (aJ (o:=zJ P w a (R.map (hof S))) ha);obtain⟨z0,R',eR⟩:∃ z0 R',R=z0::R':=by
   cases R with
   | nil=>simp at hR2
   | cons z0 R'=>exact⟨z0,R',rfl⟩
  have ai:R.headD ""=z0:=by rw[eR];rfl
  have af:(R.any fun z=>decide (bG S.hs (Ad z)≠bG S.hs (Ad (R.headD ""))))=true↔1<(rK (R.map (hof S))).length:=by
   have e2:rK (R.map (hof S))=rK (hof S z0::R'.map (hof S)):=by rw[eR];rfl
   rw[e2,aFA,ai,BN];have e3:hof S z0::R'.map (hof S)=R.map (hof S):=by rw[eR];rfl
   rw[e3];have h0:=ab z0 (by rw[eR];exact Ap);constructor
   .rintro⟨z,hz,hne⟩;refine⟨hof S z,Ba hz,fun e=>?_⟩;rw[ab z hz,h0,e]at hne;simp at hne
   .rintro⟨y,hy,hne⟩;obtain⟨z,hz,rfl⟩:=AL.mp hy;refine⟨z,hz,Ir fun e=>hne ?_⟩;rw[ab z hz,h0]at e;injection e with e;injection e with e
  refine⟨_,_,rfl,rfl,_,rfl,dB (fun g2=>?_) fun g2=>?_⟩
  .have g3:1<(rK (R.map (hof S))).length:=by
    have:=Iu g2;exact HP.mp this
   have e0:cG S R land="houses":=by
    unfold cG;rw[Ip G,Iq (af.mpr g3)]
   rw[e0]at k;exact k _ s4
  have Y:¬ (R.any fun z=>decide (bG S.hs (Ad z)≠bG S.hs (Ad (R.headD ""))))=true:=fun z=>g2 (Ir (HP.mpr (af.mp z)));have av:=wl.same s4;refine⟨zZ2,fun L6 aw=>?_⟩;have s6:=aJ (o:=.lst [V.str "done",.str "name"]) aw;have J:=s4.trans s6;have aL:=av.same s6;refine⟨_,rfl,t,_,4,_,rfl,rfl,aN (J _ _ ht),rfl,_,rfl,B.ho,_,rfl,.inl ⟨S.hs,Ad land,.inl aL.ho,rfl,rfl⟩,_,rfl,dB (fun g3=>?_) fun g3=>?_⟩
  .refine⟨_,rfl,t,_,4,_,rfl,rfl,aN (J _ _ ht),rfl,_,rfl,t,_,3,_,rfl,rfl,aN (J _ _ ht),rfl,tp,_,rfl,.inr (aN (J _ _ O)),rfl,j9 _,.inr ⟨_,rfl,?_⟩⟩;have ag:aK S land=true:=g3;rw[Iq rfl,pQ];by_cases e:land∈R
   .have e0:cG S R land="done":=by
     unfold cG;rw[Ip G,Ip Y,Ip (by rw[Ir e];simp)]
    rw[e0]at k;rw[Ir e];exact⟨L6,_,_,_,rfl,rfl,aU aA,rfl,k _ J⟩
   .have e0:cG S R land="name":=by
     unfold cG;rw[Ip G,Ip Y,Iq (by rw[Is e,ag];rfl)]
    rw[e0]at k;rw[Is e];exact⟨L6,_,_,_,rfl,rfl,aU aA,rfl,k _ J⟩
  .have ag:aK S land=false:=by
    cases e:aK S land with
    | false=>rfl
    | true=>exact absurd e g3
   have e0:cG S R land="done":=by
    unfold cG;rw[Ip G,Ip Y,Ip (by rw[ag,D7];exact Am)]
   rw[e0]at k;exact .inr ⟨_,rfl,L6,_,_,_,rfl,rfl,aU aA,rfl,k _ J⟩
theorem aHD{α β γ:Type}{T:α->β->γ->Prop}{a:α}{b:β}{c:γ}(h:∀ F,F=T->F a b c):T a b c:=h T rfl
inductive aAC(vs:List V)(H:Hp)(Q:VK)(u3_:XK):Prop
 | mk (W:Af) (B:WA) (sc:Int) (os:List UK) (own:UK->Str) (S:Ex) (x:V) (r:cS) (ws:List Str) (q0:vs=[.ref W,x]) (q1:dD H W B sc os own S) (q2:RdV false H x r.d) (q3:r.Ok ws) (q4:∀ z S' H',lC S r.word r.ds z S'->b8 H H'->Q (.str z) H'):aAC vs H Q u3_
def aBK:Sp:=fun vs H Q u3_=>aAC vs H Q u3_
theorem aFB:cB ["_law_world_here","_law_row","_law_stand"] ["_law_world_here","_law_row"] (aQ aE2):=⟨rfl,rfl,rfl,by decide,rfl,by decide,by decide⟩
theorem aGW{f:Af}{fd:Be}(F:Fun K "_law_word" "_law_word" aE2 f fd)
  (GP:Cl P w K mg base 2 "_law_part_word" ["_law_world_here","_law_row"] uL)
  (GJ:Cl P w K mg base 1 "_law_join_word" ["_law_world_here","_law_row"] uN)
  :cW P w K mg base CX0 3 f fd ["_law_world_here","_law_row"] aBK:=by
 refine F.ok aFB (fun vs H Q E h=>?_) (fun ai A outer s H vs Q E hr h=>?_)
 .obtain⟨W,B,sc,os,own,S,x,r,ws,rfl,_⟩:=h;rfl
 .obtain⟨W,B,sc,os,own,S,x,r,ws,rfl,wl,rdv,ok,k⟩:=h;have hu:=fS hr;have ad:dC 1 _:=hr.mono (by decide);have nd:=aFB.nd;refine⟨_,(aB (aR (i:=2) nd rfl (Az rfl) (bQ hu (pv 0) aO Iv))
   (aB (cD (aZ cV (aW bC (pv 1) aD Iv) aO (bJ _)) (aM (bT (cK GP hr (aF (pv 0) (aF (pv 1) aE))))) bF)
   (aB (cD (aZ cV (aW bC (pv 1) aD Iv) aO (bJ _)) (aM (bT (cK GJ ad (aF (pv 0) (aF (pv 1) aE))))) bF)
   (aB (cD (PW.pt (gS (aZ cV (aW bC (pv 1) aD Iv) aO (bJ _)) (gJ (nQ (mZ hu (aW bC (pv 1) aD Iv) (pv 2)))))) (aM (bT aO)) bF)
   (aB (cD (PW.pt (gS (aZ cV (aW bC (pv 1) aD Iv) aO (bJ _)) (gJ (aZ cV (bQ hu (pv 2) (aW bC (pv 1) aD Iv) Iv) (aW bC (pv 1) aD Iv) (bJ _))))) (aM (bT aO)) bF)
   (aB (cD (PW.pt (gS (aZ cV (aW bC (pv 1) aD Iv) aO (bJ _)) (gJ aCD))) mH bF)
   (aB (cD (PW.pt (gS (aZ cV (aW bC (pv 1) aD Iv) aO (bJ _)) (gJ aCD))) mH bF)
   (aB (cD (PW.pt (gS (aZ p8 (aW bC (pv 1) aD Iv) (cO (aF aO (aF aO aE))) (by with_unfolding_all rfl)) (gJ aCD))) mH bF)
   (aM (bT aO)))))))))),?_⟩
  refine aHD fun T hT=>?_;obtain⟨t,cE,rfl,ht,hrest⟩:=cS.Ok.tup (fs:=ws) rdv;have rs:=ok.rs;obtain⟨word,name,day,ds⟩:=r;dsimp only at rs hrest ht k;cases rs with
  | @part G R hl O h2 h6 Z=>
   obtain⟨q1,q2⟩:=rd2 hrest;subst hT;refine⟨_,rfl,W,_,rfl,wl.get (jN _ _),_,rfl,t,_,0,_,rfl,rfl,aN ht,rfl,rfl,_,rfl,yW ?_⟩;exact⟨_,rfl,_,rfl,W,B,sc,os,own,S,_,_,ws,G,R,rfl,wl,rdv,ok,rfl,rfl,fun H' s=>k _ _ _ .part s⟩
  | @join G R hl O h2 h6 Z=>
   obtain⟨q1,q2⟩:=rd2 hrest;subst hT;refine⟨_,rfl,W,_,rfl,wl.get (jN _ _),_,rfl,t,_,0,_,rfl,rfl,aN ht,rfl,rfl,_,rfl,nW (by decide) ?_⟩;refine⟨_,rfl,t,_,0,_,rfl,rfl,aN ht,rfl,rfl,_,rfl,yW ?_⟩;exact⟨_,rfl,_,rfl,W,B,sc,os,own,S,_,_,ws,G,R,rfl,wl,rdv,ok,rfl,rfl,fun H' s=>k _ _ _ .join s⟩
  | @forfeit G J hl hh=>
   obtain rfl:=aIE hrest;have kF:∀(z:Str),dL S G J=z->∃ S',lC S "forfeit" [.str G,.str J] z S':=by
    rintro z rfl;exact⟨_,.forfeit⟩
   subst hT;refine⟨_,rfl,W,_,rfl,wl.get (jN _ _),_,rfl,t,_,0,_,rfl,rfl,aN ht,rfl,rfl,_,rfl,nW (by decide) ?_⟩;refine⟨_,rfl,t,_,0,_,rfl,rfl,aN ht,rfl,rfl,_,rfl,nW (by decide) ?_⟩;refine⟨_,rfl,t,_,0,_,rfl,rfl,aN ht,rfl,rfl,_,rfl,yW ?_⟩;refine⟨_,rfl,t,_,3,_,rfl,rfl,aN ht,rfl,_,rfl,B.ho,_,rfl,.inl ⟨S.hs,Ad G,.inl wl.ho,rfl,rfl⟩,_,rfl,?_⟩;cases hv:bG S.hs (Ad G)with
   | none=>
    obtain⟨S',st⟩:=kF "land" (by unfold dL aK;rw[hv];rfl);exact gI (k _ _ _ st (b8.refl H))
   | some v=>
   refine nE ?_;obtain⟨hs,_,rfl,_⟩:=wl.hv _ _ hv;have Y:aK S G=true:=by unfold aK;rw[hv];rfl
   refine⟨_,rfl,t,_,0,_,rfl,rfl,aN ht,rfl,rfl,_,rfl,yW ?_⟩;refine⟨_,rfl,_,rfl,t,_,3,_,rfl,rfl,aN ht,rfl,B.ho,_,rfl,.inl ⟨S.hs,Ad G,.inl wl.ho,rfl,hv.symm⟩,_,rfl,t,_,4,_,rfl,rfl,aN ht,rfl,rfl,_,rfl,dB (fun g=>?_) fun g=>?_⟩
   .obtain⟨S',st⟩:=kF "same" (by unfold dL;rw[Y,Ip (by decide),hv,V.str.inj (Iu g),Iq rfl]);exact k _ _ _ st (b8.refl H)
   obtain⟨S',st⟩:=kF "done" (by unfold dL;rw[Y,Ip (by decide),hv,Ip (fun z=>g (Ir (BD.inj z)))]);refine⟨_,rfl,t,_,0,_,rfl,rfl,aN ht,rfl,rfl,_,rfl,nW (by decide) ?_⟩;refine nE ?_;refine⟨_,rfl,t,_,0,_,rfl,rfl,aN ht,rfl,rfl,_,rfl,nW (by decide) ?_⟩;refine nE ?_;refine⟨_,rfl,t,_,0,_,rfl,rfl,aN ht,rfl,zZ2,fun u ae=>?_⟩;have su:=(aJ (o:=.tup [V.str "breach",.str "view"]) ae)
   refine⟨u,_,rfl,.inr (aN aA),rfl,rfl,_,rfl,dB (fun g=>absurd g (by decide)) fun _=>?_⟩;refine nE ?_;exact k _ _ _ st su
theorem aBL:∀{a b:P3},pD a=pD b->a=b
 | (a1,a2,a3),(b1,b2,b3),h=>by
  unfold pD at h;injection h with h;injection h with h1 h;injection h with h2 h;injection h with h3 h;injection h1 with h1;injection h2 with h2;injection h3 with h3;dsimp only at h1 h2 h3;rw[h1,h2,h3]
theorem nC{α β:Type}{f:α->β}(F:∀{a b:α},f a=f b->a=b):∀{l m:List α},l.map f=m.map f->l=m
 | [],[],_=>rfl
 | [],_::_,h=>by simp at h
 | _::_,[],h=>by simp at h
 | a::l,b::m,h=>by
  rw[Aq,Aq]at h;injection h with h1 h2;rw[F h1,nC F h2]
theorem lC.fn{S:Ex}{word:Str}{ds:List Bc}{z J:Str}{Y O:Ex}(h:lC S word ds z Y)(h':lC S word ds J O):z=J/\Y=O:=by
 generalize hw:word=w0 at h';generalize hd:ds=d0 at h';cases h with
 | @part G R=>
  cases h' with
  | @part F Z=>
   injection hd with h1 h2;injection h2 with h2 _;injection h1 with h1;injection h2 with h2;subst h1;have:=nC aBL h2;subst this;exact⟨rfl,rfl⟩
  | _=>exact absurd hw (by decide)
 | @join G R=>
  cases h' with
  | @join F Z=>
   injection hd with h1 h2;injection h2 with h2 _;injection h1 with h1;injection h2 with h2;subst h2;have:=nC (fun{a b} (e:BO a=BO b)=>by injection e) h1;subst this;exact⟨rfl,rfl⟩
  | _=>exact absurd hw (by decide)
 | forfeit=>
  cases h' with
  | forfeit=>cases hd;exact⟨rfl,rfl⟩
  | _=>exact absurd hw (by decide)
theorem Run.fn{S:Ex}{G:List cS}{zs F:List Str}{Y O:Ex}(h:Run S G zs Y):Run S G F O->zs=F/\Y=O:=by
 induction h generalizing F O with
 | nil=>
  intro h';generalize hu:([]:List cS)=u0 at h';cases h' with
  | nil=>exact⟨rfl,rfl⟩
  | snoc _ _=>simp at hu
 | @snoc G zs Sa Sb r z _ st ih=>
  intro h';generalize hu:G++[r]=u0 at h';cases h' with
  | nil=>simp at hu
  | @snoc ab Z Sc _ r' z1 h1 J=>
   obtain⟨e1,e2⟩:=List.append_inj' hu rfl;injection e2 with e2;subst e1 e2;obtain⟨rfl,rfl⟩:=ih h1;obtain⟨rfl,rfl⟩:=st.fn J;exact⟨rfl,rfl⟩
def rkD:List (Key×V):=[(Ad "measure",.int 0),(Ad "mend",.int 2),(Ad "alone",.int 2),(Ad "breach",.int 3),(Ad "view",.int 3)]
def rk(w:Str):Int:=if w="measure" then 0 else if w="mend"\/w="alone" then 2 else if w="breach"\/w="view" then 3 else 1
theorem aIH:∀ w∈gO,(bG rkD (Ad w)).getD (.int 1)=.int (rk w):=by decide
inductive aAD(vs:List V)(H:Hp)(Q:VK)(u3_:XK):Prop
 | mk (word:Str) (q0:vs=[.str word]) (q1:word∈gO) (q2:∀ H',b8 H H'->Q (.int (rk word)) H'):aAD vs H Q u3_
def aFC:Sp:=fun vs H Q u3_=>aAD vs H Q u3_
theorem aII:cB ["_law_word_here"] ["_law_word_here"] (aQ aE4):=⟨rfl,rfl,rfl,by decide,rfl,by decide,by decide⟩
theorem aGX{f:Af}{fd:Be}(F:Fun K "_law_rank" "_law_rank" aE4 f fd):cW P w K mg base CX0 1 f fd ["_law_word_here"] aFC:=by
 refine F.ok aII (fun vs H Q E h=>?_) (fun Y A outer s H vs Q E O h=>?_)
 .obtain⟨word,rfl,_⟩:=h;rfl
 .obtain⟨word,rfl,hw,k⟩:=h;have hu:=fS O;refine⟨_,aM (bT (aEp hu (xB (d8 aO aD (d8 aO aD (d8 aO aD (d8 aO aD (d8 aO aD xA))))) rfl rfl (by simp) (by decide)) (pv 0) aD ⟨rfl,rfl,rfl,rfl⟩)),fun d hd=>?_⟩;refine⟨aA,rkD,rfl,(by show 5<=15;decide),?_⟩;rw[show cX [] rkD=rkD by first|rfl|decide];have J:b8 H (upd (upd H d (.dK [])) d (.dK rkD)):=fun b o e=>by rw[aF4,aG (aH e hd)];exact e
  have G:upd (upd H d (.dK [])) d (.dK rkD) d=some (.dK rkD):=aA;generalize upd (upd H d (.dK [])) d (.dK rkD)=H2 at J G ⊢;refine⟨d,rfl,.inl ⟨rkD,.inl G⟩,_,rfl,_,.inl ⟨rkD,Ad word,.inl G,rfl,rfl⟩,?_⟩;rw[aIH word hw];exact k H2 J
theorem fY{ps:List Str}{r:Int}(F:0<=r)(h1:r<((ps.map V.str).length:Nat)):∃ z,z∈ps/\atI (ps.map V.str) r=some (.str z):=by
 obtain⟨j,rfl⟩:∃ j:Nat,r=j:=⟨r.toNat,by omega⟩
 rw[Aa]at h1;obtain⟨z,hz⟩:∃ z,ps[j]?=some z:=⟨_,Ai (by omega)⟩
 exact⟨z,AQ hz,fU (by rw[Au,hz];rfl)⟩
theorem i9{K:Ah}{H H':Hp}{p c:Af}{ns:List Int}{a:Int}(F:c9 K H p c ns a)(k:bA p H H'):fT H H':=fun b G e=>k _ _ e (aFb F e (fun _ _ z=>nomatch z))
theorem gR{i:Int}(h:i<=1000000000):i<2^512:=C0 h (by decide)
inductive uP(K:Ah)(vs:List V)(H:Hp)(Q:VK)(u3_:XK):Prop
 | mk (p c:Af) (ns:List Int) (a:Int) (lp:Af) (ps:List Str) (sc m:Int) (q0:vs=[.ref p,.ref lp,.int sc,.int m]) (q1:c9 K H p c ns a) (q2:a<=500000) (q3:H lp=some (.lst (ps.map V.str))) (q4:Nms ps) (q5:1<=ps.length) (q6:ps.length<=300) (q7:1<=sc) (q8:sc<=100000) (q9:m=10) (q10:∀(t:Af) (xs:List V) (Ls:List L4) (a':Int) (H':Hp),H' t=some (.tup xs)->cF false H' xs (Ls.map mS)->(∀ l∈Ls,LOk l/\sc ∣ l.2.2.1/\l.2.2.1<=10*sc)->(Ls.map (·.1)).Nodup->1<=Ls.length->Ls.length<=8->a<=a'->a'<=a+400->c9 K H' p c ns a'->bA p H H'->Q (.ref t) H'):uP K vs H Q u3_
def aAE(K:Ah):Sp:=fun vs H Q u3_=>uP K vs H Q u3_
theorem aAF:cB ["_law_pen_here","_law_pool","_law_scale","_law_most","_law_laying_here","_law_field","_law_inches","_law_way"] ["_law_pen_here","_law_pool","_law_scale","_law_most"] (aQ xQ):=⟨rfl,rfl,rfl,by decide,rfl,by decide,by decide⟩
theorem aDL{f:Af}{fd:Be}(F:Fun K "_law_laying" "_law_laying" xQ f fd)(aL:mg "len"=none)(ap:mg "tuple"=none)
  (GN:Cl P w K mg base 2 "_law_names" ["_law_pen_here","_law_many"] (xT K))
  (GD:Cl P w K mg base 1 "_law_draw" ["_law_pen_here","_law_many"] (lY K))
  :cW P w K mg base CX0 3 f fd ["_law_pen_here","_law_pool","_law_scale","_law_most"] (aAE K):=by
 refine F.ok aAF (fun vs H Q E h=>?_) (fun da A outer s H vs Q E hr h=>?_)
 .obtain⟨p,c,ns,a,lp,ps,sc,m,rfl,_⟩:=h;rfl
 .obtain⟨p,c,ns,a,lp,ps,sc,m,rfl,hp,ha,hlp,hps,hp1x,hp3x,s1,s2,hm,k⟩:=h;have Z:dC 1 _:=hr.mono (by decide);have nd:=aAF.nd;refine⟨_,(aB (aR (i:=4) nd rfl (Az rfl) (dA aE))
   (aB (dY Bj rfl (g8 (cK GN hr (aF (pv 0) (aF (aW bX (dA (aF aD (aF aD (aF aD (aF aD (aF aD (aF aD (aF aD (aF aD aE))))))))) (cK GD Z (aF (pv 0) (aF aD aE))) Iv) aE)))) (g:=aS 5) (aV (i:=5) nd rfl (Az rfl))
   (aB (aR (i:=6) nd rfl (Az rfl) (cK GD Z (aF (pv 0) (aF aD aE))))
    (aB (aR (i:=7) nd rfl (Az rfl) (cK GD Z (aF (pv 0) (aF aD aE))))
    (aB (eQ (cD (aZ qQ (pv 7) aD (bJ _)) (aM (aR (i:=6) nd rfl (Az rfl) (aW bX (dA (aF (aY kK (aY sH aD aD) (cK GD Z (aF (pv 0) (aF aD aE)))) (aF aD aE))) (pv 7) Iv))) bF))
    (aM (dP (lE Bd B0 BZ gE (pv 4) (aF (cO (aF (pv 5) (aF (aW bX (pv 1) (cK GD Z (aF (pv 0) (aF (aX bH (by rfl) aL A1 (aF (pv 1) aE)) aE))) Iv) (aF (aY dZ (aY cQ aD (cK GD Z (aF (pv 0) (aF (pv 3) aE)))) (pv 2)) (aF (pv 6) aE))))) aE))))))))
   (aM (bT (c8 dR (by rfl) ap (by kernel_rfl) (aF (pv 4) aE)))))),?_⟩
  refine⟨A8 _,fun L hL=>?_⟩;have sL:=aJ (o:=.lst []) hL;have ai:=hp.same sL;have kL:bA p H _:=(bA.refl p H).same sL;have eL:upd H L (.lst []) L=some (.lst []):=aA;generalize upd H L (.lst [])=H0 at sL ai kL eL ⊢;refine⟨_,rfl,zZ8,fun q hq=>?_⟩;have sq:=aJ (o:=.lst [V.int 1,.int 2,.int 2,.int 3,.int 3,.int 4,.int 5,.int 8]) hq;refine⟨_,rfl,p,c,ns,a,8,rfl,ai.same sq,by omega,by decide,by decide,fun r1 a1 H1 c0 cI l1 u1 au q1=>?_⟩;obtain⟨n,hn1,hn8,hat⟩:∃ n:Nat,1<=n/\n<=8/\atI [V.int 1,.int 2,.int 2,.int 3,.int 3,.int 4,.int 5,.int 8] r1=some (.int n):=by
   obtain⟨j,rfl⟩:∃ j:Nat,r1=j:=⟨r1.toNat,by omega⟩
   have hj:j<8:=by omega
   have:∀ j:Nat,j<8->∃ n:Nat,n<9/\1<=n/\n<=8/\atI [V.int 1,.int 2,.int 2,.int 3,.int 3,.int 4,.int 5,.int 8] (j:Int)=some (.int n):=by decide
   obtain⟨n,_,h1,h2,h3⟩:=this j hj;exact⟨n,h1,h2,h3⟩
  refine⟨q,_,r1,_,rfl,rfl,aU (cT aA (ai.same sq) q1),hat,?_⟩;have k1:=(kL.same sq).trans q1;have ba:=cT (sq _ _ eL) (ai.same sq) q1;refine⟨p,c,ns,a1,n,rfl,au,by omega,by omega,fun l ws a2 H2 av aI aT hN l2 u2 bP q2=>?_⟩;have k2:=k1.trans q2;have bu:=cT ba au q2;have cs:=hL;have bp:l≠L:=fun e=>by rw[e,ba]at av;cases av
  refine⟨l,rfl,⟨_,aU aI⟩,?_⟩;refine jU (K:=K) (xs:=ws.map V.str) (fun i σ H'=>Ex3 fun(o5 o6 o7:Option V)=>Ex3 fun(a':Int) (qs:List Af) (J:List L4)=>Aw6 (σ=[some (.ref p),some (.ref lp),some (.int sc),some (.int m),some (.ref L),o5,o6,o7]) (c9 K H' p c ns a') (bA p H H') (a2<=a') (a'<=a2+5*i) (Aw3 (H' L=some (.lst (qs.map V.ref))) (H' l=some (.lst (ws.map V.str))) (Aw3 (cF false H' (qs.map V.ref) (J.map mS)) ((∀ l∈J,LOk l/\sc ∣ l.2.2.1/\l.2.2.1<=10*sc)) (J.map (·.1)=ws.take i)))) ⟨_,_,_,a2,[],[],rfl,bP,k2,by omega,by omega,bu,aI,.nil,fun l hl=>by simp at hl,rfl⟩ (fun i σ H' _ p=>by obtain⟨_,_,_,_,_,_,_,_,_,_,_,_,e,_⟩:=p;exact aU e) ?_ ?_
  .rintro i v σ H3 hv ⟨o5,o6,o7,a3,qs,J,rfl,O,k3,l3,u3,al,aq,ae,hok,Y⟩;rw[Au]at hv;obtain⟨z,hz,rfl⟩:=AU.mp hv;have az:=hN.ok z (AQ hz);have cq:i<n:=by rw[<- aT];exact(Al.mp hz).1
   have bx:J.length=i:=by
    have:=congrArg Ct Y;rw[Aa,AJ]at this;omega
   dsimp only[aS];refine⟨_,rfl,p,c,ns,a3,40,rfl,O,by omega,by decide,by decide,fun r4 a4 H4 cr cv l4 u4 af q4=>?_⟩;dsimp only[aS];refine⟨_,rfl,p,c,ns,a4,8,rfl,af,by omega,by decide,by decide,fun r5 a5 H5 dc ci l5 u5 aa q5=>?_⟩;have k5:=(k3.trans q4).trans q5;have bj:=cT (cT al O q4) af q5;have bN:=cT (cT aq O q4) af q5;have br:cF false H5 (qs.map V.ref) (J.map mS):=cF.onT (fun b us e=>i9 af q5 _ _ (i9 O q4 _ _ e)) ae (gQ J);refine⟨fun σ' H'=>∃(x a':Int),σ'=[some (.ref p),some (.ref lp),some (.int sc),some (.int m),some (.ref L),some (.str z),some (.int x),some (.int r5)]/\c9 K H' p c ns a'/\bA p H5 H'/\a5<=a'/\a'<=a5+1/\0<=x/\x<=10000000,?_,?_⟩
   .refine⟨_,rfl,_,_,rfl,rfl,_,rfl,dB (fun g=>?_) fun g=>?_⟩
    .have g':r5<2:=Iu g;refine⟨_,_,rfl,rfl,⟨by decide,by decide,by decide⟩,_,rfl,p,c,ns,a5,3,rfl,aa,by omega,by decide,by decide,fun r6 a6 H6 c4 cu l6 u6 G q6=>?_⟩;refine⟨_,_,rfl,rfl,zZ2,fun q hq=>?_⟩;have ad:=aJ (o:=.lst [V.int (10^(7:Int).toNat-r6),.int 0]) hq;have e7:(10:Int)^(7:Int).toNat=10000000:=by decide
     have bv:r5=0\/r5=1:=by omega
     rcases bv with rfl|rfl
     .exact⟨_,rfl,q,_,0,_,rfl,rfl,aU aA,rfl,_,a6,rfl,G.same ad,q6.same ad,by omega,by omega,by rw[e7];omega,by rw[e7];omega⟩
     .exact⟨_,rfl,q,_,1,_,rfl,rfl,aU aA,rfl,_,a6,rfl,G.same ad,q6.same ad,by omega,by omega,by omega,by omega⟩
    .exact⟨r4,a5,rfl,aa,bA.refl _ _,by omega,by omega,by omega,by omega⟩
   .rintro σ' H6 ⟨x,a6,rfl,G,q6,l6,u6,bL,bt⟩;have k6:=k5.trans q6;have bb:=cT bj aa q6;have bI:=cT bN aa q6;have ak:H6 lp=some (.lst (ps.map V.str)):=cT hlp hp k6;refine⟨_,rfl,.inl ⟨rfl,_,aU bb⟩,_,rfl,_,rfl,_,rfl,_,rfl,lp,_,rfl,.inl (aU ak),p,c,ns,a6,_,rfl,G,by omega,by rw[Aa];omega,gR (by rw[Aa];omega),fun r7 a7 H7 bO bw l7 u7 ag q7=>?_⟩;obtain⟨hz7,hh7,hat7⟩:=fY bO bw;refine⟨lp,_,_,_,rfl,rfl,aU (cT ak G q7),hat7,_,rfl,_,rfl,p,c,ns,a7,_,rfl,ag,by omega,by omega,gR (by omega),fun r8 a8 H8 cx c2 l8 u8 bn q8=>?_⟩;refine⟨_,_,rfl,rfl,_,rfl,_,_,rfl,rfl,.inr ⟨by omega,by omega⟩,_,rfl,zZ4,fun t ht=>?_⟩;have st:=aJ (o:=.tup [V.str z,.str hz7,.int ((1+r8)*sc),.int x]) ht;have k8:=((k6.trans q7).trans q8).same st;have ar:=bn.same st;have ah:=st _ _ (cT (cT bb G q7) ag q8);have a0:=st _ _ (cT (cT bI G q7) ag q8);refine⟨L,_,_,rfl,rfl,ah,by rw[Aa];exact c5 (by have:=ae.len;rw[Aa,Aa]at this;omega),?_⟩;have b4:1*sc<=(1+r8)*sc/\(1+r8)*sc<=10*sc:=⟨BK (by omega) (by omega),BK (by omega) (by omega)⟩
    have ay:LOk (z,hz7,(1+r8)*sc,x):=⟨az,hps.ok _ hh7,by dsimp only;omega,by dsimp only;omega,bL,bt⟩
    have aw:RdV false (upd H8 t (.tup [V.str z,.str hz7,.int ((1+r8)*sc),.int x])) (.ref t) (mS (z,hz7,(1+r8)*sc,x)):=.tup aA (by show 4<=_;decide) (.cons (pM az) (.cons (pM (hps.ok _ hh7)) (.cons (.int _) (.cons (.int _) .nil))));have aC:cF false (upd H8 t (.tup [V.str z,.str hz7,.int ((1+r8)*sc),.int x])) (qs.map V.ref) (J.map mS):=cF.onT (fun b us e=>st _ _ (i9 ag q8 _ _ (i9 G q7 _ _ (i9 aa q6 _ _ e)))) br (gQ J);generalize upd H8 t _=H9 at k8 ar ah a0 aw aC ⊢;obtain⟨hpA,kA⟩:=c9.app (ys:=qs.map V.ref++[V.ref t]) hp ar k8 hL ah;have tA:fT H9 (upd H9 L (.lst (qs.map V.ref++[V.ref t]))):=fun b us e=>by rw[aG (bS e ah (fun z=>nomatch z))];exact e
    refine⟨_,_,_,a8,qs++[t],J++[(z,hz7,(1+r8)*sc,x)],rfl,hpA,kA,by omega,by omega,by rw[aA,Ar];rfl,by rw[aG bp];exact a0,?_,fun y hy=>?_,?_⟩
    .rw[Ar,Ar];exact cF.app (cF.onT tA aC (gQ J)) (.cons (RdV.onT tA aw rfl) .nil)
    .rcases AO.mp hy with hy|hy
     .exact hok y hy
     .rw[AK.mp hy];exact⟨ay,Int.dvd_mul_left _ _,by dsimp only;omega⟩
    .rw[Ar,Y,AA,hz];rfl
  .rintro σ H3 ⟨o5,o6,o7,a3,qs,J,rfl,O,k3,l3,u3,al,aq,ae,hok,Y⟩;rw[Aa,AN]at Y;have bx:J.length=n:=by rw[<- aT,<- Y,Aa]
   rw[Aa]at u3;refine⟨_,rfl,L,_,rfl,.inl ⟨aU al,fun t ht=>?_⟩⟩;have st:=aJ (o:=.tup (qs.map V.ref)) ht;exact k t _ J a3 _ aA (cF.onT (bV st) ae (gQ J)) hok (by rw[Y];exact hN.nd) (by omega) (by omega) (by omega) (by omega) (O.same st) (k3.same st)
def gC(sc:Int)(l:L4):List UK:=(A3 (l.2.2.1/sc).toNat).map fun u=>(l.1,u)
def jT(sc:Int)(Ls:List L4):List UK:=Ls.flatMap (gC sc)
def yB(k:UK):Str:=k.1
theorem jO:∀(Ls:List L4) (S:Ex),(Ls.foldl lG S).hs=cX S.hs (Ls.map fun l=>(Ad l.1,V.str l.2.1))
 | [],_=>rfl
 | l::Ls,S=>jO Ls (lG S l)
theorem pU:∀(Ls:List L4) (S:Ex),(Ls.foldl lG S).inc=cX S.inc (Ls.map fun l=>(Ad l.1,V.int l.2.2.2))
 | [],_=>rfl
 | l::Ls,S=>pU Ls (lG S l)
theorem aAG:∀(Ls:List L4) (S:Ex) (z:Str),z∉Ls.map (·.1)->(Ls.foldl lG S).pc z=S.pc z
 | [],_,_,_=>rfl
 | l::Ls,S,z,h=>by
  rw[Aq,An,not_or]at h;rw[Bh,aAG Ls (lG S l) z h.2];show mK S.pc l.1 _ z=_;unfold mK;rw[Ip h.1]
theorem aCJ:∀(Ls:List L4) (S:Ex),(Ls.map (·.1)).Nodup->∀ l∈Ls,(Ls.foldl lG S).pc l.1=[(l.1,0,l.2.2.1)]
 | [],_,_,_,h=>by simp at h
 | a::Ls,S,hn,l,h=>by
  rw[Aq,A5]at hn;rw[Bh];rcases An.mp h with rfl|h
  .rw[aAG Ls _ _ hn.1];show mK S.pc l.1 _ l.1=_;unfold mK;rw[Iq rfl]
  .exact aCJ Ls _ hn.2 l h
theorem kG{α:Type}(f:α->Str)(g:α->V)(k:Key)(v:V):∀(Ls:List α) (d:List (Key×V)),bG (cX d (Ls.map fun l=>(Ad (f l),g l))) k=some v->bG d k=some v\/∃ l∈Ls,k=Ad (f l)/\v=g l
 | [],d,h=>.inl h
 | l::Ls,d,h=>by
  rcases kG f g k v Ls (b0 d (Ad (f l)) (g l)) h with h|⟨F,h1,h2⟩
  .rw[d7]at h;by_cases e:k=Ad (f l)
   .rw[Iq e]at h;cases h;exact .inr ⟨l,by simp,e,rfl⟩
   .rw[Ip e]at h;exact .inl h
  .exact .inr ⟨F,by simp[h1],h2⟩
theorem uQ{α:Type}(f:α->Str)(g:α->V)(k:Key):∀(Ls:List α) (d:List (Key×V)),((bG d k).isSome=true\/∃ l∈Ls,k=Ad (f l))->(bG (cX d (Ls.map fun l=>(Ad (f l),g l))) k).isSome=true
 | [],d,h=>h.elim id fun⟨l,h,_⟩=>by simp at h
 | l::Ls,d,h=>by
  refine uQ f g k Ls (b0 d (Ad (f l)) (g l)) ?_;rw[d7];by_cases e:k=Ad (f l)
  .rw[Iq e];exact .inl rfl
  .rw[Ip e];rcases h with h|⟨F,h1,h2⟩
   .exact .inl h
   .rcases An.mp h1 with rfl|h1
    .exact absurd h2 e
    .exact .inr ⟨F,h1,h2⟩
theorem aAH:∀(ip d:List (Key×V)),(d.map (·.1)).Nodup->((cX d ip).map (·.1)).Nodup
 | [],d,h=>h
 | kv::ip,d,h=>aAH ip (b0 d kv.1 kv.2) (mJ _ h)
theorem st0{Ls:List L4}{z:Str}:aK (ex0 Ls) z=true↔z∈Ls.map (·.1):=by
 unfold aK ex0;rw[jO];constructor
 .intro h;obtain⟨v,hv⟩:=Bf.mp h;rcases kG _ _ _ _ _ _ hv with h|⟨l,h1,h2,_⟩
  .cases h
  .injection h2 with h2;rw[h2];exact Ba h1
 .intro h;obtain⟨l,h1,rfl⟩:=AL.mp h;exact uQ _ _ _ _ _ (.inr ⟨l,h1,rfl⟩)
theorem qL{sc:Int}:∀{Ls:List L4}{k:UK},k∈jT sc Ls->k.1∈Ls.map (·.1):=by
 intro Ls k h;unfold jT at h;obtain⟨l,h1,h2⟩:=List.mem_flatMap.mp h;unfold gC at h2;obtain⟨u,_,rfl⟩:=AL.mp h2;exact Ba h1
theorem oG(sc:Int)(l:L4):gC sc l=run l.1 0 (l.2.2.1/sc).toNat:=by
 unfold gC run;rw[List.range_eq_range']
theorem aFD{sc:Int}:∀{Ls:List L4},(Ls.map (·.1)).Nodup->∀ l∈Ls,((jT sc Ls).filter fun k=>decide (yB k=l.1))=run l.1 0 (l.2.2.1/sc).toNat
 | [],_,_,h=>by simp at h
 | a::Ls,hn,l,h=>by
  rw[Aq,A5]at hn;show((gC sc a++jT sc Ls).filter _)=_;rw[CU];rcases An.mp h with rfl|h
  .rw[List.filter_eq_self.mpr,Fv.mpr,A6,oG]
   .intro k F z;exact hn.1 (by rw[<- Iu z];exact qL F)
   .intro k F;unfold gC at F;obtain⟨u,_,rfl⟩:=AL.mp F;exact Ir rfl
  .rw[Fv.mpr,aFD hn.2 l h,FG];intro k F z;unfold gC at F;obtain⟨u,_,rfl⟩:=AL.mp F;have:a.1=l.1:=Iu z;exact hn.1 (by show a.1∈_;rw[this];exact Ba h)
theorem aHE{sc:Int}:∀{Ls:List L4}{pre:List Str},(pre++Ls.map (·.1)).Nodup->(jT sc Ls).Pairwise (ult (pre++Ls.map (·.1)))
 | [],_,_=>B6
 | a::Ls,pre,hn=>by
  have e:pre++(a::Ls).map (·.1)=(pre++[a.1])++Ls.map (·.1):=by rw[AF];rfl
  show(gC sc a++jT sc Ls).Pairwise _;rw[oG];refine F1.mpr ⟨aBF _ _ _ _,by rw[e]at hn ⊢;exact aHE hn,fun x Z y hy=>.inl ?_⟩;have O:x.1=a.1:=(gN (q:=(a.1,0,(a.2.2.1/sc).toNat)).mp Z).1;have F:=qL hy;obtain⟨_,n2,n3⟩:=Bu.mp hn;rw[Aq,A5]at n2;have G:a.1∉pre:=fun h=>n3 a.1 h a.1 (by simp) rfl;have J:y.1∉pre:=fun h=>n3 y.1 h y.1 (Ao _ F) rfl;have Y:y.1≠a.1:=fun h=>n2.1 (by rw[<- h];exact F);rw[O,List.idxOf_append,Ip G,List.idxOf_append,Ip J,Aq,List.idxOf_cons_self,List.idxOf_cons,beq_eq_false_iff_ne.mpr Y.symm];show 0+pre.length<(_+1)+pre.length;omega
theorem aIJ{sc:Int}(h1:1<=sc){Ls:List L4}(h:∀ l∈Ls,1<=l.2.2.1/\l.2.2.1<=10*sc){k:UK}(F:k∈jT sc Ls):k.2<=1000:=by
 unfold jT at F;obtain⟨l,hl,h2⟩:=List.mem_flatMap.mp F;rw[oG]at h2;have G:=(gN (q:=(l.1,0,(l.2.2.1/sc).toNat)).mp h2).2.2;have:l.2.2.1/sc<=10:=FW (by omega) (h l hl).2;dsimp only at G;omega
theorem aHF{sc:Int}:∀{Ls:List L4},(Ls.map (·.1)).Nodup->(jT sc Ls).Nodup
 | [],_=>EL
 | a::Ls,hn=>by
  rw[Aq,A5]at hn;show(gC sc a++jT sc Ls).Nodup;refine Bu.mpr ⟨?_,aHF hn.2,fun x F y G e=>?_⟩
  .unfold gC;rw[EM,D0];exact List.Pairwise.imp (fun{x y} hxy e=>hxy (congrArg Prod.snd e)) (EM.mp List.nodup_range)
  .subst e;unfold gC at F;obtain⟨u,_,rfl⟩:=AL.mp F;exact hn.1 (qL G)
theorem aBM{sc:Int}(h1:1<=sc):∀{Ls:List L4},(∀ l∈Ls,1<=l.2.2.1/\l.2.2.1<=10*sc)->(jT sc Ls).length<=10*Ls.length
 | [],_=>Aj _
 | a::Ls,h=>by
  have F:=aBM h1 (Ls:=Ls) fun l hl=>h l (by simp[hl]);have ha:=h a (by simp);have:a.2.2.1/sc<=10:=FW (by omega) ha.2;show(gC sc a++jT sc Ls).length<=_;rw[Av,AR];unfold gC;rw[Aa,GX];omega
theorem aGY(sc:Int)(o ow me:Af):cX [] [(jQ,V.int sc),(jR,.ref o),(jS,.ref ow),(kC,.ref me)]=[(jQ,V.int sc),(jR,.ref o),(jS,.ref ow),(kC,.ref me)]:=by
 first|rfl|decide
theorem aGZ(sc:Int)(o ow me ho:Af):b0 [(jQ,V.int sc),(jR,.ref o),(jS,.ref ow),(kC,.ref me)] qK (.ref ho)=[(jQ,V.int sc),(jR,.ref o),(jS,.ref ow),(kC,.ref me),(qK,.ref ho)]:=by
 first|rfl|decide
theorem aG0(sc:Int)(o ow me ho ic:Af):b0 [(jQ,V.int sc),(jR,.ref o),(jS,.ref ow),(kC,.ref me),(qK,.ref ho)] aGV (.ref ic)=i8 sc ⟨o,ow,me,ho,ic⟩:=by
 first|rfl|decide
theorem eG{H H':Hp}{a:Af}(s:b8 H H')(h:H' a=none):H a=none:=by
 cases q:H a with
 | none=>rfl
 | some o=>rw[s _ _ q]at h;cases h
def LP(g:L4->V)(H:Hp)(r:Af)(l:L4):Prop:=H r=some (.tup [.str l.1,g l])
structure WB(H:Hp)(d:Af)(B:WA)(sc:Int)(os:List UK)(hs ic:List (Key×V)):Prop where
 d:H d=some (.dK (i8 sc B))
 o:∃ qs:List Af,H B.o=some (.lst (qs.map V.ref))/\UAt H qs os
 ow:H B.ow=some (.dT (iP os yB))
 me:H B.me=some (.dK [])
 ho:H B.ho=some (.dK hs)
 ic:H B.ic=some (.dK ic)
theorem aIK{H:Hp}{W:Af}{B:WA}{sc:Int}(h:H W=some (.dK (i8 sc B))){z:Str}{v:V}(e:bG (i8 sc B) (Ad z)=some v):gH H W (.str z) (some v):=by
 have:=gH.k (k:=Ad z) h;rw[e]at this;exact this
theorem aG1{own:UK->Str}{os:List UK}{k:UK}(h:k∉os):bG (iP os own) [Ad k.1,Cs (k.2:Int)]=none:=by
 induction os with
 | nil=>rfl
 | cons a r F=>
  show bG (([Ad a.1,Cs (a.2:Int)],V.str (own a))::iP r own) _=_;rw[cH]
  .exact F fun z=>h (by simp[z])
  .intro z;injection z with z1 z2;injection z2 with z2;injection z1 with z1;injection z2 with z2;exact h (by rw[show a=k from EJ z1 (Gn.inj z2)];simp)
theorem aG2{sc:Int}{Ls:List L4}{i:Nat}{l:L4}(h:Ls[i]?=some l):jT sc (Ls.take (i+1))=jT sc (Ls.take i)++gC sc l:=by
 unfold jT;rw[AA,h,List.flatMap_append];show _++(gC sc l++[])=_;rw[A6]
theorem UAt.snoc{H:Hp}{qs:List Af}{ks:List UK}{q:Af}{k:UK}(h:H q=some (.tup [.str k.1,.int (k.2:Int)]))(u:UAt H qs ks):UAt H (qs++[q]) (ks++[k]):=Cg (R:=fun(q:Af) (k:UK)=>H q=some (.tup [.str k.1,.int (k.2:Int)])) h u
theorem UAt.on{H H':Hp}{qs:List Af}{ks:List UK}(u:UAt H qs ks)(t:fT H H'):UAt H' qs ks:=Paired.mapP u fun q k e=>t _ _ e
inductive wO(vs:List V)(H:Hp)(Q:VK)(u3_:XK):Prop
 | mk (lay:Af) (xs:List V) (Ls:List L4) (sc:Int) (q0:vs=[.ref lay,.int sc]) (q1:H lay=some (.tup xs)) (q2:cF false H xs (Ls.map mS)) (q3:(∀ l∈Ls,LOk l/\sc ∣ l.2.2.1/\l.2.2.1<=10*sc)) (q4:(Ls.map (·.1)).Nodup) (q5:1<=Ls.length) (q6:Ls.length<=8) (q7:1<=sc) (q8:sc<=100000) (q9:∀(W:Af) (B:WA) (os:List UK) (own:UK->Str) (H':Hp),b8 H H'->(∀ x∈[W,B.o,B.ow,B.me,B.ho,B.ic],H x=none)->dD H' W B sc os own (ex0 Ls)->Q (.ref W) H'):wO vs H Q u3_
def yC:Sp:=fun vs H Q u3_=>wO vs H Q u3_
theorem aCK:cB ["_law_laying_here","_law_scale","_law_world_here","_law_field","_law_house","_law_acres","_law_inches","_law_unit"] ["_law_laying_here","_law_scale"] (aQ uA):=⟨rfl,rfl,rfl,by decide,rfl,by decide,by decide⟩
theorem aFE{f:Af}{fd:Be}(F:Fun K "_law_world" "_law_world" uA f fd)(al:mg "dict"=none)(bM:mg "range"=none)
  :cW P w K mg base CX0 2 f fd ["_law_laying_here","_law_scale"] yC:=by
 refine F.ok aCK (fun vs H Q E h=>?_) (fun dr A outer s H vs Q E hr h=>?_)
 .obtain⟨lay,xs,Ls,sc,rfl,_⟩:=h;rfl
 .obtain⟨lay,xs,Ls,sc,rfl,hlay,rdl,hok,hnd,h1,h8,s1,s2,k⟩:=h;have hu:=fS hr;have nd:=aCK.nd;refine⟨_,(aB (aR (i:=2) nd rfl (Az rfl) (xB (d8 aO (pv 1) (d8 aO (dA aE) (d8 aO aEo (d8 aO jX xA)))) rfl rfl (by simp) (by decide)))
   (aB (dM hu (pv 2) aO (c8 (tY rfl) (by rfl) al (by kernel_rfl) (aF (dF (N:=["_law_row"]) (src:=[none]) (osc:=aQ uA) (oN:=["_law_laying_here","_law_scale","_law_world_here","_law_field","_law_house","_law_acres","_law_inches","_law_unit"]) ⟨by rfl,by decide,by decide,by decide,rfl,by rfl⟩ (dQ (pv 0)) (fun cl s H fp im C=>⟨aV (i:=0) (show(["_law_row"]:List Str).Nodup by decide) rfl (Az rfl),dE,cO (aF (aW (r:=lR K) bC (pv 0) aD Iv) (aF (aW (r:=lR K) bC (pv 0) aD Iv) aE))⟩)) aE)) rfl)
   (aB (dM hu (pv 2) aO (c8 (tY rfl) (by rfl) al (by kernel_rfl) (aF (dF (N:=["_law_row"]) (src:=[none]) (osc:=aQ uA) (oN:=["_law_laying_here","_law_scale","_law_world_here","_law_field","_law_house","_law_acres","_law_inches","_law_unit"]) ⟨by rfl,by decide,by decide,by decide,rfl,by rfl⟩ (dQ (pv 0)) (fun cl s H fp im C=>⟨aV (i:=0) (show(["_law_row"]:List Str).Nodup by decide) rfl (Az rfl),dE,cO (aF (aW (r:=lR K) bC (pv 0) aD Iv) (aF (aW (r:=lR K) bC (pv 0) aD Iv) aE))⟩)) aE)) rfl)
   (aB (dY Bj rfl (dQ (pv 0)) (g:=rG K 4 (dH (aS 3) (dH (aS 4) (dH (aS 5) (dH (aS 6) rF))))) (f6 rfl (bK (aV (i:=3) nd rfl (Az rfl)) (bK (aV (i:=4) nd rfl (Az rfl)) (bK (aV (i:=5) nd rfl (Az rfl)) (bK (aV (i:=6) nd rfl (Az rfl)) dX)))))
   (aM (dY Bj rfl (eB rfl bM (aF (aY mV (pv 5) (pv 1)) aE)) (g:=aS 7) (aV (i:=7) nd rfl (Az rfl))
    (aB (dP (lE Bd B0 BZ gE (bQ hu (pv 2) aO Iv) (aF (cO (aF (pv 3) (aF (pv 7) aE))) aE)))
     (aM (dM hu (bQ hu (pv 2) aO Iv) (cO (aF (pv 3) (aF (pv 7) aE))) (pv 3) rfl))))))
   (aM (bT (pv 2))))))),?_⟩
  have ap:=rdl.len;rw[Aa]at ap;have z8:xs.length<=sizeLine:=aP (by omega);refine fun d hd=>⟨_,rfl,A8 _,fun o ho=>fun ow Z=>fun me ai=>?_⟩
  have bn:=aJ (o:=.dK []) hd;have bi:=bn.trans (aJ (o:=.lst []) ho);have bo:=bi.trans (aJ (o:=.dT []) Z);have br:=bo.trans (aJ (o:=.dK []) ai);have fo:H o=none:=eG bn ho;have dt:H ow=none:=eG bi Z;have dh:H me=none:=eG bo ai;have dm:d≠me:=aH (H:=upd (upd (upd H d (.dK [])) o (.lst [])) ow (.dT [])) (by rw[aG (aH (H:=upd (upd H d (.dK [])) o (.lst [])) (by rw[aG (aH (aA) ho)];exact aA) Z),aG (aH aA ho)];exact aA) ai;have ed:upd (upd (upd (upd H d (.dK [])) o (.lst [])) ow (.dT [])) me (.dK []) d=some (.dK []):=by
   rw[aG dm,aG (aH (H:=upd (upd H d (.dK [])) o (.lst [])) (by rw[aG (aH (aA) ho)];exact aA) Z),aG (aH aA ho)];exact aA
  have aC:upd (upd (upd (upd H d (.dK [])) o (.lst [])) ow (.dT [])) me (.dK []) me=some (.dK []):=aA;have au:upd (upd (upd (upd H d (.dK [])) o (.lst [])) ow (.dT [])) me (.dK []) ow=some (.dT []):=by
   rw[aG (aH aA ai)];exact aA
  have eo:upd (upd (upd (upd H d (.dK [])) o (.lst [])) ow (.dT [])) me (.dK []) o=some (.lst []):=by
   rw[aG (aH (H:=upd (upd (upd H d (.dK [])) o (.lst [])) ow (.dT [])) (by rw[aG (aH aA Z)];exact aA) ai),aG (aH aA Z)];exact aA
  generalize upd (upd (upd (upd H d (.dK [])) o (.lst [])) ow (.dT [])) me (.dK [])=G at br ed aC au eo ⊢;clear bn bi bo ho Z ai;refine⟨ed,[(jQ,V.int sc),(jR,.ref o),(jS,.ref ow),(kC,.ref me)],rfl,(by show 4<=15;decide),?_⟩;rw[aGY];have S1:b8 H (upd G d (.dK [(jQ,V.int sc),(jR,.ref o),(jS,.ref ow),(kC,.ref me)])):=fun b u e=>by
   rw[aG (aH e hd)];exact br _ _ e
  have ah:upd G d (.dK [(jQ,V.int sc),(jR,.ref o),(jS,.ref ow),(kC,.ref me)]) d=some (.dK [(jQ,V.int sc),(jR,.ref o),(jS,.ref ow),(kC,.ref me)]):=aA;have ab:upd G d (.dK [(jQ,V.int sc),(jR,.ref o),(jS,.ref ow),(kC,.ref me)]) me=some (.dK []):=by rw[aG (Cy dm)];exact aC
  have aa:upd G d (.dK [(jQ,V.int sc),(jR,.ref o),(jS,.ref ow),(kC,.ref me)]) ow=some (.dT []):=by rw[aG (bS au ed (fun z=>nomatch z))];exact au
  have aq:upd G d (.dK [(jQ,V.int sc),(jR,.ref o),(jS,.ref ow),(kC,.ref me)]) o=some (.lst []):=by rw[aG (bS eo ed (fun z=>nomatch z))];exact eo
  generalize upd G d _=G1 at S1 ah ab aa aq ⊢;clear br ed aC au eo;refine⟨_,rfl,lay,rfl,⟨_,aN (S1 _ _ hlay)⟩,?_⟩;refine d9 (K:=K) (xs:=xs) (fun i ys σ' H'=>∃(o1:Option V) (rs:List Af),Aw3 (σ'=[o1]) (b8 G1 H') (ys=rs.map V.ref/\BI (LP (fun l=>V.str l.2.1) H') rs (Ls.take i))) ⟨none,[],rfl,b8.refl _,rfl,.nil⟩
   z8 (fun i ys σ H' p=>by
    obtain⟨_,rs,_,_,rfl,pr⟩:=p;have:=pr.length;rw[AJ]at this;rw[Aa];omega) (fun i ys σ H' p=>by obtain⟨_,_,_,S,_⟩:=p;exact aN (S _ _ (S1 _ _ hlay))) ?_ ?_
  .rintro i v ys σ' H' hv ⟨o1,rs,rfl,S',rfl,pr⟩;obtain⟨dd,hdd,rd'⟩:=rdl.at hv;rw[Au]at hdd;obtain⟨l,hl,rfl⟩:=AU.mp hdd;obtain⟨f1,g1,a1,i1⟩:=l;obtain⟨q,rfl,hq0⟩:=mT rd';have hq:=S' _ _ (S1 _ _ hq0);dsimp only[aS];refine gI ?_;refine⟨_,rfl,q,_,0,_,rfl,rfl,aN hq,rfl,_,rfl,q,_,1,_,rfl,rfl,aN hq,rfl,zZ2,fun u bj=>?_⟩;have su:=aJ (o:=.tup [V.str f1,V.str g1]) bj;refine⟨_,rs++[u],rfl,S'.trans su,by rw[Ar];rfl,?_⟩;rw[AA,hl];exact Cg (R:=LP (fun l=>V.str l.2.1) _) aA (Paired.mapP pr fun r l e=>su _ _ e)
  rintro ys σ' H' ⟨o1,rs,rfl,S',rfl,pr⟩ D hD;rw[ap,AN]at pr;have sD:=aJ (o:=.lst (rs.map V.ref)) hD;refine⟨D,rs,Ls.map fun l=>(Ad l.1,V.str l.2.1),rfl,aA,i7 (f:=fun l=>(Ad l.1,V.str l.2.1)) (fun r l e=>sD _ _ e) pr,fun h hh=>?_⟩;have S2:=(S'.trans sD).trans (aJ (o:=.dK (cX [] (Ls.map fun l=>(Ad l.1,V.str l.2.1)))) hh);have eh:upd (upd H' D (.lst (rs.map V.ref))) h (.dK (cX [] (Ls.map fun l=>(Ad l.1,V.str l.2.1)))) h=some (.dK (cX [] (Ls.map fun l=>(Ad l.1,V.str l.2.1)))):=aA;have fh:G1 h=none:=eG (S'.trans sD) hh;generalize upd (upd H' D (.lst (rs.map V.ref))) h _=Gh at S2 eh ⊢;refine⟨_,rfl,d,_,rfl,iF.k (k:=qK) (S2 _ _ ah) (c5 (by show 4<=1000;decide)),?_⟩;rw[aGZ];have dj:H h=none:=eG S1 fh;have be:h≠d:=(aH ah fh).symm;have S3:b8 H (upd Gh d (.dK [(jQ,V.int sc),(jR,.ref o),(jS,.ref ow),(kC,.ref me),(qK,.ref h)])):=fun b u e=>by
   rw[aG (aH e hd)];exact S2 _ _ (S1 _ _ e)
  have af:upd Gh d (.dK [(jQ,V.int sc),(jR,.ref o),(jS,.ref ow),(kC,.ref me),(qK,.ref h)]) d=some (.dK [(jQ,V.int sc),(jR,.ref o),(jS,.ref ow),(kC,.ref me),(qK,.ref h)]):=aA;have ae:upd Gh d (.dK [(jQ,V.int sc),(jR,.ref o),(jS,.ref ow),(kC,.ref me),(qK,.ref h)]) me=some (.dK []):=by rw[aG (Cy dm)];exact S2 _ _ ab
  have ad:upd Gh d (.dK [(jQ,V.int sc),(jR,.ref o),(jS,.ref ow),(kC,.ref me),(qK,.ref h)]) ow=some (.dT []):=by rw[aG (bS aa ah (fun z=>nomatch z))];exact S2 _ _ aa
  have ao:upd Gh d (.dK [(jQ,V.int sc),(jR,.ref o),(jS,.ref ow),(kC,.ref me),(qK,.ref h)]) o=some (.lst []):=by rw[aG (bS aq ah (fun z=>nomatch z))];exact S2 _ _ aq
  have ar:upd Gh d (.dK [(jQ,V.int sc),(jR,.ref o),(jS,.ref ow),(kC,.ref me),(qK,.ref h)]) h=some (.dK (cX [] (Ls.map fun l=>(Ad l.1,V.str l.2.1)))):=by rw[aG be];exact eh
  have bx:me≠h:=aH ab fh;generalize upd Gh d _=G3 at S3 af ae ad ao ar ⊢;clear S2 eh S1 ah ab aa aq fh S' sD;refine⟨_,rfl,lay,rfl,⟨_,aN (S3 _ _ hlay)⟩,?_⟩;refine d9 (K:=K) (xs:=xs) (fun i ys σ' H'=>∃(o1:Option V) (rs:List Af),Aw3 (σ'=[o1]) (b8 G3 H') (ys=rs.map V.ref/\BI (LP (fun l=>V.int l.2.2.2) H') rs (Ls.take i))) ⟨none,[],rfl,b8.refl _,rfl,.nil⟩
   z8 (fun i ys σ H' p=>by
    obtain⟨_,rs,_,_,rfl,pr⟩:=p;have:=pr.length;rw[AJ]at this;rw[Aa];omega) (fun i ys σ H' p=>by obtain⟨_,_,_,S,_⟩:=p;exact aN (S _ _ (S3 _ _ hlay))) ?_ ?_
  .rintro i v ys σ' H' hv ⟨o1,rs,rfl,S',rfl,pr⟩;obtain⟨dd,hdd,rd'⟩:=rdl.at hv;rw[Au]at hdd;obtain⟨l,hl,rfl⟩:=AU.mp hdd;obtain⟨f1,g1,a1,i1⟩:=l;obtain⟨q,rfl,hq0⟩:=mT rd';have hq:=S' _ _ (S3 _ _ hq0);dsimp only[aS];refine gI ?_;refine⟨_,rfl,q,_,0,_,rfl,rfl,aN hq,rfl,_,rfl,q,_,3,_,rfl,rfl,aN hq,rfl,zZ2,fun u bj=>?_⟩;have su:=aJ (o:=.tup [V.str f1,V.int i1]) bj;refine⟨_,rs++[u],rfl,S'.trans su,by rw[Ar];rfl,?_⟩;rw[AA,hl];exact Cg (R:=LP (fun l=>V.int l.2.2.2) _) aA (Paired.mapP pr fun r l e=>su _ _ e)
  rintro ys σ' H' ⟨o1,rs,rfl,S',rfl,pr⟩ D hD;rw[ap,AN]at pr;have sD:=aJ (o:=.lst (rs.map V.ref)) hD;refine⟨D,rs,Ls.map fun l=>(Ad l.1,V.int l.2.2.2),rfl,aA,i7 (f:=fun l=>(Ad l.1,V.int l.2.2.2)) (fun r l e=>sD _ _ e) pr,fun j hj=>?_⟩;have S4:=(S'.trans sD).trans (aJ (o:=.dK (cX [] (Ls.map fun l=>(Ad l.1,V.int l.2.2.2)))) hj);have ej:upd (upd H' D (.lst (rs.map V.ref))) j (.dK (cX [] (Ls.map fun l=>(Ad l.1,V.int l.2.2.2)))) j=some (.dK (cX [] (Ls.map fun l=>(Ad l.1,V.int l.2.2.2)))):=aA;have fj:G3 j=none:=eG (S'.trans sD) hj;generalize upd (upd H' D (.lst (rs.map V.ref))) j _=Gj at S4 ej ⊢;refine⟨_,rfl,d,_,rfl,iF.k (k:=aGV) (S4 _ _ af) (c5 (by show 5<=1000;decide)),?_⟩;rw[aG0];have dn:H j=none:=eG S3 fj;have bL:j≠d:=(aH af fj).symm;have cj:me≠j:=aH ae fj;have cg:h≠j:=aH ar fj;obtain⟨B,hB⟩:∃ B:WA,B=⟨o,ow,me,h,j⟩:=⟨_,rfl⟩
  rw[<- hB];have S5:b8 H (upd Gj d (.dK (i8 sc B))):=fun b u e=>by
   rw[aG (aH e hd)];exact S4 _ _ (S3 _ _ e)
  have bq:upd Gj d (.dK (i8 sc B)) d=some (.dK (i8 sc B)):=aA;have aj:upd Gj d (.dK (i8 sc B)) B.me=some (.dK []):=by rw[hB];dsimp only;rw[aG (Cy dm)];exact S4 _ _ ae
  have ak:upd Gj d (.dK (i8 sc B)) B.ow=some (.dT []):=by rw[hB];dsimp only;rw[aG (bS ad af (fun z=>nomatch z))];exact S4 _ _ ad
  have bf:upd Gj d (.dK (i8 sc B)) B.o=some (.lst []):=by rw[hB];dsimp only;rw[aG (bS ao af (fun z=>nomatch z))];exact S4 _ _ ao
  have bc:upd Gj d (.dK (i8 sc B)) B.ho=some (.dK (ex0 Ls).hs):=by unfold ex0;rw[jO,hB];dsimp only;rw[aG be];exact S4 _ _ ar
  have bt:upd Gj d (.dK (i8 sc B)) B.ic=some (.dK (ex0 Ls).inc):=by unfold ex0;rw[pU,hB];dsimp only;rw[aG bL];exact ej
  have cu:[d,B.me,B.ho,B.ic].Nodup:=by rw[hB];simp[dm,Cy be,Cy bL,bx,cj,cg]
  have bg:∀ x∈[d,B.o,B.ow,B.me,B.ho,B.ic],H x=none:=by
   rw[hB];simp only[An,AC,or_false];rintro x (rfl|rfl|rfl|rfl|rfl|rfl)<;>assumption
  generalize upd Gj d _=G5 at S5 bq aj ak bf bc bt ⊢;clear S4 ej S3 af ae ad ao ar fj S' sD hB;refine⟨_,rfl,lay,rfl,⟨_,aN (S5 _ _ hlay)⟩,?_⟩;have zL:∀ l∈Ls,1<=l.2.2.1/\l.2.2.1<=10*sc:=fun l hl=>⟨(hok l hl).1.a1,(hok l hl).2.2⟩
  refine iM (K:=K) (xs:=xs) (fun i σ H'=>Ex3 fun(o3 o4 o5:Option V)=>∃(o6 o7:Option V),Aw3 (σ=[some (.ref lay),some (.int sc),some (.ref d),o3,o4,o5,o6,o7]) (b8 H H') (WB H' d B sc (jT sc (Ls.take i)) (ex0 Ls).hs (ex0 Ls).inc)) ⟨none,none,none,none,none,rfl,S5,bq,⟨[],bf,.nil⟩,ak,aj,bc,bt⟩ (fun i σ H' _ p=>by obtain⟨_,_,_,_,_,_,S,_⟩:=p;exact aN (S _ _ hlay)) ?_ ?_
  .rintro i v σ H1 hv ⟨o3,o4,o5,o6,o7,rfl,S6,wb⟩;clear S5 bq aj ak bf bc bt;obtain⟨dd,hdd,rd'⟩:=rdl.at hv;rw[Au]at hdd;obtain⟨l,hl,rfl⟩:=AU.mp hdd;have bv:=aG2 (sc:=sc) hl;have ax:=zL l (AQ hl);have a0:∀ u:Nat,(l.1,u)∉jT sc (Ls.take i):=fun u hm=>by
    have h1:=qL hm;rw[HB]at h1;have hi:=(Al.mp hl).1;have e1:(Ls.map (·.1))[i]?=some l.1:=by rw[Au,hl];rfl
    have h2:(HI i (Ls.map fun x=>x.1)++List.drop i (Ls.map fun x=>x.1)).Nodup:=by rw[BQ];exact hnd
    have h3:=(Bu.mp h2).2.2 _ h1 l.1 (by
     rw[List.mem_iff_getElem?];exact⟨0,by rw[DO,Dl];exact e1⟩)
    exact h3 rfl
   have c0:(jT sc (Ls.take i)).length<=80:=by
    have:=aBM s1 (Ls:=Ls.take i) fun l hl=>zL l (BY hl);rw[AJ]at this;omega
   generalize df:jT sc (Ls.take i)=O at wb bv a0 c0;obtain⟨f1,g1,a1,i1⟩:=l;obtain⟨q,rfl,hq0⟩:=mT rd';dsimp only at hq0;have hq:=S6 _ _ hq0;dsimp only at ax a0;have da:a1/sc<=10:=FW (by omega) ax.2;have dl:0<=a1/sc:=DQ (by omega) (by omega);refine⟨q,_,rfl,aN hq,rfl,_,_,rfl,_,_,rfl,_,_,rfl,_,_,rfl,rfl,_,rfl,_,rfl,_,_,rfl,rfl,⟨by omega,by omega⟩,_,rfl,by omega,by omega,?_⟩;refine mU (n:=(a1/sc).toNat) (fun j σ H'=>∃(o7:Option V),σ=[some (.ref lay),some (.int sc),some (.ref d),some (.str f1),some (.str g1),some (.int a1),some (.int i1),o7]/\b8 H H'/\WB H' d B sc (O++(A3 j).map fun u=>(f1,u)) (ex0 Ls).hs (ex0 Ls).inc) ⟨o7,rfl,S6,by rw[List.range_zero,Dh,A6];exact wb⟩ ?_ ?_
   .rintro j σ H2 hj ⟨o7,rfl,S7,J⟩;obtain⟨qs,p1,p2⟩:=J.o;have cx:=Bm p2;rw[Av,Aa,GX]at cx;dsimp only[aS];refine⟨_,rfl,d,_,rfl,aIK J.d (aFy _ _),.inl ⟨rfl,_,aU p1⟩,_,rfl,_,rfl,zZ2,fun t ht=>?_⟩;have st:=aJ (o:=.tup [V.str f1,.int (0+(j:Int))]) ht;refine⟨B.o,_,_,rfl,rfl,st _ _ p1,by rw[Aa];exact c5 (by omega),?_⟩;have ci:t≠B.o:=(aH p1 ht).symm;have gq:∀{G:Hp},b8 H2 G->∀{b:Af} {o:HO},H2 b=some o->G b=some o:=fun z _ _ e=>z _ _ e;have ag:∀{b:Af} {o:HO},H2 b=some o->(∀ xs,o≠.lst xs)->upd (upd H2 t (.tup [V.str f1,.int (0+(j:Int))])) B.o (.lst (qs.map V.ref++[V.ref t])) b=some o:=fun{b o} e n=>by
     rw[aG (bS e p1 (n _))];exact st _ _ e
    have bd:=ag J.d (fun _ z=>nomatch z);have aI:=ag J.ow (fun _ z=>nomatch z);have bR:=ag J.me (fun _ z=>nomatch z);have bY:=ag J.ho (fun _ z=>nomatch z);have bW:=ag J.ic (fun _ z=>nomatch z);have bw:∀ b us,H2 b=some (.tup us)->upd (upd H2 t (.tup [V.str f1,.int (0+(j:Int))])) B.o (.lst (qs.map V.ref++[V.ref t])) b=some (.tup us):=fun b us e=>ag e (fun _ z=>nomatch z);have bu:upd (upd H2 t (.tup [V.str f1,.int (0+(j:Int))])) B.o (.lst (qs.map V.ref++[V.ref t])) B.o=some (.lst ((qs++[t]).map V.ref)):=by rw[aA,Ar];rfl
    have bP:upd (upd H2 t (.tup [V.str f1,.int (0+(j:Int))])) B.o (.lst (qs.map V.ref++[V.ref t])) t=some (.tup [V.str f1,.int (j:Int)]):=by rw[aG ci,aA,EE]
    have S8:b8 H (upd (upd H2 t (.tup [V.str f1,.int (0+(j:Int))])) B.o (.lst (qs.map V.ref++[V.ref t]))):=fun b u e=>by
     rw[aG (aH e (bg B.o (by simp)))];exact st _ _ (S7 _ _ e)
    generalize upd (upd H2 t (.tup [V.str f1,.int (0+(j:Int))])) B.o _=H3 at bd aI bR bY bW bw bu bP S8 ⊢;refine⟨_,rfl,_,rfl,d,_,rfl,aIK bd (aAy _ _),_,rfl,_,rfl,zZ2,fun t2 cy=>?_⟩;have bm:=aJ (o:=.tup [V.str f1,.int (0+(j:Int))]) cy;have cm:upd H3 t2 (.tup [V.str f1,.int (0+(j:Int))]) t2=some (.tup (([Ad f1,Cs (j:Int)]:List Key).map kV)):=by rw[aA,EE];rfl
    have di:(iP (O++(A3 j).map fun u=>(f1,u)) yB).length=O.length+j:=by
     unfold iP;simp
    refine⟨B.ow,_,rfl,iF.t (k:=[Ad f1,Cs (j:Int)]) (bm _ _ aI) cm (c5 (by omega)),?_⟩;have bO:(f1,j)∉O++(A3 j).map fun u=>(f1,u):=by
     rw[AO,not_or];refine⟨a0 j,fun hm=>?_⟩;obtain⟨u,hu1,hu2⟩:=AL.mp hm;have:=CH.mp hu1;injection hu2 with _ hu2;omega
    rw[hV _ (aG1 (own:=yB) bO)];have bN:iP (O++(A3 j).map fun u=>(f1,u)) yB++[([Ad f1,Cs (j:Int)],V.str f1)]=iP (O++(A3 (j+1)).map fun u=>(f1,u)) yB:=by
     rw[DL,Ar,<- AF];unfold iP;rw[Ar (l₂:=List.map _ [j])];rfl
    rw[bN];have Y:∀{b:Af} {o:HO},H3 b=some o->(∀ xs,o≠.dT xs)->upd (upd H3 t2 (.tup [V.str f1,.int (0+(j:Int))])) B.ow (.dT (iP (O++(A3 (j+1)).map fun u=>(f1,u)) yB)) b=some o:=fun{b o} e n=>by
     rw[aG (bS e aI (n _))];exact bm _ _ e
    refine⟨_,rfl,fun b u e=>?_,Y bd (fun _ z=>nomatch z),⟨qs++[t],Y bu (fun _ z=>nomatch z),?_⟩,aA,Y bR (fun _ z=>nomatch z),Y bY (fun _ z=>nomatch z),Y bW (fun _ z=>nomatch z)⟩
    .rw[aG (aH e (bg B.ow (by simp)))];exact bm _ _ (S8 _ _ e)
    .have cf:O++(A3 (j+1)).map (fun u=>(f1,u))=(O++(A3 j).map fun u=>(f1,u))++[(f1,j)]:=by
      rw[DL,Ar,<- AF];rfl
     have u9:=UAt.snoc (k:=(f1,j)) (Y bP (fun _ z=>nomatch z)) (UAt.on p2 fun q us e=>Y (bw _ _ e) (fun _ z=>nomatch z));rw[<- cf]at u9;exact u9
   .rintro σ H2 ⟨o7,rfl,S7,J⟩;refine⟨_,_,_,_,_,rfl,S7,?_⟩;rw[bv];exact J
  .rintro σ H1 ⟨o3,o4,o5,o6,o7,rfl,S6,wb⟩;rw[ap,AN]at wb;have ck:∀ k∈jT sc Ls,aK (ex0 Ls) (yB k)=true:=fun k hk=>st0.mpr (qL hk);have dg:=aBM s1 zL;refine⟨_,rfl,k d B (jT sc Ls) yB H1 S6 bg ⟨wb.d,wb.o,wb.ow,by rw[aGQ];exact wb.me,wb.ho,wb.ic,aHF hnd,by omega,s1,s2,fun z hz=>?_,cu,fun kk v hv=>?_,?_,?_,ck,by rw[x9];exact aHE (pre:=[]) hnd,fun k hk=>by rw[x9];exact⟨qL hk,aIJ s1 zL hk⟩⟩⟩
   .obtain⟨l,hl,rfl⟩:=AL.mp (st0.mp hz);obtain⟨h1,h2,h3⟩:=hok l hl;have hm:((l.2.2.1/sc).toNat:Int)*sc=l.2.2.1:=by
     rw[Dd (DQ (by have:=h1.a1;omega) (by omega))];exact Int.ediv_mul_cancel h2
    rw[aFD hnd l hl];unfold ex0;rw[aCJ _ _ hnd l hl];refine⟨[(l.1,0,(l.2.2.1/sc).toNat)],?_,fun q hq=>?_,A6 _,trivial⟩
    .show _=[(l.1,(0:Int)*sc,((0+(l.2.2.1/sc).toNat:Nat):Int)*sc)]
     rw[FB,hm,Int.zero_mul]
    .rw[AK.mp hq];dsimp only;rcases Nat.eq_zero_or_pos (l.2.2.1/sc).toNat with z|z
     .rw[z]at hm;have:=h1.a1;omega
     .exact z
   .unfold ex0 at hv;rw[jO]at hv;rcases kG _ _ _ _ _ _ hv with h|⟨l,_,h2,h3⟩
    .cases h
    .exact⟨_,_,h3,h2⟩
   .unfold ex0;rw[jO];exact aAH _ _ (by simp)
   .unfold ex0;rw[jO];have:=pE (Ls.map fun l=>((Ad l.1:Key),V.str l.2.1)) [];rw[Aa]at this;simp at this;exact Ay this (by omega)
theorem aCL{own:UK->Str}{z:Str}:∀{os:List UK}{k:UK},k∈os->b0 (iP os own) [Ad k.1,Cs (k.2:Int)] (.str z)=iP os (fun F=>if F=k then z else own F):=by
 intro os k h;unfold b0;have h1:((iP os own).any fun G=>decide (G.1=[Ad k.1,Cs (k.2:Int)]))=true:=by
  rw[BN];exact⟨([Ad k.1,Cs (k.2:Int)],.str (own k)),AL.mpr ⟨k,h,rfl⟩,Ir rfl⟩
 rw[Iq h1];unfold iP;rw[Di];refine Et fun F _=>?_;show(if ([Ad F.1,Cs (F.2:Int)]:List Key)=[Ad k.1,Cs (k.2:Int)] then _ else _)=_;by_cases e:F=k
 .rw[Iq (by rw[e])];dsimp only;rw[Iq e]
 .rw[Ip]
  .dsimp only;rw[Ip e]
  intro q;injection q with z1 z2;injection z2 with z2;injection z1 with z1;injection z2 with z2;exact e (EJ z1 (Gn.inj z2))
theorem aG3{os ks:List UK}(h:ks.Sublist os):os.Nodup->os.filter (fun k=>decide (k∈ks))=ks:=by
 induction h with
 | slnil=>intro _;rfl
 | @cons J O a h F=>
  intro ho;obtain⟨h1,h2⟩:=A5.mp ho;rw[CK (by simpa using fun z=>h1 (h.subset z)),F h2]
 | @cons_cons J O a h F=>
  intro ho;obtain⟨h1,h2⟩:=A5.mp ho;rw[Dc (by simp)];congr 1;refine Eq.trans (Cq fun k G=>?_) (F h2);have:k≠a:=fun z=>h1 (z▸G);simp[this]
structure uR(os:List UK)(sc:Int)(rem:List UK)(own:UK->Str)(S:Ex):Prop where
 pq:∀ z,aK S z=true->PQ sc (S.pc z) (os.filter fun k=>decide (k∉rem)&&decide (own k=z))
 so:∀ k∈os,k∉rem->aK S (own k)=true
theorem yD{S:Ex}{z h:Str}{a:List Pc}{y:Str}:aK (kB S z h a) y=true↔y=z\/aK S y=true:=by
 unfold aK kB;dsimp only;rw[d7];by_cases e:y=z
 .rw[Iq (by rw[e])];exact⟨fun _=>.inl e,fun _=>rfl⟩
 .rw[Ip (fun q=>e (by injection q))];exact⟨.inr,fun q=>q.resolve_left e⟩
theorem uR.step{os ks F:List UK}{sc:Int}{own:UK->Str}{S:Ex}{z h:Str}{ps:List Pc}(p:uR os sc (ks++F) own S)(hn:(ks++F).Nodup)(hi:(ks++F).Sublist os)(ho:os.Nodup)(hz:aK S z=false)(ha:PQ sc ps ks):uR os sc F (fun k=>if k∈ks then z else own k) (kB S z h ps):=by
 obtain⟨hk,hr,hd⟩:=Bu.mp hn;refine⟨fun y hy=>?_,fun k Y aa=>?_⟩
 .by_cases e:y=z
  .subst e;have Z:(os.filter fun k=>decide (k∉F)&&decide ((if k∈ks then y else own k)=y))=ks:=by
    refine Eq.trans (Cq fun k O=>?_) (aG3 ((List.sublist_append_left ks F).trans hi) ho);by_cases G:k∈ks
    .have:k∉F:=fun q=>hd k G k q rfl;rw[Iq G,Ir this,Ir rfl,Ir G];rfl
    .rw[Ip G,Is G];by_cases J:k∈F
     .rw[Is (fun q=>q J)];rfl
     .have hs:=p.so k O (fun q=>(AO.mp q).elim G J);have:own k≠y:=fun q=>by rw[q,hz]at hs;cases hs
      rw[Is this,D7]
   rw[Z,show(kB S y h ps).pc y=ps by unfold kB mK;dsimp only;rw[Iq rfl]];exact ha
  .have ab:=(yD.mp hy).resolve_left e;have Z:(os.filter fun k=>decide (k∉F)&&decide ((if k∈ks then z else own k)=y))=os.filter fun k=>decide (k∉ks++F)&&decide (own k=y):=by
    refine Cq fun k O=>?_;by_cases G:k∈ks
    .rw[Iq G,Is (show¬ z=y from fun q=>e q.symm),D7,Is (show¬ k∉ks++F from fun q=>q (BG _ G))];rfl
    .rw[Ip G];congr 1;by_cases J:k∈F
     .rw[Is (show¬ k∉F from fun q=>q J),Is (show¬ k∉ks++F from fun q=>q (AS _ J))]
     .rw[Ir J,Ir (show k∉ks++F from fun q=>(AO.mp q).elim G J)]
   rw[Z,show(kB S z h ps).pc y=S.pc y by unfold kB mK;dsimp only;rw[Ip e]];exact p.pq y ab
 .by_cases G:k∈ks
  .rw[Iq G];exact yD.mpr (.inl rfl)
  .rw[Ip G];exact yD.mpr (.inr (p.so k Y fun q=>(AO.mp q).elim G aa))
theorem yE{S:Ex}{z y:Str}:aK { S with hs:=bZ S.hs (Ad z) } y=true↔y≠z/\aK S y=true:=by
 unfold aK;dsimp only;rw[gW];by_cases e:y=z
 .rw[Iq (by rw[e])];exact⟨fun q=>(by cases q),fun q=>absurd e q.1⟩
 .rw[Ip (fun q=>e (by injection q))];exact⟨fun q=>⟨e,q⟩,fun q=>q.2⟩
theorem uR.start{os:List UK}{sc:Int}{own:UK->Str}{S:Ex}{land:Str}(pq:∀ z,aK S z=true->PQ sc (S.pc z) (os.filter fun k=>decide (own k=z)))(so:∀ k∈os,aK S (own k)=true):uR os sc (os.filter fun k=>decide (own k=land)) own { S with hs:=bZ S.hs (Ad land) }:=by
 refine⟨fun z hz=>?_,fun k F hn=>?_⟩
 .obtain⟨h1,h2⟩:=yE.mp hz;refine cast (congrArg (PQ sc (S.pc z)) (Cq fun k G=>?_)) (pq z h2);by_cases e:own k=z
  .rw[Ir e,Ir,Fc];intro q;exact h1 (by rw[<- e];exact Iu (BL.mp q).2)
  .rw[Is e,D7]
 .exact yE.mpr ⟨fun e=>hn (BL.mpr ⟨F,Ir e⟩),so k F⟩
theorem uR.fin{os:List UK}{sc:Int}{own:UK->Str}{S:Ex}(p:uR os sc [] own S):(∀ z,aK S z=true->PQ sc (S.pc z) (os.filter fun k=>decide (own k=z)))/\∀ k∈os,aK S (own k)=true:=by
 refine⟨fun z hz=>?_,fun k F=>p.so k F (by simp)⟩;exact cast (congrArg (PQ sc (S.pc z)) (Cq fun k _=>by simp)) (p.pq z hz)
theorem uS{y:Str}:∀{R:List Str}{d:List (Key×V)},(bG (R.foldl (fun d z=>bZ d (Ad z)) d) (Ad y)).isSome=true↔y∉R/\(bG d (Ad y)).isSome=true
 | [],d=>by simp
 | z::R,d=>by
  rw[Bh,uS,gW,An,not_or];by_cases e:y=z
  .rw[Iq (by rw[e])];exact⟨fun q=>(by cases q.2),fun q=>absurd e q.1.1⟩
  .rw[Ip (fun q=>e (by injection q))];exact⟨fun q=>⟨⟨e,q.1⟩,q.2⟩,fun q=>⟨q.1.2,q.2⟩⟩
theorem pV{S:Ex}{R:List Str}{land y:Str}:aK (fP S R land) y=true↔y=land\/(y∉R/\aK S y=true):=by
 unfold aK fP;dsimp only;rw[d7];by_cases e:y=land
 .rw[Iq (by rw[e])];exact⟨fun _=>.inl e,fun _=>rfl⟩
 .rw[Ip (fun q=>e (by injection q)),uS];exact⟨.inr,fun q=>q.resolve_left e⟩
theorem aFF{os:List UK}{own:UK->Str}{sc:Int}{S:Ex}{R:List Str}{land:Str}(s1:1<=sc)(nd:os.Nodup)(od:os.Pairwise (ult S.ws))(Y:∀ z∈R,∀ p∈S.pc z,p.1∈S.ws)(pq:∀ z,aK S z=true->PQ sc (S.pc z) (os.filter fun k=>decide (own k=z)))(so:∀ k∈os,aK S (own k)=true)(hn:R.Nodup)(hs:∀ z∈R,aK S z=true)(hl:land∈R\/aK S land=false):
  (∀ z,aK (fP S R land) z=true->PQ sc ((fP S R land).pc z) (os.filter fun k=>decide ((if own k∈R then land else own k)=z)))/\∀ k∈os,aK (fP S R land) (if own k∈R then land else own k)=true:=by
 refine⟨fun z hz=>?_,fun k F=>?_⟩
 .by_cases e:z=land
  .subst e;rw[show(fP S R z).pc z=rB S.ws (R.map S.pc).flatten by unfold fP mK;dsimp only;rw[Iq rfl]];refine cast (congrArg (PQ sc _) (Cq fun k J=>?_)) (aCz s1 hn nd od Y fun y O=>pq y (hs y O)).2;by_cases F:own k∈R
   .rw[Iq F,Ir rfl,Ir F]
   .rw[Ip F,Is F];refine(Is fun q=>?_).symm;rcases hl with hl|hl
    .exact F (by rw[q];exact hl)
    .have:=so k J;rw[q,hl]at this;cases this
  .obtain⟨h1,h2⟩:=(pV.mp hz).resolve_left e;rw[show(fP S R land).pc z=S.pc z by unfold fP mK;dsimp only;rw[Ip e]];refine cast (congrArg (PQ sc _) (Cq fun k J=>?_)) (pq z h2);by_cases F:own k∈R
   .rw[Iq F,Is (show¬ land=z from fun q=>e q.symm)];refine Is fun q=>?_;exact h1 (by rw[<- q];exact F)
   .rw[Ip F]
 .by_cases G:own k∈R
  .rw[Iq G];exact pV.mpr (.inl rfl)
  .rw[Ip G];exact pV.mpr (.inr ⟨G,so k F⟩)
structure WH(H:Hp)(W:Af)(B:WA)(sc:Int)(os:List UK)(own:UK->Str)(hs men inc:List (Key×V)):Prop where
 d:H W=some (.dK (i8 sc B))
 o:∃ qs:List Af,H B.o=some (.lst (qs.map V.ref))/\UAt H qs os
 ow:H B.ow=some (.dT (iP os own))
 me:H B.me=some (.dK men)
 ho:H B.ho=some (.dK hs)
 ic:H B.ic=some (.dK inc)
 ne:[W,B.me,B.ho,B.ic].Nodup
section
variable{W:Af}{B:WA}{sc:Int}{os:List UK}{own:UK->Str}{hs men inc:List (Key×V)}
theorem dD.wh{S:Ex}(h:dD H W B sc os own S):WH H W B sc os own S.hs S.men S.inc:=⟨h.d,h.o,h.ow,h.me,h.ho,h.ic,h.ne⟩
theorem WH.same{H':Hp}(h:WH H W B sc os own hs men inc)(s:b8 H H'):WH H' W B sc os own hs men inc:=by
 obtain⟨qs,o1,o2⟩:=h.o;exact⟨s _ _ h.d,⟨qs,s _ _ o1,o2.on (bV s)⟩,s _ _ h.ow,s _ _ h.me,s _ _ h.ho,s _ _ h.ic,h.ne⟩
theorem WH.get(h:WH H W B sc os own hs men inc){z:Str}{v:V}(e:bG (i8 sc B) (Ad z)=some v):gH H W (.str z) (some v):=aIK h.d e
theorem WH.setO(h:WH H W B sc os own hs men inc)(jd:UK->Str):WH (upd H B.ow (.dT (iP os jd))) W B sc os jd hs men inc:=by
 obtain⟨qs,o1,o2⟩:=h.o;have k:∀{b:Af} {o:HO},H b=some o->(∀ xs,o≠.dT xs)->upd H B.ow (.dT (iP os jd)) b=some o:=fun{b o} e n=>by
  rw[aG (bS e h.ow (n _))];exact e
 exact⟨k h.d (fun _ z=>nomatch z),⟨qs,k o1 (fun _ z=>nomatch z),o2.on fun q F e=>k e (fun _ z=>nomatch z)⟩,aA,k h.me (fun _ z=>nomatch z),k h.ho (fun _ z=>nomatch z),k h.ic (fun _ z=>nomatch z),h.ne⟩
theorem WH.setD{a:Af}{ip kvs':List (Key×V)}(h:WH H W B sc os own hs men inc)(e:H a=some (.dK ip)):upd H a (.dK kvs') B.ow=some (.dT (iP os own))/\∃ qs:List Af,upd H a (.dK kvs') B.o=some (.lst (qs.map V.ref))/\UAt (upd H a (.dK kvs')) qs os:=by
 obtain⟨qs,o1,o2⟩:=h.o;have k:∀{b:Af} {o:HO},H b=some o->(∀ xs,o≠.dK xs)->upd H a (.dK kvs') b=some o:=fun{b o} e' n=>by
  rw[aG (bS e' e (n _))];exact e'
 exact⟨k h.ow (fun _ z=>nomatch z),qs,k o1 (fun _ z=>nomatch z),o2.on fun q F e=>k e (fun _ z=>nomatch z)⟩
theorem WH.nes(h:WH H W B sc os own hs men inc):W≠B.me/\W≠B.ho/\W≠B.ic/\B.me≠B.ho/\B.me≠B.ic/\B.ho≠B.ic:=by
 have hn:=h.ne;simp only[A5,An,AC,or_false,not_or]at hn;exact⟨hn.1.1,hn.1.2.1,hn.1.2.2,hn.2.1.1,hn.2.1.2,hn.2.2.1⟩
theorem WH.setH(h:WH H W B sc os own hs men inc)(F:List (Key×V)):WH (upd H B.ho (.dK F)) W B sc os own F men inc:=by
 obtain⟨n1,n2,n3,n4,n5,n6⟩:=h.nes;obtain⟨k1,k2⟩:=h.setD (kvs':=F) h.ho;exact⟨by rw[aG n2];exact h.d,k2,k1,by rw[aG n4];exact h.me,aA,by rw[aG n6.symm];exact h.ic,h.ne⟩
end
theorem aCM{hs:List (Key×V)}{z y:Str}{v:V}:(bG (b0 hs (Ad z) v) (Ad y)).isSome=true↔y=z\/(bG hs (Ad y)).isSome=true:=by
 rw[d7];by_cases e:y=z
 .rw[Iq (by rw[e])];exact⟨fun _=>.inl e,fun _=>rfl⟩
 .rw[Ip (fun q=>e (by injection q))];exact⟨.inr,fun q=>q.resolve_left e⟩
def oH(hs:List (Key×V)):Prop:=∀ k v,bG hs k=some v->∃ h z,v=.str h/\k=Ad z
theorem oH.put{hs:List (Key×V)}{z h:Str}(o:oH hs):oH (b0 hs (Ad z) (.str h)):=fun k v e=>by
 rw[d7]at e;by_cases q:k=Ad z
 .rw[Iq q]at e;cases e;exact⟨h,z,rfl,q⟩
 .rw[Ip q]at e;exact o k v e
theorem oH.drop{hs:List (Key×V)}{z:Str}(o:oH hs):oH (bZ hs (Ad z)):=fun k v e=>by
 rw[gW]at e;by_cases q:k=Ad z
 .rw[Iq q]at e;cases e
 .rw[Ip q]at e;exact o k v e
theorem aDM{S:Ex}{land:Str}{R:List P3}(h:cN S land R="done"):aK S land=true/\(R.map fun p=>p.2.2).sum=S.ac land/\∀ p∈R,p.1=land\/aK S p.1=false:=by
 unfold cN at h;by_cases h1:aK S land=false
 .rw[Iq h1]at h;exact absurd h (by decide)
 rw[Ip h1]at h;by_cases h2:(R.map fun p=>p.2.2).sum≠S.ac land
 .rw[Iq h2]at h;exact absurd h (by decide)
 rw[Ip h2]at h;by_cases F:(R.any fun p=>decide (p.1≠land)&&aK S p.1)=true
 .rw[Iq F]at h;exact absurd h (by decide)
 refine⟨by simpa using h1,Decidable.not_not.mp h2,fun p G=>?_⟩;by_cases e:p.1=land
 .exact .inl e
 .refine .inr ?_;cases q:aK S p.1 with
  | false=>rfl
  | true=>exact absurd (BN.mpr ⟨p,G,by rw[Ir e,q];rfl⟩) F
theorem qM(ip:List (Key×V))(k:Key):(bZ ip k).length<=ip.length:=by
 induction ip with
 | nil=>exact Aj _
 | cons p r F=>
  by_cases e:p.1=k
  .rw[m4 e,AR];omega
  .rw[m5 e,AR,AR];omega
theorem aAI{R:List P3}(h:(R.map pD).all uI=true){p:P3}(F:p∈R):1<=p.2.2/\p.2.2<=10000000:=by
 have:=A7.mp h (pD p) (Ba F);unfold pD uI aFn at this;simp only[BC,decide_eq_true_eq]at this;exact this.2
theorem aCN:∀{R:List P3},(∀ p∈R,0<=p.2.2)->0<=(R.map fun p=>p.2.2).sum
 | [],_=>E9 _
 | p::R,h=>by
  rw[Aq,CD];have h1:=h p (by simp);have h2:=aCN (R:=R) fun q F=>h q (by simp[F]);omega
theorem aCO{y:Str}:∀{F:P3->List Pc}{R:List P3}{S:Ex},aK (R.foldl (fun S p=>kB S p.1 p.2.1 (F p)) S) y=true↔y∈R.map (·.1)\/aK S y=true
 | _,[],S=>by simp
 | F,p::R,S=>by
  rw[Bh,aCO,yD,Aq,An];constructor
  .rintro(h|h|h)
   .exact .inl (.inr h)
   .exact .inl (.inl h)
   .exact .inr h
  .rintro((h|h)|h)
   .exact .inr (.inl h)
   .exact .inl h
   .exact .inr (.inr h)
theorem aAJ{F:P3->List Pc}{S:Ex}{land y:Str}{R:List P3}:aK (pO F S land R) y=true↔y∈R.map (·.1)\/(y≠land/\aK S y=true):=by
 refine Im (aCO (R:=R)) ?_;rw[yE]
theorem aCP{S:Ex}{land y:Str}{R:List P3}:aK (iJ S land R) y=true↔y∈R.map (·.1)\/(y≠land/\aK S y=true):=aAJ
theorem aFG{α:Type}{l:List α}(h:l.Nodup){i j:Nat}{x:α}(a:l[i]?=some x)(b:l[j]?=some x):i=j:=by
 obtain⟨h1,e1⟩:=Al.mp a;obtain⟨h2,e2⟩:=Al.mp b;have F:=DH.mp (EM.mp h);rcases Nat.lt_trichotomy i j with z|z|z
 .exact absurd (e1.trans e2.symm) (F i j h1 h2 z)
 .exact z
 .exact absurd (e2.trans e1.symm) (F j i h2 h1 z)
theorem aFH{R:List P3}(h:(R.map (·.1)).Nodup){i:Nat}{p:P3}(G:R[i]?=some p):p.1∉(R.take i).map (·.1):=fun hm=>by
 obtain⟨q,hq,e⟩:=AL.mp hm;obtain⟨j,hj⟩:=Bq hq;rw[BP]at hj;by_cases F:j<i
 .rw[Iq F]at hj;have:=aFG h (i:=j) (j:=i) (x:=p.1) (by rw[Au,hj,<- e];rfl) (by rw[Au,G];rfl);omega
 .rw[Ip F]at hj;cases hj
theorem rE{α β:Type}{R:α->β->Prop}:∀{n:Nat}{as:List α}{bs:List β},BI R as bs->BI R (as.drop n) (bs.drop n)
 | 0,_,_,h=>h
 | _+1,_,_,.nil=>.nil
 | n+1,_,_,.cons _ t=>rE (n:=n) t
theorem aFI{S:Ex}{land:Str}:∀{R:List P3},(iJ S land R).men=S.men:=by
 intro R;have:∀(F:P3->List Pc) (R:List P3) (S:Ex),(R.foldl (fun S p=>kB S p.1 p.2.1 (F p)) S).men=S.men:=by
  intro F R
  induction R with
  | nil=>intro S;rfl
  | cons p R G=>intro S;rw[Bh,G];rfl
 exact this _ R _
theorem yF{S:Ex}{land:Str}{R:List P3}:(iJ S land R).ws=S.ws:=by
 have:∀(F:P3->List Pc) (R:List P3) (S:Ex),(R.foldl (fun S p=>kB S p.1 p.2.1 (F p)) S).ws=S.ws:=by
  intro F R
  induction R with
  | nil=>intro S;rfl
  | cons p R G=>intro S;rw[Bh,G];rfl
 exact this _ R _
theorem uT{S:Ex}{land:Str}:∀{R:List P3},(iJ S land R).inc=S.inc:=by
 intro R;have:∀(F:P3->List Pc) (R:List P3) (S:Ex),(R.foldl (fun S p=>kB S p.1 p.2.1 (F p)) S).inc=S.inc:=by
  intro F R
  induction R with
  | nil=>intro S;rfl
  | cons p R G=>intro S;rw[Bh,G];rfl
 exact this _ R _
theorem aG4{S:Ex}{land:Str}{R:List P3}(h:oH S.hs):oH (iJ S land R).hs:=by
 have:∀(F:P3->List Pc) (R:List P3) (S:Ex),oH S.hs->oH (R.foldl (fun S p=>kB S p.1 p.2.1 (F p)) S).hs:=by
  intro F R
  induction R with
  | nil=>intro S h;exact h
  | cons p R G=>intro S h;exact G _ h.put
 exact this _ R _ h.drop
theorem aG5{S:Ex}{land:Str}{R:List P3}(h:(S.hs.map (·.1)).Nodup):((iJ S land R).hs.map (·.1)).Nodup:=by
 have:∀(F:P3->List Pc) (R:List P3) (S:Ex),(S.hs.map (·.1)).Nodup->((R.foldl (fun S p=>kB S p.1 p.2.1 (F p)) S).hs.map (·.1)).Nodup:=by
  intro F R
  induction R with
  | nil=>intro S h;exact h
  | cons p R G=>intro S h;exact G _ (mJ _ h)
 exact this _ R _ (jY h)
theorem qN{S:Ex}{R:List Str}{land:Str}(h:cG S R land="done"):(∀ z∈R,aK S z=true)/\(land∈R\/aK S land=false):=by
 unfold cG at h;by_cases h1:R.all (aK S)=false
 .rw[Iq h1]at h;exact absurd h (by decide)
 rw[Ip h1]at h;by_cases h2:(R.any fun z=>decide (bG S.hs (Ad z)≠bG S.hs (Ad (R.headD ""))))=true
 .rw[Iq h2]at h;exact absurd h (by decide)
 rw[Ip h2]at h;by_cases F:(!decide (land∈R)&&aK S land)=true
 .rw[Iq F]at h;exact absurd h (by decide)
 have ha:R.all (aK S)=true:=by simpa using h1
 refine⟨A7.mp ha,?_⟩;by_cases e:land∈R
 .exact .inl e
 .refine .inr ?_;cases q:aK S land with
  | false=>rfl
  | true=>exact absurd (by rw[Is e,q];rfl) F
theorem aDN{R:List Str}(h:R.Nodup):R.Nodup:=h
theorem qO:∀(R:List Str) (d:List (Key×V)),(R.foldl (fun d z=>bZ d (Ad z)) d).length<=d.length
 | [],_=>Aj _
 | z::R,d=>Ay (qO R _) (qM _ _)
theorem aAK:∀{R:List Str}{d:List (Key×V)},oH d->oH (R.foldl (fun d z=>bZ d (Ad z)) d)
 | [],_,h=>h
 | z::R,d,h=>aAK (R:=R) h.drop
theorem aAL:∀{R:List Str}{d:List (Key×V)},(d.map (·.1)).Nodup->((R.foldl (fun d z=>bZ d (Ad z)) d).map (·.1)).Nodup
 | [],_,h=>h
 | z::R,d,h=>aAL (R:=R) (jY h)
def RSc(sc:Int)(r:cS):Prop:=∀(land:Str) (R:List P3),r.word="part"->r.ds=[.str land,.tuple (R.map pD)]->(∀ p∈R,sc ∣ p.2.2)\/¬ sc ∣ (R.map fun p=>p.2.2).sum
inductive aFJ(vs:List V)(H:Hp)(Q:VK)(u3_:XK):Prop
 | mk (W:Af) (B:WA) (sc:Int) (os:List UK) (own:UK->Str) (S S':Ex) (x:V) (r:cS) (ws:List Str) (q0:vs=[.ref W,x]) (q1:dD H W B sc os own S) (q2:RdV false H x r.d) (q3:r.Ok ws) (q4:RSc sc r) (q5:lC S r.word r.ds "done" S') (q6:S'.hs.length<=1000) (q7:∀ jd H',cY [B.ow,B.me,B.ho,B.ic] H H'->dD H' W B sc os jd S'->Q .non H'):aFJ vs H Q u3_
def aIL:Sp:=fun vs H Q u3_=>aFJ vs H Q u3_
theorem aJN:cB ["_law_world_here","_law_row","_law_stand","_law_units_here","_law_land","_law_house","_law_acres","_law_key"] ["_law_world_here","_law_row"] (aQ sDo):=⟨rfl,rfl,rfl,by decide,rfl,by decide,by decide⟩
theorem aJO{f:Af}{fd:Be}(F:Fun K "_law_do" "_law_do" sDo f fd)
  (GU:Cl P w K mg base 1 "_law_units" ["_law_world_here","_law_land"] pR)
  :cW P w K mg base CX0 2 f fd ["_law_world_here","_law_row"] aIL:=by
 refine F.ok aJN (fun vs H Q E h=>?_) (fun ee A outer s H vs Q E hr h=>?_)
 .obtain⟨W,B,sc,os,own,S,S2,x,r,ws,rfl,_⟩:=h;rfl
 .obtain⟨W,B,sc,os,own,S,S2,x,r,ws,rfl,wl,rdv,ok,rsc,stp,hh1,k⟩:=h;have hu:=fS hr;have nd:=aJN.nd;refine⟨_,(aB (aR (i:=2) nd rfl (Az rfl) (bQ hu (pv 0) aO Iv))
   (aB (cD (aZ cV (aW bC (pv 1) aD Iv) aO (bJ _)) (aB (aR (i:=3) nd rfl (Az rfl) (cK GU hr (aF (pv 0) (aF (aW bC (pv 1) aD Iv) aE))))
    (aB (dP (oP (pv 2) (aW bC (pv 1) aD Iv) ⟨rfl,rfl,rfl,rfl⟩))
    (aM (dY Bj rfl (dQ (aW bC (pv 1) aD Iv)) (g:=rG K 3 (dH (aS 4) (dH (aS 5) (dH (aS 6) rF)))) (f6 rfl (bK (aV (i:=4) nd rfl (Az rfl)) (bK (aV (i:=5) nd rfl (Az rfl)) (bK (aV (i:=6) nd rfl (Az rfl)) dX))))
    (aB (dM hu (pv 2) (pv 4) (pv 5) rfl)
     (aB (dY Bj rfl (g8 (g9 w8 (pv 3) jB (jC (aY mV (pv 6) (bQ hu (pv 0) aO Iv))))) (g:=aS 7) (aV (i:=7) nd rfl (Az rfl))
     (aM (dM hu (bQ hu (pv 0) aO Iv) (pv 7) (pv 4) rfl)))
     (aM (aR (i:=3) nd rfl (Az rfl) (g9 w8 (pv 3) (jC (aY mV (pv 6) (bQ hu (pv 0) aO Iv))) jB))))))))) bF)
   (aB (cD (aZ cV (aW bC (pv 1) aD Iv) aO (bJ _)) (aB (aR (i:=5) nd rfl (Az rfl) (bQ hu (pv 2) (aW bC (aW bC (pv 1) aD Iv) aD Iv) Iv))
    (aB (dY Bj rfl (g8 (bQ hu (pv 0) aO Iv)) (g:=aS 7) (aV (i:=7) nd rfl (Az rfl))
    (aM (cD (aZ p8 (bQ hu (bQ hu (pv 0) aO Iv) (pv 7) Iv) (aW bC (pv 1) aD Iv) (by with_unfolding_all rfl)) (aM (dM hu (bQ hu (pv 0) aO Iv) (pv 7) (aW bC (pv 1) aD Iv) rfl)) bF)))
    (aB (dY Bj rfl (dQ (aW bC (pv 1) aD Iv)) (g:=aS 4) (aV (i:=4) nd rfl (Az rfl))
    (aM (dP (oP (pv 2) (pv 4) ⟨rfl,rfl,rfl,rfl⟩))))
    (aM (dM hu (pv 2) (aW bC (pv 1) aD Iv) (pv 5) rfl))))) bF)
   (aB (cD (aZ cV (aW bC (pv 1) aD Iv) aO (bJ _)) (aM (dM hu (pv 2) (aW bC (pv 1) aD Iv) (aW bC (pv 1) aD Iv) rfl)) bF)
   (aB (cD (aZ cV (aW bC (pv 1) aD Iv) aO (bJ _)) mH bF)
   (aB (cD (aZ cV (aW bC (pv 1) aD Iv) aO (bJ _)) mH bF)
   (aM (cD (aZ cV (aW bC (pv 1) aD Iv) aO (bJ _)) mH bF)))))))),?_⟩
  refine aHD fun T hT=>?_;obtain⟨t,cE,rfl,ht,hrest⟩:=cS.Ok.tup (fs:=ws) rdv;have rs:=ok.rs;obtain⟨word,name,day,ds⟩:=r;dsimp only at rs hrest ht k stp;have wh:=wl.wh;have z3:S.hs.length<sizeLine:=c5 wl.hl;cases rs with
  | @part land R hl ai h2 h6 az=>
   obtain⟨q1,q2⟩:=rd2 hrest;cases q1;cases q2 with
   | @tup tp us _ am dm bc=>
   have bE:=bc.len;rw[Aa]at bE;obtain⟨e1,Z⟩:=stp.fn (.part (land:=land) (R:=R));rw[<- e1,Iq rfl]at Z;subst Z;obtain⟨aq,hsum,hnm⟩:=aDM e1.symm;have dc:∀ p∈R,sc ∣ p.2.2:=by
    rcases rsc land R rfl rfl with h|h
    .exact h
    .exact absurd ⟨_,by rw[hsum];exact(wl.cn land aq).symm⟩ h
   have cq:=aq;unfold aK at cq;obtain⟨v,hv⟩:=Bf.mp cq;subst hT;refine⟨_,rfl,W,_,rfl,wl.get (jN _ _),_,rfl,t,_,0,_,rfl,rfl,aN ht,rfl,rfl,_,rfl,yW ?_⟩;refine⟨_,rfl,_,rfl,t,_,3,_,rfl,rfl,aN ht,rfl,W,B,sc,os,own,land,rfl,wl.u,fun L rs H1 hL S1 ci hU=>?_⟩;have Y:=wh.same S1;refine⟨_,rfl,B.ho,rfl,.inl ⟨_,.inl Y.ho⟩,_,rfl,t,_,3,_,rfl,rfl,aN (S1 _ _ ht),rfl,_,Ad land,v,Y.ho,rfl,hv,?_⟩;have aa:=Y.setH (bZ S.hs (Ad land));have aj:cY [B.ow,B.me,B.ho,B.ic] H (upd H1 B.ho (.dK (bZ S.hs (Ad land)))):=(dS S1).trans (dO (by simp));have ca:upd H1 B.ho (.dK (bZ S.hs (Ad land))) L=some (.lst (rs.map V.ref)):=by rw[aG (bS ci Y.ho (fun z=>nomatch z))];exact ci
   have cx:UAt (upd H1 B.ho (.dK (bZ S.hs (Ad land)))) rs (os.filter fun k=>decide (own k=land)):=hU.on fun b us e=>by rw[aG (bS e Y.ho (fun z=>nomatch z))];exact e
   generalize upd H1 B.ho _=H2 at aa aj ca cx ⊢;have tk:∀{G:Hp} {b:Af} {us:List V},cY [B.ow,B.me,B.ho,B.ic] H G->H b=some (.tup us)->G b=some (.tup us):=fun{G b us} kx e=>kx b _ (fun z=>by
    simp only[An,AC,or_false]at z;rcases z with z|z|z|z<;>rw[z]at e
    .rw[wl.ow]at e;cases e
    .rw[wl.me]at e;cases e
    .rw[wl.ho]at e;cases e
    .rw[wl.ic]at e;cases e) e
   refine⟨_,rfl,t,_,4,_,rfl,rfl,aN (tk aj ht),rfl,tp,rfl,⟨_,aN (tk aj am)⟩,?_⟩;have p0:=uR.start (land:=land) wl.pq wl.so;have b2:(os.filter fun k=>decide (own k=land)).Nodup:=wl.nd.filter _;have cf:(os.filter (fun k=>decide (own k=land))).Sublist os:=List.filter_sublist;have di:=wl.pq land aq;have dt:=wl.cn land aq;have s1:=wl.s1;refine iM (K:=K) (xs:=us) (fun i σ H'=>Ex3 fun(L:Af) (qs:List Af) (J:List UK)=>Ex3 fun(jd:UK->Str) (Si:Ex) (o4:Option V)=>Ex3 fun(o5 o6 o7:Option V)=>Aw6 (σ=[some (.ref W),some (.ref t),some (.ref B.ho),some (.ref L),o4,o5,o6,o7]) (cY [B.ow,B.me,B.ho,B.ic] H H') (WH H' W B sc os jd Si.hs S.men S.inc) (H' L=some (.lst (qs.map V.ref))) (UAt H' qs J) (Aw6 (uR os sc J jd Si) (pO (aBI (S.pc land) R) S land (R.take i)=Si) J.Nodup (J.Sublist os) ((∃ j:Nat,J=(os.filter fun k=>decide (own k=land)).drop j/\sc*(j:Int)=((R.take i).map fun p=>p.2.2).sum)) (sc*(J.length:Int)=((R.drop i).map fun p=>p.2.2).sum/\Si.hs.length<=1000+i))) ⟨L,rs,_,own,_,none,none,none,none,rfl,aj,aa,ca,cx,p0,rfl,b2,cf,⟨0,by rw[Cr],by simp⟩,by rw[dt,Cr,hsum],Ay (qM _ _) wl.hl⟩ (fun i σ H' _ p=>by obtain⟨_,_,_,_,_,_,_,_,_,_,kx,_⟩:=p;exact aN (tk kx am)) ?_ ?_
   .rintro i v σ H3 dq ⟨L3,qs,J,ab,Si,o4,o5,o6,o7,rfl,ah,O,bz,b7,p3,au,aL,bh,⟨j3,b6,bP⟩,be,cw⟩;have aI:∀ k∈J,k∈os:=fun k hk=>bh.subset hk;obtain⟨p,q,hp,rfl,hq⟩:=i6 bc dq;have dV:i<R.length:=(Al.mp hp).1;have bw:=AQ hp;obtain⟨n,hn⟩:=dc p bw;refine⟨q,_,rfl,aN (tk ah hq),rfl,_,_,rfl,_,_,rfl,_,_,rfl,rfl,_,rfl,_,rfl,_,rfl,B.ho,_,rfl,iF.k (k:=Ad p.1) O.ho (CW cw (by rw[Co];omega)),?_⟩;have bD:=O.setH (b0 Si.hs (Ad p.1) (.str p.2.1));have bW:cY [B.ow,B.me,B.ho,B.ic] H (upd H3 B.ho (.dK (b0 Si.hs (Ad p.1) (.str p.2.1)))):=ah.trans (dO (by simp));have bv:upd H3 B.ho (.dK (b0 Si.hs (Ad p.1) (.str p.2.1))) L3=some (.lst (qs.map V.ref)):=by rw[aG (bS bz O.ho (fun z=>nomatch z))];exact bz
    have bq:UAt (upd H3 B.ho (.dK (b0 Si.hs (Ad p.1) (.str p.2.1)))) qs J:=b7.on fun b us e=>by rw[aG (bS e O.ho (fun z=>nomatch z))];exact e
    generalize upd H3 B.ho _=H4 at bD bW bv bq ⊢;have ay:p.2.2/sc=n:=by rw[hn,Int.mul_ediv_cancel_left _ (by omega)]
    refine⟨_,rfl,_,rfl,?_⟩;have d3:=aAI az bw;obtain⟨m,rfl⟩:∃ m:Nat,n=m:=by
     have:0<=n:=by
      rw[<- ay];exact DQ (by omega) (by omega)
     exact⟨n.toNat,by omega⟩
    have bo:R.drop i=p::R.drop (i+1):=by
     obtain⟨h1,h2⟩:=Al.mp hp;rw[EV h1,h2]
    have du:0<=((R.drop (i+1)).map fun p=>p.2.2).sum:=aCN fun q hq=>by
     have:=aAI az (C5 hq);omega
    rw[bo,Aq,CD,hn]at be;have de:sc*((J.length:Int)-m)=((R.drop (i+1)).map fun p=>p.2.2).sum:=by
     rw[Int.mul_sub];omega
    have eb:m<=J.length:=by
     rcases DG J.length m with z|z
     .exfalso;have:sc*((J.length:Int)-m)<=sc*(-1):=Int.mul_le_mul_of_nonneg_left (by omega) (by omega);omega
     .exact z
    have eh:=bq.length;have c3:J.length<=80:=Ay (DU aL aI) wl.ol;refine⟨_,rfl,W,_,rfl,bD.get (aAx _ _),_,_,rfl,rfl,⟨by omega,by have:=wl.s2;omega⟩,_,rfl,L3,_,rfl,aU bv,fun D hD=>?_⟩;rw[ay,xC (α:=Unit),<- HB];have sD:=aJ (o:=.lst ((qs.take m).map V.ref)) hD;have ck:=bD.same sD;have bN:=bW.same sD;have bR:=sD _ _ bv;have cu:=bq.on (bV sD);have bI:upd H4 D (.lst ((qs.take m).map V.ref)) D=some (.lst ((qs.take m).map V.ref)):=aA;generalize upd H4 D _=H5 at ck bN bR cu bI ⊢;refine⟨D,rfl,⟨_,aU bI⟩,?_⟩;refine jU (K:=K) (xs:=(qs.take m).map V.ref) (fun j σ H'=>∃(o7:Option V),Aw6 (σ=[some (.ref W),some (.ref t),some (.ref B.ho),some (.ref L3),some (.str p.1),some (.str p.2.1),some (.int p.2.2),o7]) (cY [B.ow,B.me,B.ho,B.ic] H H') (WH H' W B sc os (fun k=>if k∈(J.take m).take j then p.1 else ab k) (b0 Si.hs (Ad p.1) (.str p.2.1)) S.men S.inc) (H' L3=some (.lst (qs.map V.ref))) (H' D=some (.lst ((qs.take m).map V.ref))) (UAt H' qs J)) ⟨_,rfl,bN,by simp only[FZ,AC,if_false];exact ck,bR,bI,cu⟩ (fun i σ H' _ p=>by obtain⟨_,_,_,_,_,e,_⟩:=p;exact aU e) ?_ ?_
    .rintro j v σ H6 b1 ⟨o7,rfl,bt,ak,br,bO,bd⟩;rw[Au]at b1;obtain⟨q6,hq6,rfl⟩:=AU.mp b1;rw[BP]at hq6;by_cases bx:j<m
     .rw[Iq bx]at hq6;have b5:j<J.length:=by omega
      have ap:J[j]?=some J[j]:=Ai b5;have ba:=Paired.at bd hq6 ap;have bb:J[j]∈os:=aI _ (Bk b5);dsimp only[aS];refine⟨_,rfl,_,rfl,W,_,rfl,ak.get (aAy _ _),_,rfl,B.ow,_,rfl,iF.t (k:=[Ad J[j].1,Cs (J[j].2:Int)]) ak.ow ba (by unfold iP;rw[Aa];exact c5 (Ay wl.ol (by decide))),?_⟩;rw[aCL bb];have ar:(fun k'=>if k'=J[j] then p.1 else(fun k=>if k∈(J.take m).take j then p.1 else ab k) k')=fun k=>if k∈(J.take m).take (j+1) then p.1 else ab k:=by
       funext k';dsimp only;have et:(J.take m).take (j+1)=(J.take m).take j++[J[j]]:=by
        rw[AA,BP,Iq bx,ap];rfl
       rw[et];by_cases e1:k'=J[j]
       .rw[Iq e1,Iq (by rw[e1];simp)]
       .rw[Ip e1];by_cases Z:k'∈(J.take m).take j
        .rw[Iq Z,Iq (BG _ Z)]
        .rw[Ip Z,Ip (fun z=>(AO.mp z).elim Z fun z=>e1 (AK.mp z))]
      rw[ar];have kO:∀{b:Af} {o:HO},H6 b=some o->(∀ xs,o≠.dT xs)->upd H6 B.ow (.dT (iP os fun k=>if k∈(J.take m).take (j+1) then p.1 else ab k)) b=some o:=fun{b o} e n=>by
       rw[aG (bS e ak.ow (n _))];exact e
      exact⟨_,rfl,bt.trans (dO (by simp)),ak.setO _,kO br (fun _ z=>nomatch z),kO bO (fun _ z=>nomatch z),bd.on fun b us e=>kO e (fun _ z=>nomatch z)⟩
     .rw[Ip bx]at hq6;cases hq6
    .rintro σ H6 ⟨o7,rfl,bt,ak,br,bO,bd⟩;have cy:((qs.take m).map V.ref).length=m:=by rw[Aa,AJ];omega
     rw[cy,A9 (by rw[AJ];omega)]at ak;refine⟨_,rfl,_,rfl,_,rfl,W,_,rfl,ak.get (aAx _ _),_,_,rfl,rfl,⟨by omega,by have:=wl.s2;omega⟩,_,rfl,L3,_,rfl,aU br,fun D2 dr=>?_⟩;rw[ay,aEB (α:=Unit),<- List.map_drop];have bu:=aJ (o:=.lst ((qs.drop m).map V.ref)) dr;have cm:(J.take m++J.drop m).Nodup:=by rw[BQ];exact aL
     have cr:(J.take m++J.drop m).Sublist os:=by rw[BQ];exact bh
     have df:uR os sc (J.take m++J.drop m) ab Si:=by rw[BQ];exact p3
     have cs:aK Si p.1=false:=by
      cases hq:aK Si p.1 with
      | false=>rfl
      | true=>
       rw[<- au]at hq;rcases aAJ.mp hq with z|⟨z1,z2⟩
       .exact absurd z (aFH ai hp)
       .rcases hnm p bw with z|z
        .exact absurd z z1
        .rw[z]at z2;cases z2
     have pn:=uR.step (h:=p.2.1) df cm cr wl.nd cs (ps:=aBI (S.pc land) R p) (by
      unfold aBI;rw[uJ ai hp,<- bP,hn,<- Ia];have hq:=di.cut s1 (j3:Int) ((j3:Int)+(m:Int));have eq:sl (os.filter fun k=>decide (own k=land)) (j3:Int) ((j3:Int)+(m:Int))=J.take m:=by
       unfold sl;rw[show((j3:Int)+(m:Int)).toNat=j3+m by omega,show(j3:Int).toNat=j3 by omega,List.drop_take,b6,CM]
      rw[eq]at hq;exact hq)
     have dh:UAt H6 (qs.drop m) (J.drop m):=rE bd;refine⟨D2,qs.drop m,J.drop m,_,_,_,_,_,_,rfl,bt.same bu,ak.same bu,aA,dh.on (bV bu),pn,?_,(Bu.mp cm).2.1,(List.sublist_append_right _ _).trans cr,⟨j3+m,by rw[b6,D6],by rw[AA,hp,Ar,List.sum_append,<- bP,CP,Ia,<- hn];simp⟩,?_,?_⟩
     .unfold pO at au ⊢;rw[AA,hp,Cp,au];rfl
     .rw[B3,<- de];congr 1;omega
     .show(b0 Si.hs (Ad p.1) (V.str p.2.1)).length<=_;have:=cJ Si.hs (Ad p.1) (V.str p.2.1);omega
   .rintro σ H3 ⟨L3,qs,J,ab,Si,o4,o5,o6,o7,rfl,ah,O,bz,b7,p3,au,aL,aI,_,be,cw⟩;rw[bE,AN]at au;rw[bE,List.drop_length]at be;have dg:J=[]:=by
     have:sc*(J.length:Int)=0:=be;rcases Int.mul_eq_zero.mp this with z|z
     .omega
     .exact List.length_eq_zero_iff.mp (by omega)
    subst dg au;obtain⟨c1,c2⟩:=p3.fin;have ad:=tk ah ht
    iterate 5 refine⟨_,rfl,t,_,0,_,rfl,rfl,aN ad,rfl,rfl,_,rfl,nW (by decide) ?_⟩
    exact k ab H3 ah ⟨O.d,O.o,O.ow,by rw[aFI];exact O.me,O.ho,by rw[uT];exact O.ic,wl.nd,wl.ol,wl.s1,wl.s2,c1,wl.ne,aG4 wl.hv,aG5 wl.ks,hh1,c2,by rw[yF];exact wl.od,by rw[yF];exact wl.ofw⟩
  | @join land R hl ai h2 h6 az=>
   obtain⟨q1,q2⟩:=rd2 hrest;cases q2;cases q1 with
   | @tup tp us _ am dm bc=>
   obtain rfl:=m9 bc;obtain⟨e1,Z⟩:=stp.fn (.join (land:=land) (R:=R));rw[<- e1,Iq rfl]at Z;subst Z;obtain⟨hall',hlR⟩:=qN e1.symm;have bn:=aDN ai;obtain⟨z0,R',eR⟩:∃ z0 R',R=z0::R':=by
    cases R with
    | nil=>simp at h2
    | cons z0 R'=>exact⟨z0,R',rfl⟩
   obtain⟨v0,hv0⟩:=Bf.mp (show(bG S.hs (Ad z0)).isSome=true from hall' z0 (by rw[eR];exact Ap));obtain⟨h0,_,rfl,_⟩:=wl.hv _ _ hv0;have tk:∀{G:Hp} {b:Af} {us:List V},cY [B.ow,B.me,B.ho,B.ic] H G->H b=some (.tup us)->G b=some (.tup us):=fun{G b us} kx e=>kx b _ (fun z=>by
    simp only[An,AC,or_false]at z;rcases z with z|z|z|z<;>rw[z]at e
    .rw[wl.ow]at e;cases e
    .rw[wl.me]at e;cases e
    .rw[wl.ho]at e;cases e
    .rw[wl.ic]at e;cases e) e
   subst hT;refine⟨_,rfl,W,_,rfl,wl.get (jN _ _),_,rfl,t,_,0,_,rfl,rfl,aN ht,rfl,rfl,_,rfl,nW (by decide) ?_⟩;refine⟨_,rfl,t,_,0,_,rfl,rfl,aN ht,rfl,rfl,_,rfl,yW ?_⟩;refine⟨_,rfl,_,rfl,t,_,3,_,rfl,rfl,aN ht,rfl,tp,_,0,.str z0,rfl,rfl,aN am,fU (j:=0) (by rw[eR];rfl),B.ho,_,rfl,.inl ⟨S.hs,Ad z0,.inl wl.ho,rfl,hv0.symm⟩,?_⟩;obtain⟨qs,o1,o2⟩:=wl.o;have b3:=Bm o2;refine⟨_,rfl,W,_,rfl,wl.get (aFy _ _),B.o,rfl,⟨_,aU o1⟩,?_⟩;refine jU (K:=K) (xs:=qs.map V.ref) (fun j σ H'=>∃(o7:Option V),Aw3 (σ=[some (.ref W),some (.ref t),some (.ref B.ho),none,none,some (.str h0),none,o7]) (cY [B.ow,B.me,B.ho,B.ic] H H') (WH H' W B sc os (fun k=>if k∈os.take j/\own k∈R then land else own k) S.hs S.men S.inc/\H' B.o=some (.lst (qs.map V.ref)))) ⟨none,rfl,cY.refl H,by simp only[FZ,AC,false_and,if_false];exact wh,o1⟩ (fun i σ H' _ p=>by obtain⟨_,_,_,_,e⟩:=p;exact aU e) ?_ ?_
   .rintro j v σ H1 cv ⟨o7,rfl,ae,Y,bf⟩;rw[Au]at cv;obtain⟨q,hq,rfl⟩:=AU.mp cv;have hj:j<os.length:=by rw[<- b3];exact(Al.mp hq).1
    have ap:os[j]?=some os[j]:=Ai hj;have cc:=Paired.at o2 hq ap;have ba:=tk ae cc;have bb:os[j]∈os:=Bk hj;have cj:os[j]∉os.take j:=fun z=>by
     obtain⟨i,hi⟩:=Bq z;rw[BP]at hi;by_cases aC:i<j
     .rw[Iq aC]at hi;exact absurd (aFG wl.nd hi ap) (by omega)
     .rw[Ip aC]at hi;cases hi
    have hD:gH H1 B.ow (.ref q) (some (.str (own os[j]))):=by
     have:=gH.t (k:=[Ad os[j].1,Cs (os[j].2:Int)]) Y.ow ba;rw[yA bb,Ip (fun z=>cj z.1)]at this;exact this
    dsimp only[aS];refine⟨_,rfl,W,_,rfl,Y.get (aAy _ _),_,rfl,B.ow,_,rfl,hD,_,rfl,t,_,3,_,rfl,rfl,aN (tk ae ht),rfl,tp,_,rfl,.inr (aN (tk ae am)),rfl,j9 _,_,rfl,?_⟩;show if (if false=true then !inV (V.str (own os[j])) (R.map V.str) else inV (V.str (own os[j])) (R.map V.str))=true then _ else _
    rw[Ip Am,pQ];have et:os.take (j+1)=os.take j++[os[j]]:=by
     rw[AA,ap];rfl
    by_cases g:own os[j]∈R
    .rw[Ir g];refine gI ?_;refine⟨_,rfl,t,_,4,_,rfl,rfl,aN (tk ae ht),rfl,_,rfl,W,_,rfl,Y.get (aAy _ _),_,rfl,B.ow,_,rfl,iF.t (k:=[Ad os[j].1,Cs (os[j].2:Int)]) Y.ow ba (by unfold iP;rw[Aa];exact c5 (Ay wl.ol (by decide))),?_⟩;rw[aCL bb];have ar:(fun k'=>if k'=os[j] then land else(fun k=>if k∈os.take j/\own k∈R then land else own k) k')=fun k=>if k∈os.take (j+1)/\own k∈R then land else own k:=by
      funext k';dsimp only;rw[et];by_cases e1:k'=os[j]
      .rw[Iq e1,Iq (by rw[e1];exact⟨AS _ (AK.mpr rfl),g⟩)]
      .rw[Ip e1];by_cases Z:k'∈os.take j/\own k'∈R
       .rw[Iq Z,Iq ⟨BG _ Z.1,Z.2⟩]
       .rw[Ip Z,Ip (fun z=>(AO.mp z.1).elim (fun y=>Z ⟨y,z.2⟩) fun y=>e1 (AK.mp y))]
     rw[ar];exact⟨_,rfl,ae.trans (dO (by simp)),Y.setO _,by rw[aG (bS bf Y.ow (fun z=>nomatch z))];exact bf⟩
    .rw[Is g];refine nE ⟨_,rfl,ae,?_,bf⟩;have ar:(fun k=>if k∈os.take j/\own k∈R then land else own k)=fun k=>if k∈os.take (j+1)/\own k∈R then land else own k:=by
      funext k';rw[et];by_cases Z:k'∈os.take j/\own k'∈R
      .rw[Iq Z,Iq ⟨BG _ Z.1,Z.2⟩]
      .rw[Ip Z,Ip (fun z=>(AO.mp z.1).elim (fun y=>Z ⟨y,z.2⟩) fun y=>g (by rw[<- AK.mp y];exact z.2))]
     rw[<- ar];exact Y
   .rintro σ H1 ⟨o7,rfl,ae,Y,bf⟩;rw[Aa,b3]at Y;refine⟨_,rfl,t,_,3,_,rfl,rfl,aN (tk ae ht),rfl,tp,rfl,⟨_,aN (tk ae am)⟩,?_⟩;refine iM (K:=K) (xs:=R.map V.str) (fun i σ H'=>∃(o4:Option V),σ=[some (.ref W),some (.ref t),some (.ref B.ho),none,o4,some (.str h0),none,o7]/\cY [B.ow,B.me,B.ho,B.ic] H H'/\WH H' W B sc os (fun k=>if k∈os.take os.length/\own k∈R then land else own k) ((R.take i).foldl (fun d z=>bZ d (Ad z)) S.hs) S.men S.inc) ⟨none,rfl,ae,Y⟩ (fun i σ H' _ p=>by obtain⟨_,_,kx,_⟩:=p;exact aN (tk kx am)) ?_ ?_
    .rintro i v σ H2 b4 ⟨o4,rfl,aj,aa⟩;rw[Au]at b4;obtain⟨z,hz,rfl⟩:=AU.mp b4;have dd:z∉R.take i:=fun y=>by
      obtain⟨j,hj⟩:=Bq y;rw[BP]at hj;by_cases aC:j<i
      .rw[Iq aC]at hj;exact absurd (aFG bn hj hz) (by omega)
      .rw[Ip aC]at hj;cases hj
     obtain⟨v2,hv2'⟩:=Bf.mp (uS.mpr ⟨dd,hall' z (AQ hz)⟩);dsimp only[aS];refine⟨_,rfl,B.ho,rfl,.inl ⟨_,.inl aa.ho⟩,_,rfl,_,Ad z,v2,aa.ho,rfl,hv2',_,rfl,aj.trans (dO (by simp)),?_⟩;rw[AA,hz,Cp];exact aa.setH _
    .rintro σ H2 ⟨o4,rfl,aj,aa⟩;rw[Aa,AN]at aa;rw[AN]at aa;have cg:(R.foldl (fun d z=>bZ d (Ad z)) S.hs).length<=S.hs.length:=qO R S.hs;refine⟨_,rfl,_,rfl,_,rfl,t,_,4,_,rfl,rfl,aN (tk aj ht),rfl,B.ho,_,rfl,iF.k (k:=Ad land) aa.ho (c5 (Ay cg wl.hl)),?_⟩;have O:=aa.setH (b0 (R.foldl (fun d z=>bZ d (Ad z)) S.hs) (Ad land) (.str h0));have ah:cY [B.ow,B.me,B.ho,B.ic] H (upd H2 B.ho (.dK (b0 (R.foldl (fun d z=>bZ d (Ad z)) S.hs) (Ad land) (.str h0)))):=aj.trans (dO (by simp));have ad:=tk ah ht;generalize upd H2 B.ho _=H3 at O ah ad ⊢
     iterate 4 refine⟨_,rfl,t,_,0,_,rfl,rfl,aN ad,rfl,rfl,_,rfl,nW (by decide) ?_⟩
     have bL:(fP S R land).hs=b0 (R.foldl (fun d z=>bZ d (Ad z)) S.hs) (Ad land) (.str h0):=by
      unfold fP;rw[eR];dsimp only[List.headD];rw[hv0];rfl
     obtain⟨c1,c2⟩:=aFF (R:=R) (land:=land) wl.s1 wl.nd wl.od (fun z hz=>wl.pw (hall' z hz)) wl.pq wl.so bn hall' hlR;have ar:(fun k=>if k∈os/\own k∈R then land else own k)=fun k=>if k∈os/\own k∈R then land else own k:=rfl
     have ef:∀ k∈os,(if k∈os/\own k∈R then land else own k)=if own k∈R then land else own k:=fun k hk=>by
      by_cases e:own k∈R
      .rw[Iq ⟨hk,e⟩,Iq e]
      .rw[Ip (fun z=>e z.2),Ip e]
     refine k _ H3 ah ⟨O.d,O.o,O.ow,O.me,by rw[bL];exact O.ho,O.ic,wl.nd,wl.ol,wl.s1,wl.s2,fun z hz=>?_,wl.ne,by rw[bL];exact oH.put (aAK wl.hv),by rw[bL];exact mJ _ (aAL wl.ks),hh1,fun u bg=>?_,wl.od,wl.ofw⟩
     .exact cast (congrArg (PQ sc _) (Cq fun k hk=>by rw[ef k hk])) (c1 z hz)
     .rw[ef u bg];exact c2 u bg
  | @forfeit land house hl hh=>
   obtain rfl:=aIE hrest;obtain⟨e1,Z⟩:=stp.fn (.forfeit (land:=land) (house:=house));rw[<- e1,Iq rfl]at Z;subst Z;have aq:aK S land=true:=by
    unfold dL at e1;by_cases z:aK S land=false
    .rw[Iq z]at e1;exact absurd e1 (by decide)
    .simpa using z
   subst hT;refine⟨_,rfl,W,_,rfl,wl.get (jN _ _),_,rfl,t,_,0,_,rfl,rfl,aN ht,rfl,rfl,_,rfl,nW (by decide) ?_⟩;refine⟨_,rfl,t,_,0,_,rfl,rfl,aN ht,rfl,rfl,_,rfl,nW (by decide) ?_⟩;refine⟨_,rfl,t,_,0,_,rfl,rfl,aN ht,rfl,rfl,_,rfl,yW ?_⟩;refine⟨_,rfl,t,_,4,_,rfl,rfl,aN ht,rfl,_,rfl,_,rfl,t,_,3,_,rfl,rfl,aN ht,rfl,B.ho,_,rfl,iF.k (k:=Ad land) wl.ho z3,?_⟩;have ao:=wh.setH (b0 S.hs (Ad land) (.str house));have kx:cY [B.ow,B.me,B.ho,B.ic] H (upd H B.ho (.dK (b0 S.hs (Ad land) (.str house)))):=dO (by simp);have aT:upd H B.ho (.dK (b0 S.hs (Ad land) (.str house))) t=some (.tup [.str "forfeit",.str name,.int day,.str land,.str house]):=by rw[aG (bS ht wl.ho (fun z=>nomatch z))];exact ht
   generalize upd H B.ho _=H1 at ao kx aT ⊢
   iterate 3 refine⟨_,rfl,t,_,0,_,rfl,rfl,aN aT,rfl,rfl,_,rfl,nW (by decide) ?_⟩
   have cz:∀ z,aK { S with hs:=b0 S.hs (Ad land) (.str house) } z=true↔aK S z=true:=fun z=>by
    refine Im aCM ⟨fun q=>?_,.inr⟩;rcases q with rfl|q
    .exact aq
    .exact q
   exact k own H1 kx ⟨ao.d,ao.o,ao.ow,ao.me,ao.ho,ao.ic,wl.nd,wl.ol,wl.s1,wl.s2,fun z hz=>wl.pq z ((cz z).mp hz),wl.ne,oH.put wl.hv,mJ _ wl.ks,hh1,fun u bg=>(cz _).mpr (wl.so u bg),wl.od,wl.ofw⟩
structure EB(S:Ex)(n:Nat)(ws:List Str):Prop where
 h:S.hs.length<=8+6*n
theorem aAM(F:P3->List Pc):∀(R:List P3) (S:Ex),(R.foldl (fun S p=>kB S p.1 p.2.1 (F p)) S).hs.length<=S.hs.length+R.length
 | [],S=>Aj _
 | p::R,S=>by
  rw[Bh,AR];have h1:=aAM F R (kB S p.1 p.2.1 (F p));have h2:(kB S p.1 p.2.1 (F p)).hs.length<=S.hs.length+1:=cJ _ _ _;omega
theorem EB.step{S S':Ex}{n:Nat}{ws:List Str}{r:cS}{z:Str}(h:EB S n ws)(ok:r.Ok ws)(st:lC S r.word r.ds z S'):EB S' (n+1) ws:=by
 have rs:=ok.rs;obtain⟨word,name,day,ds⟩:=r;obtain⟨a2⟩:=h;dsimp only at rs st;cases rs with
 | @part land R hl G h2 J ha=>
  obtain⟨_,rfl⟩:=st.fn (.part (land:=land) (R:=R));split
  .refine⟨?_⟩;have h1:=aAM (aBI (S.pc land) R) R { S with hs:=bZ S.hs (Ad land) };have F:=qM S.hs (Ad land);have O:(iJ S land R).hs.length<=(bZ S.hs (Ad land)).length+R.length:=h1;omega
  .exact⟨by omega⟩
 | @join land R hl G h2 J ha=>
  obtain⟨_,rfl⟩:=st.fn (.join (land:=land) (R:=R));split
  .refine⟨?_⟩;have h1:=qO R S.hs;have F:=cJ (R.foldl (fun d z=>bZ d (Ad z)) S.hs) (Ad land) ((bG S.hs (Ad (R.headD ""))).getD .non);exact Ay F (by omega)
  .exact⟨by omega⟩
 | @forfeit land house hl Y=>
  obtain⟨_,rfl⟩:=st.fn (.forfeit (land:=land) (house:=house));split
  .have F:=cJ S.hs (Ad land) (.str house);exact⟨by show(b0 _ _ _).length<=_;omega⟩
  .exact⟨by omega⟩
theorem EB.zero{Ls:List L4}(h:Ls.length<=8):EB (ex0 Ls) 0 (Ls.map (·.1)):=by
 refine⟨?_⟩
 .unfold ex0;rw[jO];have:=pE (Ls.map fun l=>((Ad l.1:Key),V.str l.2.1)) [];rw[Aa]at this;exact Ay this (by simp;omega)
theorem lC.idle{S S':Ex}{word:Str}{ds:List Bc}{z:Str}(h:lC S word ds z S')(n:z≠"done"):S'=S:=by
 cases h with
 | part=>exact Ip n
 | join=>exact Ip n
 | forfeit=>exact Ip n
theorem dD.lst{H:Hp}{W L:Af}{B:WA}{sc:Int}{os:List UK}{own:UK->Str}{S:Ex}{xs ys:List V}(h:dD H W B sc os own S)(e:H L=some (.lst xs))(n:L≠B.o):dD (upd H L (.lst ys)) W B sc os own S:=by
 obtain⟨qs,o1,o2⟩:=h.o;have k:∀{b:Af} {o:HO},H b=some o->(∀ xs,o≠.lst xs)->upd H L (.lst ys) b=some o:=fun{b o} e' n=>by
  rw[aG (bS e' e (n _))];exact e'
 exact⟨k h.d (fun _ z=>nomatch z),⟨qs,by rw[aG n.symm];exact o1,Paired.mapP o2 fun q u e=>k e (fun _ z=>nomatch z)⟩,k h.ow (fun _ z=>nomatch z),k h.me (fun _ z=>nomatch z),k h.ho (fun _ z=>nomatch z),k h.ic (fun _ z=>nomatch z),h.nd,h.ol,h.s1,h.s2,h.pq,h.ne,h.hv,h.ks,h.hl,h.so,h.od,h.ofw⟩
theorem dD.kept{H H':Hp}{W:Af}{B:WA}{sc:Int}{os:List UK}{own:UK->Str}{S:Ex}(h:dD H W B sc os own S)(k:cY [B.ow,B.me,B.ho,B.ic] H H'){b:Af}{o:HO}(e:H b=some o)(n1:∀ xs,o≠.dT xs)(F:∀ xs,o≠.dK xs):H' b=some o:=k b o (fun z=>by
 simp only[An,AC,or_false]at z;rcases z with z|z|z|z<;>rw[z]at e
 .rw[h.ow]at e;cases e;exact n1 _ rfl
 .rw[h.me]at e;cases e;exact F _ rfl
 .rw[h.ho]at e;cases e;exact F _ rfl
 .rw[h.ic]at e;cases e;exact F _ rfl) e
inductive pW(vs:List V)(H:Hp)(Q:VK)(u3_:XK):Prop
 | mk (t:Af) (Ls:List L4) (us:List cS) (sc:Int) (n:Nat) (q0:vs=[.ref t,.int sc,.int n]) (q1:fQ H t Ls us) (q2:(∀ l∈Ls,LOk l/\sc ∣ l.2.2.1/\l.2.2.1<=10*sc)) (q3:(Ls.map (·.1)).Nodup) (q4:1<=Ls.length) (q5:1<=sc) (q6:sc<=100000) (q7:(∀ u∈us,RSc sc u)) (q8:∀(t2 W L:Af) (B:WA) (os:List UK) (own:UK->Str) (zs:List Str) (S:Ex) (H':Hp),Run (ex0 Ls) (us.take n) zs S->dD H' W B sc os own S->JnR Ls us n->H W=none->H B.ho=none->S.hs.length<=300->b8 H H'->H L=none->H' t2=some (.tup [.ref W,.ref L])->H' L=some (.lst (zs.map V.str))->Q (.ref t2) H'):pW vs H Q u3_
def uU:Sp:=fun vs H Q u3_=>pW vs H Q u3_
theorem aCQ{Ls:List L4}{F:List cS}{i:Nat}{zs:List Str}{H:Hp}{W:Af}{B:WA}{sc:Int}{os:List UK}{own:UK->Str}{S:Ex}(h:∀ j,j<i->∀ zs S,Run (ex0 Ls) (F.take j) zs S->Jn S)(r:Run (ex0 Ls) (F.take i) zs S)(wl:dD H W B sc os own S):JnR Ls F i:=fun j Y G O J=>by
 rcases DG j i with z|z
 .exact h j z G O J
 .have:j=i:=by omega
  subst this;obtain⟨_,rfl⟩:=r.fn J;exact wl.jn
theorem uV:cB ["_law_roll_here","_law_scale","_law_at","_law_world_here","_law_terms","_law_row"] ["_law_roll_here","_law_scale","_law_at"] (aQ qJ):=⟨rfl,rfl,rfl,by decide,rfl,by decide,by decide⟩
theorem aAN{f:Af}{fd:Be}(F:Fun K "_law_replayed" "_law_replayed" qJ f fd)
  (GW:Cl P w K mg base 2 "_law_world" ["_law_laying_here","_law_scale"] yC)
  (GO:Cl P w K mg base 3 "_law_word" ["_law_world_here","_law_row"] aBK)
  (GD:Cl P w K mg base 2 "_law_do" ["_law_world_here","_law_row"] aIL)
  :cW P w K mg base CX0 4 f fd ["_law_roll_here","_law_scale","_law_at"] uU:=by
 refine F.ok uV (fun vs H Q E h=>?_) (fun bI A outer s H vs Q E hr h=>?_)
 .obtain⟨t,Ls,us,sc,n,rfl,_⟩:=h;rfl
 .obtain⟨t,Ls,us,sc,n,rfl,roll,hok,hnd,hl1,s1,s2,hrs,k⟩:=h;have hu:=fS hr;have an:dC 2 _:=hr.mono (by decide);have nd:=uV.nd;refine⟨_,(aB (aR (i:=3) nd rfl (Az rfl) (cK GW an (aF (aW bC (pv 0) aD Iv) (aF (pv 1) aE))))
   (aB (aR (i:=4) nd rfl (Az rfl) (dA aE))
   (aB (dY Bj rfl (dQ (g9 aB5 (aW bC (pv 0) aD Iv) jB (jC (pv 2)))) (g:=aS 5) (aV (i:=5) nd rfl (Az rfl))
   (aB (dP (lE Bd B0 BZ gE (pv 4) (aF (cK GO hr (aF (pv 3) (aF (pv 5) aE))) aE)))
    (aM (eQ (cD (aZ cV (aW bX (pv 4) (jA gL aD) Iv) aO (bJ _)) (aM (dP (cK GD an (aF (pv 3) (aF (pv 5) aE))))) bF)))))
   (aM (bT (cO (aF (pv 3) (aF (pv 4) aE)))))))),?_⟩
  obtain⟨lay,rw,xs,ys,h1,h2,h3,h4,h6,h7,h8,h9⟩:=roll.ex;refine⟨_,rfl,t,_,0,_,rfl,rfl,aN h1,rfl,_,rfl,lay,xs,Ls,sc,rfl,h2,h3,hok,hnd,hl1,h6,s1,s2,fun W B os own H1 S1 ah wl=>?_⟩;refine⟨A8 _,fun L hL=>?_⟩;have sL:=aJ (o:=.lst []) hL;have fL:H L=none:=eG S1 hL;have ag:=wl.same sL;have S2:=S1.trans sL;have eL:upd H1 L (.lst []) L=some (.lst []):=aA;generalize upd H1 L (.lst [])=H2 at ag S2 eL ⊢;obtain⟨qo,ho1,_⟩:=wl.o;have bi:L≠B.o:=(aH ho1 hL).symm;have ao:=h8.len;refine⟨_,rfl,t,_,1,_,rfl,rfl,aN (S2 _ _ h1),rfl,_,rfl,_,rfl,rw,_,rfl,S2 _ _ h7,fun r H3 S3 aj=>?_⟩;rw[xC (α:=Unit)]at aj;refine⟨r,rfl,⟨_,aN aj⟩,?_⟩;refine iM (K:=K) (xs:=ys.take n) (fun i σ H'=>Ex3 fun(o5:Option V) (zs:List Str) (jd:UK->Str)=>∃(S':Ex),Aw6 (σ=[some (.ref t),some (.int sc),some (.int n),some (.ref W),some (.ref L),o5]) (b8 H H') (dD H' W B sc os jd S') (H' L=some (.lst (zs.map V.str))) (H' r=some (.tup (ys.take n))) (Aw3 (Run (ex0 Ls) (us.take i) zs S') (EB S' i (Ls.map (·.1))) (JnR Ls us i))) ⟨none,[],own,ex0 Ls,rfl,S2.trans S3,ag.same S3,S3 _ _ eL,aj,(.nil),EB.zero h6,aCQ (fun j hj=>absurd hj (Nat.not_lt_zero _)) .nil ag⟩ (fun i σ H' _ p=>by obtain⟨_,_,_,_,_,_,_,_,e,_⟩:=p;exact aN e) ?_ ?_
  .rintro i v σ H4 J ⟨o5,zs,jd,S',rfl,S4,Y,G,ae,run,eb,jr⟩;have hv:ys[i]?=some v:=by
    rw[BP]at J;by_cases z:i<n
    .rw[Iq z]at J;exact J
    .rw[Ip z]at J;cases J
   obtain⟨u,hu',rdu,oku⟩:=h8.at' i v hv;have aq:=oku.on rdu (bV S4);have bf:=run.len;have br:i<40:=by have:=(Al.mp hu').1;omega
   rw[AJ]at bf;have bp:zs.length<=i:=by omega
   dsimp only[aS];refine⟨_,rfl,.inl ⟨rfl,_,aU G⟩,_,rfl,_,rfl,W,B,sc,os,jd,S',v,u,_,rfl,Y,aq,oku,fun z S5 H5 st s5=>?_⟩;refine⟨L,_,_,rfl,rfl,s5 _ _ G,by rw[Aa];exact c5 (by omega),?_⟩;have O:=(Y.same s5).lst (ys:=zs.map V.str++[V.str z]) (s5 _ _ G) bi;have Z:upd H5 L (.lst (zs.map V.str++[V.str z])) L=some (.lst ((zs++[z]).map V.str)):=by rw[aA,Ar];rfl
   have S6:b8 H (upd H5 L (.lst (zs.map V.str++[V.str z]))):=fun b o e=>by
    rw[aG (aH e fL)];exact s5 _ _ (S4 _ _ e)
   have ad:upd H5 L (.lst (zs.map V.str++[V.str z])) r=some (.tup (ys.take n)):=by
    rw[aG (bS (s5 _ _ ae) (s5 _ _ G) (fun z=>nomatch z))];exact s5 _ _ ae
   have aa:=oku.on rdu (bV S6);generalize upd H5 L _=H6 at O Z S6 ad aa ⊢;have ab:Run (ex0 Ls) (us.take (i+1)) (zs++[z]) S5:=by
    rw[AA,hu'];exact .snoc run st
   have ap:=eb.step oku st;have bh:atI ((zs++[z]).map V.str) (-1)=some (.str z):=by
    rw[Ar];exact hJ _ _
   refine⟨fun σ' H'=>∃ jd,σ'=[some (.ref t),some (.int sc),some (.int n),some (.ref W),some (.ref L),some v]/\b8 H H'/\dD H' W B sc os jd S5/\H' L=some (.lst ((zs++[z]).map V.str))/\H' r=some (.tup (ys.take n)),?_,fun σ' H' ⟨jd,e1,e2,e3,e4,e5⟩=>⟨_,_,jd,S5,e1,e2,e3,e4,e5,ab,ap,aCQ (fun j hj=>jr j (by omega)) ab e3⟩⟩;refine⟨_,rfl,_,rfl,L,_,-1,_,rfl,rfl,aU Z,bh,rfl,_,rfl,dB (fun g=>?_) fun g=>?_⟩
   .have g':z="done":=V.str.inj (Iu g);subst g';refine⟨_,rfl,_,rfl,W,B,sc,os,jd,S',S5,v,u,_,rfl,O,aa,oku,hrs u (AQ hu'),st,Ay ap.h (by omega),fun am H7 ai ay=>?_⟩;refine⟨am,rfl,fun b o e=>?_,ay,O.kept ai Z (fun _ z=>nomatch z) (fun _ z=>nomatch z),O.kept ai ad (fun _ z=>nomatch z) (fun _ z=>nomatch z)⟩;refine ai b o (fun z=>?_) (S6 _ _ e);have hn:=ah b;simp only[An,AC,or_false]at z hn;rw[hn (by rcases z with z|z|z|z<;>simp[z])]at e;cases e
   .have g':z≠"done":=fun e=>g (Ir (by rw[e]));have e5:=st.idle g';subst e5;exact⟨jd,rfl,S6,O,Z,ad⟩
  .rintro σ H4 ⟨o5,zs,jd,S',rfl,S4,Y,G,ae,run,eb,jr⟩;have e1:us.take (ys.take n).length=us.take n:=by
    rw[AJ,ao];by_cases z:n<=us.length
    .rw[DN z]
    .rw[Fo (by omega),AN,A9 (by omega)]
   rw[e1]at run;have az:JnR Ls us n:=fun i hi bz S2 r2=>by
    rcases DG (ys.take n).length i with z|z
    .have e2:us.take i=us.take (ys.take n).length:=by
      rw[AJ,ao]at z ⊢;rw[A9 (show us.length<=i by omega),A9 (show us.length<=min n us.length by omega)]
     rw[e2]at r2;exact jr _ (Aj _) _ _ r2
    .exact jr i z _ _ r2
   have a0:=eb.h;refine⟨_,rfl,_,rfl,zZ2,fun t2 bc=>?_⟩;have ak:=aJ (o:=.tup [V.ref W,.ref L]) bc;exact k t2 W L B os jd zs S' _ run (Y.same ak) az (ah W (by simp)) (ah B.ho (by simp)) (by rw[AJ]at a0;omega) (S4.trans ak) fL aA (ak _ _ G)
structure RSB(K:Ah)(H:Hp)(p c:Af)(ns:List Int)(W:Af)(B:WA)(sc:Int)(os:List UK)(own:UK->Str)(S:Ex)(fl lp:Af)(ps:List Str):Prop where
 ce:(Rd H c (.lst (ns.map V.int))/\c≠fl)\/∀ H',SqL K H' c (ns.map V.int)
 sm:ns.length<=63
 wl:dD H W B sc os own S
 ep:H lp=some (.lst (ps.map V.str))
 np:Nms ps
 p1:1<=ps.length
 p3:ps.length<=300
 pw:p∉[W,B.me,B.ho,B.ic]
 fo:fl≠B.o
 fp:fl≠lp
 pk:∃ ip,H p=some (.dK ip)
 fk:∃ xs,H fl=some (.lst xs)
structure Cur(H0 H:Hp)(p c:Af)(a:Int)(fl:Af)(fr:List Str):Prop where
 kx:cY [p,fl] H0 H
 ob:∃ l,0<=l/\H p=some (.dK (f8 c a l))
 ge:0<=a
 ef:H fl=some (.lst (fr.map V.str))
section
variable{H0:Hp}{p c:Af}{ns:List Int}{a a':Int}{W:Af}{B:WA}{sc:Int}{os:List UK}{own:UK->Str}{S:Ex}{fl lp:Af}{fr:List Str}{ps:List Str}
theorem Cur.keep(b:RSB K H0 p c ns W B sc os own S fl lp ps)(h:Cur H0 H p c a fl fr){q:Af}{o:HO}(e:H0 q=some o)(n1:q≠p)(F:q≠fl):H q=some o:=h.kx q o (by simp[n1,F]) e
theorem Cur.rd(b:RSB K H0 p c ns W B sc os own S fl lp ps)(h:Cur H0 H p c a fl fr):(Rd H c (.lst (ns.map V.int))/\c≠fl)\/∀ H',SqL K H' c (ns.map V.int):=by
 obtain⟨ip,hp⟩:=b.pk;rcases b.ce with⟨e|⟨o',e⟩,n⟩|e
 .exact .inl ⟨.inl (Cur.keep b h e (bS e hp (fun z=>nomatch z)) n),n⟩
 .exact .inl ⟨.inr ⟨o',Cur.keep b h e (bS e hp (fun z=>nomatch z)) n⟩,n⟩
 .exact .inr e
theorem Cur.pen(b:RSB K H0 p c ns W B sc os own S fl lp ps)(h:Cur H0 H p c a fl fr):c9 K H p c ns a:=
 ⟨h.ob,(h.rd b).elim (fun z=>.inl z.1) (fun z=>z H),h.ge,b.sm⟩
theorem Cur.tups(b:RSB K H0 p c ns W B sc os own S fl lp ps)(h:Cur H0 H p c a fl fr):fT H0 H:=fun q xs e=>by
 obtain⟨ip,hp⟩:=b.pk;obtain⟨ys,hf⟩:=b.fk;exact Cur.keep b h e (bS e hp (fun z=>nomatch z)) (bS e hf (fun z=>nomatch z))
theorem Cur.wl(b:RSB K H0 p c ns W B sc os own S fl lp ps)(h:Cur H0 H p c a fl fr):dD H W B sc os own S:=by
 have w:=b.wl;obtain⟨ip,hp⟩:=b.pk;obtain⟨ys,hf⟩:=b.fk;have F:=b.pw;simp only[An,AC,or_false,not_or]at F;obtain⟨n1,n2,n3,n4⟩:=F;obtain⟨qs,o1,o2⟩:=w.o;have G:∀{q:Af} {ip:List (Key×V)},H0 q=some (.dK ip)->p≠q->H q=some (.dK ip):=fun{q _} e n=>Cur.keep b h e n.symm (bS e hf (fun z=>nomatch z));exact⟨G w.d n1,⟨qs,Cur.keep b h o1 (bS o1 hp (fun z=>nomatch z)) b.fo.symm,UAt.on o2 (h.tups b)⟩,Cur.keep b h w.ow (bS w.ow hp (fun z=>nomatch z)) (bS w.ow hf (fun z=>nomatch z)),G w.me n2,G w.ho n3,G w.ic n4,w.nd,w.ol,w.s1,w.s2,w.pq,w.ne,w.hv,w.ks,w.hl,w.so,w.od,w.ofw⟩
theorem Cur.ep(b:RSB K H0 p c ns W B sc os own S fl lp ps)(h:Cur H0 H p c a fl fr):H lp=some (.lst (ps.map V.str)):=by
 obtain⟨ip,hp⟩:=b.pk;exact Cur.keep b h b.ep (bS b.ep hp (fun z=>nomatch z)) b.fp.symm
theorem Cur.draw(h:Cur H0 H p c a fl fr)(k:bA p H H')(G:c9 K H' p c ns a'):Cur H0 H' p c a' fl fr:=by
 obtain⟨l,_,e⟩:=h.ob;have F:fl≠p:=bS h.ef e (fun z=>nomatch z);exact⟨fun q o n e=>k q o (h.kx q o n e) (fun z=>n (by simp[z])),G.ob,G.ge,k _ _ h.ef F⟩
theorem Cur.same(h:Cur H0 H p c a fl fr)(s:b8 H H'):Cur H0 H' p c a fl fr:=by
 obtain⟨l,hl,e⟩:=h.ob;exact⟨fun q o n e=>s _ _ (h.kx q o n e),⟨l,hl,s _ _ e⟩,h.ge,s _ _ h.ef⟩
theorem Cur.upd(b:RSB K H0 p c ns W B sc os own S fl lp ps)(h:Cur H0 H p c a fl fr){L:Af}{o:HO}(n:H0 L=none):Cur H0 (L2.upd H L o) p c a fl fr:=by
 obtain⟨l,hl,e⟩:=h.ob;obtain⟨ip,hp⟩:=b.pk;obtain⟨ys,hf⟩:=b.fk;refine⟨fun q o F e=>?_,⟨l,hl,?_⟩,h.ge,?_⟩
 .rw[aG (aH e n)];exact h.kx q o F e
 .rw[aG (aH hp n)];exact e
 .rw[aG (aH hf n)];exact h.ef
theorem Cur.setF(h:Cur H0 H p c a fl fr)(ji:List Str):Cur H0 (L2.upd H fl (.lst (ji.map V.str))) p c a fl ji:=by
 obtain⟨l,hl,e⟩:=h.ob;have F:fl≠p:=bS h.ef e (fun z=>nomatch z);refine⟨fun q o G e=>?_,⟨l,hl,?_⟩,h.ge,aA⟩
 .rw[aG (fun z=>G (by simp[z]))];exact h.kx q o G e
 .rw[aG F.symm];exact e
theorem Cur.back(b:RSB K H0 p c ns W B sc os own S fl lp ps)(h:Cur H0 H p c a fl fr){L:Af}(n:H L=none):H0 L=none:=by
 obtain⟨l,hl,e⟩:=h.ob;cases q:H0 L with
 | none=>rfl
 | some o=>
  rw[h.kx L o (by
   simp only[An,AC,or_false,not_or];refine⟨fun z=>?_,fun z=>?_⟩
   .rw[z,e]at n;cases n
   .rw[z,h.ef]at n;cases n) q]at n
  cases n
theorem Cur.lst(h:Cur H0 H p c a fl fr){L:Af}{xs:List V}(e:H L=some (.lst xs))(k:bA p H H'):H' L=some (.lst xs):=by
 obtain⟨l,hl,e2⟩:=h.ob;exact k _ _ e (bS e e2 (fun z=>nomatch z))
theorem Cur.tup(h:Cur H0 H p c a fl fr)(k:bA p H H'):fT H H':=fun q xs e=>by
 obtain⟨l,hl,e2⟩:=h.ob;exact k _ _ e (bS e e2 (fun z=>nomatch z))
end
theorem uW{hs:List (Key×V)}(h:oH hs)(nd:(hs.map (·.1)).Nodup):∃ ks:List Str,hs.map (·.1)=ks.map Ad/\(∀ z∈ks,(bG hs (Ad z)).isSome=true)/\ks.Nodup:=by
 have F:∀ k∈hs.map (·.1),∃ z:Str,k=Ad z:=fun k G=>by
  have:(bG hs k).isSome=true:=by
   rw[<- dW,BN];obtain⟨kv,h1,h2⟩:=AL.mp G;exact⟨kv,h1,Ir h2⟩
  obtain⟨v,hv⟩:=Bf.mp this;obtain⟨_,z,_,e⟩:=h k v hv;exact⟨z,e⟩
 have conv:∀ l:List Key,(∀ k∈l,∃ z:Str,k=Ad z)->∃ ks:List Str,l=ks.map Ad:=by
  intro l
  induction l with
  | nil=>intro _;exact⟨[],rfl⟩
  | cons k l J=>
   intro hl;obtain⟨z,rfl⟩:=hl k Ap;obtain⟨ks,rfl⟩:=J fun j O=>hl j (Ao _ O);exact⟨z::ks,rfl⟩
 obtain⟨ks,hks⟩:=conv _ F
 refine⟨ks,hks,fun z hz=>?_,?_⟩
 .rw[<- dW,mQ,hks,BN];exact⟨Ad z,Ba hz,Ir rfl⟩
 .rw[hks]at nd;exact E5 Ad (fun a b h e=>h (by rw[e])) nd
theorem aFK(k:Nat):(Bw k [V.int 1]).flatten=(Bw k (1:Int)).map V.int:=by
 induction k with
 | zero=>rfl
 | succ k F=>rw[CQ,Ds,F,CQ];rfl
structure yG(sc:Int)(ws:List Str)(word:Str)(ds:List Bc)(fr:List Str):Prop where
 rs:pL word ds
 sc:∀ name day,RSc sc ⟨word,name,day,ds⟩
 np:∀(land:Str) (R:List P3),word="part"->ds=[.str land,.tuple (R.map pD)]->∀ x∈R,x.1∉fr
 nj:∀(land:Str) (R:List Str),word="join"->ds=[.tuple (R.map BO),.str land]->land∉fr\/∃ z∈R,z∈fr
def uZ(S:Ex)(fr:List Str):Prop:=∀ z,aK S z=true->b9 z=true/\z∉fr
theorem aAO{l:List Str}{M:Nat}{y:Str}(h:l.length=M):(l.set (M-1) y).dropLast=l.dropLast:=by
 rw[FS,FS,CN,h,List.take_set_of_le (Aj _)]
theorem aFL{l:List Str}{M:Nat}{y:Str}(h:l.length=M)(h1:1<=M):l.set (M-1) y=l.dropLast++[y]:=by
 have e:(l.set (M-1) y).dropLast++[y]=l.set (M-1) y:=by
  have F:l.set (M-1) y≠[]:=fun e=>by
   have:=congrArg Ct e;rw[CN,h]at this;simp at this;omega
  have G:(l.set (M-1) y).getLast F=y:=by
   rw[List.getLast_eq_getElem];simp[h]
  have:=Ep F;rw[G]at this;exact this
 rw[<- e,aAO h]
theorem yH{l:List Str}(F:l≠[]):atI (l.map V.str) (-1)=some (.str (l.getLast F)):=by
 have e:l.map V.str=l.dropLast.map V.str++[V.str (l.getLast F)]:=by
  have:=congrArg (List.map V.str) (Ep F);rw[Ar]at this;exact this.symm
 rw[e];exact hJ _ _
theorem aCR{sc:Int}:∀{l:List Int},(∀ y∈l,sc ∣ y)->sc ∣ l.sum
 | [],_=>⟨0,by simp⟩
 | x::r,h=>by
  rw[CD];exact Int.dvd_add (h x (by simp)) (aCR fun y F=>h y (by simp[F]))
theorem _root_.List.Perm.sum_int{l m:List Int}(h:l.Perm m):l.sum=m.sum:=by
 induction h with
 | nil=>rfl
 | cons x _ F=>rw[CD,CD,F]
 | swap x y l=>simp only[CD];omega
 | trans _ _ h1 h2=>rw[h1,h2]
theorem aAP{H:Hp}:∀{rs:List Af}{R:List P3},BI (aDy H) rs R->(∀ x∈R,b9 x.1=true/\b9 x.2.1=true)->cF false H (rs.map V.ref) (R.map pD)
 | _,_,.nil,_=>.nil
 | _,_,.cons (b:=x) h t,hn=>.cons (.tup h (by show 3<=_;decide) (.cons (pM (hn x (by simp)).1) (.cons (pM (hn x (by simp)).2) (.cons (.int _) .nil)))) (aAP t fun y F=>hn y (by simp[F]))
inductive wP(K:Ah)(vs:List V)(H:Hp)(Q:VK)(u3_:XK):Prop
 | mk (p c:Af) (ns:List Int) (W:Af) (B:WA) (sc:Int) (os:List UK) (own:UK->Str) (S:Ex) (fl lp:Af) (ps fr:List Str) (a:Int) (q0:vs=[.ref p,.ref W,.ref fl,.ref lp]) (q1:RSB K H p c ns W B sc os own S fl lp ps) (q2:Cur H H p c a fl fr) (q3:a<=800000) (q4:Nms fr) (q5:8<=fr.length) (q6:fr.length<=300) (q7:uZ S fr) (q8:1<=S.hs.length) (q9:∀(t:Af) (cE:List V) (ds:List Bc) (a':Int) (ji:List Str) (H':Hp),Cur H H' p c a' fl ji->a<=a'->a'<=a+200->(∀ z∈ji,z∈fr)->ji.Nodup->fr.length<=ji.length+7->H' t=some (.tup cE)->cF false H' cE ds->(∀ ws,yG sc ws "part" ds ji)->Q (.ref t) H'):wP K vs H Q u3_
def aCS(K:Ah):Sp:=fun vs H Q u3_=>wP K vs H Q u3_
theorem aCT:cB ["_law_pen_here","_law_world_here","_law_fresh","_law_pool","_law_stand","_law_land","_law_size","_law_many","_law_sizes","_law_k","_law_at","_law_names_here","_law_way","_law_acres","_law_parts"] ["_law_pen_here","_law_world_here","_law_fresh","_law_pool"] (aQ v8):=⟨rfl,rfl,rfl,by decide,rfl,by decide,by decide⟩
theorem tl{A B:TS}{σ:St}{H:Hp}{E:L2.Ends}(h:∀ R,R=B->aHN A R E σ H):aHN A B E σ H:=h B rfl
theorem aFM{f:Af}{fd:Be}(F:Fun K "_law_part" "_law_part" v8 f fd)(au:mg "len"=none)(cv:mg "sorted"=none)(eL:mg "min"=none)(eX:mg "max"=none)(br:mg "range"=none)(bL:mg "set"=none)(ek:mg "tuple"=none)
  (GD:Cl P w K mg base 1 "_law_draw" ["_law_pen_here","_law_many"] (lY K))
  (GU:Cl P w K mg base 1 "_law_units" ["_law_world_here","_law_land"] pR)
  :cW P w K mg base CX0 2 f fd ["_law_pen_here","_law_world_here","_law_fresh","_law_pool"] (aCS K):=by
 refine F.ok aCT (fun vs H Q E h=>?_) (fun hS A outer s H vs Q E hr h=>?_)
 .obtain⟨p,c,ns,W,B,sc,os,own,S,fl,lp,ps,fr,a,rfl,_⟩:=h;rfl
 .obtain⟨p,c,ns,W,B,sc,os,own,S,fl,lp,ps,fr,a,rfl,rb,cu,ha,hfr,hf8,hf3,hso,hh1,k⟩:=h;have hu:=fS hr;have az:dC 1 _:=hr.mono (by decide);have nd:=aCT.nd;refine⟨_,(aB (aR (i:=4) nd rfl (Az rfl) (aX (iO rfl) (by rfl) cv (by kernel_rfl) (aF (bQ hu (pv 1) aO Iv) aE)))
   (aB (aR (i:=5) nd rfl (Az rfl) (aW bX (pv 4) (cK GD az (aF (pv 0) (aF (aX bH (by rfl) au A1 (aF (pv 4) aE)) aE))) Iv))
   (aB (aR (i:=6) nd rfl (Az rfl) (aX bH (by rfl) au A1 (aF (cK GU az (aF (pv 1) (aF (pv 5) aE))) aE)))
   (aB (aR (i:=7) nd rfl (Az rfl) (aY cQ aD (cK GD az (aF (pv 0) (aF (aX (mX rfl) (by rfl) eL (by kernel_rfl) (aF aD (aF (aX (vM rfl) (by rfl) eX (by kernel_rfl) (aF aD (aF (aY kK (pv 6) aD) aE))) aE))) aE)))))
   (aB (aR (i:=8) nd rfl (Az rfl) (aY aH0 (dA (aF aD aE)) (pv 7)))
   (aB (dY Bj rfl (eB rfl br (aF (aY kK (pv 6) (pv 7)) aE)) (g:=aS 9) (aV (i:=9) nd rfl (Az rfl))
   (aB (aR (i:=10) nd rfl (Az rfl) (cK GD az (aF (pv 0) (aF (pv 7) aE))))
    (aM (iR (aY cQ (aW bX (pv 8) (pv 10) Iv) aD) (nS (pv 8) (pv 10) iU)))))
   (aB (aR (i:=11) nd rfl (DT rfl) (dF (N:=["_law_k","_law_fresh"]) (src:=[none,some 2]) (osc:=aQ v8) (oN:=["_law_pen_here","_law_world_here","_law_fresh","_law_pool","_law_stand","_law_land","_law_size","_law_many","_law_sizes","_law_k","_law_at","_law_names_here","_law_way","_law_acres","_law_parts"]) ⟨by rfl,by decide,by decide,by decide,rfl,by rfl⟩ (eB rfl br (aF (pv 7) aE)) (fun cl s H fp im C=>⟨aV (i:=0) (show(["_law_k","_law_fresh"]:List Str).Nodup by decide) rfl (Az rfl),dE,aGx (K:=K) Bd DX DW aEj (pv 1)⟩)))
   (aB (aR (i:=12) nd rfl (Az rfl) (cK GD az (aF (pv 0) (aF aD aE))))
   (aB (eQ (cD (aZ qQ (pv 12) aD (bJ _)) (aM (iR (pv 5) (nS (pv 11) aD iU))) bF))
   (aB (eQ (cD (tP (PW.pt (aDS (aZ cV (pv 12) aD (bJ _)) (aAX (aZ cV (pv 12) aD (bJ _)))))) (aM (iR (aW bX (pv 4) (cK GD az (aF (pv 0) (aF (aX bH (by rfl) au A1 (aF (pv 4) aE)) aE))) Iv) (nS (pv 11) (jA gL aD) iU))) bF))
   (aB (eQ (cD (aZ qQ (aX v7 (by rfl) au A1 (aF (c8 (v6 rfl) (by rfl) bL (by kernel_rfl) (aF (pv 11) aE)) aE)) (pv 7) (bJ _)) (aM (iR (aBd Bd DX DW aEj (pv 2)) (nS (pv 11) (jA gL aD) iU))) bF))
   (aB (aR (i:=13) nd rfl (DT rfl) (dF (N:=["_law_one","_law_world_here"]) (src:=[none,some 1]) (osc:=aQ v8) (oN:=["_law_pen_here","_law_world_here","_law_fresh","_law_pool","_law_stand","_law_land","_law_size","_law_many","_law_sizes","_law_k","_law_at","_law_names_here","_law_way","_law_acres","_law_parts"]) ⟨by rfl,by decide,by decide,by decide,rfl,by rfl⟩ (g8 (pv 8)) (fun cl s H fp im C=>⟨aV (i:=0) (show(["_law_one","_law_world_here"]:List Str).Nodup by decide) rfl (Az rfl),dE,aY dZ (pv 0) (bQ hu (pv 1) aO Iv)⟩)))
   (aB (eQ (cD (aZ cV (pv 12) aD (bJ _)) (aM (iR (aY cQ (aW bX (pv 13) aD Iv) aD) (nS (pv 13) aD iU))) bF))
   (aB (eQ (cD (aZ cV (pv 12) aD (bJ _)) (aM (aR (i:=5) nd rfl (Az rfl) (aW bX (pv 2) (jA gL aD) Iv))) bF))
   (aB (iW (i:=14) (N:=["_law_k","_law_pen_here","_law_pool","_law_names_here","_law_acres"]) (src:=[none,some 0,some 3,some 11,some 13]) (osc:=aQ v8) (oN:=["_law_pen_here","_law_world_here","_law_fresh","_law_pool","_law_stand","_law_land","_law_size","_law_many","_law_sizes","_law_k","_law_at","_law_names_here","_law_way","_law_acres","_law_parts"]) ⟨by rfl,by decide,by decide,by decide,rfl,by rfl⟩ nd rfl (eB rfl br (aF (pv 7) aE)) (fun cl s H fp im C=>⟨aV (i:=0) (show(["_law_k","_law_pen_here","_law_pool","_law_names_here","_law_acres"]:List Str).Nodup by decide) rfl (Az rfl),dE,cO (aF (aW (r:=aEc K) bX (pv 3) (pv 0) Iv) (aF (aW (r:=aEc K) bX (pv 2) (cK GD az (aF (pv 1) (aF (aX (r:=lT K) bH (by rfl) au A1 (aF (pv 2) aE)) aE))) Iv) (aF (aW (r:=aEc K) bX (pv 4) (pv 0) Iv) aE)))⟩))
   (aM (bT (cO (aF (pv 5) (aF (c8 dR (by rfl) ek (by kernel_rfl) (aF (aX vH (by rfl) cv (by kernel_rfl) (aF (pv 14) aE)) aE)) aE)))))))))))))))))))),?_⟩
  refine tl fun R hR=>?_;obtain⟨ks,hks,bW,hkn⟩:=uW rb.wl.hv rb.wl.ks;have gg:ks.length=S.hs.length:=by
   have:=congrArg Ct hks;rw[Aa,Aa]at this;exact this.symm
  have hX:=rb.wl.hl;refine⟨_,rfl,W,_,rfl,(cu.wl rb).get (jN _ _),B.ho,S.hs,ks,rfl,(cu.wl rb).ho,hks,fun LS ms eP pm=>?_⟩;have sS:=aJ (o:=.lst (ms.map V.str)) eP;have bR:=cu.same sS;have eS:upd H LS (.lst (ms.map V.str)) LS=some (.lst (ms.map V.str)):=aA;have eF:=cu.back rb eP;generalize upd H LS _=HS at bR eS ⊢;have h9:ms.length=S.hs.length:=by rw[pm.length_eq,gg]
  have eM:∀ z∈ms,aK S z=true:=fun z hz=>bW z (pm.mem_iff.mp hz);dsimp only[aS];subst hR;refine tl fun R hR=>?_;refine⟨_,rfl,_,rfl,_,rfl,LS,_,rfl,.inl (aU eS),p,c,ns,_,_,rfl,bR.pen rb,by omega,by rw[Aa];omega,gR (by rw[Aa];omega),fun r1 a1 H1 fu ea l1 u1 f4 q1=>?_⟩;have eC:=bR.draw q1 f4;have e0:=bR.lst eS q1;obtain⟨land,hland,hat1⟩:=fY fu ea;refine⟨LS,_,_,_,rfl,rfl,aU e0,hat1,?_⟩;have gt:=eM land hland;obtain⟨hlnm,hlfr⟩:=hso land gt;dsimp only[aS];subst hR;refine tl fun R hR=>?_;refine⟨_,rfl,_,rfl,W,B,sc,os,own,land,rfl,(eC.wl rb).u,fun LU rs H2 hD S2 eT hU=>?_⟩;have dj:=eC.same S2;have gv:=S2 _ _ e0;have gj:=hU.length;have fR:rs.length<=80:=by
   rw[gj];exact Ay (BE _ _) rb.wl.ol
  refine⟨LU,_,rfl,.inl (aU eT),?_⟩;rw[Aa];generalize rs.length=z at fR ⊢;dsimp only[aS];subst hR;refine tl fun R hR=>?_;refine⟨_,rfl,_,rfl,_,_,rfl,rfl,_,_,rfl,_,_,rfl,p,c,ns,_,_,rfl,dj.pen rb,by omega,by split<;>split<;>omega,gR (by split<;>split<;>omega),fun r3 a3 H3 hI et l3 u3 gb q3=>?_⟩;have gK:r3<5:=by
   split at et<;>split at et<;>omega
  have e3:=dj.draw q3 gb;have eu:=dj.lst gv q3;refine⟨_,_,rfl,rfl,?_⟩;obtain⟨M,hM⟩:∃ M:Nat,2+r3=M:=⟨(2+r3).toNat,by omega⟩
  rw[show V.int (2+r3)=V.int (M:Int) from congrArg V.int hM];have hf:2<=M:=by omega
  have h5:M<=6:=by omega
  dsimp only[aS];subst hR;refine tl fun R hR=>?_;refine⟨zZ1,fun q hq=>⟨_,rfl,q,_,_,rfl,rfl,aA,by omega,by omega,aP (by show 1*_<=1000000;omega),fun LZ db=>?_⟩⟩;have sZ:=(aJ (o:=.lst [V.int 1]) hq).trans (aJ (o:=.lst (Bw (M:Int).toNat [V.int 1]).flatten) db);have eg:=e3.same sZ;have e6:=sZ _ _ eu;have fZ:H LZ=none:=e3.back rb (eG (aJ (o:=.lst [V.int 1]) hq) db);have e7:upd (upd H3 q (.lst [V.int 1])) LZ (.lst (Bw (M:Int).toNat [V.int 1]).flatten) LZ=some (.lst ((Bw M (1:Int)).map V.int)):=by rw[aA,Cb,aFK]
  generalize upd (upd H3 q (.lst [V.int 1])) LZ _=H4 at sZ eg e6 e7 ⊢;dsimp only[aS];subst hR;refine tl fun R hR=>?_;have gh:LS≠LZ:=aH eu (eG (aJ (o:=.lst [V.int 1]) hq) db);refine⟨_,rfl,_,rfl,_,_,rfl,rfl,_,rfl,by omega,by omega,?_⟩;have g2:((z:Int)-(M:Int)).toNat<=78:=by omega
  refine mU (n:=((z:Int)-(M:Int)).toNat) (fun i σ H'=>Ex3 fun(o9 ar:Option V) (a':Int)=>∃(zs:List Int),Aw6 (σ=[some (.ref p),some (.ref W),some (.ref fl),some (.ref lp),some (.ref LS),some (.str land),some (.int z),some (.int M),some (.ref LZ),o9,ar,none,none,none,none]) (Cur H H' p c a' fl fr) (a3<=a') (a'<=a3+i) (H' LS=some (.lst (ms.map V.str))) (Aw3 (H' LZ=some (.lst (zs.map V.int))) (zs.length=M) (∀ x∈zs,1<=x/\x<=1+i))) ⟨none,none,a3,Bw M 1,rfl,eg,by omega,by omega,e6,e7,by simp,fun x J=>by rw[(List.mem_replicate.mp J).2];omega⟩ ?_ ?_
  .rintro i σ H5 hi ⟨o9,ar,a5,zs,rfl,aT,l5,u5,b7,b1,df,bN⟩;dsimp only[aS];refine⟨_,rfl,_,rfl,p,c,ns,_,_,rfl,aT.pen rb,by omega,by omega,gR (by omega),fun r6 a6 H6 hk h0 l6 u6 fM q6=>?_⟩;have ai:=aT.draw q6 fM;have aL:=aT.lst b7 q6;have ax:=aT.lst b1 q6;obtain⟨j,rfl⟩:∃ j:Nat,r6=j:=⟨r6.toNat,by omega⟩
   have hj:j<zs.length:=by omega
   have dg:atI (zs.map V.int) (j:Int)=some (.int zs[j]):=fU (by rw[Au,Ai hj];rfl);have gi:ixN (zs.map V.int).length (j:Int)=some j:=by
    unfold ixN;rw[Iq (by omega),Iq (by rw[Aa];omega)];rfl
   dsimp only[aS];refine⟨_,rfl,_,rfl,LZ,_,_,_,rfl,rfl,aU ax,dg,_,_,rfl,rfl,_,rfl,_,rfl,LZ,_,_,j,rfl,rfl,ax,gi,?_⟩;have es:(zs.map V.int).set j (.int (zs[j]+1))=(zs.set j (zs[j]+1)).map V.int:=by rw[GV]
   rw[es];refine⟨_,_,a6,zs.set j (zs[j]+1),rfl,ai.upd rb fZ,by omega,by omega,by rw[aG gh];exact aL,aA,by rw[CN];exact df,fun x J=>?_⟩;rcases DI J with h|h
   .have:=bN x h;omega
   .have:=bN zs[j] (Bk hj);omega
  .rintro σ H5 ⟨o9,ar,a5,zs,rfl,aT,l5,u5,b7,b1,df,bN⟩;have dy:∀ x∈zs,1<=x/\x<=79:=fun x J=>by
    have:=bN x J;omega
   clear bN;have bi:(fr.reverse.take M).length=M:=by rw[AJ,List.length_reverse];omega
   subst hR;refine⟨_,rfl,_,rfl,by omega,by omega,?_⟩;refine gU (fun i ys σ' H'=>∃(o:Option V),Aw3 (σ'=[o,some (.ref fl)]) (Cur H H' p c a5 fl (fr.take (fr.length-i))) (Aw3 (H' LS=some (.lst (ms.map V.str))) (H' LZ=some (.lst (zs.map V.int))) (ys=(fr.reverse.take i).map V.str)))
    ⟨none,rfl,by rw[Dk,AN];exact aT,b7,b1,rfl⟩ (aP (by omega)) (fun i ys σ H p=>by obtain⟨_,_,_,_,_,rfl⟩:=p;rw[Aa,AJ];omega) ?_ ?_
   .rintro i ys σ' H6 hi ⟨o,rfl,ai,aL,ax,rfl⟩;have hA:i<6:=by omega
    dsimp only[aS];refine gI ?_;have ew:fr.length-i-1<fr.length:=by omega
    have hy:((fr.take (fr.length-i)).map V.str)[((fr.take (fr.length-i)).map V.str).length-1]?=some (.str fr[fr.length-i-1]):=by
     rw[Aa,AJ,DN (by omega),Au,BP,Iq (by omega),Ai ew];rfl
    refine⟨_,rfl,.inl ⟨rfl,_,aU ai.ef⟩,fl,_,_,rfl,rfl,ai.ef,hy,?_⟩;have ed:((fr.take (fr.length-i)).map V.str).dropLast=(fr.take (fr.length-(i+1))).map V.str:=by
     rw[<- List.map_dropLast,FS,AJ,List.take_take,DN (by omega:fr.length-i<=fr.length)];congr 2;omega
    rw[ed];have fx:LS≠fl:=fun e=>by rw[e,cu.ef]at eF;cases eF
    have di:LZ≠fl:=fun e=>by rw[e,cu.ef]at fZ;cases fZ
    refine⟨_,rfl,ai.setF _,by rw[aG fx];exact aL,by rw[aG di];exact ax,?_⟩;rw[AA,Ar];congr 1;rw[List.getElem?_reverse (by omega),show fr.length-1-i=fr.length-i-1 by omega,Ai ew];rfl
   rintro ys σ' H6 ⟨o,rfl,ai,aL,ax,rfl⟩ LN b4;rw[Cb]at ai ⊢;have bw:=ai.back rb b4;have sN:=aJ (o:=.lst ((fr.reverse.take M).map V.str)) b4;have fE:LS≠LN:=aH aL b4;have da:LZ≠LN:=aH ax b4;have aq:=ai.same sN;have dh:=sN _ _ aL;have c4:=sN _ _ ax;have b6:upd H6 LN (.lst ((fr.reverse.take M).map V.str)) LN=some (.lst ((fr.reverse.take M).map V.str)):=aA;generalize upd H6 LN _=H7 at aq dh c4 b6 ⊢;have bY:fr.reverse.take M=(fr.drop (fr.length-M)).reverse:=List.take_reverse;have dd:fr.take (fr.length-M)++fr.drop (fr.length-M)=fr:=BQ _ _;have bI:(fr.take (fr.length-M)++fr.drop (fr.length-M)).Nodup:=by rw[dd];exact hfr.nd
   obtain⟨hndA,hndD,hdis⟩:=Bu.mp bI;have ay:∀ x∈fr.reverse.take M,b9 x=true/\x∈fr/\x∉fr.take (fr.length-M):=fun x J=>by
    rw[bY,List.mem_reverse]at J;have ff:=C5 J;exact⟨hfr.ok x ff,ff,fun h=>hdis x h x J rfl⟩
   have cf:(fr.reverse.take M).Nodup:=by rw[bY];exact(DZ _).nodup_iff.mpr hndD
   generalize fr.reverse.take M=nA at bi bY ay cf b6 ⊢;have bg:∀ x∈fr.take (fr.length-M),x∈fr:=fun x J=>BY J;have fI:(fr.take (fr.length-M)).length=fr.length-M:=by rw[AJ];omega
   generalize fr.take (fr.length-M)=O at aq hndA hdis ay bg fI dd bI;clear bY dd bI hdis;dsimp only[aS];refine⟨_,rfl,p,c,ns,_,_,rfl,aq.pen rb,by omega,by decide,by decide,fun r8 a8 H8 h8 ig l8 u8 f5 q8=>?_⟩;have dc:=aq.draw q8 f5;have c1:=aq.lst dh q8;have cL:=aq.lst c4 q8;have de:=aq.lst b6 q8;have fa:land∉O:=fun h=>hlfr (bg _ h);dsimp only[aS];have eH:∀{l:List Str},l.length=M->ixN (l.map V.str).length (-1)=some (M-1):=fun{l} e=>by
    unfold ixN;rw[Ip (by decide),Iq (by rw[Aa];omega),Aa,e];congr 1;omega
   have fe:∀{α:Type} {l:List α},l.length=M->ixN l.length 0=some 0:=fun{α l} e=>by
    unfold ixN;rw[Iq (by decide),Iq (by omega)];rfl
   refine⟨fun σ' H'=>∃(nm:List Str),σ'=[some (.ref p),some (.ref W),some (.ref fl),some (.ref lp),some (.ref LS),some (.str land),some (.int z),some (.int M),some (.ref LZ),o9,ar,some (.ref LN),some (.int r8),none,none]/\Cur H H' p c a8 fl O/\H' LS=some (.lst (ms.map V.str))/\H' LZ=some (.lst (zs.map V.int))/\H' LN=some (.lst (nm.map V.str))/\nm.length=M/\nm.Nodup/\∀ x∈nm,b9 x=true/\x∉O,?_,?_⟩
   .refine⟨_,rfl,_,_,rfl,rfl,_,rfl,dB (fun g=>?_) fun g=>?_⟩
    .refine⟨_,rfl,_,rfl,LN,_,_,0,rfl,rfl,de,fe (by rw[Aa];exact bi),?_⟩;rw[show(nA.map V.str).set 0 (.str land)=(nA.set 0 land).map V.str by rw[GV]];have bL:nA.set 0 land=land::nA.tail:=by
      cases nA with
      | nil=>simp at bi;omega
      | cons x r=>rfl
     refine⟨nA.set 0 land,rfl,dc.upd rb bw,by rw[aG fE];exact c1,by rw[aG da];exact cL,aA,by rw[CN];exact bi,?_,fun x J=>?_⟩
     .rw[bL];exact A5.mpr ⟨fun h=>hlfr (ay _ (List.mem_of_mem_tail h)).2.1,DB (List.tail_sublist _) cf⟩
     .rcases DI J with h|h
      .exact⟨(ay x h).1,(ay x h).2.2⟩
      .rw[h];exact⟨hlnm,fa⟩
    .exact⟨nA,rfl,dc,c1,cL,de,bi,cf,fun x J=>⟨(ay x J).1,(ay x J).2.2⟩⟩
   rintro σ' H9 ⟨nm,rfl,aI,dq,dm,c2,ap,bv,bp⟩;clear c1 cL de dh c4 b6 aq dc bi cf ay aL ax ai b7 b1 aT;refine⟨fun σ' H'=>∃(nm:List Str) (a':Int),σ'=[some (.ref p),some (.ref W),some (.ref fl),some (.ref lp),some (.ref LS),some (.str land),some (.int z),some (.int M),some (.ref LZ),o9,ar,some (.ref LN),some (.int r8),none,none]/\Cur H H' p c a' fl O/\a8<=a'/\a'<=a8+2/\H' LZ=some (.lst (zs.map V.int))/\H' LN=some (.lst (nm.map V.str))/\nm.length=M/\nm.dropLast.Nodup/\∀ x∈nm,b9 x=true/\x∉O,?_,?_⟩
   .refine⟨fun b G=>G=H9,?_,?_⟩
    .exact⟨_,rfl,rfl,_,rfl,dB (fun _=>rfl) fun _=>⟨_,rfl,rfl,_,rfl,rfl⟩⟩
    rintro b G rfl;refine dB (fun g=>?_) fun g=>?_
    .refine⟨_,rfl,_,rfl,_,rfl,LS,_,rfl,.inl (aU dq),p,c,ns,_,_,rfl,aI.pen rb,by omega,by rw[Aa];omega,gR (by rw[Aa];omega),fun ea fK g5 eb fb hF hK eA b3=>?_⟩;have ev:=aI.draw b3 eA;have d3:=aI.lst dq b3;have dw:=aI.lst dm b3;have d5:=aI.lst c2 b3;obtain⟨y,hy,haty⟩:=fY eb fb;obtain⟨hynm,hyfr⟩:=hso y (eM y hy);refine⟨LS,_,_,_,rfl,rfl,aU d3,haty,_,rfl,_,rfl,LN,_,_,M-1,rfl,rfl,d5,eH ap,?_⟩;rw[show(nm.map V.str).set (M-1) (.str y)=(nm.set (M-1) y).map V.str by rw[GV]];refine⟨nm.set (M-1) y,fK,rfl,ev.upd rb bw,by omega,by omega,by rw[aG da];exact dw,aA,by rw[CN];exact ap,?_,fun x J=>?_⟩
     .rw[aAO ap];exact DB (List.dropLast_sublist _) bv
     .rcases DI J with h|h
      .exact bp x h
      .rw[h];exact⟨hynm,fun h=>hyfr (bg _ h)⟩
    .exact⟨nm,a8,rfl,aI,by omega,by omega,dm,c2,ap,DB (List.dropLast_sublist _) bv,bp⟩
   rintro σ' el ⟨Y,bh,rfl,ck,he,h7,cs,bo,ah,bE,ag⟩;clear dq dm c2 aI ap bv bp;refine⟨fun σ' H'=>∃(nm:List Str) (fB:List Str),σ'=[some (.ref p),some (.ref W),some (.ref fl),some (.ref lp),some (.ref LS),some (.str land),some (.int z),some (.int M),some (.ref LZ),o9,ar,some (.ref LN),some (.int r8),none,none]/\Cur H H' p c bh fl fB/\(∀ x∈fB,x∈O)/\fB.Nodup/\O.length<=fB.length+1/\H' LZ=some (.lst (zs.map V.int))/\H' LN=some (.lst (nm.map V.str))/\nm.length=M/\nm.Nodup/\∀ x∈nm,b9 x=true/\x∉fB,?_,?_⟩
   .refine⟨_,rfl,LN,Y,rfl,aU bo,by omega,fun u ej=>?_⟩;have su:=aJ (o:=zJ P w u Y) ej;have bc:=ck.same su;have cr:=su _ _ cs;have cz:=su _ _ bo;refine⟨u,Y,rfl,aA,by omega,_,rfl,_,_,rfl,rfl,_,rfl,dB (fun g=>?_) fun g=>?_⟩
    .have ca:O.length-1<O.length:=by omega
     have hy:(O.map V.str)[(O.map V.str).length-1]?=some (.str O[O.length-1]):=by
      rw[Aa,Au,Ai ca];rfl
     refine⟨_,rfl,.inl ⟨rfl,_,aU bc.ef⟩,fl,_,_,rfl,rfl,bc.ef,hy,?_⟩;rw[<- List.map_dropLast];have em:=bc.setF O.dropLast;have gp:LN≠fl:=fun e=>by rw[e,cu.ef]at bw;cases bw
     have di:LZ≠fl:=fun e=>by rw[e,cu.ef]at fZ;cases fZ
     have fc:upd (upd el u (zJ P w u Y)) fl (.lst (O.dropLast.map V.str)) LN=some (.lst (Y.map V.str)):=by rw[aG gp];exact cz
     have ez:upd (upd el u (zJ P w u Y)) fl (.lst (O.dropLast.map V.str)) LZ=some (.lst (zs.map V.int)):=by rw[aG di];exact cr
     refine⟨_,rfl,_,rfl,LN,_,_,M-1,rfl,rfl,fc,eH ah,?_⟩;have cw:O.dropLast++[O[O.length-1]]=O:=by
      have bt:O≠[]:=fun e=>by rw[e]at ca;simp at ca
      rw[<- List.getLast_eq_getElem bt];exact Ep bt
     have ci:(O.dropLast++[O[O.length-1]]).Nodup:=by rw[cw];exact hndA
     obtain⟨hd1,_,hd3⟩:=Bu.mp ci;have bq:O[O.length-1]∈O:=Bk ca;generalize O[O.length-1]=f0 at cw ci hd3 bq;rw[show(Y.map V.str).set (M-1) (.str f0)=(Y.set (M-1) f0).map V.str by rw[GV]];have cm:∀ x∈O.dropLast,x∈O:=fun x J=>List.dropLast_subset _ J;refine⟨Y.set (M-1) f0,O.dropLast,rfl,em.upd rb bw,cm,hd1,by rw[List.length_dropLast];omega,by rw[aG da];exact ez,aA,by rw[CN];exact ah,?_,fun x J=>?_⟩
     .rw[aFL ah (by omega)];refine Bu.mpr ⟨bE,by simp,fun x J y hy e=>?_⟩;rw[AK.mp hy]at e;exact(ag x (List.dropLast_subset _ J)).2 (by rw[e];exact bq)
     .rcases DI J with h|h
      .exact⟨(ag x h).1,fun h'=>(ag x h).2 (cm _ h')⟩
      .rw[h];exact⟨hfr.ok _ (bg _ bq),fun h'=>hd3 f0 h' f0 (by simp) rfl⟩
    .refine⟨Y,O,rfl,bc,fun x J=>J,hndA,by omega,cr,cz,ah,?_,ag⟩;have ie:¬ (((hZ (fun i=>Y.getD i "") Y.length).length:Nat):Int)<(M:Int):=fun h=>g (Ir h);have hT:=oW (fun i=>Y.getD i "") Y.length;have:=aDo Y;rw[Ir (by omega)]at this;exact Iu this.symm
   rintro σ' gq ⟨Z,fB,rfl,ba,du,fC,eK,be,bz,fO,dr,bP⟩;clear cs bo ck ah bE ag;refine⟨_,rfl,LZ,rfl,⟨_,aU be⟩,?_⟩;have s1:=rb.wl.s1;have s2:=rb.wl.s2;refine m6 (K:=K) (xs:=zs.map V.int) (fun i ys σ' H'=>∃(o:Option V),σ'=[o,some (.ref W)]/\H'=gq/\ys=((zs.take i).map fun x=>x*sc).map V.int) ⟨none,rfl,rfl,rfl⟩ (aP (by rw[Aa];omega)) (fun i ys σ H p=>by obtain⟨_,_,_,rfl⟩:=p;rw[Aa,Aa,AJ];omega) (fun i ys σ H p=>by obtain⟨_,_,rfl,_⟩:=p;exact aU be) ?_ ?_
   .rintro i v ys σ' dl hv ⟨o,rfl,rfl,rfl⟩;rw[Au]at hv;obtain⟨x,J,rfl⟩:=AU.mp hv;dsimp only[aS];refine gI ?_;refine⟨_,rfl,_,rfl,W,_,rfl,(ba.wl rb).get (aAx _ _),_,_,rfl,rfl,.inr ⟨by omega,by omega⟩,_,rfl,rfl,?_⟩;rw[AA,J,Ar,Ar];rfl
   rintro ys σ' dl ⟨o,rfl,rfl,rfl⟩ LA b5;rw[Aa,AN];have gk:=ba.back rb b5;have hO:LZ≠LA:=aH be b5;have fq:LN≠LA:=aH bz b5;have sA:=aJ (o:=.lst ((zs.map fun x=>x*sc).map V.int)) b5;have bx:=ba.same sA;have bO:=sA _ _ bz;have bd:upd dl LA (.lst ((zs.map fun x=>x*sc).map V.int)) LA=some (.lst ((zs.map fun x=>x*sc).map V.int)):=aA;generalize upd dl LA _=hY at bx bO bd ⊢;have ao:∀ y∈zs.map (fun x=>x*sc),1<=y/\y<=9000000/\sc ∣ y:=fun y hy=>by
    obtain⟨x,J,rfl⟩:=AL.mp hy;have hb:=dy x J;have h1:1*sc<=x*sc:=BK hb.1 (by omega);have h2:x*sc<=79*sc:=BK hb.2 (by omega);exact⟨by omega,by omega,Int.dvd_mul_left _ _⟩
   have aj:(zs.map fun x=>x*sc).length=M:=by rw[Aa];exact df
   generalize zs.map (fun x=>x*sc)=as at ao aj bd;dsimp only[aS];refine⟨fun σ' H'=>∃(bs:List Int),σ'=[some (.ref p),some (.ref W),some (.ref fl),some (.ref lp),some (.ref LS),some (.str land),some (.int z),some (.int M),some (.ref LZ),o9,ar,some (.ref LN),some (.int r8),some (.ref LA),none]/\Cur H H' p c bh fl fB/\H' LN=some (.lst (Z.map V.str))/\H' LA=some (.lst (bs.map V.int))/\bs.length=M/\(∀ y∈bs,1<=y/\y<=10000000)/\((∀ y∈bs,sc ∣ y)\/¬ sc ∣ bs.sum),?_,?_⟩
   .refine⟨_,rfl,rfl,_,rfl,?_⟩;have av:=bx;have an:=bO;have al:=bd;refine dB (fun g=>?_) fun g=>?_
    .cases as with
     | nil=>simp at aj;omega
     | cons x r=>
     have f1:=ao x Ap;refine⟨_,rfl,LA,_,_,_,rfl,rfl,aU al,fU (j:=0) rfl,_,_,rfl,rfl,_,rfl,LA,_,_,0,rfl,rfl,al,fe (by rw[Aa];exact aj),(x+1)::r,rfl,av.upd rb gk,by rw[aG fq];exact an,aA,aj,fun y hy=>?_,?_⟩
     .rcases An.mp hy with rfl|hy
      .omega
      .have:=ao y (Ao _ hy);omega
     .by_cases e1:sc=1
      .exact .inl fun y _=>by rw[e1];exact Int.one_dvd _
      .refine .inr fun hd=>?_;rw[CD]at hd;have h1:sc ∣ r.sum:=aCR fun y hy=>(ao y (Ao _ hy)).2.2;have h2:sc ∣ x+r.sum:=Int.dvd_add f1.2.2 h1;have h3:sc ∣ 1:=by
        have:=Int.dvd_sub hd h2
        rwa [show x+1+r.sum-(x+r.sum)=1 by omega]at this
       have:=Int.le_of_dvd (by decide) h3;omega
    .exact⟨as,rfl,av,an,al,aj,fun y hy=>⟨(ao y hy).1,by have:=(ao y hy).2.1;omega⟩,.inl fun y hy=>(ao y hy).2.2⟩
   rintro σ' hE ⟨bs,rfl,av,an,al,hp,ei,gc⟩;clear bO bd bx ao aj be bz ba;refine⟨fun σ' H'=>∃(aa:Str),σ'=[some (.ref p),some (.ref W),some (.ref fl),some (.ref lp),some (.ref LS),some (.str aa),some (.int z),some (.int M),some (.ref LZ),o9,ar,some (.ref LN),some (.int r8),some (.ref LA),none]/\Cur H H' p c bh fl fB/\H' LN=some (.lst (Z.map V.str))/\H' LA=some (.lst (bs.map V.int))/\b9 aa=true,?_,?_⟩
   .refine⟨_,rfl,rfl,_,rfl,?_⟩;have aw:=av;have a0:=an;have bb:=al;refine dB (fun g=>?_) fun g=>?_
    .have bt:fB≠[]:=fun e=>by rw[e]at eK;simp at eK;omega
     have dg:=yH bt;exact⟨_,rfl,_,rfl,fl,_,_,_,rfl,rfl,aU aw.ef,dg,_,rfl,aw,a0,bb,hfr.ok _ (bg _ (du _ (Fk bt)))⟩
    .exact⟨land,rfl,aw,a0,bb,hlnm⟩
   rintro σ' hg ⟨aa,rfl,aw,a0,bb,en⟩;clear an al av;refine⟨_,rfl,_,rfl,by omega,by omega,?_⟩;refine gU (fun i ys σ' H'=>Ex3 fun(o:Option V) (a':Int) (rs:List Af)=>∃(T:List P3),Aw6 (σ'=[o,some (.ref p),some (.ref lp),some (.ref LN),some (.ref LA)]) (Cur H H' p c a' fl fB) (bh<=a') (a'<=bh+i) (H' LN=some (.lst (Z.map V.str))) (Aw6 (H' LA=some (.lst (bs.map V.int))) (ys=rs.map V.ref) (BI (aDy H') rs T) (T.length=i) (T.map (·.1)=Z.take i) ((T.map fun x=>x.2.2)=bs.take i/\∀ x∈T,b9 x.2.1=true)))
    ⟨none,bh,[],[],rfl,aw,by omega,by omega,a0,bb,rfl,.nil,rfl,rfl,rfl,fun x J=>by simp at J⟩ (aP (by omega)) (fun i ys σ H p=>by
     obtain⟨_,_,rs,T,_,_,_,_,_,_,rfl,pr,e,_⟩:=p;have:=pr.length;rw[Aa];omega) ?_ ?_
   .rintro i ys σ' dk hi ⟨o,d4,rs,T,rfl,ad,fz,dV,bD,cj,rfl,pr,cb,bj,aC,c0⟩;have bW:i<Z.length:=by omega
    have eR:i<bs.length:=by omega
    have eN:atI (Z.map V.str) (0+(i:Int))=some (.str Z[i]):=by
     rw[EE];exact fU (by rw[Au,Ai bW];rfl)
    have eJ:atI (bs.map V.int) (0+(i:Int))=some (.int bs[i]):=by
     rw[EE];exact fU (by rw[Au,Ai eR];rfl)
    have fj:=ad.ep rb;have gB:=rb.p1;have gy:=rb.p3;dsimp only[aS];refine gI ?_;refine⟨_,rfl,_,rfl,LN,_,_,_,rfl,rfl,aU bD,eN,_,rfl,_,rfl,_,rfl,lp,_,rfl,.inl (aU fj),p,c,ns,_,_,rfl,ad.pen rb,by omega,by rw[Aa];omega,gR (by rw[Aa];omega),fun hC gr d2 ee e4 g6 hN dz cc=>?_⟩;have cI:=ad.draw cc dz;have eE:=ad.lst bD cc;have cq:=ad.lst cj cc;obtain⟨hz,hhz,hatz⟩:=fY ee e4;refine⟨lp,_,_,_,rfl,rfl,aU (cI.ep rb),hatz,_,rfl,_,rfl,LA,_,_,_,rfl,rfl,aU cq,eJ,zZ3,fun u fv=>?_⟩;have su:=aJ (o:=.tup [V.str Z[i],.str hz,.int bs[i]]) fv;refine⟨_,gr,rs++[u],T++[(Z[i],hz,bs[i])],rfl,cI.same su,by omega,by omega,su _ _ eE,su _ _ cq,by rw[Ar];rfl,?_,by rw[Av,cb];rfl,?_,?_,fun x J=>?_⟩
    .exact Cg (R:=aDy (upd d2 u (.tup [V.str Z[i],.str hz,.int bs[i]]))) (a:=u) (b:=(Z[i],hz,bs[i])) (show upd d2 u (.tup [V.str Z[i],.str hz,.int bs[i]]) u=some (.tup [V.str Z[i],.str hz,.int bs[i]]) from aA) (Paired.mapP pr fun r x e=>su _ _ (ad.tup cc _ _ e))
    .rw[Ar,bj,AA,Ai bW];rfl
    .rw[Ar,aC,AA,Ai eR];rfl
    .rcases AO.mp J with J|J
     .exact c0 x J
     .rw[AK.mp J];exact rb.np.ok _ hhz
   rintro ys σ' dk ⟨o,d4,rs,T,rfl,ad,fz,dV,bD,cj,rfl,pr,cb,bj,aC,c0⟩ LP fw;rw[Cb]at cb bj aC dV;rw[A9 (by omega)]at bj aC;have sP:=aJ (o:=.lst (rs.map V.ref)) fw;have fy:BI (aDy (upd dk LP (.lst (rs.map V.ref)))) rs T:=Paired.mapP pr fun r x e=>sP _ _ e;refine⟨_,rfl,_,rfl,LP,rs,T,rfl,aA,fy,by omega,fun l bn R hl perm eh=>?_⟩;have sl:=aJ (o:=.lst (bn.map V.ref)) hl;refine⟨l,_,rfl,.inl ⟨aU aA,fun tp gl=>?_⟩⟩;have ec:=aJ (o:=.tup (bn.map V.ref)) gl;refine⟨zZ2,fun t ht=>?_⟩;have c3:=aJ (o:=.tup [V.str aa,.ref tp]) ht;have ey:=((sP.trans sl).trans ec).trans c3;have h6:R.length=M:=by rw[perm.length_eq,cb]
   have b2:∀ x∈R,b9 x.1=true/\b9 x.2.1=true/\1<=x.2.2/\x.2.2<=10000000/\x.1∉fB:=fun x J=>by
    have dn:=perm.mem_iff.mp J;have h1:x.1∈Z:=by rw[<- bj];exact Ba dn
    have h2:x.2.2∈bs:=by rw[<- aC];exact Ba (f:=fun x:P3=>x.2.2) dn
    exact⟨(bP _ h1).1,c0 x dn,(ei _ h2).1,(ei _ h2).2,(bP _ h1).2⟩
   have e5:(R.map pD).all uI=true:=by
    rw[A7];intro d hd;obtain⟨x,J,rfl⟩:=AL.mp hd;obtain⟨h1,h2,h3,h4,_⟩:=b2 x J;show(b9 x.1&&b9 x.2.1&&decide (1<=x.2.2/\x.2.2<=10000000))=true;rw[h1,h2,Ir ⟨h3,h4⟩];rfl
   have fN:cF false _ (bn.map V.ref) (R.map pD):=aAP (H:=upd (upd (upd (upd dk LP (.lst (rs.map V.ref))) l (.lst (bn.map V.ref))) tp (.tup (bn.map V.ref))) t (.tup [V.str aa,.ref tp])) (Paired.mapP eh fun r x e=>c3 _ _ (ec _ _ (sl _ _ e))) fun x J=>⟨(b2 x J).1,(b2 x J).2.1⟩
   have eq:(R.map fun x=>x.2.2).sum=bs.sum:=by
    rw[<- aC];exact(perm.map _).sum_int
   have hP:=eh.length;refine k t _ [.str aa,.tuple (R.map pD)] d4 fB _ (ad.same ey) (by omega) (by omega) (fun x J=>bg _ (du _ J)) fC (by omega) aA (.cons (pM en) (.cons (.tup (c3 _ _ aA) (by rw[Aa];omega) fN) .nil)) fun ws=>⟨.part en ((perm.map (·.1)).nodup_iff.mpr (by rw[bj];exact dr)) (by omega) (by omega) e5,fun name day bM R' _ e=>?_,fun bM R' _ e x J=>?_,fun bM R' e=>absurd e (by decide)⟩
   .injection e with e1 e2;injection e2 with e2;injection e2 with e2;have:=nC aBL e2;subst this;rcases gc with h|h
    .refine .inl fun x J=>h _ ?_;rw[<- aC];exact Ba (f:=fun x:P3=>x.2.2) (perm.mem_iff.mp J)
    .refine .inr ?_;rw[eq];exact h
   .injection e with e1 e2;injection e2 with e2;injection e2 with e2;have:=nC aBL e2;subst this;exact(b2 x J).2.2.2.2
theorem wQ:∀(l:List Str) (j:Nat),(l.map V.str).eraseIdx j=(l.eraseIdx j).map V.str
 | [],_=>rfl
 | x::r,0=>rfl
 | x::r,j+1=>by
  show V.str x::(r.map V.str).eraseIdx j=V.str x::(r.eraseIdx j).map V.str;rw[wQ r j]
inductive wR(K:Ah)(vs:List V)(H:Hp)(Q:VK)(u3_:XK):Prop
 | mk (p c:Af) (ns:List Int) (W:Af) (B:WA) (sc:Int) (os:List UK) (own:UK->Str) (S:Ex) (fl lp:Af) (ps fr:List Str) (a:Int) (q0:vs=[.ref p,.ref W,.ref fl]) (q1:RSB K H p c ns W B sc os own S fl lp ps) (q2:Cur H H p c a fl fr) (q3:a<=800000) (q4:Nms fr) (q5:8<=fr.length) (q6:fr.length<=300) (q7:uZ S fr) (q8:1<=S.hs.length) (q9:S.hs.length<=300) (q10:∀(t:Af) (cE:List V) (ds:List Bc) (a':Int) (ji:List Str) (H':Hp),Cur H H' p c a' fl ji->a<=a'->a'<=a+400->(∀ z∈ji,z∈fr)->ji.Nodup->fr.length<=ji.length+7->H' t=some (.tup cE)->cF false H' cE ds->(∀ ws,yG sc ws "join" ds ji)->Q (.ref t) H'):wR K vs H Q u3_
def aCU(K:Ah):Sp:=fun vs H Q u3_=>wR K vs H Q u3_
theorem aCV:cB ["_law_pen_here","_law_world_here","_law_fresh","_law_stand","_law_way","_law_house","_law_some","_law_new"] ["_law_pen_here","_law_world_here","_law_fresh"] (aQ aCo):=⟨rfl,rfl,rfl,by decide,rfl,by decide,by decide⟩
theorem aFN{f:Af}{fd:Be}(F:Fun K "_law_join" "_law_join" aCo f fd)(af:mg "len"=none)(bt:mg "sorted"=none)(eK:mg "set"=none)(bY:mg "tuple"=none)
  (GD:Cl P w K mg base 1 "_law_draw" ["_law_pen_here","_law_many"] (lY K))
  :cW P w K mg base CX0 2 f fd ["_law_pen_here","_law_world_here","_law_fresh"] (aCU K):=by
 refine F.ok aCV (fun vs H Q E h=>?_) (fun fx A outer s H vs Q E hr h=>?_)
 .obtain⟨p,c,ns,W,B,sc,os,own,S,fl,lp,ps,fr,a,rfl,_⟩:=h;rfl
 .obtain⟨p,c,ns,W,B,sc,os,own,S,fl,lp,ps,fr,a,rfl,rb,cu,ha,hfr,hf8,hf3,hso,hh1,hh3,k⟩:=h;have hu:=fS hr;have nd:=aCV.nd;refine⟨_,(aB (aR (i:=3) nd rfl (Az rfl) (aX (iO rfl) (by rfl) bt (by kernel_rfl) (aF (bQ hu (pv 1) aO Iv) aE)))
   (aB (aR (i:=4) nd rfl (DT rfl) (cK GD hr (aF (pv 0) (aF aD aE))))
   (aB (aR (i:=5) nd rfl (DT rfl) (bQ hu (bQ hu (pv 1) aO Iv) (aW bX (pv 3) (cK GD hr (aF (pv 0) (aF (aX bH (by rfl) af A1 (aF (pv 3) aE)) aE))) Iv) Iv))
   (aB (iW (i:=6) (N:=["_law_land","_law_world_here","_law_way","_law_house"]) (src:=[none,some 1,some 4,some 5]) (osc:=aQ aCo) (oN:=["_law_pen_here","_law_world_here","_law_fresh","_law_stand","_law_way","_law_house","_law_some","_law_new"]) ⟨by rfl,by decide,by decide,by decide,rfl,by rfl⟩ nd rfl (g8 (pv 3)) (fun cl s H fp im C=>⟨aV (i:=0) (show(["_law_land","_law_world_here","_law_way","_law_house"]:List Str).Nodup by decide) rfl (Az rfl),oS (PW.pt (aDS (aZ cV (bQ hu (bQ hu (pv 1) aO Iv) (pv 0) Iv) (pv 3) (bJ _)) (aAX (aZ cV (pv 2) aD (bJ _))))),pv 0⟩))
   (aB (eQ (aD1 Bj (aZ aBT (aX bH (by rfl) af A1 (aF (pv 6) aE)) (aY cQ aD (aY eO (pv 4) aD)) (bJ _))
   (aM (dP (lE Bd DX DW yT (pv 6) (aF (cK GD hr (aF (pv 0) (aF (aX bH (by rfl) af A1 (aF (pv 6) aE)) aE))) aE))))))
   (aB (eQ (cD (tP (PW.pt (aDS (aZ qQ (aX bH (by rfl) af A1 (aF (pv 6) aE)) aD (bJ _)) (aAX (aZ cV (pv 4) aD (bJ _)))))) (aM (aR (i:=6) nd rfl (Az rfl) (aY aBf (g9 w8 (pv 6) jB (jC aD)) (dA (aF (aW bX (pv 2) (jA gL aD) Iv) aE))))) bF))
   (aB (aR (i:=7) nd rfl (Az rfl) (lE Bd DX DW yT (pv 2) (aF aD aE)))
   (aB (eQ (cD (aZ p8 (pv 4) (cO (aF aD (aF aD (aF aD aE)))) (by with_unfolding_all rfl)) (aM (aR (i:=7) nd rfl (Az rfl) (aW bX (pv 6) (cK GD hr (aF (pv 0) (aF (aX bH (by rfl) af A1 (aF (pv 6) aE)) aE))) Iv))) bF))
   (aB (eQ (cD (aZ cV (pv 4) aD (bJ _)) (aM (aR (i:=7) nd rfl (Az rfl) (aW bX (pv 3) (cK GD hr (aF (pv 0) (aF (aX bH (by rfl) af A1 (aF (pv 3) aE)) aE))) Iv))) bF))
   (aM (bT (cO (aF (c8 dR (by rfl) bY (by kernel_rfl) (aF (aX vG (by rfl) bt (by kernel_rfl) (aF (pv 6) aE)) aE)) (aF (pv 7) aE)))))))))))))),?_⟩
  refine K11.tl fun R hR=>?_;obtain⟨ks,hks,hin,hkn⟩:=uW rb.wl.hv rb.wl.ks;have ec:ks.length=S.hs.length:=by
   have:=congrArg Ct hks;rw[Aa,Aa]at this;exact this.symm
  refine⟨_,rfl,W,_,rfl,(cu.wl rb).get (jN _ _),B.ho,S.hs,ks,rfl,(cu.wl rb).ho,hks,fun Z J db pm=>?_⟩;have sS:=aJ (o:=.lst (J.map V.str)) db;have bf:=cu.same sS;have eS:upd H Z (.lst (J.map V.str)) Z=some (.lst (J.map V.str)):=aA;have b3:=cu.back rb db;generalize upd H Z _=HS at bf eS ⊢;have fh:J.length=S.hs.length:=by rw[pm.length_eq,ec]
  have an:∀ z∈J,aK S z=true:=fun z hz=>hin z (pm.mem_iff.mp hz);have dz:J.Nodup:=pm.nodup_iff.mpr hkn;dsimp only[aS];subst hR;refine K11.tl fun R hR=>?_;refine⟨_,rfl,p,c,ns,_,_,rfl,bf.pen rb,by omega,by decide,by decide,fun r1 a1 H1 fe fb l1 u1 dn q1=>?_⟩;have be:=bf.draw q1 dn;have b1:=bf.lst eS q1;dsimp only[aS];subst hR;refine K11.tl fun R hR=>?_;refine⟨_,rfl,W,_,rfl,(be.wl rb).get (jN _ _),_,rfl,_,rfl,_,rfl,Z,_,rfl,.inl (aU b1),p,c,ns,_,_,rfl,be.pen rb,by omega,by rw[Aa];omega,gR (by rw[Aa];omega),fun r2 a2 H2 d5 d2 l2 u2 eo q2=>?_⟩;have aC:=be.draw q2 eo;have ba:=be.lst b1 q2;obtain⟨y,hy,haty⟩:=fY d5 d2;obtain⟨vy,hvy⟩:=Bf.mp (show(bG S.hs (Ad y)).isSome=true from an y hy);obtain⟨hou,_,rfl,_⟩:=rb.wl.hv _ _ hvy;refine⟨Z,_,_,_,rfl,rfl,aU ba,haty,B.ho,_,rfl,.inl ⟨S.hs,Ad y,.inl (aC.wl rb).ho,rfl,hvy.symm⟩,?_⟩;dsimp only[aS];subst hR;obtain⟨ff,hff⟩:∃ ff:Str->Bool,ff=fun z=>decide (bG S.hs (Ad z)=some (.str hou))||decide (r1=0):=⟨_,rfl⟩
  refine⟨_,rfl,Z,rfl,⟨_,aU ba⟩,?_⟩;refine m6 (K:=K) (xs:=J.map V.str) (fun i ys σ' H'=>∃(o:Option V),σ'=[o,some (.ref W),some (.int r1),some (.str hou)]/\H'=H2/\ys=((J.take i).filter ff).map V.str) ⟨none,rfl,rfl,rfl⟩ (aP (by rw[Aa];omega)) (fun i ys σ H p=>by obtain⟨_,_,_,rfl⟩:=p;rw[Aa];exact Ay (BE _ _) (by rw[AJ];exact Er _ _)) (fun i ys σ H p=>by obtain⟨_,_,rfl,_⟩:=p;exact aU ba) ?_ ?_
  .rintro i v ys σ' H3 hv ⟨o,rfl,rfl,rfl⟩;rw[Au]at hv;obtain⟨z,hz,rfl⟩:=AU.mp hv;obtain⟨vz,hvz⟩:=Bf.mp (show(bG S.hs (Ad z)).isSome=true from an z (AQ hz));obtain⟨hz2,_,rfl,_⟩:=rb.wl.hv _ _ hvz;have et:(J.take (i+1)).filter ff=(J.take i).filter ff++if ff z=true then[z] else[]:=by
    rw[AA,hz,CU];congr 1;show E4 _ [z]=_;rw[BW,Eo]
   dsimp only[aS];refine⟨_,rfl,W,_,rfl,(aC.wl rb).get (jN _ _),_,rfl,B.ho,_,rfl,.inl ⟨S.hs,Ad z,.inl (aC.wl rb).ho,rfl,hvz.symm⟩,_,rfl,rfl,_,rfl,dB (fun g=>?_) fun g=>?_⟩
   .have g':hz2=hou:=V.str.inj (Iu g);have ef:ff z=true:=by rw[hff];dsimp only;rw[hvz,g',Ir rfl];rfl
    refine gI ⟨_,rfl,_,rfl,rfl,?_⟩;rw[et,Iq ef,Ar];rfl
   .have g':hz2≠hou:=fun e=>g (Ir (by rw[e]));refine⟨_,rfl,rfl,_,rfl,dB (fun g2=>?_) fun g2=>?_⟩
    .have bD:r1=0:=V.int.inj (Iu g2);have ef:ff z=true:=by rw[hff];dsimp only;rw[bD,Ir rfl,Bool.or_true]
     refine⟨_,rfl,_,rfl,rfl,?_⟩;rw[et,Iq ef,Ar];rfl
    .have bD:r1≠0:=fun e=>g2 (Ir (by rw[e]));have ef:¬ ff z=true:=by
      rw[hff];dsimp only;rw[hvz,Is (show¬ some (V.str hz2)=some (V.str hou) from fun e=>g' (V.str.inj (BD.inj e))),Is bD];decide
     refine⟨_,rfl,rfl,?_⟩;rw[et,Ip ef,A6]
  rintro ys σ' H3 ⟨o,rfl,rfl,rfl⟩ LL bM;rw[Aa,AN];have bx:=aC.back rb bM;have di:Z≠LL:=aH ba bM;have sL:=aJ (o:=.lst ((J.filter ff).map V.str)) bM;have bP:=aC.same sL;have bE:=sL _ _ ba;have bg:upd H3 LL (.lst ((J.filter ff).map V.str)) LL=some (.lst ((J.filter ff).map V.str)):=aA;generalize upd H3 LL _=H4 at bP bE bg ⊢;have bL:(J.filter ff).Nodup:=dz.filter _;have bz:∀ z∈J.filter ff,z∈J:=fun z hz=>(BL.mp hz).1;have bN:1<=(J.filter ff).length:=List.length_pos_of_mem (BL.mpr ⟨hy,by rw[hff];dsimp only;rw[hvy,Ir rfl];rfl⟩);have da:(J.filter ff).length<=300:=Ay (BE _ _) (by omega);generalize J.filter ff=ee at bL bz bN da bg;have eC:0<=r1%3/\r1%3<3:=by omega
  dsimp only[aS];refine⟨fun σ' H'=>∃(sm:List Str) (a':Int),σ'=[some (.ref p),some (.ref W),some (.ref fl),some (.ref Z),some (.int r1),some (.str hou),some (.ref LL),none]/\Cur H H' p c a' fl fr/\a2<=a'/\a'<=a2+300/\H' Z=some (.lst (J.map V.str))/\H' LL=some (.lst (sm.map V.str))/\sm.Nodup/\(∀ z∈sm,z∈J)/\1<=sm.length/\sm.length<=4,?_,?_⟩
  .refine⟨fun n σ H'=>∃(sm:List Str) (a':Int),σ=[some (.ref p),some (.ref W),some (.ref fl),some (.ref Z),some (.int r1),some (.str hou),some (.ref LL),none]/\Cur H H' p c a' fl fr/\a2<=a'/\a'+sm.length<=a2+300/\H' Z=some (.lst (J.map V.str))/\H' LL=some (.lst (sm.map V.str))/\sm.Nodup/\(∀ z∈sm,z∈J)/\1<=sm.length/\sm.length=n,⟨_,ee,a2,rfl,bP,by omega,by omega,bE,bg,bL,bz,bN,rfl⟩,?_⟩;rintro n σ H5 ⟨sm,a5,rfl,ag,l5,u5,au,ad,av,al,cf,rfl⟩;refine⟨_,rfl,LL,_,rfl,.inl (aU ad),_,rfl,_,_,rfl,rfl,(by show(0:Int)<3;decide),_,_,rfl,rfl,_,_,rfl,rfl,_,rfl,dB (fun g=>?_) fun g=>?_⟩
   .have g':=Iu g;rw[Aa]at g';have g2:2<sm.length:=by omega
    refine⟨fun σ' H'=>∃(ar:List Str) (a':Int),σ'=[some (.ref p),some (.ref W),some (.ref fl),some (.ref Z),some (.int r1),some (.str hou),some (.ref LL),none]/\Cur H H' p c a' fl fr/\a2<=a'/\a'+ar.length<=a2+300/\H' Z=some (.lst (J.map V.str))/\H' LL=some (.lst (ar.map V.str))/\ar.Nodup/\(∀ z∈ar,z∈J)/\1<=ar.length/\ar.length=sm.length-1,fun σ' H' z=>⟨sm.length-1,by omega,z⟩,_,rfl,.inl ⟨rfl,_,aU ad⟩,_,rfl,_,rfl,LL,_,rfl,.inl (aU ad),p,c,ns,_,_,rfl,ag.pen rb,by omega,by rw[Aa];omega,gR (by rw[Aa];omega),fun r6 a6 H6 fv dr l6 u6 du q6=>?_⟩;have dk:=ag.draw q6 du;have d4:=ag.lst au q6;have eg:=ag.lst ad q6;rw[Aa]at dr;obtain⟨j,rfl⟩:∃ j:Nat,r6=j:=⟨r6.toNat,by omega⟩
    have hj:j<sm.length:=by omega
    have eh:ixN (sm.map V.str).length (j:Int)=some j:=by
     unfold ixN;rw[Iq (by omega),Iq (by rw[Aa];omega)];rfl
    refine⟨LL,_,_,j,.str sm[j],rfl,rfl,eg,by omega,by omega,(rP eh).1,by rw[Au,Ai hj];rfl,?_⟩;rw[show(sm.map V.str).eraseIdx j=(sm.eraseIdx j).map V.str from wQ _ _];have el:=List.length_eraseIdx_of_lt hj;exact⟨sm.eraseIdx j,a6,rfl,dk.upd rb bx,by omega,by omega,by rw[aG di];exact d4,aA,DB (List.eraseIdx_sublist _ _) av,fun z hz=>al z (List.mem_of_mem_eraseIdx hz),by omega,el⟩
   .have g':¬ (2+r1%3<((sm.map V.str).length:Nat)):=fun h=>g (Ir h);rw[Aa]at g';exact⟨sm,a5,rfl,ag,by omega,by omega,au,ad,av,al,cf,by omega⟩
  rintro σ' H5 ⟨sm,a5,rfl,ag,l5,u5,au,ad,av,al,cf,ey⟩;clear bE bg bP bL bz bN da;have dw:LL≠fl:=fun e=>by rw[e,cu.ef]at bx;cases bx
  have cg:sm.length<=6:=by omega
  have ae:fr≠[]:=fun e=>by rw[e]at hf8;simp at hf8
  obtain⟨f0,O,hf0⟩:∃ f0 O,fr=f0::O:=by
   cases fr with
   | nil=>exact absurd rfl ae
   | cons f0 O=>exact⟨f0,O,rfl⟩
  have az:fr.getLast ae∈O:=by
   have bo:O≠[]:=fun e=>by rw[hf0,e]at hf8;simp at hf8
   have:fr.getLast ae=O.getLast bo:=by
    subst hf0;exact List.getLast_cons bo
   rw[this];exact Fk _
  have ax:fr.getLast ae∈fr:=Fk _;have bm:=yH ae;generalize fr.getLast ae=fz at az ax bm;refine⟨fun σ' H'=>∃(LL:Af) (sm:List Str),σ'=[some (.ref p),some (.ref W),some (.ref fl),some (.ref Z),some (.int r1),some (.str hou),some (.ref LL),none]/\Cur H H' p c a5 fl fr/\H' Z=some (.lst (J.map V.str))/\H' LL=some (.lst (sm.map V.str))/\LL≠fl/\sm.Nodup/\(∀ z∈sm,b9 z=true/\(z∉fr\/z∈O))/\2<=sm.length/\sm.length<=6,?_,?_⟩
  .refine⟨fun b G=>Cur H G p c a5 fl fr/\G Z=some (.lst (J.map V.str))/\G LL=some (.lst (sm.map V.str))/\(b=false->2<=sm.length),?_,?_⟩
   .refine⟨_,rfl,LL,_,rfl,.inl (aU ad),_,_,rfl,rfl,_,rfl,dB (fun g=>?_) fun g=>?_⟩
    .exact⟨ag,au,ad,fun e=>by cases e⟩
    .have g':¬ (((sm.map V.str).length:Nat):Int)<2:=fun h=>g (Ir h);rw[Aa]at g';exact⟨_,rfl,rfl,_,rfl,ag,au,ad,fun _=>by omega⟩
   rintro b G ⟨b7,c3,cj,hb⟩;refine dB (fun g=>?_) fun g=>?_
   .refine⟨_,rfl,_,rfl,LL,_,rfl,aU cj,fun D1 dV=>?_⟩;rw[show(some (1:Int))=some ((1:Nat):Int) from rfl,xC (α:=Unit),<- HB];have s1:=aJ (o:=.lst ((sm.take 1).map V.str)) dV;have aa:=b7.same s1;have ap:=s1 _ _ c3;have bI:upd G D1 (.lst ((sm.take 1).map V.str)) D1=some (.lst ((sm.take 1).map V.str)):=aA;generalize upd G D1 _=G1 at aa ap bI ⊢;refine⟨_,rfl,_,rfl,fl,_,_,_,rfl,rfl,aU aa.ef,bm,zZ1,fun D2 de=>?_⟩;have s2:=aJ (o:=.lst [V.str fz]) de;have e3:D1≠D2:=aH bI de;refine⟨D1,D2,_,_,rfl,rfl,s2 _ _ bI,aA,aP (by rw[Aa,AJ];show _+1<=_;omega),fun D3 cs=>?_⟩;have s3:=s2.trans (aJ (o:=.lst ((sm.take 1).map V.str++[V.str fz])) cs);have cr:=(aa.same s2).back rb cs;refine⟨D3,sm.take 1++[fz],rfl,aa.same s3,s3 _ _ ap,by rw[aA,Ar];rfl,(fun e=>by rw[e,cu.ef]at cr;cases cr),?_,fun z hz=>?_,?_,?_⟩
    .refine Bu.mpr ⟨DB (GQ _ _) av,by simp,fun x hx y hy e=>?_⟩;rw[AK.mp hy]at e;exact(hso x (an x (al x (BY hx)))).2 (by rw[e];exact ax)
    .rcases AO.mp hz with h|h
     .have:=hso z (an z (al z (BY h)));exact⟨this.1,.inl this.2⟩
     .rw[AK.mp h];exact⟨hfr.ok _ ax,.inr az⟩
    .rw[Av,AJ];show 2<=_+1;omega
    .rw[Av,AJ];show _+1<=6;omega
   .exact⟨LL,sm,rfl,b7,c3,cj,dw,av,fun z hz=>⟨(hso z (an z (al z hz))).1,.inl (hso z (an z (al z hz))).2⟩,hb (by simpa using g),cg⟩
  rintro σ' bb ⟨LQ,am,rfl,aa,ap,c4,dq,cI,a0,ew,dl⟩;clear au ad ag av al cg;have ea:O.Nodup:=by have:=hfr.nd;rw[hf0]at this;exact(A5.mp this).2
  have cc:f0∉O:=by have:=hfr.nd;rw[hf0]at this;exact(A5.mp this).1
  have aT:∀ z∈O,z∈fr:=fun z hz=>by rw[hf0];exact Ao _ hz
  have bp:bb fl=some (.lst (V.str f0::O.map V.str)):=by have:=aa.ef;rw[hf0]at this;exact this
  refine⟨_,rfl,.inl ⟨rfl,_,aU bp⟩,fl,_,_,0,.str f0,rfl,rfl,bp,by decide,by decide,(rP (j:=0) (by unfold ixN;rw[Iq (by decide),Iq (by show(0:Int)<((_+1:Nat):Int);omega)];rfl)).1,rfl,?_⟩;have ei:Z≠fl:=fun e=>by rw[e,cu.ef]at b3;cases b3
  have bq:=aa.setF O;have bn:upd bb fl (.lst (O.map V.str)) Z=some (.lst (J.map V.str)):=by rw[aG ei];exact ap
  have bv:upd bb fl (.lst (O.map V.str)) LQ=some (.lst (am.map V.str)):=by rw[aG dq];exact c4
  show(aS 7) (V.str f0) _ (upd bb fl (.lst (O.map V.str))) _;generalize upd bb fl _=dm at bq bn bv ⊢;dsimp only[aS];have ao:b9 f0=true/\(f0∉O\/∃ z∈am,z∈O):=⟨hfr.ok _ (by rw[hf0];exact Ap),.inl cc⟩
  refine⟨fun σ' H'=>∃(nw:Str) (a':Int),σ'=[some (.ref p),some (.ref W),some (.ref fl),some (.ref Z),some (.int r1),some (.str hou),some (.ref LQ),some (.str nw)]/\Cur H H' p c a' fl O/\a5<=a'/\a'<=a5+1/\H' Z=some (.lst (J.map V.str))/\H' LQ=some (.lst (am.map V.str))/\b9 nw=true/\(nw∉O\/∃ z∈am,z∈O),?_,?_⟩
  .refine⟨_,rfl,zZ3,fun u eb=>?_⟩;have su:=aJ (o:=.tup [V.int 2,.int 3,.int 4]) eb;refine⟨u,_,rfl,.inr (aN aA),rfl,rfl,_,rfl,?_⟩;have Y:=bq.same su;have aL:=su _ _ bn;have ai:=su _ _ bv;generalize upd dm u _=eN at Y aL ai ⊢;refine dB (fun g=>?_) fun g=>?_
   .refine⟨_,rfl,_,rfl,_,rfl,LQ,_,rfl,.inl (aU ai),p,c,ns,_,_,rfl,Y.pen rb,by omega,by rw[Aa];omega,gR (by rw[Aa];omega),fun eW ed fj cb c0 eL eX ck bd=>?_⟩;have cq:=Y.draw bd ck;obtain⟨nw,hnw,hatn⟩:=fY cb c0;refine⟨LQ,_,_,_,rfl,rfl,aU (Y.lst ai bd),hatn,nw,ed,rfl,cq,by omega,by omega,Y.lst aL bd,Y.lst ai bd,(a0 nw hnw).1,?_⟩;rcases(a0 nw hnw).2 with h|h
    .exact .inl fun h'=>h (aT _ h')
    .exact .inr ⟨nw,hnw,h⟩
   .exact⟨f0,a5,rfl,Y,by omega,by omega,aL,ai,ao.1,ao.2⟩
  rintro σ' fg ⟨nw,bO,rfl,aj,fc,eT,bu,bw,b4,cv⟩;refine⟨fun σ' H'=>∃(nw:Str) (a':Int),σ'=[some (.ref p),some (.ref W),some (.ref fl),some (.ref Z),some (.int r1),some (.str hou),some (.ref LQ),some (.str nw)]/\Cur H H' p c a' fl O/\bO<=a'/\a'<=bO+1/\H' LQ=some (.lst (am.map V.str))/\b9 nw=true/\(nw∉O\/∃ z∈am,z∈O),?_,?_⟩
  .refine⟨_,rfl,rfl,_,rfl,dB (fun g=>?_) fun g=>?_⟩
   .refine⟨_,rfl,_,rfl,_,rfl,Z,_,rfl,.inl (aU bu),p,c,ns,_,_,rfl,aj.pen rb,by omega,by rw[Aa];omega,gR (by rw[Aa];omega),fun eR dj e0 cz ca fw fy c2 bR=>?_⟩;have ci:=aj.draw bR c2;obtain⟨n2,hn2,hatn⟩:=fY cz ca;have:=hso n2 (an n2 hn2);exact⟨Z,_,_,_,rfl,rfl,aU (aj.lst bu bR),hatn,n2,dj,rfl,ci,by omega,by omega,aj.lst bw bR,this.1,.inl fun h'=>this.2 (aT _ h')⟩
   .exact⟨nw,bO,rfl,aj,by omega,by omega,bw,b4,cv⟩
  rintro σ' cw ⟨n3,ej,rfl,dc,fq,fu,cm,br,b2⟩;refine⟨_,rfl,LQ,am,rfl,aU cm,aP (by omega),fun l m3 hl bh=>?_⟩;have sl:=aJ (o:=.lst (m3.map V.str)) hl;refine⟨l,_,rfl,.inl ⟨aU aA,fun tp ek=>?_⟩⟩;have cL:=sl.trans (aJ (o:=.tup (m3.map V.str)) ek);have b5:upd (upd cw l (.lst (m3.map V.str))) tp (.tup (m3.map V.str)) tp=some (.tup (m3.map V.str)):=aA;generalize upd (upd cw l (.lst (m3.map V.str))) tp _=eP at cL b5 ⊢;refine⟨_,rfl,zZ2,fun t ht=>?_⟩;have cx:=aJ (o:=.tup [V.ref tp,.str n3]) ht;have e7:m3.length=am.length:=bh.length_eq;have bj:∀ z∈m3,b9 z=true:=fun z hz=>(a0 z (bh.mem_iff.mp hz)).1;have b6:(m3.map BO).all aAm=true:=by
   rw[A7];intro d hd;obtain⟨z,hz,rfl⟩:=AL.mp hd;exact bj z hz
  refine k t _ [.tuple (m3.map BO),.str n3] ej O _ (dc.same (cL.trans cx)) (by omega) (by omega) aT ea (by rw[hf0,AR];omega) aA (.cons (.tup (cx _ _ b5) (by rw[Aa];omega) (wH fun z hz=>by have:=(j8 (bj z hz)).2;omega)) (.cons (pM br) .nil)) fun ws=>⟨.join br (bh.nodup_iff.mpr cI) (by omega) (by omega) b6,fun name day ay R' e=>absurd (show("join":Str)="part" from e) (by decide),fun ay R' e=>absurd e (by decide),fun ay R' _ e=>?_⟩
  injection e with e1 e2;injection e2 with e2;injection e1 with e1;injection e2 with e2;have:=nC (fun{a b} (e:BO a=BO b)=>by injection e) e1;subst this e2;rcases b2 with h|⟨z,h1,h2⟩
  .exact .inl h
  .exact .inr ⟨z,bh.mem_iff.mpr h1,h2⟩
section
variable{H0:Hp}{p c:Af}{ns:List Int}{a a':Int}{W:Af}{B:WA}{sc:Int}{os:List UK}{own:UK->Str}{S:Ex}{fl lp:Af}{fr ji:List Str}{ps:List Str}
theorem RSB.at(b:RSB K H0 p c ns W B sc os own S fl lp ps)(h:Cur H0 H p c a fl fr):RSB K H p c ns W B sc os own S fl lp ps:=by
 obtain⟨l,_,e⟩:=h.ob;exact⟨h.rd b,b.sm,h.wl b,h.ep b,b.np,b.p1,b.p3,b.pw,b.fo,b.fp,⟨_,e⟩,⟨_,h.ef⟩⟩
theorem Cur.here(h:Cur H0 H p c a fl fr):Cur H H p c a fl fr:=⟨cY.refl H,h.ob,h.ge,h.ef⟩
theorem Cur.trans(h:Cur H0 H p c a fl fr)(h':Cur H H' p c a' fl ji):Cur H0 H' p c a' fl ji:=⟨h.kx.trans h'.kx,h'.ob,h'.ge,h'.ef⟩
end
structure vA(S:Ex)(ws:List Str):Prop where
 ks:S.inc.map (·.1)=ws.map Ad
 v:∀ f∈ws,b9 f=true/\∃ n:Int,bG S.inc (Ad f)=some (.int n)/\0<=n/\n<=10000000
 n1:1<=ws.length
 n8:ws.length<=8
theorem aBN{l:List Int}{r:Int}(F:0<=r)(h1:r<(l.length:Nat)):∃ z,z∈l/\atI (l.map V.int) r=some (.int z):=by
 obtain⟨j,rfl⟩:∃ j:Nat,r=j:=⟨r.toNat,by omega⟩
 obtain⟨z,hz⟩:∃ z,l[j]?=some z:=⟨_,Ai (by omega)⟩
 exact⟨z,AQ hz,fU (by rw[Au,hz];rfl)⟩
inductive aAQ(K:Ah)(vs:List V)(H:Hp)(Q:VK)(u3_:XK):Prop
 | mk (p c:Af) (ns:List Int) (W:Af) (B:WA) (sc:Int) (os:List UK) (own:UK->Str) (S:Ex) (fl lp:Af) (ps fr ws:List Str) (a:Int) (word:Str) (q0:vs=[.ref p,.ref W,.ref fl,.ref lp,.str word]) (q1:RSB K H p c ns W B sc os own S fl lp ps) (q2:Cur H H p c a fl fr) (q3:a<=700000) (q4:Nms fr) (q5:8<=fr.length) (q6:fr.length<=300) (q7:uZ S fr) (q8:1<=S.hs.length) (q9:S.hs.length<=300) (q10:vA S ws) (q11:word∈gO) (q12:∀(t:Af) (cE:List V) (ds:List Bc) (a':Int) (ji:List Str) (H':Hp),Cur H H' p c a' fl ji->a<=a'->a'<=a+500->(∀ z∈ji,z∈fr)->ji.Nodup->fr.length<=ji.length+7->H' t=some (.tup cE)->cF false H' cE ds->cE.length<=4->yG sc ws word ds ji->Q (.ref t) H'):aAQ K vs H Q u3_
def aFO(K:Ah):Sp:=fun vs H Q u3_=>aAQ K vs H Q u3_
theorem aFP:cB ["_law_pen_here","_law_world_here","_law_fresh","_law_pool","_law_word_here","_law_stand","_law_fields","_law_house","_law_other","_law_field","_law_inches","_law_inch"] ["_law_pen_here","_law_world_here","_law_fresh","_law_pool","_law_word_here"] (aQ aE3):=⟨rfl,rfl,rfl,by decide,rfl,by decide,by decide⟩
theorem aG6{f:Af}{fd:Be}(F:Fun K "_law_made" "_law_made" aE3 f fd)(Z:mg "len"=none)(an:mg "sorted"=none)(aI:mg "min"=none)
  (GD:Cl P w K mg base 1 "_law_draw" ["_law_pen_here","_law_many"] (lY K))
  (GP:Cl P w K mg base 2 "_law_part" ["_law_pen_here","_law_world_here","_law_fresh","_law_pool"] (aCS K))
  (GJ:Cl P w K mg base 2 "_law_join" ["_law_pen_here","_law_world_here","_law_fresh"] (aCU K))
  :cW P w K mg base CX0 3 f fd ["_law_pen_here","_law_world_here","_law_fresh","_law_pool","_law_word_here"] (aFO K):=by
 refine F.ok aFP (fun vs H Q E h=>?_) (fun c1 A outer s H vs Q E hr h=>?_)
 .obtain⟨p,c,ns,W,B,sc,os,own,S,fl,lp,ps,fr,ws,a,word,rfl,_⟩:=h;rfl
 .obtain⟨p,c,ns,W,B,sc,os,own,S,fl,lp,ps,fr,ws,a,word,rfl,rb,cu,ha,hfr,hf8,hf3,hso,hh1,hh3,hic,hwd,k⟩:=h;have hu:=fS hr;have aj:dC 1 _:=hr.mono (by decide);have nd:=aFP.nd;refine⟨_,(aB (aR (i:=5) nd rfl (Az rfl) (aX (iO rfl) (by rfl) an (by kernel_rfl) (aF (bQ hu (pv 1) aO Iv) aE)))
   (aB (aR (i:=6) nd rfl (Az rfl) (aX (iO rfl) (by rfl) an (by kernel_rfl) (aF (bQ hu (pv 1) aO Iv) aE)))
   (aB (aR (i:=7) nd rfl (Az rfl) (aW bX (pv 3) (cK GD aj (aF (pv 0) (aF (aX bH (by rfl) Z A1 (aF (pv 3) aE)) aE))) Iv))
   (aB (aR (i:=8) nd rfl (Az rfl) (aW bX (pv 3) (cK GD aj (aF (pv 0) (aF (aX bH (by rfl) Z A1 (aF (pv 3) aE)) aE))) Iv))
   (aB (aR (i:=9) nd rfl (Az rfl) (aW bX (pv 6) (cK GD aj (aF (pv 0) (aF (aX bH (by rfl) Z A1 (aF (pv 6) aE)) aE))) Iv))
   (aB (aR (i:=10) nd rfl (Az rfl) (bQ hu (bQ hu (pv 1) aO Iv) (pv 9) Iv))
   (aB (aR (i:=11) nd rfl (Az rfl) (aX (mX rfl) (by rfl) aI (by kernel_rfl) (aF (aY kK (aY sH aD aD) aD) (aF (cK GD aj (aF (pv 0) (aF (aY cQ (aY cQ (pv 10) aD) (aY mV (pv 10) aD)) aE))) aE))))
   (aB (cD (aZ cV (pv 4) aO (bJ _)) (aM (bT (cK GP hr (aF (pv 0) (aF (pv 1) (aF (pv 2) (aF (pv 3) aE))))))) bF)
   (aB (cD (aZ cV (pv 4) aO (bJ _)) (aM (bT (cK GJ hr (aF (pv 0) (aF (pv 1) (aF (pv 2) aE)))))) bF)
   (aB (cD (aZ cV (pv 4) aO (bJ _)) (aM (bT (cO (aF (aW bX (aY aBf (pv 5) (dA (aF (aW bX (pv 2) (jA gL aD) Iv) aE))) (cK GD aj (aF (pv 0) (aF (aY cQ (aX bH (by rfl) Z A1 (aF (pv 5) aE)) aD) aE))) Iv) (aF (pv 7) aE))))) bF)
   mH)))))))))),?_⟩
  refine K11.tl fun R hR=>?_;obtain⟨ks,hks,hin,hkn⟩:=uW rb.wl.hv rb.wl.ks;have bE:ks.length=S.hs.length:=by
   have:=congrArg Ct hks;rw[Aa,Aa]at this;exact this.symm
  have b5:=rb.p1;have cc:=rb.p3;have c0:=hic.n1;have cx:=hic.n8;refine⟨_,rfl,W,_,rfl,(cu.wl rb).get (jN _ _),B.ho,S.hs,ks,rfl,(cu.wl rb).ho,hks,fun LS ms bM pm=>?_⟩;have sS:=aJ (o:=.lst (ms.map V.str)) bM;have al:=cu.same sS;have eS:upd H LS (.lst (ms.map V.str)) LS=some (.lst (ms.map V.str)):=aA;generalize upd H LS _=HS at al eS ⊢;have cz:ms.length=S.hs.length:=by rw[pm.length_eq,bE]
  have bD:∀ z∈ms,aK S z=true:=fun z hz=>hin z (pm.mem_iff.mp hz);dsimp only[aS];subst hR;refine K11.tl fun R hR=>?_;refine⟨_,rfl,W,_,rfl,(al.wl rb).get (aHC _ _),B.ic,S.inc,ws,rfl,(al.wl rb).ic,hic.ks,fun LF fs bI pf=>?_⟩;have sF:=aJ (o:=.lst (fs.map V.str)) bI;have af:=al.same sF;have aC:=sF _ _ eS;have eF:upd HS LF (.lst (fs.map V.str)) LF=some (.lst (fs.map V.str)):=aA;generalize upd HS LF _=HF at af aC eF ⊢;have cw:fs.length=ws.length:=pf.length_eq;dsimp only[aS];subst hR;refine K11.tl fun R hR=>?_;refine⟨_,rfl,_,rfl,_,rfl,lp,_,rfl,.inl (aU (af.ep rb)),p,c,ns,_,_,rfl,af.pen rb,by omega,by rw[Aa];omega,gR (by rw[Aa];omega),fun r1 a1 H1 bw bv l1 u1 bg q1=>?_⟩;have ad:=af.draw q1 bg;have bf:=af.lst aC q1;have bi:=af.lst eF q1;obtain⟨house,hhou,hat1⟩:=fY bw bv;have aL:=rb.np.ok _ hhou;refine⟨lp,_,_,_,rfl,rfl,aU (ad.ep rb),hat1,?_⟩;dsimp only[aS];subst hR;refine K11.tl fun R hR=>?_;refine⟨_,rfl,_,rfl,_,rfl,lp,_,rfl,.inl (aU (ad.ep rb)),p,c,ns,_,_,rfl,ad.pen rb,by omega,by rw[Aa];omega,gR (by rw[Aa];omega),fun r2 a2 H2 bx bt l2 u2 bP q2=>?_⟩;have ah:=ad.draw q2 bP;have bL:=ad.lst bf q2;have ax:=ad.lst bi q2;obtain⟨other,hoth,hat2⟩:=fY bx bt;have cy:=rb.np.ok _ hoth;refine⟨lp,_,_,_,rfl,rfl,aU (ah.ep rb),hat2,?_⟩;dsimp only[aS];subst hR;refine K11.tl fun R hR=>?_;refine⟨_,rfl,_,rfl,_,rfl,LF,_,rfl,.inl (aU ax),p,c,ns,_,_,rfl,ah.pen rb,by omega,by rw[Aa];omega,gR (by rw[Aa];omega),fun r3 a3 H3 bd bo l3 u3 bh q3=>?_⟩;have ag:=ah.draw q3 bh;have bq:=ah.lst bL q3;have br:=ah.lst ax q3;obtain⟨field,hfie,hat3⟩:=fY bd bo
  have bR:field∈ws:=pf.mem_iff.mp hfie;obtain⟨hfn,inc,hinc,hi0,hi1⟩:=hic.v field bR;refine⟨LF,_,_,_,rfl,rfl,aU br,hat3,?_⟩;dsimp only[aS];subst hR;refine K11.tl fun R hR=>?_;refine⟨_,rfl,W,_,rfl,(ag.wl rb).get (aHC _ _),_,rfl,B.ic,_,rfl,.inl ⟨S.inc,Ad field,.inl (ag.wl rb).ic,rfl,hinc.symm⟩,?_⟩;dsimp only[aS];subst hR;refine K11.tl fun R hR=>?_;have ca:0<=inc/4:=DQ hi0 (by decide);have b7:inc/4<=10000000:=by omega
  refine⟨_,_,rfl,rfl,⟨by decide,by decide,by decide⟩,_,_,rfl,rfl,_,rfl,_,rfl,_,_,rfl,rfl,_,rfl,_,_,rfl,rfl,⟨by decide,by decide⟩,_,_,rfl,rfl,p,c,ns,_,_,rfl,ag.pen rb,by omega,by omega,gR (by omega),fun r4 a4 H4 cr cs l4 u4 bj q4=>?_⟩;have aa:=ag.draw q4 bj;have ay:=ag.lst bq q4;refine⟨_,_,rfl,?_⟩;obtain⟨ab,heq,hin0,hin1⟩:∃ ab:Int,(if r4<10^(7:Int).toNat-1 then r4 else 10^(7:Int).toNat-1)=ab/\0<=ab/\ab<=9999999:=⟨_,rfl,by
   have e7:(10:Int)^(7:Int).toNat=10000000:=by decide
   rw[e7];split<;>omega,by
   have e7:(10:Int)^(7:Int).toNat=10000000:=by decide
   rw[e7];split<;>omega⟩
  rw[heq];dsimp only[aS];subst hR;have J:fr≠[]:=fun e=>by rw[e]at hf8;simp at hf8
  have fin:∀(Y:Str) (t:Af) (cE:List V) (ds:List Bc) (a':Int) (G:Hp),Cur H G p c a' fl fr->a<=a'->a'<=a+500->G t=some (.tup cE)->cF false G cE ds->pL Y ds->word=Y->(Y≠"part")->(Y≠"join")->Q (.ref t) G:=fun Y t cE ds a' G bm l u et rd rs ew n1 n2=>by
   have hl:=rd.len;have ck:=rs.len;refine k t cE ds a' fr G bm l u (fun z hz=>hz) hfr.nd (by omega) et rd (by omega) ?_;rw[ew];exact⟨rs,fun name day O R e=>absurd e n1,fun O R e=>absurd e n1,fun O R e=>absurd e n2⟩
  unfold gO at hwd;simp only[An,AC,or_false]at hwd;rcases hwd with rfl|rfl|rfl
  .refine⟨_,rfl,rfl,_,rfl,yW ?_⟩;exact⟨_,rfl,_,rfl,_,rfl,_,rfl,p,c,ns,W,B,sc,os,own,S,fl,lp,ps,fr,a4,rfl,rb.at aa,aa.here,by omega,hfr,hf8,hf3,hso,hh1,fun t cE ds a' ji H' ao l u ai ap Z et rd mo=>k t cE ds a' ji H' (aa.trans ao) (by omega) (by omega) ai ap (by omega) et rd (by have h1:=rd.len;have h2:=(mo ws).rs.len;omega) (mo ws)⟩
  .refine⟨_,rfl,rfl,_,rfl,nW (by decide) ?_⟩;refine⟨_,rfl,rfl,_,rfl,yW ?_⟩;exact⟨_,rfl,_,rfl,_,rfl,p,c,ns,W,B,sc,os,own,S,fl,lp,ps,fr,a4,rfl,rb.at aa,aa.here,by omega,hfr,hf8,hf3,hso,hh1,hh3,fun t cE ds a' ji H' ao l u ai ap Z et rd mo=>k t cE ds a' ji H' (aa.trans ao) (by omega) (by omega) ai ap (by omega) et rd (by have h1:=rd.len;have h2:=(mo ws).rs.len;omega) (mo ws)⟩
  .refine⟨_,rfl,rfl,_,rfl,nW (by decide) ?_⟩;refine⟨_,rfl,rfl,_,rfl,nW (by decide) ?_⟩;refine⟨_,rfl,rfl,_,rfl,yW ?_⟩;refine⟨_,rfl,_,rfl,_,rfl,fl,_,_,_,rfl,rfl,aU aa.ef,yH J,zZ1,fun D1 bu=>?_⟩;have s1:=aJ (o:=.lst [V.str (fr.getLast J)]) bu;refine⟨LS,D1,_,_,rfl,rfl,s1 _ _ ay,aA,aP (by rw[Aa];show _+1<=_;omega),fun D2 bW=>?_⟩;have s2:=s1.trans (aJ (o:=.lst (ms.map V.str++[V.str (fr.getLast J)])) bW);have e2:upd (upd H4 D1 (.lst [V.str (fr.getLast J)])) D2 (.lst (ms.map V.str++[V.str (fr.getLast J)])) D2=some (.lst ((ms++[fr.getLast J]).map V.str)):=by rw[aA,Ar];rfl
   have am:=aa.same s2;have au:=s2 _ _ ay;generalize upd (upd H4 D1 (.lst [V.str (fr.getLast J)])) D2 _=H5 at am au e2 ⊢;refine⟨_,rfl,_,rfl,LS,_,rfl,.inl (aU au),_,_,rfl,rfl,p,c,ns,_,_,rfl,am.pen rb,by omega,by rw[Aa];omega,gR (by rw[Aa];omega),fun r6 a6 H6 bN av l6 u6 bp q6=>?_⟩;have bc:=am.draw q6 bp;obtain⟨O,hland,hat6⟩:=fY (ps:=ms++[fr.getLast J]) bN (by rw[Aa,Av];rw[Aa]at av;exact av);have aw:b9 O=true:=by
    rcases AO.mp hland with h|h
    .exact(hso O (bD O h)).1
    .rw[AK.mp h];exact hfr.ok _ (Fk _)
   refine⟨D2,_,_,_,rfl,rfl,aU (am.lst e2 q6),hat6,_,rfl,zZ2,fun t ht=>?_⟩;have st:=aJ (o:=.tup [V.str O,.str house]) ht;exact fin "forfeit" t _ [.str O,.str house] a6 _ (bc.same st) (by omega) (by omega) aA (.cons (pM aw) (.cons (pM aL) .nil)) (.forfeit aw aL) rfl (by decide) (by decide)
theorem yI{S:Ex}{z:Str}(h:aK S z=true):1<=S.hs.length:=by
 unfold aK at h;cases e:S.hs with
 | nil=>rw[e]at h;cases h
 | cons _ _=>simp
theorem aDO{R:List P3}(h:(R.map pD).all uI=true){p:P3}(F:p∈R):b9 p.1=true:=by
 have:=A7.mp h (pD p) (Ba F);have e:(b9 p.1&&b9 p.2.1&&decide (1<=p.2.2/\p.2.2<=10000000))=true:=this;rw[BC,BC]at e;exact e.1.1
theorem aG7{S S':Ex}{sc:Int}{ws fr:List Str}{word z:Str}{ds:List Bc}(st:lC S word ds z S')(Y:yG sc ws word ds fr)(so:uZ S fr)(h1:1<=S.hs.length)(ic:vA S ws):uZ S' fr/\1<=S'.hs.length/\vA S' ws:=by
 by_cases hz:z="done"
 .subst hz;have rs:=Y.rs;have np:=Y.np;have nj:=Y.nj;clear Y;cases rs with
  | @part land R hl hr h2 h6 ha=>
   obtain⟨e1,e2⟩:=st.fn (.part (land:=land) (R:=R));rw[<- e1,Iq rfl]at e2;subst e2;have F:uZ (iJ S land R) fr:=fun y G=>by
    rcases aCP.mp G with h|⟨_,h⟩
    .obtain⟨q,hq,rfl⟩:=AL.mp h;exact⟨aDO ha hq,np land R rfl rfl q hq⟩
    .exact so y h
   obtain⟨q,hq⟩:=List.exists_mem_of_length_pos (show 0<R.length by omega);exact⟨F,yI (aCP.mpr (.inl (Ba hq))),⟨by rw[uT];exact ic.ks,by rw[uT];exact ic.v,ic.n1,ic.n8⟩⟩
  | @join land R hl hr h2 h6 ha=>
   obtain⟨e1,e2⟩:=st.fn (.join (land:=land) (R:=R));rw[<- e1,Iq rfl]at e2;subst e2;obtain⟨hall,_⟩:=qN e1.symm;have Z:land∉fr:=by
    rcases nj land R rfl rfl with h|⟨y,h3,h4⟩
    .exact h
    .exact absurd h4 (so y (hall y h3)).2
   have F:uZ (fP S R land) fr:=fun y G=>by
    rcases pV.mp G with rfl|⟨_,h⟩
    .exact⟨hl,Z⟩
    .exact so y h
   exact⟨F,yI (pV.mpr (.inl rfl)),⟨ic.ks,ic.v,ic.n1,ic.n8⟩⟩
  | @forfeit land house hl hh=>
   obtain⟨e1,e2⟩:=st.fn (.forfeit (land:=land) (house:=house));rw[<- e1,Iq rfl]at e2;subst e2;have J:aK S land=true:=by
    unfold dL at e1;by_cases q:aK S land=false
    .rw[Iq q]at e1;exact absurd e1 (by decide)
    .simpa using q
   have O:∀ y,aK { S with hs:=b0 S.hs (Ad land) (.str house) } y=true↔aK S y=true:=fun y=>by
    refine Im aCM ⟨fun q=>?_,.inr⟩;rcases q with rfl|q
    .exact J
    .exact q
   exact⟨fun y G=>so y ((O y).mp G),yI ((O land).mpr J),⟨ic.ks,ic.v,ic.n1,ic.n8⟩⟩
 .have e:=st.idle hz;subst e;exact⟨so,h1,ic⟩
theorem wS:∀(ip d:List (Key×V)),(ip.map (·.1)).Nodup->(∀ k∈ip.map (·.1),bG d k=none)->cX d ip=d++ip
 | [],d,_,_=>by rw[A6];rfl
 | kv::ip,d,hn,h=>by
  rw[Aq,A5]at hn;show cX (b0 d kv.1 kv.2) ip=_;rw[hV _ (h kv.1 (by simp)),wS ip _ hn.2,AF]
  .rfl
  .intro k F;rw[<- hV kv.2 (h kv.1 (by simp)),d7,Ip (fun e=>hn.1 (by rw[<- e];exact F))];exact h k (by rw[Aq];exact Ao _ F)
theorem aKw{Ls:List L4}(hn:(Ls.map (·.1)).Nodup)(ho:∀ l∈Ls,LOk l)(h1:1<=Ls.length)(Z:Ls.length<=8):vA (ex0 Ls) (Ls.map (·.1)):=by
 have J:(Ls.map fun l=>((Ad l.1:Key),V.int l.2.2.2)).map (·.1)=(Ls.map (·.1)).map Ad:=by
  rw[Di,Di];rfl
 have e:(ex0 Ls).inc=Ls.map fun l=>((Ad l.1:Key),V.int l.2.2.2):=by
  unfold ex0;rw[pU,wS _ _ ?_ fun _ _=>rfl]
  .rfl
  .rw[J];refine FH _ (fun a b h e=>h ?_) hn;injection e
 refine⟨by rw[e,J],fun f hf=>?_,by rw[Aa];exact h1,by rw[Aa];exact Z⟩;obtain⟨l,hl,rfl⟩:=AL.mp hf;refine⟨(ho l hl).f,?_⟩;obtain⟨v,hv⟩:=Bf.mp (uQ (fun l:L4=>l.1) (fun l:L4=>V.int l.2.2.2) (Ad l.1) Ls [] (.inr ⟨l,hl,rfl⟩));have G:bG (ex0 Ls).inc (Ad l.1)=some v:=by unfold ex0;rw[pU];exact hv
 rcases kG _ _ _ _ _ _ hv with h|⟨O,F,_,Y⟩
 .cases h
 .exact⟨_,by rw[G,Y],(ho O F).i1,(ho O F).i2⟩
theorem pX(f:Str->Bool):∀ l:List Str,(l.filter f).length+(l.filter fun z=>!f z).length=l.length
 | []=>rfl
 | x::r=>by
  have F:=pX f r;simp only[BW];cases h:f x
  .simp only[CB,if_false,Bool.not_false,if_true,AR];omega
  .simp only[if_true,Bool.not_true,CB,if_false,AR];omega
theorem aFQ{K:Ah}{H H':Hp}{p c fl:Af}{ns:List Int}{ip:List (Key×V)}(ce:SqL K H c (ns.map V.int))(G:H fl=none)(F:H p=some (.dK ip))(k:bA p H H'):(Rd H' c (.lst (ns.map V.int))/\c≠fl)\/∀ H',SqL K H' c (ns.map V.int):=by
 rcases ce with(e|⟨o',e⟩)|e
 .exact .inl ⟨.inl (k _ _ e (bS e F (fun z=>nomatch z))),aH e G⟩
 .exact .inl ⟨.inr ⟨o',k _ _ e (bS e F (fun z=>nomatch z))⟩,aH e G⟩
 .exact .inr fun H'=>.inr e
theorem aDP{H:Hp}{xs:List V}{G:List cS}{fs:List Str}{x:V}{u:cS}(h:mI H xs G fs)(rd:RdV false H x u.d)(ok:u.Ok fs):mI H (xs++[x]) (G++[u]) fs:=by
 refine⟨by rw[Av,Av,h.len];rfl,fun i y F=>?_⟩;have hl:=h.len;rcases Nat.lt_trichotomy i xs.length with z|z|z
 .rw[B8 z]at F;obtain⟨v,h1,h2⟩:=h.at' i y F;exact⟨v,by rw[B8 (by omega)];exact h1,h2⟩
 .rw[z,BV (Aj _),Nat.sub_self]at F;cases F;exact⟨u,by rw[z,hl,BV (Aj _),Nat.sub_self];rfl,rd,ok⟩
 .rw[CZ (by rw[Av];show xs.length+1<=i;omega)]at F;cases F
section
variable{p c:Af}{ns:List Int}{a:Int}{W:Af}{B:WA}{sc:Int}{os:List UK}{own jd:UK->Str}{S S':Ex}{fl lp:Af}{fr:List Str}{ps:List Str}
theorem RSB.done(b:RSB K H p c ns W B sc os own S fl lp ps)(h:Cur H H p c a fl fr)(kx:cY [B.ow,B.me,B.ho,B.ic] H H')(wl:dD H' W B sc os jd S')(ce:(Rd H' c (.lst (ns.map V.int))/\c≠fl)\/∀ H',SqL K H' c (ns.map V.int)):RSB K H' p c ns W B sc os jd S' fl lp ps/\Cur H' H' p c a fl fr:=by
 obtain⟨l,hl,e⟩:=h.ob;have F:=b.pw;simp only[An,AC,or_false,not_or]at F;have ep:H' p=some (.dK (f8 c a l)):=kx p _ (by
  simp only[An,AC,or_false,not_or];exact⟨bS e b.wl.ow (fun z=>nomatch z),F.2⟩) e
 have ef:=b.wl.kept kx h.ef (fun _ z=>nomatch z) (fun _ z=>nomatch z);exact⟨⟨ce,b.sm,wl,b.wl.kept kx b.ep (fun _ z=>nomatch z) (fun _ z=>nomatch z),b.np,b.p1,b.p3,b.pw,b.fo,b.fp,⟨_,ep⟩,⟨_,ef⟩⟩,⟨cY.refl _,⟨l,hl,ep⟩,h.ge,ef⟩⟩
theorem RSB.app{F:Af}{xs ys:List V}(b:RSB K H p c ns W B sc os own S fl lp ps)(h:Cur H H p c a fl fr)(e:H F=some (.lst xs))(n1:F≠fl)(O:F≠lp)(Y:F≠B.o)(ce:(Rd (upd H F (.lst ys)) c (.lst (ns.map V.int))/\c≠fl)\/∀ H',SqL K H' c (ns.map V.int)):RSB K (upd H F (.lst ys)) p c ns W B sc os own S fl lp ps/\Cur (upd H F (.lst ys)) (upd H F (.lst ys)) p c a fl fr:=by
 obtain⟨l,hl,ep⟩:=h.ob;have J:upd H F (.lst ys) p=some (.dK (f8 c a l)):=by rw[aG (bS ep e (fun z=>nomatch z))];exact ep
 have G:upd H F (.lst ys) fl=some (.lst (fr.map V.str)):=by rw[aG n1.symm];exact h.ef
 exact⟨⟨ce,b.sm,b.wl.lst e Y,by rw[aG O.symm];exact b.ep,b.np,b.p1,b.p3,b.pw,b.fo,b.fp,⟨_,J⟩,⟨_,G⟩⟩,⟨cY.refl _,⟨l,hl,J⟩,h.ge,G⟩⟩
end
inductive aAR(K:Ah)(vs:List V)(H:Hp)(Q:VK)(u3_:XK):Prop
 | mk (p c:Af) (ns:List Int) (a:Int) (most:Nat) (lt:Af) (tw:List Str) (q0:vs=[.ref p,.int most,.ref lt]) (q1:c9 K H p c ns a) (q2:a<=100000) (q3:most<=40) (q4:H lt=some (.lst (tw.map V.str))) (q5:(∀ z∈tw,z∈gO)) (q6:1<=tw.length) (q7:tw.length<=20) (q8:∀(t2 t:Af) (Ls:List L4) (us:List cS) (sc a':Int) (H':Hp),H' t2=some (.tup [.ref t,.int sc])->fQ H' t Ls us->(∀ l∈Ls,LOk l/\sc ∣ l.2.2.1/\l.2.2.1<=10*sc)->(Ls.map (·.1)).Nodup->1<=Ls.length->1<=sc->sc<=100000->(∀ u∈us,RSc sc u)->us.length<=most->a<=a'->a'<=a+30000->c9 K H' p c ns a'->bA p H H'->Q (.ref t2) H'):aAR K vs H Q u3_
def aFR(K:Ah):Sp:=fun vs H Q u3_=>aAR K vs H Q u3_
theorem aFS:cB ["_law_pen_here","_law_most","_law_terms","_law_scale","_law_pool","_law_laying_here","_law_fields","_law_fresh","_law_world_here","_law_day","_law_last","_law_rows","_law_name","_law_word_here","_law_behind","_law_row"] ["_law_pen_here","_law_most","_law_terms"] (aQ aAc):=⟨rfl,rfl,rfl,by decide,rfl,by decide,by decide⟩
theorem aG8{f fN fL fW fD fM fR fO fE:Af}{fd g6 fh g2 gD gk g7 fj ft:Be}(F:Fun K "_law_roll" "_law_roll" aAc f fd)(gA:mg "len"=none)(fv:mg "tuple"=none)
  (GN:cW P w K mg base CX0 2 fN g6 ["_law_pen_here","_law_many"] (xT K)) (mN:mg "_law_names"=some (.ref fN)) (kN:A4 K (.ref fN)=true) (bN:fH K g6 ["_law_pen_here","_law_many"] [])
  (GL:cW P w K mg base CX0 3 fL fh ["_law_pen_here","_law_pool","_law_scale","_law_most"] (aAE K)) (mL:mg "_law_laying"=some (.ref fL)) (kL:A4 K (.ref fL)=true) (bL:fH K fh ["_law_pen_here","_law_pool","_law_scale","_law_most"] [])
  (GW:cW P w K mg base CX0 2 fW g2 ["_law_laying_here","_law_scale"] yC) (mW:mg "_law_world"=some (.ref fW)) (kW:A4 K (.ref fW)=true) (bW:fH K g2 ["_law_laying_here","_law_scale"] [])
  (GD:cW P w K mg base CX0 1 fD gD ["_law_pen_here","_law_many"] (lY K)) (mD:mg "_law_draw"=some (.ref fD)) (kD:A4 K (.ref fD)=true) (bD:fH K gD ["_law_pen_here","_law_many"] [])
  (GM:cW P w K mg base CX0 3 fM gk ["_law_pen_here","_law_world_here","_law_fresh","_law_pool","_law_word_here"] (aFO K)) (mM:mg "_law_made"=some (.ref fM)) (kM:A4 K (.ref fM)=true) (bM:fH K gk ["_law_pen_here","_law_world_here","_law_fresh","_law_pool","_law_word_here"] [])
  (GR:cW P w K mg base CX0 1 fR g7 ["_law_word_here"] aFC) (mR:mg "_law_rank"=some (.ref fR)) (kR:A4 K (.ref fR)=true) (bR:fH K g7 ["_law_word_here"] [])
  (GO:cW P w K mg base CX0 3 fO fj ["_law_world_here","_law_row"] aBK) (mO:mg "_law_word"=some (.ref fO)) (kO:A4 K (.ref fO)=true) (bO:fH K fj ["_law_world_here","_law_row"] [])
  (GE:cW P w K mg base CX0 2 fE ft ["_law_world_here","_law_row"] aIL) (mE:mg "_law_do"=some (.ref fE)) (kE:A4 K (.ref fE)=true) (bE:fH K ft ["_law_world_here","_law_row"] [])
  :cW P w K mg base CX0 4 f fd ["_law_pen_here","_law_most","_law_terms"] (aFR K):=by
 refine F.ok aFS (fun vs H Q E h=>?_) (fun mc A outer s H vs Q E hr h=>?_)
 .obtain⟨p,c,ns,a,most,lt,tw,rfl,_⟩:=h;rfl
 .obtain⟨p,c,ns,a,most,lt,tw,rfl,hp,ha,hmost,elt,htw,ht1,ht20,k⟩:=h;have hu:=fS hr;have ab:dC 1 _:=hr.mono (by decide);have bt:dC 2 _:=hr.mono (by decide);have dn:dC 3 _:=hr.mono (by decide);have nd:=aFS.nd;refine⟨_,(aB (aR (i:=3) nd rfl (Az rfl) (aW bX (dA (aF aD (aF aD (aF (aY sH aD aD) aE)))) (cP GD ab rfl mD kD bD .nil dU (aF (pv 0) (aF aD aE))) Iv))
   (aB (aR (i:=4) nd rfl (Az rfl) (cP GN bt rfl mN kN bN .nil dU (aF (pv 0) (aF (aY cQ aD (cP GD ab rfl mD kD bD .nil dU (aF (pv 0) (aF aD aE)))) aE))))
   (aB (aR (i:=5) nd rfl (Az rfl) (cP GL dn rfl mL kL bL .nil dU (aF (pv 0) (aF (pv 4) (aF (pv 3) (aF aD aE))))))
   (aB (aR (i:=6) nd rfl (DT rfl) (dF (N:=["_law_row"]) (src:=[none]) (osc:=aQ aAc) (oN:=["_law_pen_here","_law_most","_law_terms","_law_scale","_law_pool","_law_laying_here","_law_fields","_law_fresh","_law_world_here","_law_day","_law_last","_law_rows","_law_name","_law_word_here","_law_behind","_law_row"]) ⟨by rfl,by decide,by decide,by decide,rfl,by rfl⟩ (dQ (pv 5)) (fun cl s H fp im C=>⟨aV (i:=0) (show(["_law_row"]:List Str).Nodup by decide) rfl (Az rfl),dE,aW (r:=lR K) bC (pv 0) aD Iv⟩)))
   (aB (iW (i:=7) (N:=["_law_name","_law_fields"]) (src:=[none,some 6]) (osc:=aQ aAc) (oN:=["_law_pen_here","_law_most","_law_terms","_law_scale","_law_pool","_law_laying_here","_law_fields","_law_fresh","_law_world_here","_law_day","_law_last","_law_rows","_law_name","_law_word_here","_law_behind","_law_row"]) ⟨by rfl,by decide,by decide,by decide,rfl,by rfl⟩ nd rfl (g8 (cP GN bt rfl mN kN bN .nil dU (aF (pv 0) (aF aD aE)))) (fun cl s H fp im C=>⟨aV (i:=0) (show(["_law_name","_law_fields"]:List Str).Nodup by decide) rfl (Az rfl),oS (aZ (r:=rIn K true) kT (pv 0) (pv 1) (by with_unfolding_all rfl)),pv 0⟩))
   (aB (aR (i:=8) nd rfl (Az rfl) (cP GW bt rfl mW kW bW .nil dU (aF (pv 5) (aF (pv 3) aE))))
   (aB (aR (i:=9) nd rfl (Az rfl) (aW bX (dA (aF aD (aF (cP GD ab rfl mD kD bD .nil dU (aF (pv 0) (aF aD aE))) aE))) (cP GD ab rfl mD kD bD .nil dU (aF (pv 0) (aF aD aE))) Iv))
   (aB (aR (i:=10) nd rfl (Az rfl) (cO (aF aD (aF aD (aF aO aE)))))
   (aB (aR (i:=11) nd rfl (Az rfl) (dA aE))
   (aB (dY Bj rfl (g8 (cP GN bt rfl mN kN bN .nil dU (aF (pv 0) (aF (cP GD ab rfl mD kD bD .nil dU (aF (pv 0) (aF (aY cQ (pv 1) aD) aE))) aE)))) (g:=aS 12) (aV (i:=12) nd rfl (Az rfl))
   (aB (aR (i:=9) nd rfl (Az rfl) (aY cQ (pv 9) (aW bX (dA (aF aD (aF aD (aF aD (aF aD aE))))) (cP GD ab rfl mD kD bD .nil dU (aF (pv 0) (aF aD aE))) Iv)))
    (aB (aR (i:=13) nd rfl (Az rfl) (aW bX (pv 2) (cP GD ab rfl mD kD bD .nil dU (aF (pv 0) (aF (aX bH (by rfl) gA A1 (aF (pv 2) aE)) aE))) Iv))
    (aB (aR (i:=14) nd rfl (Az rfl) (cP GM dn rfl mM kM bM .nil dU (aF (pv 0) (aF (pv 8) (aF (pv 7) (aF (pv 4) (aF (pv 13) aE)))))))
    (aB (eQ (cD (PW.pt (gS (aZ cV (pv 13) aO (bJ _)) (gJ aCD))) mH bF))
    (aB (eQ (cD (aZ (aIi (G9 hu)) (cO (aF (pv 9) (aF (cP GR ab rfl mR kR bR .nil dU (aF (pv 13) aE)) (aF (pv 12) aE)))) (pv 10) (bJ _)) (aM (aR (i:=9) nd rfl (Az rfl) (aY cQ (pv 9) aD))) bF))
    (aB (aR (i:=10) nd rfl (Az rfl) (cO (aF (pv 9) (aF (cP GR ab rfl mR kR bR .nil dU (aF (pv 13) aE)) (aF (pv 12) aE)))))
    (aB (aR (i:=15) nd rfl (Az rfl) (aY aGp (cO (aF (pv 13) (aF (pv 12) (aF (pv 9) aE)))) (pv 14)))
    (aB (eQ (cD (aZ cV (cP GO dn rfl mO kO bO .nil dU (aF (pv 8) (aF (pv 15) aE))) aO (bJ _)) (aM (dP (cP GE bt rfl mE kE bE .nil dU (aF (pv 8) (aF (pv 15) aE))))) bF))
    (aM (dP (lE Bd B0 BZ gE (pv 11) (aF (pv 15) aE)))))))))))))
   (aM (bT (cO (aF (cO (aF (pv 5) (aF (c8 dR (by rfl) fv (by kernel_rfl) (aF (pv 11) aE)) aE))) (aF (pv 3) aE))))))))))))))),?_⟩
  refine K11.tl fun R hR=>?_;refine⟨_,_,rfl,rfl,⟨by decide,by decide,by decide⟩,zZ3,fun L hL=>?_⟩;have sL:=aJ (o:=.lst [V.int 1,.int 1,.int (10^(5:Int).toNat)]) hL;have eL:upd H L (.lst [V.int 1,.int 1,.int (10^(5:Int).toNat)]) L=some (.lst ([(1:Int),1,100000].map V.int)):=aA;have dr:=hp.same sL;have kL:bA p H _:=(bA.refl p H).same sL;generalize upd H L _=H0 at sL eL dr kL ⊢;refine⟨_,rfl,p,c,ns,a,_,rfl,dr,by omega,by decide,by decide,fun r1 a1 H1 hI dj l1 u1 iu q1=>?_⟩;obtain⟨sc,hsc,hat1⟩:=aBN (l:=[(1:Int),1,100000]) hI (by show r1<3;exact dj);have Z:1<=sc/\sc<=100000:=by
   simp only[An,AC,or_false]at hsc;rcases hsc with rfl|rfl|rfl<;>omega
  refine⟨L,_,_,_,rfl,rfl,aU (cT eL dr q1),hat1,?_⟩;have k1:=kL.trans q1;dsimp only[aS];subst hR;refine K11.tl fun R hR=>?_;refine⟨_,rfl,_,rfl,p,c,ns,a1,_,rfl,iu,by omega,by decide,by decide,fun r2 a2 H2 kw f4 l2 u2 gj q2=>?_⟩;refine⟨_,_,rfl,rfl,?_⟩;obtain⟨M,hM⟩:∃ M:Nat,2+r2=M:=⟨(2+r2).toNat,by omega⟩
  rw[show V.int (2+r2)=V.int (M:Int) from congrArg V.int hM];have k2:=k1.trans q2;refine⟨p,c,ns,a2,M,rfl,gj,by omega,by omega,fun lp ps a3 H3 fz fC l5 fq l3 u3 gv q3=>?_⟩;have k3:=k2.trans q3;have ml:H lp=none:=lB gj k2 fz;dsimp only[aS];subst hR;refine K11.tl fun R hR=>?_;refine⟨_,rfl,_,rfl,_,rfl,p,c,ns,a3,lp,ps,sc,10,rfl,gv,by omega,fC,fq,by omega,by omega,Z.1,Z.2,rfl,fun ah xs J a4 H4 bf d5 hok cm ea cg l4 u4 jc q4=>?_⟩;have k4:=k3.trans q4;have g5:=cT fC gv q4;have e6:=d5.len;rw[Aa]at e6;dsimp only[aS];subst hR;refine K11.tl fun R hR=>?_;refine⟨_,rfl,ah,rfl,⟨_,aN bf⟩,?_⟩;refine d9 (K:=K) (xs:=xs) (fun i ys σ' H'=>∃(o1:Option V),σ'=[o1]/\H'=H4/\ys=((J.take i).map (·.1)).map V.str) ⟨none,rfl,rfl,rfl⟩ (aP (by omega)) (fun i ys σ H' p=>by obtain⟨_,_,_,rfl⟩:=p;rw[Aa,Aa,AJ];omega) (fun i ys σ H' p=>by obtain⟨_,_,rfl,_⟩:=p;exact aN bf) ?_ ?_
  .rintro i v ys σ' H' hv ⟨o1,rfl,rfl,rfl⟩;obtain⟨dd,hdd,rd'⟩:=d5.at hv;rw[Au]at hdd;obtain⟨l,hl,rfl⟩:=AU.mp hdd;obtain⟨q,rfl,hq⟩:=mT rd';dsimp only[aS];refine gI ?_;refine⟨_,rfl,q,_,0,_,rfl,rfl,aN hq,rfl,_,rfl,rfl,?_⟩;rw[AA,hl,Ar,Ar];rfl
  rintro ys σ' H' ⟨o1,rfl,rfl,rfl⟩ af gl;rw[e6,AN];obtain⟨ws,hws⟩:∃ ws,ws=J.map (·.1):=⟨_,rfl⟩
  rw[<- hws]at cm ⊢;have lc:ws.length=J.length:=by rw[hws,Aa]
  have aI:=aJ (o:=.lst (ws.map V.str)) gl;have fy:upd H' af (.lst (ws.map V.str)) af=some (.lst (ws.map V.str)):=aA;have aL:=jc.same aI;have k5:=k4.same aI;have da:=aI _ _ g5;have bP:=aI _ _ bf;have cv:=cF.onT (bV aI) d5 (gQ J);generalize upd H' af _=H5 at aI fy aL k5 da bP cv ⊢;dsimp only[aS];subst hR;refine K11.tl fun R hR=>?_;refine⟨_,rfl,p,c,ns,a4,300,rfl,aL,by omega,by decide,fun LA nA a6 H6 ld fB kh ew l6 u6 fZ q6=>?_⟩;have k6:=k5.trans q6;have c4:=cT da aL q6;have g4:=cT fy aL q6;have ej:=i9 aL q6 _ _ bP;have hg:=cF.onT (i9 aL q6) cv (gQ J);refine⟨LA,rfl,⟨_,aU fB⟩,?_⟩;refine m6 (K:=K) (xs:=nA.map V.str) (fun i ys σ' H'=>∃(o1:Option V),σ'=[o1,some (.ref af)]/\H'=H6/\ys=((nA.take i).filter fun z=>decide (z∉ws)).map V.str) ⟨none,rfl,rfl,rfl⟩ (aP (by rw[Aa];omega)) (fun i ys σ H' p=>by obtain⟨_,_,_,rfl⟩:=p;rw[Aa];exact Ay (BE _ _) (by rw[AJ];exact Er _ _)) (fun i ys σ H' p=>by obtain⟨_,_,rfl,_⟩:=p;exact aU fB) ?_ ?_
  .rintro i v ys σ' H' hv ⟨o1,rfl,rfl,rfl⟩;rw[Au]at hv;obtain⟨z,hz,rfl⟩:=AU.mp hv;have et:(nA.take (i+1)).filter (fun z=>decide (z∉ws))=(nA.take i).filter (fun z=>decide (z∉ws))++if decide (z∉ws)=true then[z] else[]:=by
    rw[AA,hz,CU];congr 1;show E4 _ [z]=_;rw[BW,Eo]
   dsimp only[aS];refine⟨_,rfl,_,rfl,af,_,rfl,.inl (aU g4),rfl,j9 _,_,rfl,?_⟩;show if (if true=true then !inV (V.str z) (ws.map V.str) else inV (V.str z) (ws.map V.str))=true then _ else _
   rw[Iq rfl,pQ];by_cases g:z∈ws
   .rw[Ir g];refine nE ⟨_,rfl,rfl,?_⟩;rw[et,Ip (by simpa using g),A6]
   .rw[Is g];refine gI ⟨_,rfl,_,rfl,rfl,?_⟩;rw[et,Iq (by simpa using g),Ar];rfl
  rintro ys σ' H' ⟨o1,rfl,rfl,rfl⟩ fl en;rw[Aa,AN];have c1:Nms (nA.filter fun z=>decide (z∉ws)):=⟨ew.nd.filter _,fun z hz=>ew.ok z (BL.mp hz).1⟩
  have db:∀ z∈nA.filter (fun z=>decide (z∉ws)),z∉ws:=fun z hz=>Iu (BL.mp hz).2;have ff:292<=(nA.filter fun z=>decide (z∉ws)).length:=by
   have h1:=pX (fun z=>decide (z∉ws)) nA;have h2:(nA.filter fun z=>!decide (z∉ws)).length<=ws.length:=DU (ew.nd.filter _) fun z hz=>by simpa using(BL.mp hz).2
   omega
  have c2:(nA.filter fun z=>decide (z∉ws)).length<=300:=Ay (BE _ _) (by omega);generalize nA.filter (fun z=>decide (z∉ws))=ba at c1 db ff c2 ⊢;have b6:H fl=none:=lB fZ k6 en;have sF:=aJ (o:=.lst (ba.map V.str)) en;have eC:lp≠fl:=aH c4 en;have cf:=fZ.same sF;have k7:=k6.same sF;have c3:=sF _ _ c4;have au:=sF _ _ ej;have bw:=cF.onT (bV sF) hg (gQ J);have aj:upd H' fl (.lst (ba.map V.str)) fl=some (.lst (ba.map V.str)):=aA;generalize upd H' fl _=H7 at sF cf k7 c3 au bw aj ⊢;dsimp only[aS];subst hR;refine K11.tl fun R hR=>?_;refine⟨_,rfl,_,rfl,ah,xs,J,sc,rfl,au,bw,hok,by rw[<- hws];exact cm,ea,cg,Z.1,Z.2,fun W B os own H8 S8 bd ir=>?_⟩;have k8:=k7.same S8;have gu:=cf.same S8;dsimp only[aS];subst hR;refine K11.tl fun R hR=>?_;obtain⟨l0,hl0,ep0⟩:=hp.ob;obtain⟨l7,hl7,eF⟩:=cf.ob;have ad:RSB K H8 p c ns W B sc os own (ex0 J) fl lp ps:=⟨aFQ hp.ce b6 ep0 k8,hp.sm,ir,S8 _ _ c3,fq,by omega,by omega,(fun z=>by
    have hn:=bd p;simp only[An,AC,or_false]at z hn;rw[hn (by rcases z with z|z|z|z<;>simp[z])]at eF;cases eF),(fun e=>by rw[e,bd B.o (by simp)]at aj;cases aj),eC.symm,⟨_,S8 _ _ eF⟩,⟨_,S8 _ _ aj⟩⟩
  have fu:Cur H8 H8 p c a6 fl ba:=⟨cY.refl _,gu.ob,gu.ge,S8 _ _ aj⟩
  have hT:∀ x∈[W,B.o,B.ow,B.me,B.ho,B.ic],H x=none:=fun x hx=>lB cf k7 (bd x hx);refine⟨_,rfl,p,c,ns,a6,_,rfl,(fu.pen ad),by omega,by decide,by decide,fun r9 a9 H9 mz mi l9 u9 iI q9=>?_⟩;have h6:=fu.draw q9 iI;refine⟨zZ2,fun L2 iw=>?_⟩;have s2:=aJ (o:=.lst [V.int 0,.int r9]) iw;have az:=h6.same s2;have f2:upd H9 L2 (.lst [V.int 0,.int r9]) L2=some (.lst ([(0:Int),r9].map V.int)):=aA;have fc:bA p H _:=(k8.trans q9).same s2;generalize upd H9 L2 _=lj at s2 az f2 fc ⊢;refine⟨_,rfl,p,c,ns,a9,_,rfl,(az.pen ad),by omega,by decide,by decide,fun dj h0 eT fa hb li lv gm dq=>?_⟩;have f5:=az.draw dq gm;have h7:=fc.trans dq;obtain⟨day0,hday,hat11⟩:=aBN (l:=[(0:Int),r9]) fa (by show dj<2;exact hb);have iy:0<=day0/\day0<=7899:=by
   simp only[An,AC,or_false]at hday;rcases hday with rfl|rfl<;>omega
  refine⟨L2,_,_,_,rfl,rfl,aU (az.lst f2 dq),hat11,?_⟩;dsimp only[aS];subst hR;refine K11.tl fun R hR=>?_;refine⟨zZ3,fun tl io=>?_⟩;have dw:=aJ (o:=.tup [V.int 0,.int 0,.str ""]) io;have O:=f5.same dw;have eE:=h7.same dw;have gr:upd eT tl (.tup [V.int 0,.int 0,.str ""]) tl=some (.tup [V.int 0,.int 0,.str ""]):=aA;generalize upd eT tl _=fx at dw O eE gr ⊢;dsimp only[aS];subst hR;refine K11.tl fun R hR=>?_;refine⟨A8 _,fun LR b1=>?_⟩;have sR:=aJ (o:=.lst []) b1;have ik:H LR=none:=lB (O.pen ad) eE b1;have cL:LR≠fl:=(aH O.ef b1).symm;have gB:LR≠lp:=(aH (O.ep ad) b1).symm;obtain⟨qo,ho1,_⟩:=(O.wl ad).o;have je:LR≠B.o:=(aH ho1 b1).symm;have ak:=O.same sR;have gz:=eE.same sR;have bg:=sR _ _ gr;have gK:upd fx LR (.lst []) LR=some (.lst []):=aA;generalize upd fx LR (.lst [])=lk at sR ak gz bg gK ⊢;dsimp only[aS];subst hR;refine K11.tl fun R hR=>?_;refine⟨_,rfl,_,rfl,_,rfl,_,_,rfl,rfl,p,c,ns,h0,_,rfl,(ak.pen ad),by omega,by omega,gR (by omega),fun gy ig lL jk j2 lK lu dc b5=>?_⟩;have ax:=ak.draw b5 dc;have ij:=gz.trans b5;have eM:=ak.tup b5 _ _ bg;have bi:=ak.lst gK b5;obtain⟨nn,rfl⟩:∃ n:Nat,gy=n:=⟨gy.toNat,by omega⟩
  refine⟨p,c,ns,ig,nn,rfl,dc,by omega,by omega,fun LN ez dt mm fw gb ix hH mw mC fb cs=>?_⟩;have aw:=ax.draw cs fb;have h8:=ij.trans cs;have ei:=ax.tup cs _ _ eM;have ee:=ax.lst bi cs;have he:LN≠fl:=(aH ax.ef fw).symm;have hQ:LN≠LR:=(aH bi fw).symm;have b3:=(aw.tups ad) _ _ (S8 _ _ au);have eJ:=cF.onT (aw.tups ad) (cF.onT (bV S8) bw (gQ J)) (gQ J);have jj:uZ (ex0 J) ba:=fun z hz=>by
   have e7:=st0.mp hz;obtain⟨l,hl,rfl⟩:=AL.mp e7;exact⟨(hok l hl).1.f,fun h=>db _ h (by rw[hws];exact e7)⟩
  have is:1<=(ex0 J).hs.length:=by
   obtain⟨l,hl⟩:=List.exists_mem_of_length_pos (show 0<J.length by omega);exact yI (st0.mpr (Ba hl))
  have hS:vA (ex0 J) ws:=by
   rw[hws];exact aKw (by rw[<- hws];exact cm) (fun l hl=>(hok l hl).1) ea cg
  have iz:EB (ex0 J) 0 ws:=by
   rw[hws];exact EB.zero cg
  refine⟨LN,rfl,⟨_,aU gb⟩,?_⟩;refine jU (K:=K) (xs:=ez.map V.str) (fun i σ H'=>Ex3 fun(em ek el:Option V)=>Ex3 fun(br:Option V) (day:Int) (tl:Af)=>Ex3 fun(d1 d2:Int) (zl:Str)=>Ex3 fun(a':Int) (fr:List Str) (jd:UK->Str)=>Ex3 fun(S':Ex) (qs:List Af) (us:List cS)=>Aw6 (σ=[some (.ref p),some (.int most),some (.ref lt),some (.int sc),some (.ref lp),some (.ref ah),some (.ref af),some (.ref fl),some (.ref W),some (.int day),some (.ref tl),some (.ref LR),em,ek,el,br]) (RSB K H' p c ns W B sc os jd S' fl lp ps) (Cur H' H' p c a' fl fr) (bA p H H') (dt<=a') (Aw6 (a'<=dt+600*i) (H' ah=some (.tup xs)) (cF false H' xs (J.map mS)) (H' tl=some (.tup [.int d1,.int d2,.str zl])) (H' LR=some (.lst (qs.map V.ref))) (Aw6 (H' LN=some (.lst (ez.map V.str))) (mI H' (qs.map V.ref) us ws) (us.length=i) ((∀ u∈us,RSc sc u)) (0<=day) (Aw6 (day<=7899+51*i) (Nms fr) (292<=fr.length+7*i) (fr.length<=300) (uZ S' fr) (Aw3 (1<=S'.hs.length) (EB S' i ws) (vA S' ws))))))
   ⟨none,none,none,none,day0,tl,0,0,"",dt,ba,own,ex0 J,[],[],rfl,ad.at aw,aw.here,h8,by omega,by omega,b3,eJ,ei,ee,gb,⟨rfl,fun i x hx=>by simp at hx⟩,rfl,fun u hu=>by simp at hu,iy.1,by omega,c1,by omega,c2,jj,is,iz,hS⟩ (fun i σ H' _ p=>by obtain⟨_,_,_,_,_,_,_,_,_,_,_,_,_,_,_,_,_,_,_,_,_,_,_,_,_,e,_⟩:=p;exact aU e) ?_ ?_
  .rintro i v σ G hv ⟨em,ek,el,br,day,cj,d1,d2,zl,a',fr,jd,S',qs,us,rfl,rb,cu,kb,la,ua,di,fA,gx,f1,gX,aa,eu,bj,kF,lD,f3,mf,g1,du,gw,eb,ic⟩;rw[Au]at hv;obtain⟨name,hname,rfl⟩:=AU.mp hv;have gt:=hH.ok name (AQ hname);have ka:i<40:=by have:=(Al.mp hname).1;omega
   have ls:(i:Int)<40:=by omega
   dsimp only[aS];refine K11.tl fun R2 av=>?_;refine⟨_,rfl,zZ4,fun q hq=>?_⟩;have sq:=aJ (o:=.lst [V.int 0,.int 0,.int 1,.int 50]) hq;have cq:=cu.same sq;have eq:upd G q (.lst [V.int 0,.int 0,.int 1,.int 50]) q=some (.lst ([(0:Int),0,1,50].map V.int)):=aA;generalize upd G q _=Gq at sq cq eq ⊢;refine⟨_,rfl,p,c,ns,_,_,rfl,cq.pen rb,by omega,by decide,by decide,fun f4 mr e2 fe g3 kn lz eX eA=>?_⟩;have bY:=cq.draw eA eX;obtain⟨st4,hst4,hat21⟩:=aBN (l:=[(0:Int),0,1,50]) fe (by show f4<4;exact g3);have ke:0<=st4/\st4<=50:=by
    simp only[An,AC,or_false]at hst4;rcases hst4 with rfl|rfl|rfl|rfl<;>omega
   refine⟨q,_,_,_,rfl,rfl,aU (cq.lst eq eA),hat21,_,_,rfl,rfl,?_⟩;obtain⟨dy,hdy⟩:∃ dy,day+st4=dy:=⟨_,rfl⟩
   rw[show V.int (day+st4)=V.int dy from congrArg V.int hdy];dsimp only[aS];subst av;refine K11.tl fun R2 av=>?_;have eW:bA p H e2:=(kb.same sq).trans eA;have bu:e2 lt=some (.lst (tw.map V.str)):=cT elt hp eW;refine⟨_,rfl,_,rfl,_,rfl,lt,_,rfl,.inl (aU bu),p,c,ns,_,_,rfl,bY.pen rb,by omega,by rw[Aa];omega,gR (by rw[Aa];omega),fun lq jf ma e4 gg mh kP hf dV=>?_⟩;have be:=bY.draw dV hf;have jg:=eW.trans dV;obtain⟨word,hword,hat22⟩:=fY e4 gg;refine⟨lt,_,_,_,rfl,rfl,aU (bY.lst bu dV),hat22,?_⟩;dsimp only[aS];subst av;refine K11.tl fun R2 av=>?_;have hK:=htw word hword;refine⟨_,rfl,_,rfl,_,rfl,_,rfl,_,rfl,p,c,ns,W,B,sc,os,jd,S',fl,lp,ps,fr,ws,jf,word,rfl,rb.at be,be.here,by omega,f3,by omega,g1,du,gw,Ay eb.h (by omega),ic,hK,fun t cE ds f0 b7 aT bv lg ln bh df ja et hU lm mo=>?_⟩;have ay:=be.trans bv;have kL:∀{b:Af} {o:HO},G b=some o->(∀ xs,o≠.dK xs)->b≠fl->aT b=some o:=fun{b o} e n n2=>ay.kx b o (by
    obtain⟨ip,hpk⟩:=rb.pk;simp only[An,AC,or_false,not_or];exact⟨bS e hpk (n _),n2⟩) e
   have iq:bA p H aT:=fun b o e n=>bv.kx b o (by
    simp only[An,AC,or_false,not_or];exact⟨n,aH e b6⟩) (jg b o e n)
   have tG:fT G aT:=ay.tups rb;have eD:=kL f1 (fun _ z=>nomatch z) cL;have ey:=kL gX (fun _ z=>nomatch z) he;have gT:=rb.at ay;have gY:=ay.here;have eg:=tG _ _ gx;have ci:=tG _ _ di;have dg:=cF.onT tG fA (gQ J);have ck:=aa.on tG;dsimp only[aS];subst av;have bq:word∈gO:=mo.rs.word;refine⟨fun σ' H'=>σ'=[some (.ref p),some (.int most),some (.ref lt),some (.int sc),some (.ref lp),some (.ref ah),some (.ref af),some (.ref fl),some (.ref W),some (.int dy),some (.ref cj),some (.ref LR),some (.str name),some (.str (word)),some (.ref t),br]/\H'=aT,?_,?_⟩
   .refine⟨_,rfl,rfl,_,rfl,dB (fun g=>absurd (V.str.inj (Iu g)) (fun e=>absurd bq (by rw[e];decide))) fun _=>?_⟩;refine nE ?_;exact⟨rfl,rfl⟩
   rintro σ' Hy ⟨rfl,eH⟩;rw[eH];clear eH;generalize word=wd at mo bq ⊢;refine⟨fun σ' H'=>∃ dz:Int,σ'=[some (.ref p),some (.int most),some (.ref lt),some (.int sc),some (.ref lp),some (.ref ah),some (.ref af),some (.ref fl),some (.ref W),some (.int dz),some (.ref cj),some (.ref LR),some (.str name),some (.str wd),some (.ref t),br]/\b8 aT H'/\dy<=dz/\dz<=dy+1,?_,?_⟩
   .refine⟨_,rfl,_,rfl,wd,rfl,bq,fun Ha sa=>?_⟩;refine⟨_,rfl,zZ3,fun u dl=>?_⟩;have su:=sa.trans (aJ (o:=.tup [V.int dy,.int (rk wd),.str name]) dl);refine⟨_,rfl,u,cj,_,_,_,_,_,_,rfl,rfl,aA,su _ _ eg,_,rfl,dB (fun g=>?_) fun g=>?_⟩
    .exact⟨_,rfl,_,_,rfl,rfl,dy+1,rfl,su,by omega,by omega⟩
    .exact⟨dy,rfl,su,by omega,by omega⟩
   rintro σ' mx ⟨dz,rfl,h5,jr,jx⟩;refine⟨_,rfl,_,rfl,wd,rfl,bq,fun Ha sa=>?_⟩;refine⟨_,rfl,zZ3,fun bp gc=>?_⟩;have g0:=(h5.trans sa).trans (aJ (o:=.tup [V.int dz,.int (rk wd),.str name]) gc);have bI:upd Ha bp (.tup [V.int dz,.int (rk wd),.str name]) bp=some (.tup [V.int dz,.int (rk wd),.str name]):=aA;generalize upd Ha bp _=kA at g0 bI ⊢;dsimp only[aS];refine K11.tl fun R2 av=>?_;refine⟨_,rfl,_,rfl,_,rfl,zZ3,fun u dl=>?_⟩;have su:=aJ (o:=.tup [V.str wd,.str name,.int dz]) dl;have gq:=g0.trans su;refine⟨_,rfl,u,t,_,_,rfl,rfl,aA,gq _ _ et,(by show 3+cE.length<=_;omega),fun r dk c0 er=>?_⟩;have aq:=gq.trans c0;have dm:=c0 _ _ (su _ _ bI);dsimp only[aS];subst av;have aC:cS.Ok ⟨wd,name,dz,ds⟩ ws:=⟨mo.rs,gt,by dsimp only;omega,by dsimp only;omega⟩
   have ar:RdV false dk (.ref r) (cS.d ⟨wd,name,dz,ds⟩):=.tup er (by simp;omega) (.cons (.str wd (aFp bq)) (.cons (pM gt) (.cons (.int _) (cF.onT (bV aq) hU mo.rs.nodict))));have cx:=(gY.same aq).here;have cw:RSB K dk p c ns W B sc os jd S' fl lp ps:=gT.at (gY.same aq);have ii:=iq.same aq;have cy:=mo.sc name dz;have e3:uZ S' b7:=fun z hz=>⟨(du z hz).1,fun h=>(du z hz).2 (bh _ h)⟩
   refine⟨fun σ' H'=>∃(am:UK->Str) (S5:Ex),σ'=[some (.ref p),some (.int most),some (.ref lt),some (.int sc),some (.ref lp),some (.ref ah),some (.ref af),some (.ref fl),some (.ref W),some (.int dz),some (.ref bp),some (.ref LR),some (.str name),some (.str wd),some (.ref t),some (.ref r)]/\RSB K H' p c ns W B sc os am S5 fl lp ps/\Cur H' H' p c f0 fl b7/\bA p H H'/\fT dk H'/\H' LR=some (.lst (qs.map V.ref))/\H' LN=some (.lst (ez.map V.str))/\uZ S5 b7/\1<=S5.hs.length/\EB S5 (i+1) ws/\vA S5 ws,?_,?_⟩
   .refine⟨_,rfl,_,rfl,W,B,sc,os,jd,S',.ref r,⟨wd,name,dz,ds⟩,ws,rfl,cw.wl,ar,aC,fun z S5 kq st an=>?_⟩;have bo:=eb.step aC st;obtain⟨b4,cc,ca⟩:=aG7 st mo e3 gw ic;have cz:=(cx.same an).here;have Y:=cw.at (cx.same an);have gp:=ii.same an;have bx:=an _ _ (aq _ _ eD);have bm:=an _ _ (aq _ _ ey);refine⟨rfl,_,rfl,dB (fun g=>?_) fun g=>?_⟩
    .have g':z="done":=V.str.inj (Iu g);subst g';refine⟨_,rfl,_,rfl,W,B,sc,os,jd,S',S5,.ref r,⟨wd,name,dz,ds⟩,ws,rfl,Y.wl,aC.on ar (bV an),aC,cy,st,Ay bo.h (by omega),fun am a0 kx fg=>?_⟩;have cr:bA p H a0:=fun b o e n=>kx b o (fun z=>by
      have hn:=hT b;simp only[An,AC,or_false]at z hn;rw[hn (by rcases z with z|z|z|z<;>simp[z])]at e;cases e) (gp b o e n)
     obtain⟨bc,bz⟩:=Y.done cz kx fg (aFQ hp.ce b6 ep0 cr);exact⟨am,S5,rfl,bc,bz,cr,fun b us e=>Y.wl.kept kx (an _ _ e) (fun _ z=>nomatch z) (fun _ z=>nomatch z),Y.wl.kept kx bx (fun _ z=>nomatch z) (fun _ z=>nomatch z),Y.wl.kept kx bm (fun _ z=>nomatch z) (fun _ z=>nomatch z),b4,cc,bo,ca⟩
    .have g':z≠"done":=fun e=>g (Ir (by rw[e]));have e5:=st.idle g';subst e5;exact⟨jd,S5,rfl,Y,cz,gp,bV an,bx,bm,b4,cc,bo,ca⟩
   rintro σ' a0 ⟨am,S5,rfl,bc,bz,cr,ec,ag,eh,b4,cc,bo,ca⟩;have hW:=aa.len;rw[Aa]at hW;refine⟨_,rfl,.inl ⟨rfl,_,aU ag⟩,_,rfl,LR,_,_,rfl,rfl,ag,by rw[Aa];exact c5 (by omega),?_⟩;have gh:bA p H (upd a0 LR (.lst (qs.map V.ref++[V.ref r]))):=fun b o e n=>by
    rw[aG (aH e ik)];exact cr b o e n
   obtain⟨rb30,cu30⟩:=bc.app (ys:=qs.map V.ref++[V.ref r]) bz ag cL gB je (aFQ hp.ce b6 ep0 gh);have eK:fT a0 (upd a0 LR (.lst (qs.map V.ref++[V.ref r]))):=fun b us e=>by rw[aG (bS e ag (fun z=>nomatch z))];exact e
   have tA:fT aT (upd a0 LR (.lst (qs.map V.ref++[V.ref r]))):=fun b us e=>eK _ _ (ec _ _ (aq _ _ e));refine⟨_,_,_,_,dz,bp,dz,rk wd,name,f0,b7,am,S5,qs++[r],us++[⟨wd,name,dz,ds⟩],rfl,rb30,cu30,gh,by omega,by omega,tA _ _ ci,cF.onT tA dg (gQ J),eK _ _ (ec _ _ dm),by rw[aA,Ar];rfl,by rw[aG hQ];exact eh,?_,by rw[Av,eu];rfl,fun x hx=>?_,by omega,by omega,⟨df,fun z hz=>f3.ok z (bh z hz)⟩,by omega,?_,b4,cc,bo,ca⟩
   .rw[Ar];exact aDP (ck.on tA) (aC.on ar fun b us e=>eK _ _ (ec _ _ e)) aC
   .rcases AO.mp hx with h|h
    .exact bj x h
    .rw[AK.mp h];exact cy
   .exact Ay (DU df bh) g1
  .rintro σ H' ⟨em,ek,el,br,day,cj,d1,d2,zl,a',fr,jd,S',qs,us,rfl,rb,cu,kb,la,ua,d4,e0,js,hh,jv,aa,eu,bj,_⟩;rw[Aa,ix]at ua eu;subst hR;refine⟨_,rfl,_,rfl,LR,_,rfl,.inl ⟨aU hh,fun rw h9=>?_⟩⟩;have il:=aJ (o:=.tup (qs.map V.ref)) h9;refine⟨zZ2,fun t ht=>?_⟩;have st:=aJ (o:=.tup [V.ref ah,.ref rw]) ht;refine⟨_,rfl,zZ2,fun t2 ih=>?_⟩;have eo:=aJ (o:=.tup [V.ref t,.int sc]) ih;have sA:=(il.trans st).trans eo;refine k t2 t J us sc a' _ aA ⟨ah,rw,xs,qs.map V.ref,eo _ _ aA,sA _ _ d4,cF.onT (bV sA) e0 (gQ J),fun l hl=>(hok l hl).1,cg,eo _ _ (st _ _ aA),by rw[<- hws];exact aa.on (bV sA),by omega⟩ hok (by rw[<- hws];exact cm) ea Z.1 Z.2 bj (by omega) (by omega) (by omega) ((cu.pen rb).same sA) (kb.same sA)
structure OkD(b k:Nat)(d:Bc):Prop where
 sh:d.showable=true
 dp:d.depth<=k
 len:d.shown.length<=b
theorem OkD.mono{b F k G:Nat}{d:Bc}(h:OkD b k d)(O:b<=F)(J:k<=G):OkD F G d:=⟨h.sh,Ay h.dp J,Ay h.len O⟩
theorem aFT{b k:Nat}:∀{ds:List Bc},(∀ d∈ds,OkD b k d)->PyData.showableAll ds=true/\PyData.depthAll ds<=k/\((ds.map Cd).map (·.length)).sum<=ds.length*b
 | [],_=>⟨rfl,A8 _,by simp⟩
 | d::r,h=>by
  obtain⟨h1,h2,h3⟩:=aFT (ds:=r) fun x F=>h x (Ao _ F);obtain⟨g1,g2,g3⟩:=h d Ap;refine⟨?_,?_,?_⟩
  .unfold PyData.showableAll;rw[g1,h1];rfl
  .unfold PyData.depthAll;exact Nat.max_le.mpr ⟨g2,h2⟩
  .rw[Aq,Aq,CD,AR,Nat.succ_mul];omega
theorem OkD.tuple{b k n:Nat}{ds:List Bc}(h:∀ d∈ds,OkD b k d)(hn:ds.length<=n):OkD (n*(b+2)+3) (k+1) (.tuple ds):=by
 obtain⟨h1,h2,h3⟩:=aFT h;refine⟨?_,?_,?_⟩
 .unfold En;exact h1
 .unfold DS;omega
 .unfold Cd;rw[DY];unfold tupleText;have J:=Ff (Bv ", ") (ds.map Cd);have G:(Bv ", ").length=2:=by decide
  have F:(Bv "(").length=1:=by decide
  have O:∀ c:Bool,(Bv (if c=true then ",)" else ")")).length<=2:=by decide
  have Y:=O ((ds.map Cd).length==1);rw[G,Aa]at J;rw[C6,C6,F];have:ds.length*b+ds.length*2<=n*(b+2):=by
   rw[<- Nat.mul_add];exact Nat.mul_le_mul_right _ hn
  omega
theorem OkD.list{b k n:Nat}{ds:List Bc}(h:∀ d∈ds,OkD b k d)(hn:ds.length<=n):OkD (n*(b+2)+3) (k+1) (.list ds):=by
 obtain⟨h1,h2,h3⟩:=aFT h;refine⟨?_,?_,?_⟩
 .unfold En;exact h1
 .unfold DS;omega
 .unfold Cd;rw[DY,listText_eq_join];have J:=Ff (Bv ", ") (ds.map Cd);have G:(Bv ", ").length=2:=by decide
  have F:(Bv "[").length=1:=by decide
  have O:(Bv "]").length=1:=by decide
  rw[G,Aa]at J;rw[C6,C6,F,O];have:ds.length*b+ds.length*2<=n*(b+2):=by
   rw[<- Nat.mul_add];exact Nat.mul_le_mul_right _ hn
  omega
theorem OkD.str{z:Str}(h:Fj z=true)(hl:z.length<=100):OkD 1002 0 (.str z):=by
 refine⟨by unfold En;rfl,by unfold DS;exact Aj _,?_⟩;have hz:z.cps.size<=100:=hl;have F:(BO z).layable0=true:=by
  unfold PyData.layable0 PyData.canLay0 DS PyData.weight;rw[h,Ir (show(0:Nat)<=64 by decide),Ir (show z.cps.size<=2^20 by omega)];rfl
 have:=PyProof.Rows.len_repr_of_layable F;unfold Cd;omega
theorem aCW{i:Int}(F:0<=i)(h1:i<10^60):(Bv (toString i)).length<=60:=by
 obtain⟨n,rfl⟩:∃ n:Nat,i=n:=⟨i.toNat,by omega⟩
 rw[PySem.ofString_length];show(Int.repr (n:Int)).length<=60;have e:Int.repr (n:Int)=Nat.repr n:=rfl;rw[e];exact(Nat.length_repr_le_iff (by decide)).mpr (by omega)
theorem OkD.int{i:Int}(F:0<=i)(h1:i<10^60):OkD 1002 0 (.int i):=by
 refine⟨?_,by unfold DS;exact Aj _,?_⟩
 .unfold En;refine Ir ?_;have h2:i.natAbs<2^200:=by
   have:(10:Int)^60<((2^200:Nat):Int):=by decide
   omega
  by_cases hz:i.natAbs=0
  .rw[hz];decide
  .have:=(Nat.log2_lt hz).mpr h2;omega
 .unfold Cd;have:=aCW F h1;omega
theorem OkD.name{z:Str}(h:b9 z=true):OkD 1002 0 (.str z):=OkD.str (aAn h) (by have:=j8 h;omega)
theorem aG9{R:List Str}(h:(R.map BO).all aAm=true)(F:R.length<=6):OkD 7000 1 (.tuple (R.map BO)):=by
 refine(OkD.tuple (n:=6) (b:=1002) (k:=0) (fun d hd=>?_) (by rw[Aa];exact F)).mono (by decide) (by decide);obtain⟨z,hz,rfl⟩:=AL.mp hd;exact OkD.name (A7.mp h _ hd)
theorem aFU{x:P3}(h:uI (pD x)=true):OkD 4000 1 (pD x):=by
 have e:(b9 x.1&&b9 x.2.1&&decide (1<=x.2.2/\x.2.2<=10000000))=true:=h;rw[BC,BC]at e;obtain⟨⟨h1,h2⟩,F⟩:=e;have F:=Iu F;unfold pD;refine(OkD.tuple (n:=3) (b:=1002) (k:=0) (fun d hd=>?_) (by show 3<=3;decide)).mono (by decide) (by decide);simp only[An,AC,or_false]at hd;rcases hd with rfl|rfl|rfl
 .exact OkD.name h1
 .exact OkD.name h2
 .exact OkD.int (by omega) (C0 F.2 (by decide))
theorem pL.okd{word:Str}{ds:List Bc}(h:pL word ds):∀ d∈ds,OkD 25000 2 d:=by
 have nm:∀{z:Str},b9 z=true->OkD 25000 2 (.str z):=fun h=>(OkD.name h).mono (by decide) (by decide);have nt:∀{i:Int},0<=i->i<=1000000000->OkD 25000 2 (.int i):=fun O h1=>(OkD.int O (C0 h1 (by decide))).mono (by decide) (by decide);intro d hd;cases h with
 | @part F R hl Y h2 G ha=>
  simp only[An,AC,or_false]at hd;rcases hd with rfl|rfl
  .exact nm hl
  .refine(OkD.tuple (n:=6) (b:=4000) (k:=1) (fun d hd=>?_) (by rw[Aa];exact G)).mono (by decide) (by decide);obtain⟨x,hx,rfl⟩:=AL.mp hd;exact aFU (A7.mp ha _ hd)
 | @join F R hl Y h2 G ha=>
  simp only[An,AC,or_false]at hd;rcases hd with rfl|rfl
  .exact(aG9 ha G).mono (by decide) (by decide)
  .exact nm hl
 | @forfeit F J hl Z=>
  simp only[An,AC,or_false]at hd;rcases hd with rfl|rfl
  .exact nm hl
  .exact nm Z
theorem aCX{w:Str}(h:w∈gO):Fj w=true/\w.length<=100:=by
 have:∀ w∈gO,Fj w=true/\w.length<=100:=by decide
 exact this w h
theorem cS.Ok.okd{r:cS}{fs:List Str}(h:r.Ok fs):OkD 176000 3 r.d:=by
 unfold cS.d xV;have hl:=h.rs.len;refine(OkD.tuple (n:=7) (b:=25000) (k:=2) (fun d hd=>?_) (by simp only[AR];omega)).mono (by decide) (by decide);simp only[An]at hd;rcases hd with rfl|rfl|rfl|hd
 .exact(OkD.str (aCX h.rs.word).1 (aCX h.rs.word).2).mono (by decide) (by decide)
 .exact(OkD.name h.nm).mono (by decide) (by decide)
 .exact(OkD.int h.d0 (C0 h.d1 (by decide))).mono (by decide) (by decide)
 .exact h.rs.okd d hd
theorem LOk.okd{l:L4}(h:LOk l):OkD 5000 1 (mS l):=by
 unfold mS;refine(OkD.tuple (n:=4) (b:=1002) (k:=0) (fun d hd=>?_) (by show 4<=4;decide)).mono (by decide) (by decide);simp only[An,AC,or_false]at hd;have a1:=h.a1;rcases hd with rfl|rfl|rfl|rfl
 .exact OkD.name h.f
 .exact OkD.name h.h
 .exact OkD.int (by omega) (C0 h.a2 (by decide))
 .exact OkD.int h.i1 (C0 h.i2 (by decide))
def pY(Ls:List L4)(us:List cS):Bc:=.tuple [.tuple (Ls.map mS),.tuple (us.map cS.d)]
theorem aCY{H:Hp}{fs:List Str}:∀{ys:List V}{F:List cS},mI H ys F fs->cF false H ys (F.map cS.d)
 | [],[],_=>.nil
 | [],_::_,h=>by have:=h.len;simp at this
 | _::_,[],h=>by have:=h.len;simp at this
 | y::ys,u::F,h=>by
  obtain⟨u',h1,h2,_⟩:=h.at' 0 y rfl;cases h1;exact .cons h2 (aCY ⟨by have:=h.len;simpa using this,fun i x G=>h.at' (i+1) x G⟩)
theorem fQ.rd{H:Hp}{t:Af}{Ls:List L4}{F:List cS}(h:fQ H t Ls F):RdV false H (.ref t) (pY Ls F):=by
 obtain⟨lay,rw,xs,ys,h1,h2,h3,h4,h6,h7,h8,h9⟩:=h.ex;have G:=h3.len;have J:=h8.len;rw[Aa]at G;exact .tup h1 (by show 2<=1000;decide) (.cons (.tup h2 (by omega) h3) (.cons (.tup h7 (by omega) (aCY h8)) .nil))
theorem fQ.ok{H:Hp}{t:Af}{Ls:List L4}{F:List cS}(h:fQ H t Ls F):OkD 16000000 20 (pY Ls F):=by
 obtain⟨lay,rw,xs,ys,h1,h2,h3,h4,h6,h7,h8,h9⟩:=h.ex;have G:∀ u∈F,OkD 176000 3 u.d:=fun u hu=>by
  obtain⟨i,hi⟩:=Bq hu;obtain⟨hl,_⟩:=Al.mp hi;obtain⟨u',e1,_,e3⟩:=h8.at' i _ (Ai (by have:=h8.len;omega));rw[hi]at e1;cases e1;exact e3.okd
 have O:OkD 7100000 4 (.tuple (Ls.map mS)):=(OkD.tuple (n:=8) (b:=5000) (k:=1) (fun d hd=>by
  obtain⟨l,hl,rfl⟩:=AL.mp hd;exact(h4 l hl).okd) (by rw[Aa];exact h6)).mono (by decide) (by decide)
 have J:OkD 7100000 4 (.tuple (F.map cS.d)):=(OkD.tuple (n:=40) (b:=176000) (k:=3) (fun d hd=>by
  obtain⟨u,hu,rfl⟩:=AL.mp hd;exact G u hu) (by rw[Aa];exact h9)).mono (by decide) (by decide)
 refine(OkD.tuple (n:=2) (b:=7100000) (k:=4) (fun d hd=>?_) (by show 2<=2;decide)).mono (by decide) (by decide);simp only[An,AC,or_false]at hd;rcases hd with rfl|rfl
 .exact O
 .exact J
theorem aFV{H:Hp}{m:Bool}{a:Af}{d:Bc}(r:RdV m H (.ref a) d)(o:OkD 16000000 20 d):RpV H (.ref a) d.shown:=.ref r o.sh o.dp (Ay o.len (by rw[Co];omega))
def aKx:List Str:=["land","acres","name","houses","same","inch","ring","none","done"]
inductive vB(vs:List V)(H:Hp)(Q:VK)(u3_:XK):Prop
 | mk (W:Af) (B:WA) (sc:Int) (os:List UK) (own:UK->Str) (land:Str) (ps:List Pc) (q0:vs=[.ref W,.str land]) (q1:aAz H W B sc os own) (q2:1<=sc) (q3:sc<=100000) (q4:PQ sc ps (os.filter fun k=>decide (own k=land))) (q5:∀(t:Af) (ys:List V) (H':Hp),b8 H H'->H' t=some (.tup ys)->dI H' ys ps->Q (.ref t) H'):vB vs H Q u3_
def aAS:Sp:=fun vs H Q u3_=>vB vs H Q u3_
inductive aAT(vs:List V)(H:Hp)(Q:VK)(u3_:XK):Prop
 | mk (t:Af) (Ls:List L4) (us:List cS) (sc:Int) (n:Nat) (q0:vs=[.ref t,.int sc,.int n]) (q1:fQ H t Ls us) (q2:(∀ l∈Ls,LOk l/\sc ∣ l.2.2.1/\l.2.2.1<=10*sc)) (q3:(Ls.map (·.1)).Nodup) (q4:1<=Ls.length) (q5:1<=sc) (q6:sc<=100000) (q7:(∀ u∈us,RSc sc u)) (q8:∀(l:Af) (rs:List Af) (ds:List LD) (zs:List Str) (S:Ex) (H':Hp),Run (ex0 Ls) (us.take n) zs S->JnR Ls us n->b8 H H'->H' l=some (.lst (rs.map V.ref))->BI (eZ H') rs ds->aAt S ds->ds.length<=300->(S.hs.map (·.1)).Nodup->(∃(os:List UK) (own:UK->Str),os.length<=80/\(∀ k∈os,k.1∈S.ws/\k.2<=1000)/\∀ z,aK S z=true->PQ sc (S.pc z) (os.filter fun k=>decide (own k=z)))->Q (.ref l) H'):aAT vs H Q u3_
def aFW:Sp:=fun vs H Q u3_=>aAT vs H Q u3_
theorem aAU:cB ["_law_world_here","_law_land","_law_scale","_law_found","_law_field","_law_unit"] ["_law_world_here","_law_land"] (aQ xP):=⟨rfl,rfl,rfl,by decide,rfl,by decide,by decide⟩
theorem aDQ{f:Af}{fd:Be}(F:Fun K "_law_pieces" "_law_pieces" xP f fd)(ar:mg "tuple"=none)
  (GU:Cl P w K mg base 1 "_law_units" ["_law_world_here","_law_land"] pR)
  :cW P w K mg base CX0 2 f fd ["_law_world_here","_law_land"] aAS:=by
 refine F.ok aAU (fun vs H Q E h=>?_) (fun bP A outer s H vs Q E hr h=>?_)
 .obtain⟨W,B,sc,os,own,land,ps,rfl,_⟩:=h;rfl
 .obtain⟨W,B,sc,os,own,land,ps,rfl,wl,s1,s2,hpq,k⟩:=h;have nd:=aAU.nd;have hu:=fS hr;have bt:dC 1 _:=hr;refine⟨_,(aB (aR (i:=2) nd rfl (Az rfl) (bQ hu (pv 0) aO Iv))
   (aB (aR (i:=3) nd rfl (Az rfl) (dA aE))
   (aB (dY Bj rfl (g8 (cK GU bt (aF (pv 0) (aF (pv 1) aE)))) (g:=rG K 2 (dH (aS 4) (dH (aS 5) rF))) (f6 rfl (bK (aV (i:=4) nd rfl (Az rfl)) (bK (aV (i:=5) nd rfl (Az rfl)) dX)))
   (aM (cD (tP (PW.pt (gS (aZ (aEX (G9 hu)) (pv 3) (dA aE) (bJ _)) (gS (aZ cV (aW bC (aW bX (pv 3) (jA gL aD) Iv) aD Iv) (pv 4) (bJ _)) (gJ (aZ cV (aW bC (aW bX (pv 3) (jA gL aD) Iv) aD Iv) (aY dZ (pv 5) (pv 2)) (bJ _))))))) (aM (iR (cO (aF (pv 4) (aF (aW bC (aW bX (pv 3) (jA gL aD) Iv) aD Iv) (aF (aY cQ (aY dZ (pv 5) (pv 2)) (pv 2)) aE)))) (nS (pv 3) (jA gL aD) iU))) (aM (dP (lE Bd B0 BZ gE (pv 3) (aF (cO (aF (pv 4) (aF (aY dZ (pv 5) (pv 2)) (aF (aY cQ (aY dZ (pv 5) (pv 2)) (pv 2)) aE)))) aE)))))))
   (aM (bT (c8 dR (by rfl) ar (by kernel_rfl) (aF (pv 3) aE))))))),?_⟩
  refine⟨_,rfl,W,_,rfl,wl.get (aAx _ _),A8 _,fun L hL=>?_⟩;have sL:=aJ (o:=.lst []) hL;obtain⟨qo,ho1,ho2⟩:=wl.o;have az:aAz (upd H L (.lst [])) W B sc os own:=⟨sL _ _ wl.d,⟨qo,sL _ _ ho1,Paired.mapP ho2 fun _ _ e=>sL _ _ e⟩,sL _ _ wl.ow,wl.ol⟩
  have eL:upd H L (.lst []) L=some (.lst []):=aA;generalize upd H L (.lst [])=H1 at sL az eL ⊢;refine⟨_,rfl,_,rfl,W,B,sc,os,own,land,rfl,az,fun LU rs H2 bm ay al hU=>?_⟩;have bf:=ay _ _ eL;have S2:=sL.trans ay;have be:L≠LU:=aH eL bm;generalize bg:(os.filter fun k=>decide (own k=land))=us at hU hpq;have bq:=Bm hU;have bE:us.length<=80:=by rw[<- bg];exact Ay (BE _ _) wl.ol
  have aj:∀ i:Int,aF8 i sc:=fun i=>.inr ⟨by omega,by omega⟩;refine⟨LU,rfl,⟨_,aU al⟩,?_⟩;refine jU (K:=K) (xs:=rs.map V.ref) (fun i σ H'=>Ex3 fun(o4 o5:Option V) (zs:List V)=>Aw6 (σ=[some (.ref W),some (.str land),some (.int sc),some (.ref L),o4,o5]) (b8 H H') (H' LU=some (.lst (rs.map V.ref))) (H' L=some (.lst zs)) (UAt H' rs us) (dI H' zs (((us.take i).map (i0 sc)).foldl e9 [])/\zs.length<=i)) ⟨none,none,[],rfl,S2,al,bf,hU,.nil,Aj _⟩ (fun i σ H' _ p=>by obtain⟨_,_,_,_,_,e,_⟩:=p;exact aU e) ?_ ?_
  .rintro i v σ H3 hv ⟨o4,o5,zs,rfl,S3,e3,ae,ao,Z,au⟩;rw[Au]at hv;obtain⟨q,hq,rfl⟩:=AU.mp hv;obtain⟨hi,_⟩:=Al.mp hq;obtain⟨u,hu'⟩:∃ u,us[i]?=some u:=⟨_,Ai (by omega)⟩
   have bd:=Paired.at ao hq hu';have em:((us.take (i+1)).map (i0 sc)).foldl e9 []=e9 (((us.take i).map (i0 sc)).foldl e9 []) (i0 sc u):=by
    rw[AA,hu',Ar,Cp];rfl
   generalize ((us.take i).map (i0 sc)).foldl e9 []=qs at Z em;have bO:=Bm Z;refine⟨q,_,rfl,aN bd,rfl,_,_,rfl,_,_,rfl,rfl,fun b G=>b8 H3 G/\(b=false->e9 qs (i0 sc u)=qs++[i0 sc u])/\(b=true->∃ J q2 Y p2,zs=J++[.ref q2]/\qs=Y++[p2]/\dI H3 J Y/\H3 q2=some (pcT p2)/\p2.1=u.1/\p2.2.2=(u.2:Int)*sc),?_,fun b H4 hb=>?_⟩
   .refine⟨_,rfl,A8 _,fun D hD=>?_⟩;have sD:=aJ (o:=.lst []) hD;refine⟨L,D,zs,rfl,rfl,aU (sD _ _ ae),aU aA,_,rfl,?_⟩;have ad:=sD _ _ ae;rcases rC zs with rfl|⟨J,z,rfl⟩
    .exact nE ⟨sD,fun _=>by cases Z;rfl,fun z=>nomatch z⟩
    .obtain⟨Y,p2,rfl,hZ',q2,rfl,hq2⟩:∃ Y p2,qs=Y++[p2]/\dI H3 J Y/\∃ q2,z=.ref q2/\H3 q2=some (pcT p2):=mG Z;rw[show decide (0<(J++[V.ref q2]).length)=true from Ir (by simp)];refine gI ?_;refine⟨_,rfl,_,rfl,L,_,-1,_,rfl,rfl,aU ad,hJ _ _,q2,_,0,_,rfl,rfl,aN (sD _ _ hq2),rfl,_,rfl,rfl,_,rfl,dB (fun g1=>?_) fun g1=>⟨sD,fun _=>by rw[dJ,Ip (fun z=>g1 (Ir (by rw[z.1];rfl))),AF];rfl,fun z=>nomatch z⟩⟩;refine⟨_,rfl,_,rfl,L,_,-1,_,rfl,rfl,aU ad,hJ _ _,q2,_,2,_,rfl,rfl,aN (sD _ _ hq2),rfl,_,rfl,_,rfl,_,_,rfl,rfl,aj _,rfl,_,rfl,sD,fun g2=>?_,fun g2=>?_⟩
     .rw[dJ,Ip (fun z=>of_decide_eq_false g2 (by rw[z.2];rfl)),AF];rfl
     have e1:=Iu g1;have e2:=Iu g2;injection e1 with e1;injection e2 with e2;exact⟨J,q2,Y,p2,rfl,rfl,hZ',hq2,e1,e2⟩
   .obtain⟨s4,hbf,hb⟩:=hb;have aI:H L=none:=hL;have ad:=s4 _ _ ae;have fin:∀(ab:List V) (p2:Pc) (an:List Pc) (ag:List V) (O:Af),H4 O=none->ab=ag++[.ref O]->dI H3 ag an->e9 qs (i0 sc u)=an++[p2]->ab.length<=i+1->Ex3 fun(bu aL:Option V) (zs:List V)=>Aw6 ([some (V.ref W),some (.str land),some (.int sc),some (.ref L),some (.str u.1),some (.int (u.2:Int))]=[some (V.ref W),some (.str land),some (.int sc),some (.ref L),bu,aL]) (b8 H (upd (upd H4 O (pcT p2)) L (.lst ab))) (upd (upd H4 O (pcT p2)) L (.lst ab) LU=some (.lst (rs.map V.ref))) (upd (upd H4 O (pcT p2)) L (.lst ab) L=some (.lst zs)) (UAt (upd (upd H4 O (pcT p2)) L (.lst ab)) rs us) (dI (upd (upd H4 O (pcT p2)) L (.lst ab)) zs (((us.take (i+1)).map (i0 sc)).foldl e9 [])/\zs.length<=i+1):=by
     rintro ab p2 an ag O aa rfl bc ea bp;have s5:=aJ (o:=pcT p2) aa;have bn:L≠O:=aH ad aa;have keep:∀ b o,b≠L->H3 b=some o->upd (upd H4 O (pcT p2)) L (.lst (ag++[.ref O])) b=some o:=fun b o n e=>by
      rw[aG n];exact s5 _ _ (s4 _ _ e)
     have kt:fT H3 (upd (upd H4 O (pcT p2)) L (.lst (ag++[.ref O]))):=fun b us e=>keep b _ (fun z=>by rw[z,ae]at e;cases e) e;refine⟨_,_,ag++[.ref O],rfl,fun b o e=>keep b o (aH e aI) (S3 _ _ e),keep _ _ be.symm e3,aA,ao.on kt,?_,bp⟩;rw[em,ea];exact Cg ⟨O,rfl,by rw[aG bn.symm];exact aA⟩ (bc.on kt)
    cases b with
    | true=>
     obtain⟨J,q2,Y,p2,rfl,rfl,hZ',hq2,e1,e2⟩:=hb rfl;refine gI ?_;refine⟨_,rfl,_,rfl,_,rfl,L,_,-1,_,rfl,rfl,aU ad,hJ _ _,q2,_,1,_,rfl,rfl,aN (s4 _ _ hq2),rfl,_,rfl,_,rfl,_,_,rfl,rfl,aj _,_,rfl,_,_,rfl,rfl,zZ3,fun O aa=>?_⟩;have s5:=aJ (o:=pcT (u.1,p2.2.1,(u.2:Int)*sc+sc)) aa;refine⟨_,rfl,_,rfl,L,_,-1,J.length,rfl,rfl,s5 _ _ ad,?_,?_⟩
     .unfold ixN;rw[Av,B5,Ip (by decide),Iq (by omega)];congr 1;omega
     .have es:(J++[V.ref q2]).set J.length (.ref O)=J++[.ref O]:=by simp
      rw[es];exact fin _ (u.1,p2.2.1,(u.2:Int)*sc+sc) Y J O aa rfl hZ' (by rw[dJ,Iq ⟨e1,e2⟩];rfl) (by rw[Av,B5]at au ⊢;omega)
    | false=>
     refine nE ?_;refine⟨_,rfl,.inl ⟨rfl,_,aU ad⟩,_,rfl,_,rfl,_,rfl,_,_,rfl,rfl,aj _,_,rfl,_,rfl,_,_,rfl,rfl,aj _,_,rfl,_,_,rfl,rfl,zZ3,fun O aa=>?_⟩;have s5:=aJ (o:=pcT (i0 sc u)) aa;exact⟨L,zs,_,rfl,rfl,s5 _ _ ad,c5 (by omega),fin _ (i0 sc u) qs zs O aa rfl Z (hbf rfl) (by rw[Av,B5];omega)⟩
  .rintro σ H3 ⟨o4,o5,zs,rfl,S3,e3,ae,ao,Z,au⟩;rw[Aa,bq,AN,hpq.law s1]at Z;refine⟨_,rfl,L,zs,rfl,.inl ⟨aU ae,fun t' a0=>?_⟩⟩;have s2:=aJ (o:=.tup zs) a0;exact k t' zs _ (S3.trans s2) aA (Z.same s2)
theorem aFX:cB ["_law_roll_here","_law_scale","_law_at","_law_world_here"] ["_law_roll_here","_law_scale","_law_at"] (aQ aCp):=⟨rfl,rfl,rfl,by decide,rfl,by decide,by decide⟩
theorem aHa{f:Af}{fd:Be}(F:Fun K "_law_told" "_law_told" aCp f fd)(Y:mg "sorted"=none)
  (GY:Cl P w K mg base 4 "_law_replayed" ["_law_roll_here","_law_scale","_law_at"] uU)
  (GP:Cl P w K mg base 2 "_law_pieces" ["_law_world_here","_law_land"] aAS)
  :cW P w K mg base CX0 5 f fd ["_law_roll_here","_law_scale","_law_at"] aFW:=by
 refine F.ok aFX (fun vs H Q E h=>?_) (fun bD A outer s H vs Q E hr h=>?_)
 .obtain⟨t,Ls,us,sc,n,rfl,_⟩:=h;rfl
 .obtain⟨t,Ls,us,sc,n,rfl,roll,hok,hnd,hl1,s1,s2,hrs,k⟩:=h;have nd:=aFX.nd;have hu:=fS hr;have ba:dC 4 _:=hr;have aI:dC 2 _:=hr.mono (by decide);refine⟨_,(aB (aR (i:=3) nd rfl (DT rfl) (aW bC (cK GY ba (aF (pv 0) (aF (pv 1) (aF (pv 2) aE)))) aD Iv))
   (aM (bT (aX nP (by rfl) Y (by kernel_rfl) (aF (dF (N:=["_law_land","_law_house","_law_world_here"]) (src:=[none,none,some 3]) (osc:=aQ aCp) (oN:=["_law_roll_here","_law_scale","_law_at","_law_world_here"]) (g:=rG K 2 (dH (aS 0) (dH (aS 1) rF))) ⟨by rfl,by decide,by decide,by decide,rfl,by rfl⟩ (z9 (bQ hu (pv 3) aO Iv)) (fun cl s H fp im C=>⟨f6 rfl (bK (aV (i:=0) (show(["_law_land","_law_house","_law_world_here"]:List Str).Nodup by decide) rfl (Az rfl)) (bK (aV (i:=1) (show(["_law_land","_law_house","_law_world_here"]:List Str).Nodup by decide) rfl (Az rfl)) dX)),dE,cO (aF (pv 0) (aF (pv 1) (aF (cK GP aI (aF (pv 2) (aF (pv 0) aE))) aE)))⟩)) aE))))),?_⟩
  refine⟨_,rfl,_,rfl,_,rfl,t,Ls,us,sc,n,rfl,roll,hok,hnd,hl1,s1,s2,hrs,fun t3 W M B os own zs S H7 run wl jr hW hB bt a0 fM ao eM=>?_⟩;refine⟨t3,_,0,_,rfl,rfl,aN ao,rfl,?_⟩;dsimp only[aS];have ap:W≠B.ho:=by
   have:=wl.ne;simp only[A5,An,AC,or_false,not_or]at this;exact this.1.2.1
  refine⟨_,rfl,W,_,rfl,wl.get (jN _ _),B.ho,S.hs,rfl,wl.ho,fun od=>?_⟩;obtain⟨qo,ho1,ho2⟩:=wl.o;have tF:fT H7 (upd H7 B.ho (.frz od (.dK S.hs))):=fun b us e=>by rw[aG (bS e wl.ho (fun z=>nomatch z))];exact e
  have eF:upd H7 B.ho (.frz od (.dK S.hs)) B.ho=some (.frz od (.dK S.hs)):=aA;have O:aAz (upd H7 B.ho (.frz od (.dK S.hs))) W B sc os own:=⟨by rw[aG ap];exact wl.d,⟨qo,by rw[aG (bS ho1 wl.ho (fun z=>nomatch z))];exact ho1,Paired.mapP ho2 fun _ _ e=>tF _ _ e⟩,by rw[aG (bS wl.ow wl.ho (fun z=>nomatch z))];exact wl.ow,wl.ol⟩
  have SF:b8 H (upd H7 B.ho (.frz od (.dK S.hs))):=fun b o e=>by rw[aG (aH e hB)];exact a0 _ _ e
  generalize upd H7 B.ho (.frz od (.dK S.hs))=H2 at eF tF SF O ⊢;refine t6 (fun i ys σ' H'=>Ex3 fun(o1 o2:Option V) (rs:List Af)=>Aw3 (σ'=[o1,o2,some (.ref W)]) (b8 H2 H') (Aw3 (ys=rs.map V.ref) (rs.length=i) (BI (eZ H') rs ((lds S).take i)))) ⟨none,none,[],rfl,fun _ _ e=>e,rfl,rfl,.nil⟩
   (aP (by omega)) (fun i ys σ H' p=>by obtain⟨_,_,_,_,_,rfl,e,_⟩:=p;rw[Aa];omega) (fun i ys σ H' p=>by obtain⟨_,_,_,_,q,_⟩:=p;exact q _ _ eF) ?_ ?_
  .rintro i k' x t' ys σ' H3 hk ht ⟨o1,o2,rs,rfl,S3,rfl,ae,pr⟩;have hv:=nB wl.ks hk;obtain⟨house,z,rfl,rfl⟩:=wl.hv k' x hv;have az:aK S z=true:=by unfold aK;rw[hv];rfl
   have an:(lds S)[i]?=some (z,house,S.pc z):=by
    unfold lds;rw[Au,hk];rfl
   have sT:=aJ (o:=.tup [kV (Ad z),.str house]) ht;have G:=S3.trans sT;have eT:upd H3 t' (.tup [kV (Ad z),.str house]) t'=some (.tup [.str z,.str house]):=aA;generalize upd H3 t' _=H4 at sT G eT ⊢;have aj:aAz H4 W B sc os own:=⟨G _ _ O.d,by obtain⟨q,q1,q2⟩:=O.o;exact⟨q,G _ _ q1,Paired.mapP q2 fun _ _ e=>G _ _ e⟩,G _ _ O.ow,O.ol⟩
   dsimp only[aS];refine⟨t',_,rfl,aN eT,rfl,_,_,rfl,_,_,rfl,rfl,gI ?_⟩;refine⟨_,rfl,_,rfl,_,rfl,_,rfl,W,B,sc,os,own,z,S.pc z,rfl,aj,s1,s2,wl.pq z az,fun t9 au H9 S9 ax aC=>?_⟩;refine⟨zZ3,fun r hr=>?_⟩;have sr:=aJ (o:=.tup [V.str z,.str house,.ref t9]) hr;refine⟨_,_,rs++[r],rfl,(G.trans S9).trans sr,by rw[Ar];rfl,by rw[Av,ae];rfl,?_⟩;rw[AA,an];exact Cg (R:=eZ _) (b:=(z,house,S.pc z)) ⟨t9,au,aA,sr _ _ ax,aC.same sr⟩ (Paired.mapP pr fun _ _ z=>z.on (bV ((sT.trans S9).trans sr)))
  .rintro ys σ' H3 ⟨o1,o2,rs,rfl,S3,rfl,ae,pr⟩ D hD;have sD:=aJ (o:=.lst (rs.map V.ref)) hD;have aT:(lds S).length=S.hs.length:=by unfold lds;rw[Aa]
   rw[<- aT,AN]at pr;have Z:=Paired.mapP pr fun _ _ z=>z.on (bV sD);have eD:upd H3 D (.lst (rs.map V.ref)) D=some (.lst (rs.map V.ref)):=aA;have S5:b8 H (upd H3 D (.lst (rs.map V.ref))):=(SF.trans S3).trans sD;generalize upd H3 D (.lst (rs.map V.ref))=H5 at Z eD S5 ⊢;have ay:BI (NmH H5) rs ((lds S).map (·.1)):=i7 (f:=fun l:LD=>l.1) (R:=eZ H5) (S:=NmH H5) (fun r l z=>by
    obtain⟨u,p,h1,_⟩:=z;exact⟨_,_,h1⟩) Z
   have ad:((lds S).map (·.1)).Nodup:=by
    have J:=wl.ks;have e:S.hs.map (·.1)=((lds S).map (·.1)).map Ad:=by
     unfold lds;rw[Di,Di];refine Et fun kv aw=>?_;obtain⟨j,hj⟩:=Bq aw;obtain⟨_,z,_,hz⟩:=wl.hv kv.1 kv.2 (nB J hj);show kv.1=Ad (kz kv.1);rw[hz];rfl
    rw[e]at J;exact E5 Ad (fun a b h e=>h (by rw[e])) J
   refine⟨D,rs,(lds S).map (·.1),rfl,eD,ay,ad,aP (by rw[Aa];omega),fun l ms hl aL al=>?_⟩
   have sl:=aJ (o:=.lst (ms.map V.ref)) hl;obtain⟨es,hes,pe⟩:=aCF aL Z;exact k l ms es zs S _ run jr (S5.trans sl) aA (Paired.mapP pe fun _ _ z=>z.on (bV sl)) ⟨hes,aFw pe al⟩ (by rw[hes.length_eq];omega) wl.ks ⟨os,own,wl.ol,wl.ofw,wl.pq⟩
def oI(hs:List (Key×V)):Prop:=∀ k v,bG hs k=some v->∃ z h,k=Ad z/\v=.str h/\b9 z=true/\b9 h=true
theorem oI.put{hs:List (Key×V)}{z h:Str}(o:oI hs)(hz:b9 z=true)(F:b9 h=true):oI (b0 hs (Ad z) (.str h)):=fun k v e=>by
 rw[d7]at e;by_cases q:k=Ad z
 .rw[Iq q]at e;cases e;exact⟨z,h,q,rfl,hz,F⟩
 .rw[Ip q]at e;exact o k v e
theorem oI.drop{hs:List (Key×V)}(o:oI hs)(j:Key):oI (bZ hs j):=fun k v e=>by
 rw[gW]at e;by_cases q:k=j
 .rw[Iq q]at e;cases e
 .rw[Ip q]at e;exact o k v e
theorem aAV:∀{R:List Str}{d:List (Key×V)},oI d->oI (R.foldl (fun d z=>bZ d (Ad z)) d)
 | [],_,h=>h
 | _::R,_,h=>aAV (R:=R) (h.drop _)
theorem aCZ{G:P3->List Pc}:∀{R:List P3}{S:Ex},(∀ p∈R,b9 p.1=true/\b9 p.2.1=true)->oI S.hs->oI (R.foldl (fun S p=>kB S p.1 p.2.1 (G p)) S).hs
 | [],_,_,h=>h
 | p::R,S,F,h=>aCZ (R:=R) (S:=kB S p.1 p.2.1 (G p)) (fun q J=>F q (Ao _ J)) (h.put (F p Ap).1 (F p Ap).2)
theorem aBO{R:List P3}(h:(R.map pD).all uI=true):∀ p∈R,b9 p.1=true/\b9 p.2.1=true:=fun p F=>by
 have:=A7.mp h (pD p) (Ba F);have e:(b9 p.1&&b9 p.2.1&&decide (1<=p.2.2/\p.2.2<=10000000))=true:=this;rw[BC,BC]at e;exact e.1
theorem aHb{S S':Ex}{ws:List Str}{r:cS}{z:Str}(h:oI S.hs)(ok:r.Ok ws)(st:lC S r.word r.ds z S'):oI S'.hs/\S'.ws=S.ws:=by
 have rs:=ok.rs;obtain⟨word,name,day,ds⟩:=r;dsimp only at rs st;cases rs with
 | @part land R hl Y h2 Z ha=>
  obtain⟨_,rfl⟩:=st.fn (.part (land:=land) (R:=R));split
  .exact⟨aCZ (aBO ha) (h.drop _),yF⟩
  .exact⟨h,rfl⟩
 | @join land R hl Y h2 Z ha=>
  obtain⟨_,rfl⟩:=st.fn (.join (land:=land) (R:=R));split
  .rename_i e;obtain⟨hs,_⟩:=qN e;obtain⟨F,G,rfl⟩:∃ F G,R=F::G:=by
    cases R with
    | nil=>simp at h2
    | cons F G=>exact⟨F,G,rfl⟩
   have J:=hs F Ap;unfold aK at J;obtain⟨v,hv⟩:=Bf.mp J;obtain⟨_,O,_,rfl,_,n2⟩:=h _ _ hv;refine⟨?_,rfl⟩;show oI (b0 _ _ ((bG S.hs (Ad F)).getD .non));rw[hv];exact(aAV h).put hl n2
  .exact⟨h,rfl⟩
 | @forfeit land house hl O=>
  obtain⟨_,rfl⟩:=st.fn (.forfeit (land:=land) (house:=house));split
  .exact⟨h.put hl O,rfl⟩
  .exact⟨h,rfl⟩
theorem aIM{Ls:List L4}{ws:List Str}(O:∀ l∈Ls,LOk l){J:List cS}{zs:List Str}{S:Ex}(r:Run (ex0 Ls) J zs S)(hu:∀ u∈J,u.Ok ws):oI S.hs/\S.ws=Ls.map (·.1):=by
 induction r with
 | nil=>
  refine⟨fun k v e=>?_,x9 Ls⟩;unfold ex0 at e;rw[jO]at e;rcases kG _ _ _ _ _ _ e with h|⟨l,h1,h2,F⟩
  .cases h
  .exact⟨l.1,l.2.1,h2,F,(O l h1).f,(O l h1).h⟩
 | snoc _ st Y=>
  obtain⟨h1,h2⟩:=Y fun u G=>hu u (BG _ G);obtain⟨F,h4⟩:=aHb h1 (hu _ (AS _ Ap)) st;exact⟨F,h4.trans h2⟩
def pcD(p:Pc):Bc:=.tuple [.str p.1,.int p.2.1,.int p.2.2]
def ldD(d:LD):Bc:=.tuple [.str d.1,.str d.2.1,.tuple (d.2.2.map pcD)]
theorem OkD.name2{z:Str}(h:b9 z=true):OkD 82 0 (.str z):=by
 have hl:=j8 h;refine⟨by unfold En;rfl,by unfold DS;exact Aj _,?_⟩;have hz:z.cps.size<=8:=hl.2;have F:(BO z).layable0=true:=by
  unfold PyData.layable0 PyData.canLay0 DS PyData.weight;rw[aAn h,Ir (show(0:Nat)<=64 by decide),Ir (show z.cps.size<=2^20 by omega)];rfl
 have:=PyProof.Rows.len_repr_of_layable F;unfold Cd;have e:z.length=z.cps.size:=rfl;omega
theorem OkD.int2{i:Int}(F:0<=i)(h1:i<10^60):OkD 82 0 (.int i):=by
 have h:=OkD.int F h1;refine⟨h.sh,h.dp,?_⟩;unfold Cd;have:=aCW F h1;omega
theorem OkD.tup3{k G J F:Nat}{x y z:Bc}(h1:OkD G k x)(h2:OkD J k y)(Y:OkD F k z):OkD (G+J+F+9) (k+1) (.tuple [x,y,z]):=by
 have hk:∀ d∈[x,y,z],OkD (G+J+F) k d:=fun d hd=>by
  simp only[An,AC,or_false]at hd;rcases hd with rfl|rfl|rfl
  .exact h1.mono (by omega) (Aj _)
  .exact h2.mono (by omega) (Aj _)
  .exact Y.mono (by omega) (Aj _)
 have h:=OkD.tuple (n:=3) hk (by simp);refine⟨h.sh,h.dp,?_⟩;unfold Cd;rw[DY];unfold tupleText;have O:=Ff (Bv ", ") ([x,y,z].map Cd);have e1:(Bv ", ").length=2:=by decide
 have e2:(Bv "(").length=1:=by decide
 have e3:∀ c:Bool,(Bv (if c=true then ",)" else ")")).length<=2:=by decide
 have Z:=e3 (([x,y,z].map Cd).length==1);rw[e1,Aa]at O;rw[C6,C6,e2];have l1:=h1.len;have l2:=h2.len;have l3:=Y.len;simp only[Aq,Dh,CD,List.sum_nil,AR,Hk]at O;have e5:((Bv ", ").join ([x,y,z].map Cd)).length<=G+J+F+6:=by
  refine Ay O ?_;omega
 exact Ay (Nat.add_le_add (Nat.add_le_add_left e5 _) Z) (by omega)
theorem aFY:∀{qs:List UP},(∀ q∈qs,1<=q.2.2)->qs.length<=(fJ qs).length
 | [],_=>Aj _
 | q::qs,h=>by
  have:=aFY (qs:=qs) fun x F=>h x (Ao _ F);have:=h q Ap;rw[gG,Av,pJ,AR];omega
theorem aHc{sc:Int}{ps:List Pc}{G:List UK}(s1:1<=sc)(s2:sc<=100000)(h:PQ sc ps G)(hl:G.length<=80)(J:∀ k∈G,b9 k.1=true/\k.2<=1000):ps.length<=80/\OkD 22000 2 (.tuple (ps.map pcD)):=by
 obtain⟨qs,rfl,h1,rfl,_⟩:=h.ex;have F:=Ay (aFY h1) hl;refine⟨by rw[Aa];exact F,(OkD.tuple (n:=80) (b:=260) (k:=1) (fun d hd=>?_) (by rw[Aa,Aa];exact F)).mono (by decide) (by decide)⟩;obtain⟨p,hp,rfl⟩:=AL.mp hd;obtain⟨q,hq,rfl⟩:=AL.mp hp;have Z:=h1 q hq;obtain⟨n1,n2⟩:=J (q.1,q.2.1) (i5.mpr ⟨q,hq,gN.mpr ⟨rfl,Aj _,by dsimp only;omega⟩⟩);obtain⟨_,n3⟩:=J (q.1,q.2.1+q.2.2-1) (i5.mpr ⟨q,hq,gN.mpr ⟨rfl,by dsimp only;omega,by dsimp only;omega⟩⟩);dsimp only at n1 n2 n3;have big:∀ a:Nat,a<=1001->0<=(a:Int)*sc/\(a:Int)*sc<10^60:=fun a ha=>by
  have h1:(a:Int)*sc<=1001*100000:=Int.mul_le_mul (by omega) s2 (by omega) (by omega);exact⟨Int.mul_nonneg (by omega) (by omega),C0 h1 (by decide)⟩
 have O:=big q.2.1 (by omega);have Y:=big (q.2.1+q.2.2) (by omega);exact(OkD.tup3 (OkD.name2 n1) (OkD.int2 O.1 O.2) (OkD.int2 Y.1 Y.2)).mono (by decide) (by decide)
theorem aIN{Ls:List L4}{sc:Int}{S:Ex}{ds:List LD}{os:List UK}{own:UK->Str}(s1:1<=sc)(s2:sc<=100000)(hL:∀ l∈Ls,LOk l)(hw:S.ws=Ls.map (·.1))(hn:oI S.hs)(hk:(S.hs.map (·.1)).Nodup)(hd:aAt S ds)(O:ds.length<=300)
  (ho:os.length<=80) (hf:∀ k∈os,k.1∈S.ws/\k.2<=1000) (hp:∀ z,aK S z=true->PQ sc (S.pc z) (os.filter fun k=>decide (own k=z))):(∀ d∈ds,d.2.2.length<=80/\d.1.length<=1000/\d.2.1.length<=1000/\∀ p∈d.2.2,p.1.length<=1000)/\OkD 16000000 20 (.list (ds.map ldD)):=by
 have one:∀ d∈ds,(d.2.2.length<=80/\d.1.length<=1000/\d.2.1.length<=1000/\∀ p∈d.2.2,p.1.length<=1000)/\OkD 22300 3 (ldD d):=fun d Y=>by
  have hm:=hd.1.mem_iff.mp Y;unfold lds at hm;obtain⟨kv,hkv,rfl⟩:=AL.mp hm;obtain⟨j,hj⟩:=Bq hkv;have hv:=nB hk (i:=j) (k:=kv.1) (v:=kv.2) hj;obtain⟨z,h,e1,e2,n1,n2⟩:=hn _ _ hv;obtain⟨k,v⟩:=kv;dsimp only at e1 e2 hv;subst e1 e2;have J:aK S z=true:=by unfold aK;rw[hv];rfl
  have G:∀ k∈os.filter (fun k=>decide (own k=z)),b9 k.1=true/\k.2<=1000:=fun k F=>by
   obtain⟨f1,f2⟩:=hf k (BL.mp F).1;rw[hw]at f1;obtain⟨l,hl,e⟩:=AL.mp f1;exact⟨by rw[<- e];exact(hL l hl).f,f2⟩
  obtain⟨c1,c2⟩:=aHc s1 s2 (hp z J) (Ay (BE _ _) ho) G;have len:∀{y:Str},b9 y=true->y.length<=1000:=fun h=>by have:=j8 h;omega
  refine⟨⟨c1,len n1,len n2,fun p Z=>?_⟩,?_⟩
  .obtain⟨k,F,e⟩:=(hp z J).fld Z;rw[<- e];exact len (G k F).1
  .exact(OkD.tup3 ((OkD.name2 n1).mono (Aj _) (A8 2)) ((OkD.name2 n2).mono (Aj _) (A8 2)) c2).mono (by decide) (by decide)
 refine⟨fun d hd=>(one d hd).1,(OkD.list (n:=300) (b:=22300) (k:=3) (fun d hd=>?_) (by rw[Aa];exact O)).mono (by decide) (by decide)⟩;obtain⟨x,hx,rfl⟩:=AL.mp hd;exact(one x hx).2
theorem aFZ{H:Hp}:∀{xs:List V}{ps:List Pc},dI H xs ps->(∀ p∈ps,p.1.length<=1000)->cF true H xs (ps.map pcD)
 | _,_,.nil,_=>.nil
 | _,_,.cons (b:=p) r t,h=>by
  obtain⟨q,rfl,hq⟩:=r;exact .cons (.tup hq (by show 3<=1000;decide) (.cons (.str _ (h p Ap)) (.cons (.int _) (.cons (.int _) .nil)))) (aFZ t fun x F=>h x (Ao _ F))
theorem aF0{H:Hp}:∀{rs:List Af}{ds:List LD},BI (eZ H) rs ds->(∀ d∈ds,d.2.2.length<=80/\d.1.length<=1000/\d.2.1.length<=1000/\∀ p∈d.2.2,p.1.length<=1000)->cF true H (rs.map V.ref) (ds.map ldD)
 | _,_,.nil,_=>.nil
 | _,_,.cons (b:=d) r t,h=>by
  obtain⟨u,xs,h1,h2,h3⟩:=r;obtain⟨c1,c2,c3,c4⟩:=h d Ap;have hl:=Bm h3;exact .cons (.tup h1 (by show 3<=1000;decide) (.cons (.str _ c2) (.cons (.str _ c3) (.cons (.tup h2 (by omega) (aFZ h3 c4)) .nil)))) (aF0 t fun x F=>h x (Ao _ F))
theorem qP{H:Hp}{l:Af}{rs:List Af}{ds:List LD}(e:H l=some (.lst (rs.map V.ref)))(F:BI (eZ H) rs ds)(G:ds.length<=300)(hs:∀ d∈ds,d.2.2.length<=80/\d.1.length<=1000/\d.2.1.length<=1000/\∀ p∈d.2.2,p.1.length<=1000)(ok:OkD 16000000 20 (.list (ds.map ldD))):RpV H (.ref l) (PyData.list (ds.map ldD)).shown:=by
 have hl:=F.length;exact aFV (m:=true) (.lst rfl e (by rw[Aa];omega) (aF0 F hs)) ok
inductive wT(T:Af)(vs:List V)(H:Hp)(Q:VK)(u3_:XK):Prop
 | mk (t:Af) (Ls:List L4) (us:List cS) (sc:Int) (n:Nat) (q0:vs=[.ref t,.int sc,.int n]) (q1:fQ H t Ls us) (q2:Tb T H) (q3:(∀ l∈Ls,LOk l/\sc ∣ l.2.2.1/\l.2.2.1<=10*sc)) (q4:(Ls.map (·.1)).Nodup) (q5:1<=Ls.length) (q6:1<=sc) (q7:sc<=100000) (q8:(∀ u∈us,RSc sc u)) (q9:∀ H',Tb T H'->fQ H' t Ls us->Q (.bl true) H'):wT T vs H Q u3_
def aC0(T:Af):Sp:=fun vs H Q u3_=>wT T vs H Q u3_
theorem aC1:cB ["_law_roll_here","_law_scale","_law_at","_law_must_be","_law_found"] ["_law_roll_here","_law_scale","_law_at"] (aQ aBC):=⟨rfl,rfl,rfl,by decide,rfl,by decide,by decide⟩
theorem aF1{f:Af}{fd:Be}(F:Fun K "_law_right" "_law_right" aBC f fd){T:Af}(J:mg "repr"=none)
  (GL:Cl P w K mg base 8 "lands" ["roll","at"] (aCG T))
  (GO:Cl P w K mg base 5 "_law_told" ["_law_roll_here","_law_scale","_law_at"] aFW)
  :cW P w K mg base CX0 9 f fd ["_law_roll_here","_law_scale","_law_at"] (aC0 T):=by
 refine F.ok aC1 (fun vs H Q E h=>?_) (fun bm A outer s H vs Q E hr h=>?_)
 .obtain⟨t,Ls,us,sc,n,rfl,_⟩:=h;rfl
 .obtain⟨t,Ls,us,sc,n,rfl,roll,tb,hok,hnd,hl1,s1,s2,hrs,k⟩:=h;have nd:=aC1.nd;have au:dC 5 _:=hr.mono (by decide);have ad:dC 1 _:=hr.mono (by decide);refine⟨_,(aB (aR (i:=3) nd rfl (Az rfl) (aX (iY ad) (by rfl) J (by kernel_rfl) (aF (cK GO au (aF (pv 0) (aF (pv 1) (aF (pv 2) aE)))) aE)))
   (aB (aR (i:=4) nd rfl (Az rfl) (cK GL hr (aF (pv 0) (aF (pv 2) aE))))
   (aB (cD (aZ vL (aX (iY ad) (by rfl) J (by kernel_rfl) (aF (pv 4) aE)) (pv 3) (bJ _)) (aM (bT aHd)) bF)
   (aB (dP (aBd Bd PySem.F.slot_list_clear PySem.F.type_list_clear aEk (pv 4)))
   (aM (bT (kQ cV (aX (iY ad) (by rfl) J (by kernel_rfl) (aF (cK GL hr (aF (pv 0) (aF (pv 2) aE))) aE)) (pv 3) (bJ _)))))))),?_⟩
  have hL:∀ l∈Ls,LOk l:=fun l hl=>(hok l hl).1;have hU:∀ u∈us,u.Ok (Ls.map (·.1)):=fun u hu=>by
   obtain⟨_,_,_,ys,_,_,_,_,_,_,h8,_⟩:=roll.ex;obtain⟨i,hi⟩:=Bq hu;obtain⟨hl,_⟩:=Al.mp hi;obtain⟨u',e1,_,e3⟩:=h8.at' i _ (Ai (by have:=h8.len;omega));rw[hi]at e1;cases e1;exact e3
  refine⟨_,rfl,_,rfl,_,rfl,t,Ls,us,sc,n,rfl,roll,hok,hnd,hl1,s1,s2,hrs,fun l rs ds zs S H1 run jr S1 el pd hd O am ak=>?_⟩;obtain⟨os,own,ho,hf,hp⟩:=ak;obtain⟨hn,hw⟩:=aIM hL run (fun u hu=>hU u (BY hu));obtain⟨hsz,okd⟩:=aIN s1 s2 hL hw hn am hd O ho hf hp;have ai:=tb.same S1;have Z:=roll.on (bV S1);refine⟨.ref l,_,rfl,qP el pd O hsz okd,?_⟩;dsimp only[aS];refine⟨_,rfl,_,rfl,t,Ls,us,n,rfl,Z,ai,hnd,jr,fun l2 bd bh be S2 H2 ah bb ar al aa ay aw ax=>?_⟩;obtain⟨_,rfl⟩:=ah.fn run;obtain rfl:=aAu aw hd;have ae:=Z.on (f9 ar ai);dsimp only[aS];have Y:∀{z:Str},¬ ((!decide (V.str z=V.str z))=true):=fun{z} h=>by simp at h
  refine⟨_,rfl,.ref l2,_,rfl,qP aa ay O hsz okd,_,rfl,rfl,_,rfl,dB (fun g=>absurd g Y) fun _=>?_⟩;refine⟨_,rfl,.inl ⟨rfl,_,aU aa⟩,l2,_,rfl,rfl,aa,?_⟩;have k3:∀ b o,H2 b=some o->¬ (∃ xs,H2 b=some (.lst xs))->upd H2 l2 (.lst []) b=some o:=fun b o e nl=>by
   rw[aG (fun z=>nl ⟨_,by rw[z];exact aa⟩)];exact e
  have ab:Tb T (upd H2 l2 (.lst [])):=aCA al k3;have G:fQ (upd H2 l2 (.lst [])) t Ls us:=ae.on fun q xs e=>k3 _ _ e (fun⟨ys,z⟩=>by rw[e]at z;cases z);generalize upd H2 l2 (.lst [])=H3 at ab G ⊢;refine⟨_,rfl,_,rfl,t,Ls,us,n,rfl,G,ab,hnd,jr,fun l4 bp bj bg S4 H4 ag a0 av an ap aq ao h4=>?_⟩;obtain⟨_,rfl⟩:=ag.fn run;obtain rfl:=aAu ao hd;refine⟨.ref l4,_,rfl,qP ap aq O hsz okd,_,rfl,rfl,?_⟩;have:∀ z:Str,V.bl (decide (V.str z=V.str z))=V.bl true:=fun z=>by simp
  rw[this];exact k H4 an (G.on (f9 av ab))
inductive aC2(K:Ah)(T:Af)(vs:List V)(H:Hp)(Q:VK)(u3_:XK):Prop
 | mk (a:Af) (ns:List Int) (q0:vs=[.ref a]) (q1:SqL K H a (ns.map V.int)) (q2:ns.length<=63) (q3:Tb T H) (q4:∀ H',Q (.bl true) H'):aC2 K T vs H Q u3_
def aC3(K:Ah)(T:Af):Sp:=fun vs H Q u3_=>aC2 K T vs H Q u3_
theorem aF2{K:Ah}{T p c:Af}{ns:List Int}{a:Int}{H H':Hp}(g:Tb T H)(J:c9 K H p c ns a)(k:bA p H H'):Tb T H':=by
 obtain⟨z,_,e⟩:=J.ob;obtain⟨ps,h1,h2,F⟩:=g.ex;refine⟨ps,k _ _ h1 (bS h1 e (fun z=>nomatch z)),h2,?_⟩;rcases F with F|⟨c,F,G⟩
 .exact .inl F
 .exact .inr ⟨c,F,k _ _ G (bS G e (fun z=>nomatch z))⟩
theorem aHG:cB ["_law_script","_law_pen_here","_law_great","_law_some","_law_roll_here","_law_scale","_law_kept","_law_at"] ["_law_script"] (aQ xR):=⟨rfl,rfl,rfl,by decide,rfl,by decide,by decide⟩
theorem aIO{f:Af}{fd:Be}(F:Fun K "law" "law" xR f fd){T:Af}(an:mg "len"=none)(am:mg "range"=none)(ai:mg "int"=none)(Z:mg "repr"=none)
  (GP:Cl P w K mg base 1 "_law_pen" ["_law_script"] (aHv K))
  (GD:Cl P w K mg base 1 "_law_draw" ["_law_pen_here","_law_many"] (lY K))
  (GR:Cl P w K mg base 4 "_law_roll" ["_law_pen_here","_law_most","_law_terms"] (aFR K))
  (GI:Cl P w K mg base 9 "_law_right" ["_law_roll_here","_law_scale","_law_at"] (aC0 T))
  :cW P w K mg base CX0 10 f fd ["_law_script"] (aC3 K T):=by
 refine F.ok aHG (fun vs H Q E h=>?_) (fun bu A outer s H vs Q E hr h=>?_)
 .obtain⟨c,ns,rfl,_⟩:=h;rfl
 .obtain⟨c,ns,rfl,hS,hln,tb,k⟩:=h;have nd:=aHG.nd;have hu:=fS hr;have ab:dC 1 _:=hr.mono (by decide);have bb:dC 4 _:=hr.mono (by decide);have aw:dC 9 _:=hr;refine⟨_,(aB (aR (i:=1) nd rfl (Az rfl) (cK GP ab (aF (pv 0) aE)))
   (aB (aR (i:=2) nd rfl (Az rfl) (cK GD ab (aF (pv 1) (aF aD aE))))
   (aB (aR (i:=3) nd rfl (Az rfl) (dA (aF aO (aF aO (aF aO (aF aO (aF aO (aF aO (aF aO (aF aO aE))))))))))
   (aB (iR (cK GR bb (aF (pv 1) (aF (aW bX (dA (aF aD (aF aD aE))) (c8 pZ (by rfl) ai (by kernel_rfl) (aF (kQ cV (pv 2) aD (bJ _)) aE)) Iv) (aF (pv 3) aE)))) (f6 rfl (bK (aV (i:=4) nd rfl (Az rfl)) (bK (aV (i:=5) nd rfl (Az rfl)) dX))))
   (aB (aR (i:=6) nd rfl (Az rfl) (aX (iY ab) (by rfl) Z (by kernel_rfl) (aF (pv 4) aE)))
   (aB (dY Bj rfl (eB rfl am (aF (aY cQ (aX bH (by rfl) an A1 (aF (aW bC (pv 4) aD Iv) aE)) aD) aE)) (g:=aS 7) (aV (i:=7) nd rfl (Az rfl))
   (aM (cD (aDT (wX (cK GI aw (aF (pv 4) (aF (pv 5) (aF (pv 7) aE)))))) (aM (bT aHd)) bF)))
   (aM (bT (kQ cV (aX (iY ab) (by rfl) Z (by kernel_rfl) (aF (pv 4) aE)) (pv 6) (bJ _)))))))))),?_⟩
  refine⟨_,rfl,c,ns,rfl,hS,hln,fun p H1 ah S1 fp=>?_⟩;have bd:Tb T H1:=tb.same S1;dsimp only[aS];refine⟨_,rfl,p,c,ns,0,_,rfl,ah,by omega,by decide,by decide,fun J a2 H2 g0 g1 l2 u2 bc q2=>?_⟩;have az:=aF2 bd ah q2;dsimp only[aS];refine⟨zZ8,fun LT aC=>?_⟩;have sT:=aJ (o:=.lst [V.str "join",.str "join",.str "join",.str "join",.str "part",.str "part",.str "forfeit",.str "forfeit"]) aC;have eT:upd H2 LT (.lst [V.str "join",.str "join",.str "join",.str "join",.str "part",.str "part",.str "forfeit",.str "forfeit"]) LT=some (.lst ((["join","join","join","join","part","part","forfeit","forfeit"]:List Str).map V.str)):=aA;have ak:=bc.same sT;have ap:=az.same sT;generalize upd H2 LT _=H4 at sT eT ak ap ⊢;dsimp only[aS];refine⟨_,rfl,zZ2,fun q hq=>?_⟩;have sq:=aJ (o:=.lst [V.int 12,.int 40]) hq;have ae:=ak.same sq;have al:=ap.same sq;have af:=sq _ _ eT;have aj:upd H4 q (.lst [V.int 12,.int 40]) q=some (.lst [V.int 12,.int 40]):=aA;generalize upd H4 q _=H5 at ae al af aj ⊢;refine⟨_,rfl,rfl,.inr ⟨_,rfl,?_⟩⟩;obtain⟨O,hmost,hatm⟩:∃ O:Nat,O<=40/\atI [V.int 12,.int 40] (if decide (V.int J=V.int 0)=true then 1 else 0)=some (.int O):=by
   by_cases g:decide (V.int J=V.int 0)=true
   .rw[Iq g];exact⟨40,by decide,rfl⟩
   .rw[Ip g];exact⟨12,by decide,rfl⟩
  refine⟨q,_,_,_,rfl,rfl,aU aj,hatm,_,rfl,p,c,ns,a2,O,LT,_,rfl,ae,by omega,hmost,af,by decide,by decide,by decide,fun t2 t Ls us sc a6 H6 aL Y hok ba a0 s1 s2 ao bo l6 u6 bn q6=>?_⟩;have aT:=aF2 al ae q6;refine⟨t2,_,rfl,aN aL,rfl,_,_,rfl,_,_,rfl,rfl,_,rfl,.ref t,_,rfl,aFV Y.rd Y.ok,?_⟩;dsimp only[aS];obtain⟨lay,rw,xs,ys,h1,h2,h3,h4,h6,h7,h8,h9⟩:=Y.ex;have br:=h8.len;refine⟨_,rfl,t,_,1,_,rfl,rfl,aN h1,rfl,rw,_,rfl,.inr (aN h7),_,_,rfl,rfl,_,rfl,by omega,by omega,?_⟩;refine mU (n:=_) (fun i σ H'=>∃(o:Option V),σ=[some (.ref c),some (.ref p),some (.int J),some (.ref LT),some (.ref t),some (.int sc),some (.str (pY Ls us).shown),o]/\Tb T H'/\fQ H' t Ls us) ⟨none,rfl,aT,Y⟩ ?_ ?_
  .rintro i σ ax hi ⟨o,rfl,ad,G⟩;dsimp only[aS];refine⟨_,rfl,_,rfl,_,rfl,t,Ls,us,sc,i,(by show[V.ref t,V.int sc,V.int (0+(i:Int))]=[V.ref t,V.int sc,V.int (i:Int)];rw[EE]),G,ad,hok,ba,a0,s1,s2,ao,fun bq aq aa=>?_⟩;refine⟨_,rfl,dB (fun g=>absurd g (by decide)) fun _=>?_⟩;exact⟨_,rfl,aq,aa⟩
  .rintro σ ax ⟨o,rfl,ad,G⟩;refine⟨_,rfl,.ref t,_,rfl,aFV G.rd G.ok,_,rfl,rfl,?_⟩;have:V.bl (decide (V.str (pY Ls us).shown=V.str (pY Ls us).shown))=V.bl true:=by simp
   rw[this];exact k _
inductive aJP(K:Ah)(n:Str)(st:Cw):Prop
 | mk (f:_) (q0:By K mainGlobals n=some (some (.ref f))) (q1:(∃ oc od kV dc pm an cd ct sl,K.lookup f=some ⟨oc,od,.func (Cc n n (fV st) (eI st) (aQ st) .none kV dc pm an cd ct),sl⟩/\CC K cd n=true)) (q2:A4 K (.ref f)=true):aJP K n st
def Dx(K:Ah)(n:Str)(st:Cw):Prop:=aJP K n st
theorem dG{K:Ah}{h:Bl}{mg:Str->Option Ac}{n:Str}{st:Cw}(d:Dx K n st)(X:K.In h)(G:h.Ns mainGlobals mg):∃ f fd,Fun K n n st f fd/\mg n=some (.ref f)/\A4 K (.ref f)=true:=by
 obtain⟨f,a,⟨_,_,_,_,_,_,_,_,_,l,c⟩,k⟩:=d;exact⟨f,_,nX l c k,C4 X G a,k⟩
theorem all_mk{l:G7}{w:AW}{K:Ah}{h:Bl}{mg:Str->Option Ac}{fa:Af}(X:K.In h)(G:h.Ns mainGlobals mg)(hfa:mg "law"=some (.ref fa))
  {fIn:Af} {odIn anIn:Option Af} {slIn:Array (Option Ac)} {ocIn kVIn dcIn pmIn ctIn:Ac} {fPa:Af} {odPa anPa:Option Af} {slPa:Array (Option Ac)} {ocPa kVPa dcPa pmPa cdPa ctPa:Ac} {fJo:Af} {odJo anJo:Option Af} {slJo:Array (Option Ac)} {ocJo kVJo dcJo pmJo cdJo ctJo:Ac} {fFo:Af} {odFo anFo:Option Af} {slFo:Array (Option Ac)} {ocFo kVFo dcFo pmFo cdFo ctFo:Ac} {fMe:Af} {fMn:Af} {fAl:Af} {fLo:Af} {fL:Af} {odL anL:Option Af} {slL:Array (Option Ac)} {ocL kVL dcL pmL cdL ctL:Ac}
  {t_DEEDS:Af} {eF:Nat} {xk0 xk1 xk2 xk3 xk4 xk5 xk6 xk7:Tok}
  {C fI:Af} {odI anI:Option Af} {slI:Array (Option Ac)} {ocI kVI dcI pmI cdI ctI:Ac} {TT qIn:Af}
  (aC:By K mainGlobals "Moment"=some (some (.ref C)))
  (aI:BH K (.ref C) "__init__"=some (some (.ref fI))) (iI:Hx K (.ref fI)=true) (lI:K.lookup fI=some ⟨ocI,odI,.func (Cc "__init__" "Moment.__init__" (fV wL) (eI wL) (aQ wL) .none kVI dcI pmI anI cdI ctI),slI⟩) (cI:CC K cdI "Moment.__init__"=true) (kI:A4 K (.ref fI)=true)
  (pg:EY K C Str.empty=true) (hd:EI K C=true) (po:Gp K C=true) (sa:BH K (.ref C) "__setattr__"=some (some (.builtin "object.__setattr__"))) (mk:G6 K C=true) (kc:A4 K (.ref C)=true)
  (nR:BH K (.ref C) "ranks"=some none) (nH:BH K (.ref C) "holdings"=some none) (nA:BH K (.ref C) "acres"=some none) (nI:BH K (.ref C) "inches"=some none) (nM:BH K (.ref C) "menders"=some none)
  (aIn:By K mainGlobals "in_one"=some (some (.ref fIn))) (lIn:K.lookup fIn=some ⟨ocIn,odIn,.func (Cc "in_one" "in_one" (fV qI) (eI qI) (aQ qI) .none kVIn dcIn pmIn anIn (.ref qIn) ctIn),slIn⟩) (cIn:CC K (.ref qIn) "in_one"=true) (kIn:A4 K (.ref fIn)=true)
  (aPa:By K mainGlobals "do_part"=some (some (.ref fPa))) (lPa:K.lookup fPa=some ⟨ocPa,odPa,.func (Cc "do_part" "do_part" (fV jK) (eI jK) (aQ jK) .none kVPa dcPa pmPa anPa cdPa ctPa),slPa⟩) (cPa:CC K cdPa "do_part"=true) (kPa:A4 K (.ref fPa)=true)
  (aJo:By K mainGlobals "do_join"=some (some (.ref fJo))) (lJo:K.lookup fJo=some ⟨ocJo,odJo,.func (Cc "do_join" "do_join" (fV jL) (eI jL) (aQ jL) .none kVJo dcJo pmJo anJo cdJo ctJo),slJo⟩) (cJo:CC K cdJo "do_join"=true) (kJo:A4 K (.ref fJo)=true)
  (aFo:By K mainGlobals "do_forfeit"=some (some (.ref fFo))) (lFo:K.lookup fFo=some ⟨ocFo,odFo,.func (Cc "do_forfeit" "do_forfeit" (fV gZ) (eI gZ) (aQ gZ) .none kVFo dcFo pmFo anFo cdFo ctFo),slFo⟩) (cFo:CC K cdFo "do_forfeit"=true) (kFo:A4 K (.ref fFo)=true)
  (aL:By K mainGlobals "law"=some (some (.ref fL))) (lL:K.lookup fL=some ⟨ocL,odL,.func (Cc "law" "law" (fV xR) (eI xR) (aQ xR) .none kVL dcL pmL anL cdL ctL),slL⟩) (cL:CC K cdL "law"=true) (kL:A4 K (.ref fL)=true)
  (z_len:By K mainGlobals "len"=some none)
  (z_sum:By K mainGlobals "sum"=some none)
  (z_max:By K mainGlobals "max"=some none)
  (z_min:By K mainGlobals "min"=some none)
  (z_tuple:By K mainGlobals "tuple"=some none)
  (z_sorted:By K mainGlobals "sorted"=some none)
  (z_any:By K mainGlobals "any"=some none)
  (z_all:By K mainGlobals "all"=some none)
  (z_abs:By K mainGlobals "abs"=some none)
  (z_range:By K mainGlobals "range"=some none)
  (z_int:By K mainGlobals "int"=some none)
  (z_set:By K mainGlobals "set"=some none)
  (z_dict:By K mainGlobals "dict"=some none)
  (z_repr:By K mainGlobals "repr"=some none)
  (q_DEEDS:By K mainGlobals "DEEDS"=some (some (.ref t_DEEDS)))
  (lFm:K.lookup t_DEEDS=some { cls:=.type "dict",data:=.dict #[⟨BF w.params "part",.str "part" xk0,.ref fPa⟩,⟨BF w.params "join",.str "join" xk1,.ref fJo⟩,⟨BF w.params "forfeit",.str "forfeit" xk2,.ref fFo⟩,⟨BF w.params "measure",.str "measure" xk3,.ref fMe⟩,⟨BF w.params "mend",.str "mend" xk4,.ref fMn⟩,⟨BF w.params "alone",.str "alone" xk5,.ref fAl⟩,⟨BF w.params "breach",.str "breach" xk6,.ref fLo⟩,⟨BF w.params "view",.str "view" xk7,.ref fLo⟩] eF }) (hcI:GG K qIn TT=true)
  (zAc:Dx K "acres_in" xL)
  (zCu:Dx K "cut" aIk)
  (zCa:Dx K "carry_out" aBB)
  (zBh:Dx K "moment_behind" xM)
  (zLd:Dx K "lands" xN)
  (zP:Dx K "_law_pen" aIl)
  (zD:Dx K "_law_draw" aE1)
  (zN:Dx K "_law_names" n9)
  (zWo:Dx K "_law_world" uA)
  (zUn:Dx K "_law_units" xO)
  (zPw:Dx K "_law_part_word" j6)
  (zJw:Dx K "_law_join_word" j7)
  (zO:Dx K "_law_word" aE2)
  (zE:Dx K "_law_do" sDo)
  (zLP:Dx K "_law_part" v8)
  (zLJ:Dx K "_law_join" aCo)
  (zM:Dx K "_law_made" aE3)
  (zR:Dx K "_law_rank" aE4)
  (zLa:Dx K "_law_laying" xQ)
  (zRo:Dx K "_law_roll" aAc)
  (zPc:Dx K "_law_pieces" xP)
  (zY:Dx K "_law_replayed" qJ)
  (zTd:Dx K "_law_told" aCp)
  (zRi:Dx K "_law_right" aBC)
  :∃ fd:Be,(∀(s:Ae) (v:Ac),Hv s fd ⟨[v],[]⟩ [("_law_script",v)])/\∀ base:Bl,K.In base->base.Ns mainGlobals mg->vF mg base->cW l.prog w K mg base CX0 10 fa fd ["_law_script"] (aC3 K TT):=by
 have e:=hfa.symm.trans (C4 X G aL);cases e;have FIn:=nX (st:=qI) lIn cIn kIn;have mIn:=C4 X G aIn;have bIn:=FIn.binds (ps:=["ranks","pieces"]) fun _ _ _ _ _ _ us hl=>by obtain⟨_,_,rfl⟩:=lM hl;rfl
 have FPa:=nX (st:=jK) lPa cPa kPa;have mPa:=C4 X G aPa;have bPa:=FPa.binds (ps:=["moment","row"]) fun _ _ _ _ _ _ us hl=>by obtain⟨_,_,rfl⟩:=lM hl;rfl
 have FJo:=nX (st:=jL) lJo cJo kJo;have mJo:=C4 X G aJo;have bJo:=FJo.binds (ps:=["moment","row"]) fun _ _ _ _ _ _ us hl=>by obtain⟨_,_,rfl⟩:=lM hl;rfl
 have FFo:=nX (st:=gZ) lFo cFo kFo;have mFo:=C4 X G aFo;have bFo:=FFo.binds (ps:=["moment","row"]) fun _ _ _ _ _ _ us hl=>by obtain⟨_,_,rfl⟩:=lM hl;rfl
 have FL:=nX (st:=xR) lL cL kL;have mL:=C4 X G aL;have bL:=FL.binds (ps:=["_law_script"]) fun _ _ _ _ _ _ us hl=>by obtain⟨_,rfl⟩:=aF3 hl;rfl
 have n_len:=BA X G z_len;have n_sum:=BA X G z_sum;have n_max:=BA X G z_max;have n_min:=BA X G z_min;have n_tuple:=BA X G z_tuple;have n_sorted:=BA X G z_sorted;have n_any:=BA X G z_any;have n_all:=BA X G z_all;have n_abs:=BA X G z_abs;have n_range:=BA X G z_range;have n_int:=BA X G z_int;have n_set:=BA X G z_set;have n_dict:=BA X G z_dict;have n_repr:=BA X G z_repr;have g_DEEDS:=C4 X G q_DEEDS;refine⟨Cc "law" "law" (fV xR) (eI xR) (aQ xR) .none kVL dcL pmL anL cdL ctL,fun s v=>.of_eq rfl,fun base _ _ hB=>?_⟩;obtain⟨_,_,FAc,mAc,kAc⟩:=dG zAc X G;have bAc:=FAc.binds (ps:=["pieces"]) fun _ _ _ _ _ _ us hl=>by obtain⟨_,rfl⟩:=aF3 hl;rfl
 obtain⟨_,_,FCu,mCu,kCu⟩:=dG zCu X G;have bCu:=FCu.binds (ps:=["pieces","low","high"]) fun _ _ _ _ _ _ us hl=>by obtain⟨_,_,_,rfl⟩:=aC4 hl;rfl
 obtain⟨_,_,FCa,mCa,kCa⟩:=dG zCa X G;have bCa:=FCa.binds (ps:=["moment","row"]) fun _ _ _ _ _ _ us hl=>by obtain⟨_,_,rfl⟩:=lM hl;rfl
 obtain⟨_,_,FBh,mBh,kBh⟩:=dG zBh X G;have bBh:=FBh.binds (ps:=["roll","at"]) fun _ _ _ _ _ _ us hl=>by obtain⟨_,_,rfl⟩:=lM hl;rfl
 obtain⟨_,_,FLd,mLd,kLd⟩:=dG zLd X G;have bLd:=FLd.binds (ps:=["roll","at"]) fun _ _ _ _ _ _ us hl=>by obtain⟨_,_,rfl⟩:=lM hl;rfl
 obtain⟨_,_,FP,mP,kP⟩:=dG zP X G;have bP:=FP.binds (ps:=["_law_script"]) fun _ _ _ _ _ _ us hl=>by obtain⟨_,rfl⟩:=aF3 hl;rfl
 obtain⟨_,_,FD,mD,kD⟩:=dG zD X G;have bD:=FD.binds (ps:=["_law_pen_here","_law_many"]) fun _ _ _ _ _ _ us hl=>by obtain⟨_,_,rfl⟩:=lM hl;rfl
 obtain⟨_,_,FN,mN,kN⟩:=dG zN X G;have bN:=FN.binds (ps:=["_law_pen_here","_law_many"]) fun _ _ _ _ _ _ us hl=>by obtain⟨_,_,rfl⟩:=lM hl;rfl
 obtain⟨_,_,FWo,mWo,kWo⟩:=dG zWo X G;have bWo:=FWo.binds (ps:=["_law_laying_here","_law_scale"]) fun _ _ _ _ _ _ us hl=>by obtain⟨_,_,rfl⟩:=lM hl;rfl
 obtain⟨_,_,FUn,mUn,kUn⟩:=dG zUn X G;have bUn:=FUn.binds (ps:=["_law_world_here","_law_land"]) fun _ _ _ _ _ _ us hl=>by obtain⟨_,_,rfl⟩:=lM hl;rfl
 obtain⟨_,_,FPw,mPw,kPw⟩:=dG zPw X G;have bPw:=FPw.binds (ps:=["_law_world_here","_law_row"]) fun _ _ _ _ _ _ us hl=>by obtain⟨_,_,rfl⟩:=lM hl;rfl
 obtain⟨_,_,FJw,mJw,kJw⟩:=dG zJw X G;have bJw:=FJw.binds (ps:=["_law_world_here","_law_row"]) fun _ _ _ _ _ _ us hl=>by obtain⟨_,_,rfl⟩:=lM hl;rfl
 obtain⟨_,_,FO,mO,kO⟩:=dG zO X G;have bO:=FO.binds (ps:=["_law_world_here","_law_row"]) fun _ _ _ _ _ _ us hl=>by obtain⟨_,_,rfl⟩:=lM hl;rfl
 obtain⟨_,_,FE,mE,kE⟩:=dG zE X G;have bE:=FE.binds (ps:=["_law_world_here","_law_row"]) fun _ _ _ _ _ _ us hl=>by obtain⟨_,_,rfl⟩:=lM hl;rfl
 obtain⟨_,_,FLP,mLP,kLP⟩:=dG zLP X G;have bLP:=FLP.binds (ps:=["_law_pen_here","_law_world_here","_law_fresh","_law_pool"]) fun _ _ _ _ _ _ us hl=>by obtain⟨_,_,_,_,rfl⟩:=aIP hl;rfl
 obtain⟨_,_,FLJ,mLJ,kLJ⟩:=dG zLJ X G;have bLJ:=FLJ.binds (ps:=["_law_pen_here","_law_world_here","_law_fresh"]) fun _ _ _ _ _ _ us hl=>by obtain⟨_,_,_,rfl⟩:=aC4 hl;rfl
 obtain⟨_,_,FM,mM,kM⟩:=dG zM X G;have bM:=FM.binds (ps:=["_law_pen_here","_law_world_here","_law_fresh","_law_pool","_law_word_here"]) fun _ _ _ _ _ _ us hl=>by obtain⟨_,_,_,_,_,rfl⟩:=aJQ hl;rfl
 obtain⟨_,_,FR,mR,kR⟩:=dG zR X G;have bR:=FR.binds (ps:=["_law_word_here"]) fun _ _ _ _ _ _ us hl=>by obtain⟨_,rfl⟩:=aF3 hl;rfl
 obtain⟨_,_,FLa,mLa,kLa⟩:=dG zLa X G;have bLa:=FLa.binds (ps:=["_law_pen_here","_law_pool","_law_scale","_law_most"]) fun _ _ _ _ _ _ us hl=>by obtain⟨_,_,_,_,rfl⟩:=aIP hl;rfl
 obtain⟨_,_,FRo,mRo,kRo⟩:=dG zRo X G;have bRo:=FRo.binds (ps:=["_law_pen_here","_law_most","_law_terms"]) fun _ _ _ _ _ _ us hl=>by obtain⟨_,_,_,rfl⟩:=aC4 hl;rfl
 obtain⟨_,_,FPc,mPc,kPc⟩:=dG zPc X G;have bPc:=FPc.binds (ps:=["_law_world_here","_law_land"]) fun _ _ _ _ _ _ us hl=>by obtain⟨_,_,rfl⟩:=lM hl;rfl
 obtain⟨_,_,FY,mY,kY⟩:=dG zY X G;have bY:=FY.binds (ps:=["_law_roll_here","_law_scale","_law_at"]) fun _ _ _ _ _ _ us hl=>by obtain⟨_,_,_,rfl⟩:=aC4 hl;rfl
 obtain⟨_,_,FTd,mTd,kTd⟩:=dG zTd X G;have bTd:=FTd.binds (ps:=["_law_roll_here","_law_scale","_law_at"]) fun _ _ _ _ _ _ us hl=>by obtain⟨_,_,_,rfl⟩:=aC4 hl;rfl
 obtain⟨_,_,FRi,mRi,kRi⟩:=dG zRi X G;have bRi:=FRi.binds (ps:=["_law_roll_here","_law_scale","_law_at"]) fun _ _ _ _ _ _ us hl=>by obtain⟨_,_,_,rfl⟩:=aC4 hl;rfl
 have hc:MC K C:=⟨⟨pg,hd,po,sa⟩,nR,nH,nA,nI,nM⟩
 have mC:=C4 X G aC;have FI:=nX (st:=wL) lI cI kI;have bI:=FI.binds (ps:=["self","laying"]) fun _ _ _ _ _ _ us hl=>by obtain⟨_,_,rfl⟩:=lM hl;rfl
 have GI:=aGT (P:=l.prog) (w:=w) (base:=base) FI hc n_len;have GAc:=aFd (P:=l.prog) (w:=w) (base:=base) FAc n_sum;have GCu:=aIy (P:=l.prog) (w:=w) (base:=base) FCu n_max n_min n_tuple;have GIn:=aFm (P:=l.prog) (w:=w) FIn rfl hcI hB n_sorted n_tuple;have GPa:=aDI (T:=TT) FPa hc n_sum n_any ⟨_,_,GAc,mAc,kAc,bAc⟩ ⟨_,_,GCu,mCu,kCu,bCu⟩;have GJo:=aDJ FJo hc n_all n_any ⟨_,_,GIn,mIn,kIn,bIn⟩;have GFo:=xX (P:=l.prog) (w:=w) (mg:=mg) (base:=base) (T:=TT) FFo hc;have GCa:=aFt FCa (aGO lFm) g_DEEDS ⟨⟨_,GPa.mono (by decide),kPa,bPa⟩⟩ ⟨⟨_,GJo.mono (by decide),kJo,bJo⟩⟩ ⟨⟨_,GFo.mono (by decide),kFo,bFo⟩⟩;have GBh:=aDK FBh ⟨mk,aI,iI,kc⟩ GI mC bI GCa mCa kCa bCa;have GLd:=aFx FLd hc n_sorted ⟨_,_,GBh,mBh,kBh,bBh⟩;have GD:=aGD (P:=l.prog) (w:=w) (base:=base) FD n_len n_abs;have GN:=aFc FN n_len n_range n_min GD mD kD bD;have GWo:=aFE (P:=l.prog) (w:=w) (base:=base) FWo n_dict n_range;have GUn:=aFz (P:=l.prog) (w:=w) (mg:=mg) (base:=base) FUn;have GPw:=aAA FPw n_len n_sum n_int ⟨_,_,GUn,mUn,kUn,bUn⟩;have GJw:=aAB (P:=l.prog) (w:=w) (base:=base) FJw n_len n_set n_int;have GO:=aGW FO ⟨_,_,GPw,mPw,kPw,bPw⟩ ⟨_,_,GJw,mJw,kJw,bJw⟩;have GE:=aJO FE ⟨_,_,GUn,mUn,kUn,bUn⟩;have GLP:=aFM FLP n_len n_sorted n_min n_max n_range n_set n_tuple ⟨_,_,GD,mD,kD,bD⟩ ⟨_,_,GUn,mUn,kUn,bUn⟩;have GLJ:=aFN FLJ n_len n_sorted n_set n_tuple ⟨_,_,GD,mD,kD,bD⟩;have GM:=aG6 FM n_len n_sorted n_min ⟨_,_,GD,mD,kD,bD⟩ ⟨_,_,GLP,mLP,kLP,bLP⟩ ⟨_,_,GLJ,mLJ,kLJ,bLJ⟩;have GR:=aGX (P:=l.prog) (w:=w) (mg:=mg) (base:=base) FR;have GLa:=aDL FLa n_len n_tuple ⟨_,_,GN,mN,kN,bN⟩ ⟨_,_,GD,mD,kD,bD⟩
 have GRo:=aG8 FRo n_len n_tuple GN mN kN bN GLa mLa kLa bLa GWo mWo kWo bWo GD mD kD bD GM mM kM bM GR mR kR bR GO mO kO bO GE mE kE bE;have GPc:=aDQ FPc n_tuple ⟨_,_,GUn,mUn,kUn,bUn⟩;have GY:=aAN FY ⟨_,_,GWo,mWo,kWo,bWo⟩ ⟨_,_,GO,mO,kO,bO⟩ ⟨_,_,GE,mE,kE,bE⟩;have GTd:=aHa FTd n_sorted ⟨_,_,GY,mY,kY,bY⟩ ⟨_,_,GPc,mPc,kPc,bPc⟩;have GRi:=aF1 FRi n_repr ⟨_,_,GLd,mLd,kLd,bLd⟩ ⟨_,_,GTd,mTd,kTd,bTd⟩;exact aIO FL n_len n_range n_int n_repr ⟨_,_,(aIu FP),mP,kP,bP⟩ ⟨_,_,GD,mD,kD,bD⟩ ⟨_,_,GRo,mRo,kRo,bRo⟩ ⟨_,_,GRi,mRi,kRi,bRi⟩
theorem walk{l:G7}{q:AE}{loose:List Str}{XP:(Str->Option Ac)->Bl->Prop}{YP:AW->Bl->Prop}{d:DefRec}{K:Params->Ah}{c T:Af}(hn:l.most=some 63)(hdf:d.params.defaults=[])
  (hY:∀(w:AW) (h:Bl),YP w h->(K w.params).In h/\∀ P∈[T],h.get? P=some (PySem.W.tabObj #[]))
  (F:∀(w:AW) (mg:Str->Option Ac) (fa:Af) (h:Bl),(K w.params).In h->h.Ns mainGlobals mg->mg d.name=some (.ref fa)->
   ∃ fd:Be,(∀(s:Ae) (u:Ac),Hv s fd ⟨[u],[]⟩ [("_law_script",u)])/\∀ base:Bl,(K w.params).In base->base.Ns mainGlobals mg->vF mg base->cW l.prog w (K w.params) mg base CX0 10 fa fd ["_law_script"] (aC3 (K w.params) T))
  (hC:∀(w:AW),GG (K w.params) c T=true) (hN:∀(w:AW),(K w.params).lookup T=none):
  PySem.W.WalkO q loose XP YP l.row.toRowW d [] (fun f vs=>HY f vs):=
 L2.walk_ofT (n:=63) (k:=10) (x:="_law_script") (cts:=[(c,T)]) (sp:=fun w=>aC3 (K w.params) T) hn (by decide) hdf ⟨rfl,by decide,by decide,rfl⟩ hY (fun w p hp=>by
  rw[AK.mp hp];exact⟨hC w,hN w⟩) F fun w H a ns hl hT hS=>⟨a,ns,rfl,hS,hl,lF.start (hT T (AK.mpr rfl)),fun _=>rfl⟩
end K11
end
namespace PySem.W.Fast
def tw9365390706211957909:=0
def tw8323140154338223677:=0
def tw14275612621734844311:=0
def tw7788512419732636500:=0
def tw11459187667685580989:=0
def tw2668905844022710624:=0
def tw3919647066844335920:=0
def tw17402753740218425990:=0
def tw6325496831608529392:=0
def tw9093697463263051871:=0
def tw4539148083248716669:=0
def tw269266218413630116:=0
def tw4588168673180785346:=0
def tw13603618407973256280:=0
def tw17216942893922054773:=0
def tw1473715760765278597:=0
def tw15673622308958767595:=0
def tw1082859690157676114:=0
def tw1767108232471696673:=0
def tw18297304075203567877:=0
def tw8025169903972294547:=0
def tw7335838420614345665:=0
def tw6727520563879852833:=0
def tw1044092952189422749:=0
def tw4864843599135332575:=0
def tw17621254317345938991:=0
def tw16020983648690497790:=0
def tw11348805446781715158:=0
def tw5897112943468673767:=0
def tw13120421414810457396:=0
def tw9781179293449189562:=0
def tw16412358306234535410:=0
def tw1664949219333965358:=0
def tw5933300143611582610:=0
def tw4360888388713499761:=0
def tw16685987828070672531:=0
def tw6343491706943664369:=0
def tw5522389221843443531:=0
def tw9336385365709542129:=0
def tw16171951420493138953:=0
def tw1945948384506245743:=0
def tw16918378948795956649:=0
def tw10057922129882789913:=0
def tw11001109823154635326:=0
def tw16089922836392276882:=0
def tw10171217909221181088:=0
def tw14928413399950504955:=0
def tw2428177277271384657:=0
def tw5765500513520695160:=0
def tw17839886383547865609:=0
def tw7749390931493054042:=0
def tw2411837810107372306:=0
def tw6925458481759967946:=0
def tw11039733730303333753:=0
def tw9387000978553799156:=0
def tw14598119141868461442:=0
def tw14527359974607530114:=0
def tw4534355774784370712:=0
def tw17248938371448610076:=0
def tw7080916816440308932:=0
def tw7368232537765095700:=0
def tw96438493493440332:=0
def tw1963828540203093416:=0
def tw4177767504312072887:=0
def tw12376712891163559540:=0
def tw7501779316762658561:=0
def tw9248632188387429009:=0
def tw16470272536358872794:=0
def tw10690038425349877077:=0
def tw11030362345058306748:=0
def tw504341497959709795:=0
def tw6749005850566528217:=0
def tw10206561414837433032:=0
def tw15187275978762741995:=0
def tw2256379057656058075:=0
def tw5374290350414758524:=0
def tw7110134622404269534:=0
def tw8226834063654203434:=0
def tw18402205051377103391:=0
def tw13847843319918896570:=0
def tw7521377023483816319:=0
def tw11023530295854428923:=0
def tw10767434310808832347:=0
def tw2649738205164406856:=0
def tw16073226276342170450:=0
def tw10602684695009050837:=0
def tw3211622643117823502:=0
def tw1716228717326947464:=0
def tw9226015242916972924:=0
def tw15183571644362108234:=0
def tw10678162913609209266:=0
def tw16761536035223906524:=0
def tw17150605022691601361:=0
def tw17849547005824432159:=0
def tw3000744157062415181:=0
def tw16144211894869182824:=0
def tw17935196723965498917:=0
def tw2802878997032653959:=0
def tw13238886103540036839:=0
def tw16871998900226503036:=0
def tw8049352044396022509:=0
def tw2109130338664804052:=0
def tw13119880935993997404:=0
def tw1876075282577261116:=0
def tw12482988656936690754:=0
def tw2446148296294424424:=0
def tw17887289287727959202:=0
def tw16796194683756578929:=0
def tw15932169707280631045:=0
def tw11592890576858175551:=0
def tw18169558699157193097:=0
def tw5195595427563387797:=0
def tw17356695682661644784:=0
def tw16367208308698711247:=0
def tw11656332552631178843:=0
def tw12438438664372493430:=0
def tw11407218815259104775:=0
def tw5212930574072831891:=0
def tw11844539482163416332:=0
def tw11414388060737542745:=0
def tw14549675610885351339:=0
def tw6806819280895866731:=0
def tw9455169475712808492:=0
def tw9643835120431432017:=0
def tw15188282608647616425:=0
def tw15642518407996193742:=0
def tw14255350214318610019:=0
def tw15561576076630879158:=0
def tw9199498994167097567:=0
def tw16573417387645573923:=0
def tw4247324400284615497:=0
def tw16580850989956048558:=0
def tw18173085076550358403:=0
def tw2276690918045357536:=0
def tw16880150781267381003:=0
def tw4223422655935780796:=0
def tw8650979004512712572:=0
def tw12238973048825695410:=0
def tw15464415554747979330:=0
def tw156585563929537798:=0
def tw10702583654040716682:=0
def tw7850755052250878501:=0
def tw14746979858418739950:=0
def tw18227968448143861179:=0
def tw6680006999070315430:=0
def tw5750500379010126936:=0
def tw3627769235634552869:=0
def tw11953250526644141109:=0
def tw15339529388048521572:=0
def tw12897578059210437108:=0
def tw12754942007509941960:=0
def tw16153196669962021304:=0
def tw9803411130909887813:=0
def tw14488635165218385742:=0
def tw2270986255179874311:=0
def tw8265549194340562710:=0
def tw8369541956785618293:=0
def tw8841880044165954523:=0
def tw6446961738650369227:=0
def tw1871892015807847715:=0
def tw4372777246077400998:=0
def tw6805488394394395300:=0
def tw10010589080642830371:=0
def tw6287909153319256509:=0
def tw13139196387474348252:=0
def tw10711506300751397171:=0
def tw1156906370303339010:=0
def tw18288373664087277278:=0
def tw3448102384714806695:=0
def tw472832843414859847:=0
def tw14075173280750912361:=0
def tw5041092802564181943:=0
def tw9833766015261421213:=0
def tw10217422452284661502:=0
def tw9576516511472484805:=0
def tw12419577118179440983:=0
def tw15943714766556661411:=0
def tw4527848730469215763:=0
def tw11974547763899358429:=0
def tw7324284924243659184:=0
def tw14838858749083238499:=0
def tw8612391834945184264:=0
def tw4339906570433901273:=0
def tw16352775366846492980:=0
def tw9209555244059937367:=0
def tw3683537561397042497:=0
def tw9497048249886257998:=0
def tw8784441232080344342:=0
def tw16949136524423890301:=0
def tw4299515054349892717:=0
def tw729697324265260021:=0
def tw14905144229058996568:=0
def tw16525223688664906885:=0
def tw11363890947014538386:=0
def tw1383423555250533029:=0
def tw10893024713093909838:=0
def tw17697574183079580269:=0
def tw13916828496488931123:=0
def tw6503539183786977800:=0
def tw18262785621395905697:=0
def tw5552166788045757634:=0
def tw830697461151197575:=0
def tw753629376188384889:=0
def tw9601628390528712993:=0
def tw13252875277206161415:=0
def tw7855764122135272383:=0
def tw14613910495091579810:=0
def tw13364947422197549324:=0
def tw8271420341879823565:=0
def tw9100615963686443886:=0
def tw7607136877046557198:=0
def tw10032447236159112989:=0
def tw1968547351218876588:=0
def tw1064355882525057013:=0
def tw2486699984855531175:=0
def tw17780697464642140116:=0
def tw13487447231495496506:=0
def tw7823195784968599861:=0
def tw5673804940619315599:=0
def tw2347466139935346505:=0
def tw3655635706464239457:=0
def tw162253518547877745:=0
def tw10092586670420865116:=0
def tw18286217811640391957:=0
def tw693957913769103364:=0
def tw17732120085193851551:=0
def tw177140238631767114:=0
def tw9240410119734979527:=0
def tw15509366680852876834:=0
def tw13435773717095025732:=0
def tw16378237810902397180:=0
def tw521087067449181799:=0
def tw16314608985478731689:=0
def tw13465021819398456916:=0
def tw17544601534215764740:=0
def tw8825504135275577909:=0
def tw11081766017299218987:=0
def tw14426067334959492386:=0
def tw7553757354308864193:=0
def tw14386085820506198495:=0
def tw13420547321949510874:=0
def tw876299922026382924:=0
def tw4022203401026754728:=0
def tw5762677112663834684:=0
def tw13206682007618796004:=0
def tw1445165410654127324:=0
def tw17776507045940639838:=0
def tw14752829424938282301:=0
def tw2838586187123465128:=0
def tw8424015442551468279:=0
def tw4360878574190666050:=0
def tw12797059956419116909:=0
def tw1063564525388779809:=0
def tw18187010327979490926:=0
def tw3599888576023471874:=0
def tw13834665340131526979:=0
def tw8889575984886647076:=0
def tw11302787253032125822:=0
def tw13164938711865839533:=0
def tw5359059975013888880:=0
def tw2115157968699950358:=0
def tw18244276345549073626:=0
def tw16864338807305991516:=0
def tw1999516121639795249:=0
def tw6460892171713431926:=0
def tw411884927265554055:=0
def tw4984810777600842478:=0
def tw7668601661275204284:=0
def tw8060959181833439701:=0
end PySem.W.Fast
open PySem PySem.W PyProof.Rows
set_option maxRecDepth 100000 in
set_option maxHeartbeats 0 in
theorem PySem.Challenge.cw_dykelengths_k11_lands_joined_holds : PySem.Challenge.rw_dykelengths_k11_lands_joined.Holds := by
 w_on;o_law;k_head;(case hw=>w_witness2)
 k_fill
 refine K11.walk (l:=PySem.Challenge.rw_dykelengths_k11_lands_joined) (c:=53) (T:=49) rfl rfl (fun w h Y=>⟨PySem.W.km_in_of Y,PySem.W.km_tabs_of Y⟩) ?F ?hC ?hN
 case F=>
  intro w mg fa h KX G hmg
  refine' K11.all_mk KX G hmg ?aC ?aI ?iI ?lI ?cI ?kI ?pg ?hd ?po ?sa ?mk ?kc ?nR ?nH ?nA ?nI ?nM ?aIn ?lIn ?cIn ?kIn ?aPa ?lPa ?cPa ?kPa ?aJo ?lJo ?cJo ?kJo ?aFo ?lFo ?cFo ?kFo ?aL ?lL ?cL ?kL ?z_len ?z_sum ?z_max ?z_min ?z_tuple ?z_sorted ?z_any ?z_all ?z_abs ?z_range ?z_int ?z_set ?z_dict ?z_repr ?q_DEEDS ?lFm ?hcI ?zAc ?zCu ?zCa ?zBh ?zLd ?zP ?zD ?zN ?zWo ?zUn ?zPw ?zJw ?zO ?zE ?zLP ?zLJ ?zM ?zR ?zLa ?zRo ?zPc ?zY ?zTd ?zRi
  case aC|aI|iI|lI|cI|kI|pg|hd|po|sa|mk|kc|nR|nH|nA|nI|nM|aIn|lIn|cIn|kIn|aPa|lPa|cPa|kPa|aJo|lJo|cJo|kJo|aFo|lFo|cFo|kFo|aL|lL|cL|kL|z_len|z_sum|z_max|z_min|z_tuple|z_sorted|z_any|z_all|z_abs|z_range|z_int|z_set|z_dict|z_repr|q_DEEDS|lFm=>k_is
  case hcI=>kernel_rfl
  case zAc|zCu|zCa|zBh|zLd|zP|zD|zN|zWo|zUn|zPw|zJw|zO|zE|zLP|zLJ|zM|zR|zLa|zRo|zPc|zY|zTd|zRi=>exact ⟨_,by k_is,⟨_,_,_,_,_,_,_,_,_,by k_is,by k_is⟩,by k_is⟩
 case hC=>exact fun w=>by kernel_rfl
 case hN=>exact fun w=>by kernel_rfl
