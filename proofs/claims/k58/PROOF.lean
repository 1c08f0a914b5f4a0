import PyProof.Rows.All
import Wide.All
import OpenK.AllK
import Wide.FinOn
import Lean
import PyProof.EqAt
import PyProof.EqKinds
import PyProof.TupleCall
import KE.KIntText
import KE.KDictList
import PyProof.StationsW
import PyProof.ExcClass2
import OpenK.KRaise
import OpenK.KOwn
import KE.KTryMore
import PyProof.NsDelKeeps
import PyProof.Rows.Catch
import PyProof.ExcArgs
import PyProof.AttrMissHeap
import KE.KDictOf
import KE.KPairComp
import PyProof.P3In
import KE.KSortTup
import PyProof.EnumFor
import PyProof.EnumMake
import PyProof.EnumStmt
import PyProof.Rows.EnumRows
import PyProof.StrCalls
import PyProof.NeData
import PyProof.Rows.StrNews2
import PyProof.P3Eq
import PyProof.StrOps2
import PySem.Challenge.RW_dykelengths_k58_three_hundred
set_option compiler.extract_closed false
set_option genSizeOf false
set_option bootstrap.genMatcherCode false
set_option linter.all false
set_option maxRecDepth 100000
set_option Elab.async false
set_option maxHeartbeats 16000000
noncomputable section
local macro_rules
|`(tactic|omega)=>`(tactic|lia)
local macro_rules
|`(tactic|decide)=>`(tactic|decide +kernel)
open PySem renaming wpAny_bind->Aa,Value->Ab,Shared->Ac,Addr->Ad,wpAny_pure->Ah,Program->Aq,Around->AI,World->AL,Paired->AZ,FuncData->A4,sizeLine_eq->A6,Heap->A9,Expr->Ba,wpAny_ite_false->Bf,mem_of_lookup->Bl,wpAny_holding->By,intKind->BG,boot_len->BK,wpAny_mono->BM,wpAny_truthy_bool->BX,wpAny_newObj_type->BY,Stmt->Cd,wpAny_call_entry->Cn,wpAny_Call_Name_kw->Cw,SetTable->CB,wpAny_callSpecial?_slot->CC,Scope->CF,PyData->CY,Arguments->CZ,codeAny_mono->C2,wpAny_rule->C6,wpAny_passesOwn->Dk,codeAny_builtin->Dl,wpAny_attempt->Dn,wpAny_setState_of->Dr,wpAny_ite_true->DE,wpAny_call->DF,wpAny_typeOf->DI,wpAny_isInstance->DJ,wpAny_askSetting->DK,wpAny_setEntries_of->DO,wpAny_execs_nil->DR,wpAny_getItem_str_slice->D1,wpAny_setField->D7,NameKind->Ea,sizeLine_eq->En,tupleKind_room_in1->EK,wpAny_pyIter_list->EY,wpAny_of_eq->EZ,fits_of_scanBound->E1,Model->E2,wpAny_standAt->E5,wpAny_newList->E6,Keyword->Fk,IsPart->Fl,post_val_or_str->Fn,wpAny_newFunctionEnv->FJ,wpAny_fieldsOf->FK,codeAny_call_builtin->FO,plainId_quiet->F1,GenState->Gm,BindsTo->Gn,wpAny_execs_cons->Gr,noFill_tuple_add->Gu,Fin->Gw,CmpOp->Gz,wpAny_specialOf->GG,Within->GK,wpAny_newTuple->GZ,call_meets->G0,seq_tuple_add->G9,call->Hc,TriplesOk->Hg,concat_meets->Hl,Result->Hm,ElemsOf->Ho,wpAny_field->Hs,seqIndex_of->Ht,Drawn->Hy
open List renaming getElem?_eq_getElem->Ae,length_map->Af,getElem?_eq_some_iff->Ak,mem_cons_of_mem->Al,mem_cons_self->Am,mem_cons->An,mem_singleton->Ax,length_append->Ay,size_toArray->AA,getElem?_map->AB,map_cons->AF,mem_append_right->AH,mem_append->AK,not_mem_nil->AO,length_cons->AQ,mem_iff_getElem->AR,mem_of_getElem?->AU,append_assoc->AW,map_append->A1,getElem_mem->A2,mem_filterMap->A8,pairwise_iff_getElem->Bc,take_length->Bg,take_of_length_le->Bj,take_add_one->Bk,length_take->Bm,nodup_cons->Bo,append_nil->Bp,lookup_cons->Bv,mem_map->BA,getElem?_of_mem->BE,getElem?_eq_none->BI,getElem?_append_right->BL,mem_append_left->BN,length_drop->BP,length_singleton->BU,foldl_cons->B1,getElem_map->B3,getElem?_append_left->B6,range->B7,pairwise_cons->Cg,replicate->Cu,drop_zero->Cv,mem_filter->Cz,getElem_inj->CH,take_append_drop->CK,perm_append_comm->CL,length_filter_le->CM,nil_append->CS,pairwise_map->CT,length->CU,all_eq_true->C4,getElem_take->Dg,lookup->Do,cons_append->Ds,any_eq_true->Dt,reverse_append->DA,mem_map_of_mem->DB,map_congr_left->DC,find?_cons->DL,getElem?_drop->DN,mem_range->DS,map_map->DT,getElem?_set_self->DU,drop_eq_nil_of_le->DV,any_cons->Eb,pairwise_append->Ee,mem_of_mem_take->Ef,mem_of_mem_drop->Eg,filterMap_cons->Ei,perm_append_comm_assoc->Ek,map_nil->El,length_eraseIdx_of_lt->Er,getElem?_take->Es,drop_drop->Et,drop_eq_getElem_cons->EB,reverse_perm->EF,foldl_append->EG,pairwise_singleton->ER,drop_of_length_le->E3,of_mem_zip->E9,forIn_cons->Fb,reverse_reverse->Fg,replicate_succ'->Fh,getElem?_set_ne->Fi,take_succ_cons->Ft,filter_append->FE,take_sublist->FQ,getElem_drop->FR,ext_getElem?->FS,getElem_zip->F3,filter_cons->F4,range'->Gc,length_set->Gf,take_nil->Gx,all_cons->Gy,take->Hq,cons->Hr
open PySem.W renaming Frag->Ag,keepIn->AJ,nsIn->AX,mg_none_of->Be,findIn->Br,mg_of->Bu,kia_one->Cb,fnOf->Cc,kitOne->Ck,emptyDict->Cm,codeIn->Cr,instObj->CO,codeHdIn->Dm,hasDictIn->DP,callWith_K->Eh,plainGet->ED,specialIn->Fu,plainOver->Fv,methodObj->Fw,codeHd_of_K->FN,takerIn->FV,makesIn->FW,OpenLaw->FX,lookIn->F9,exmOne->Ga,mroIn->Gi,isFn->Gv,kla_obj->GU,looks_findIn->Hi,looks_mroIn->Hu,hideAll_get->Hw
open PySem.Heap renaming get?_push_of_some->Ai,lt_size->Ap,get?_push_size->Aw,get?_update_ne->BS,size_push->Co,get?_update_self->Cp,size_update->C5,SameBut->Dv,get?_update_other->DW,get?_push_ne->EI,FlyingW->GX
open Nat renaming le_refl->Aj,ne_of_lt->Ar,lt_of_lt_of_le->AE,le_trans->AM,zero_le->AV,le_of_lt->Bd,lt_irrefl->BD,lt_succ_of_lt->BF,lt_succ_self->BR,lt_of_le_of_lt->B0,lt_or_ge->B4,add_sub_cancel'->Ca,ne_of_gt->CG,le_of_not_lt->CI,add_sub_cancel_left->C8,le_succ->C9,sub_zero->Dz,le_of_eq->DX,max_eq_right->D8,le_add_right->D9,zero_add->Eo,add_zero->Ep,succ_le_succ->EU,not_lt->E8,lt_trans->FY,le_succ_of_le->FZ,le_of_lt_succ->F0,succ_ne_zero->Gb,not_lt_zero->Gj,add_assoc->GQ
open Sum renaming inr->Ao,inl->Fq
open Array renaming toList_append->Au,length_toList->AN,getElem?_toList->AS,getElem?_eq_getElem->A3,perm_iff_toList_perm->A7,toList_push->Bi,toList_reverse->Cj,toList_map->EM,getElem?_eq_none->EX,size_extract->Fy,append_assoc->Fz,getD->Gp
open Bool renaming false_ne_true->Av,and_eq_true->Cq,eq_iff_iff->CA,false_eq_true->Da,eq_false_iff->Di
open PyProof.Rows renaming wpS_bind->Az,wpS_pure->AG,Keyed->AY,SortSt->Bn,wpS_forRange->BO,slot_tuple_getitem->BQ,SortKind->Cs,wpS_mono->CP,wpS_modify->CQ,callWith_type1->C7,listUpdate_at->DQ,IntsAre->Ec,wpS_get->EC,AllBare->EJ,IsTup->E4,wpS_lift->FH,seqEpoch_at->FM,size_push'->F7,assignInOrder_cons->F8,Constant_none->Hf,plain_sorted->Hh,listItems_at->Hj,entry_sorted->Hk,kind_sorted->Hv
open Or renaming inl->AC,inr->Ej
open PySem.Value renaming ref->AD,type->Bq,int->BH,none->CW,isInt->Fe,str->Ff,isStrOf->Fo,builtin->Fp,bool->Gh,float->G5
open Option renaming map_eq_some_iff->A5,some->Bt,isSome_iff_exists->EA,map_some->ET,isSome_map->FD
open PySem.NameKind renaming free->Bb,cell->DY
open PySem.Obj renaming mapSeq->Bh,data_mapFields->CJ,isFreed_of_fields->D6,putSet->Hn
open False renaming elim->Bw
open PySem.PyData renaming keyHash->Bx,str->DG,eqvAll->D5,eqv->EO,depthAll->ES,strOk->FA,canLayAll0->FC
open PySem.PassesOwn renaming never->Bz
open List.Perm renaming append_left->BB,append_right->C3,trans->Du,refl->EV
open PySem.F renaming plainAttrs_list->BC,type_list_append->B8,slot_list_append->B9,args_tuple_add_2->Ex,called_set->Ez,entry_tuple_add->EE,slot_tuple_add->EL
open PySem.Str renaming ofString->BJ,empty->Dy,length_append->FU
open Int renaming toNat_natCast->BV,le_refl->B2,mul_le_mul_of_nonneg_right->B5,emod_lt_of_pos->CN,emod_nonneg->CV,lt_or_le->Dc,mul_nonneg->Dp,zero_add->DZ,add_zero->D0,natCast_nonneg->Ey,lt_trans->Fc,toNat_of_nonneg->Fx,add_assoc->FF,ediv_nonneg->Gk,add_mul->He
open PySem.SetTable renaming below->BW,fresh->CD,grown->Df,probe->F2
open List.Pairwise renaming nil->BZ,sublist->DH,filter->EH
open PySem.Paired renaming snoc->Ce,length->Fj
open Ne renaming symm->Cf
open PySem.Heap.SameBut renaming update->Ci
open ForInStep renaming yield->Ct
open True renaming intro->Cy
open PyProof.Rows.F renaming plain_set_update_loop->Dd
open PySem.Builtin.Slice renaming slicePlaces->De,sliceAdjust->Ed
open PySem.Builtin.Tuple renaming tupleExact->Dh
open PySem.Around renaming under_plainId->Dj,frames_deeper->Fd,under->FG
open Array.Perm renaming refl->Dq
open PySem.Txt renaming slice->Dw,slice_le->E7,partition->GJ
open PySem.Builtin.List renaming listItems->DD,listUpdate->Em
open PySem.Data renaming set->Eu,seq->Ew,fields->G6
open PySem.SeqAt.EqAt renaming bool_bool->EN
open PySem.Calls renaming callWith_builtin->EW
open PyProof.Rows.SortSt renaming mk'->Ge
open PySem.Shared renaming TypeIs->Gq
open PySem.Code renaming isFrame->GY
open PySem.Walks renaming list->Ha
open PySem.SeqAt renaming EqAt->Hb
open PUnit renaming unit->Hd
open PySem.W.Looks renaming ld->Hx
open Prod renaming ext->Hz
open PySem.Flow renaming ret->HC
theorem Ia{c:Prop}{h:Decidable c}(n:¬c){α:Sort u}{t e:α}:ite c t e=e:=if_neg n
theorem Ib{c:Prop}{h:Decidable c}(n:c){α:Sort u}{t e:α}:ite c t e=t:=if_pos n
theorem Ic{p:Prop}[s:Decidable p](h:p):decide p=true:=decide_eq_true h
theorem Ie{p:Prop}[s:Decidable p](h:¬p):decide p=false:=decide_eq_false h
theorem Ig{p:Prop}[s:Decidable p](h:decide p=true):p:=of_decide_eq_true h
theorem Ih{α:Sort u}{β:Sort v}{γ:Sort w}{f:α->β->γ}:∀a b,f a b=f a b:=fun _ _=>rfl
abbrev Ii:=List (PySem.Addr×PySem.Obj)
namespace L2
open PySem PySem.Spec PyProof.Rows
variable{P:Aq}{w:AL}{H H':Hp}{h h':A9}{e:Ba}{X:Cx}{df:List (Ad×Obj)}{σ:St}{s:Ac}{pos:Pos}{E:Ab->Ac->Prop}{te:TE}{A:AI}{C f:Ad}{es:List Ba}
inductive Ex3{α β γ:Type}(p:α->β->γ->Prop):Prop
 | mk (a:α) (b:β) (c:γ) (h:p a b c):Ex3 p
inductive Aw3(a b c:Prop):Prop
 | mk (h:a) (i:b) (j:c):Aw3 a b c
inductive Aw6(a b c d e f:Prop):Prop
 | mk (h:a) (i:b) (j:c) (k:d) (l:e) (m:f):Aw6 a b c d e f
theorem v5{α:Type}{F:List α}(h:F.length=1):∃ G,F=[G]:=by
 cases F with
 | nil=>simp at h
 | cons G J=>
  cases J with
  | nil=>exact⟨G,rfl⟩
  | cons _ _=>simp at h
theorem sP{α:Type}{F:List α}(h:F.length=2):∃ G a1,F=[G,a1]:=by
 cases F with
 | nil=>simp at h
 | cons G J=>
  cases J with
  | nil=>simp at h
  | cons a1 O=>
   cases O with
   | nil=>exact⟨G,a1,rfl⟩
   | cons _ _=>simp at h
theorem v6{α:Type}{F:List α}(h:F.length=3):∃ G a1 a2,F=[G,a1,a2]:=by
 cases F with
 | nil=>simp at h
 | cons G J=>
  cases J with
  | nil=>simp at h
  | cons a1 U=>
   cases U with
   | nil=>simp at h
   | cons a2 O=>
    cases O with
    | nil=>exact⟨G,a1,a2,rfl⟩
    | cons _ _=>simp at h
theorem aIY{α:Type}{F:List α}(h:F.length=4):∃ G a1 a2 a3,F=[G,a1,a2,a3]:=by
 cases F with
 | nil=>simp at h
 | cons G J=>
  cases J with
  | nil=>simp at h
  | cons a1 Y=>
   cases Y with
   | nil=>simp at h
   | cons a2 U=>
    cases U with
    | nil=>simp at h
    | cons a3 O=>
     cases O with
     | nil=>exact⟨G,a1,a2,a3,rfl⟩
     | cons _ _=>simp at h
theorem aIZ{α:Type}{F:List α}(h:F.length=5):∃ G a1 a2 a3 a4,F=[G,a1,a2,a3,a4]:=by
 cases F with
 | nil=>simp at h
 | cons G J=>
  cases J with
  | nil=>simp at h
  | cons a1 Z=>
   cases Z with
   | nil=>simp at h
   | cons a2 U=>
    cases U with
    | nil=>simp at h
    | cons a3 O=>
     cases O with
     | nil=>simp at h
     | cons a4 Y=>
      cases Y with
      | nil=>exact⟨G,a1,a2,a3,a4,rfl⟩
      | cons _ _=>simp at h
abbrev Key:=Sum Int Str
def qL:Key->Ab->Bool
 | .inl k,v=>Fe k v
 | .inr x,v=>Fo x v
def aH2(w:AL):Key->Int
 | .inl k=>hashInt k
 | .inr x=>hashStr w x
theorem dD:∀{k:Key}{v:Ab},qL k v=true->(∃ i t,k=Fq i/\v=BH i t)\/(∃ x t,k=Ao x/\v=Ff x t)
 | .inl i,v,h=>by
  obtain⟨t,e⟩:=Value.isInt_shape (k:=i) (v:=v) h;exact .inl ⟨i,t,rfl,e⟩
 | .inr x,v,h=>by
  obtain⟨t,e⟩:=Value.isStrOf_shape (x:=x) (v:=v) h;exact .inr ⟨x,t,rfl,e⟩
theorem aDS(i:Int)(t:Tok):qL (.inl i) (.int i t)=true:=by simp[qL,Fe]
theorem aDT(x:Str)(t:Tok):qL (.inr x) (.str x t)=true:=by simp[qL,Fo]
theorem aH3(a b:Int):decide ((Fq a:Key)=Fq b)=(a==b):=by
 by_cases e:a=b
 .subst e;simp
 .have h:¬ (Fq a:Key)=Fq b:=fun q=>e (Fq.inj q);rw[Ie h];exact(beq_eq_false_iff_ne.mpr e).symm
theorem aH4(a b:Str):decide ((Ao a:Key)=Ao b)=decide (a=b):=by
 by_cases e:a=b
 .subst e;simp
 .have h:¬ (Ao a:Key)=Ao b:=fun q=>e (Ao.inj q);rw[Ie h,Ie e]
theorem aH5(a:Int)(b:Str):decide ((Fq a:Key)=Ao b)=false:=Ie (fun q=>nomatch q)
theorem aH6(a:Str)(b:Int):decide ((Ao a:Key)=Fq b)=false:=Ie (fun q=>nomatch q)
def cK(prog:Aq)(w:AL):PySem.KeyKind prog w Key where
 is:=qL
 hash:=aH2 w
 inj:=fun v a b ha hb=>by
  rcases dD ha with⟨i,t,rfl,rfl⟩|⟨x,t,rfl,rfl⟩
  .rcases dD hb with⟨j,u,rfl,e⟩|⟨y,u,rfl,e⟩
   .injection e with e1 _;rw[e1]
   .exact nomatch e
  .rcases dD hb with⟨j,u,rfl,e⟩|⟨y,u,rfl,e⟩
   .exact nomatch e
   .injection e with e1 _;rw[e1]
 byValue:=fun k v h=>by
  rcases dD h with⟨i,t,rfl,rfl⟩|⟨x,t,rfl,rfl⟩<;>rfl
 pyHash:=fun hv h=>by
  rcases dD hv with⟨i,t,rfl,rfl⟩|⟨x,t,rfl,rfl⟩
  .exact wpAny_pyHash_int h
  .exact wpAny_pyHash_str h
 eqBool:=fun hu hv h=>by
  rcases dD hu with⟨i,t,rfl,rfl⟩|⟨x,t,rfl,rfl⟩
  .rcases dD hv with⟨j,u,rfl,rfl⟩|⟨y,u,rfl,rfl⟩
   .rw[aH3]at h;exact wpAny_eqBool_int h
   .rw[aH5]at h;exact SeqAt.EqAt.int_str i t y u _ _ _ _ h
  .rcases dD hv with⟨j,u,rfl,rfl⟩|⟨y,u,rfl,rfl⟩
   .rw[aH6]at h;exact SeqAt.EqAt.str_int x t j u _ _ _ _ h
   .rw[aH4]at h;exact wpAny_eqBool_str h
 «strs»:=fun k x t v h=>by
  rcases dD h with⟨i,u,rfl,e⟩|⟨y,u,rfl,e⟩
  .exact nomatch e
  .injection e with e1 _;subst e1;cases v<;>rfl
theorem zX(prog:Aq)(w:AL)(i:Int)(t:Tok):(cK prog w).is (.inl i) (.int i t)=true:=aDS i t
theorem zY(prog:Aq)(w:AL)(x:Str)(t:Tok):(cK prog w).is (.inr x) (.str x t)=true:=aDT x t
inductive V where
 | non|bl (b:Bool)|int (i:Int)|str (x:Str)|byt (b:Array UInt8)|flt (b:UInt64)|ref (a:Ad)|ty (n:String)
 deriving DecidableEq
def bQ:V->Ab->Prop
 | .non,u=>u=CW
 | .bl b,u=>u=Gh b
 | .int i,u=>∃ t,u=BH i t
 | .str x,u=>∃ t,u=Ff x t
 | .byt b,u=>∃ t,u=Value.bytes b t
 | .flt b,u=>∃ t,u=G5 b t
 | .ref a,u=>u=AD a
 | .ty n,u=>u=Bq n
abbrev bK:List V->List Ab->Prop:=AZ bQ
theorem bK.length{xs:List V}{F:List Ab}(r:bK xs F):xs.length=F.length:=Fj r
theorem bK.get:∀{xs:List V}{F:List Ab}{i:Nat}{x:V},bK xs F->xs[i]?=some x->∃ u,F[i]?=some u/\bQ x u
 | _,_,_,_,.nil,e=>by simp at e
 | _,_,0,_,.cons r _,e=>by simp at e;subst e;exact⟨_,rfl,r⟩
 | _,_,i+1,x,.cons _ t,e=>by
  obtain⟨u,h1,h2⟩:=bK.get (i:=i) (x:=x) t (by simpa using e);exact⟨u,by simpa using h1,h2⟩
theorem bK.set{x:V}{u:Ab}(r:bQ x u):∀{xs:List V}{F:List Ab} (i:Nat),bK xs F->bK (xs.set i x) (F.set i u)
 | _,_,_,.nil=>.nil
 | _,_,0,.cons _ t=>.cons r t
 | _,_,i+1,.cons q t=>.cons q (bK.set r i t)
theorem bK.append:∀{xs ys:List V}{F ws:List Ab},bK xs F->bK ys ws->bK (xs++ys) (F++ws)
 | _,_,_,_,.nil,s=>s
 | _,_,_,_,.cons r t,s=>.cons r (bK.append t s)
theorem bK.take:∀{xs:List V}{F:List Ab} (n:Nat),bK xs F->bK (xs.take n) (F.take n)
 | _,_,0,_=>.nil
 | _,_,_+1,.nil=>.nil
 | _,_,n+1,.cons r t=>.cons r (bK.take n t)
theorem bK.drop:∀{xs:List V}{F:List Ab} (n:Nat),bK xs F->bK (xs.drop n) (F.drop n)
 | _,_,0,r=>r
 | _,_,_+1,.nil=>.nil
 | _,_,n+1,.cons _ t=>bK.drop n t
def oG:Option V->Option Ab->Prop
 | some v,some u=>bQ v u
 | none,none=>True
 | _,_=>False
def KV{κ:Type}:List (κ×V)->List (κ×Ab)->Prop:=AZ fun(p:κ×V) (q:κ×Ab)=>p.1=q.1/\bQ p.2 q.2
def kV:Key->V
 | .inl i=>.int i
 | .inr x=>.str x
inductive HO where
  | lst (xs:List V)
  | tup (xs:List V)
  | dK (fo:List (Key×V))|dT (fo:List (List Key×V))
  | set (S:Int->Bool) (n:Nat)
  | ins (C dx:Ad) (fs:List (Str×V))
  | own (x:Ad)
  | xd (fs:List (Str×V))
  | met (f x:Ad)
  | rng (lo hi:Int)
  | frz (o:Obj) (u:HO)
  | tbl (ps:Array Ab)
  | ext (φ:A9->Prop)
abbrev Hp:=Ad->Option HO
def upd(H:Hp)(a:Ad)(o:HO):Hp:=fun b=>if b=a then some o else H b
theorem aA{H:Hp}{a:Ad}{o:HO}:upd H a o a=some o:=by unfold upd;rw[Ib rfl]
theorem aF{H:Hp}{a b:Ad}{o:HO}(h:b≠a):upd H a o b=H b:=by unfold upd;rw[Ia h]
theorem dL{H:Hp}{a b:Ad}{o u:HO}(h:H a=some o)(h':H b=some u)(d:o≠u):a≠b:=by
 intro e;subst e;rw[h]at h';exact d (Bt.inj h')
theorem aJ{H:Hp}{a b:Ad}{o:HO}(h:H a=some o)(h':H b=none):a≠b:=by
 intro e;subst e;rw[h]at h';cases h'
section
variable(P:Aq)(w:AL)
def lE(h:A9)(a:Ad)(items:Array Ab):Prop:=∃ o,h.get? a=some o/\(o.cls=.type "tuple"/\∃ n,o.data=.seq items n)/\o.dict=none
theorem lE.tup{h:A9}{a:Ad}{items:Array Ab}(x:lE h a items):E4 h a items:=by
 obtain⟨o,e,c,_⟩:=x;exact⟨o,e,c⟩
instance lE.coe{h:A9}{a:Ad}{items:Array Ab}:Coe (lE h a items) (E4 h a items):=⟨lE.tup⟩
theorem lE.lt{h:A9}{a:Ad}{items:Array Ab}(x:lE h a items):a<h.objs.size:=x.tup.lt
def bZ(H:Hp)(h:A9)(a:Ad):HO->Prop
 | .lst xs=>xs.length<=sizeLine/\∃(its:List Ab) (n:Nat),bK xs its/\h.get? a=some { cls:=.type "list",data:=.seq its.toArray n }
 | .tup xs=>xs.length<=sizeLine/\∃ its:List Ab,bK xs its/\lE h a its.toArray
 | .dK fo=>fo.length<=sizeLine/\(a==sysModules)=false/\∃ vs,KV fo vs/\h.DictOf (cK P w) a vs
 | .dT fo=>fo.length<=sizeLine/\(a==sysModules)=false/\∃ xs:List (List Key×Ad×Ab),
   AZ (fun(p:List Key×V) (q:List Key×Ad×Ab)=>p.1=q.1/\H q.2.1=some (.tup (p.1.map kV))/\bQ p.2 q.2.2) fo xs/\
   ∃ o es ep,h.get? a=some o/\o.ExactDict/\o.data=.dict es ep/\es.toList=xs.map (entryOfKey (tupleKind (cK P w)))/\(xs.map (·.1)).Nodup
 | .set S n=>h.SetOf (intKind P w) a S n
 | .ins C dx fs=>H dx=some (.own a)/\fs.length<=1000/\dx≠a/\h.get? a=some (CO C dx)/\
   ∃ mA,h.Ns1 dx mA/\(∀ f,oG (fs.lookup f) (mA f))/\GK mA (fs.map (·.1))
 | .own _=>∃ o,h.get? a=some o
 | .xd fs=>∃ mA,h.Ns1 a mA/\∀ f,oG (fs.lookup f) (mA f)
 | .rng lo hi=>∃ t u v,h.get? a=some { cls:=.type "range",data:=.fields #[.int lo t,.int hi u,.int 1 v] }
 | .frz o u=>h.get? a=some o/\bZ H h a u
 | .tbl ps=>h.get? a=some { cls:=.none,data:=.fields ps }
 | .met f x=>h.get? a=some (Fw (.ref f) (.ref x))
 | .ext φ=>φ h/\(∃ o,h.get? a=some o)/\∀ h1 h2:A9,φ h1->(∀ o,h1.get? a=some o->h2.get? a=some o)->φ h2
def HOk(H:Hp)(h:A9):Prop:=∀ a o,H a=some o->bZ P w H h a o
end
section
variable{a:Ad}{o:HO}
theorem bZ.lt(x:bZ P w H h a o):a<h.objs.size:=by
 cases o with
 | lst xs=>obtain⟨_,_,_,_,e⟩:=x;exact Ap e
 | tup xs=>obtain⟨_,_,_,p⟩:=x;exact p.lt
 | dK fo=>obtain⟨_,_,_,_,o,_,_,e,_⟩:=x;exact Ap e
 | dT fo=>obtain⟨_,_,_,_,o,_,_,e,_⟩:=x;exact Ap e
 | set S n=>obtain⟨o,_,_,_,e,_⟩:=x;exact Ap e
 | ins C dx fs=>obtain⟨_,_,_,e,_⟩:=x;exact Ap e
 | own y=>obtain⟨_,e⟩:=x;exact Ap e
 | xd fs=>obtain⟨_,⟨_,_,_,e,_⟩,_⟩:=x;exact Ap e
 | rng lo hi=>obtain⟨_,_,_,e⟩:=x;exact Ap e
 | frz ob u=>obtain⟨e,_⟩:=x;exact Ap e
 | tbl ps=>exact Ap (show h.get? a=some _ from x)
 | met f y=>exact Ap (show h.get? a=some _ from x)
 | ext φ=>obtain⟨_,⟨_,e⟩,_⟩:=x;exact Ap e
theorem Paired.mapP{α β:Type}{F G:α->β->Prop}:∀{l₁:List α}{J:List β},AZ F l₁ J->(∀ a b,F a b->G a b)->AZ G l₁ J
 | _,_,.nil,_=>.nil
 | _,_,.cons r t,f=>.cons (f _ _ r) (Paired.mapP t f)
theorem bZ.stay(x:bZ P w H h a o)(k:∀ b u,(b=a\/H b=some (.own a))->h.get? b=some u->h'.get? b=some u)
  (F:∀ b,H b=some (.own a)->H' b=some (.own a)) (ht:∀ b xs,H b=some (.tup xs)->H' b=some (.tup xs)):bZ P w H' h' a o:=by
 induction o with
 | lst xs=>obtain⟨z,its,n,r,e⟩:=x;exact⟨z,its,n,r,k _ _ (.inl rfl) e⟩
 | tup xs=>obtain⟨z,its,r,ob,e,c⟩:=x;exact⟨z,its,r,ob,k _ _ (.inl rfl) e,c⟩
 | dK fo=>obtain⟨z,y,vs,r,ob,es,ep,e,c⟩:=x;exact⟨z,y,vs,r,ob,es,ep,k _ _ (.inl rfl) e,c⟩
 | dT fo=>
  obtain⟨z,y,xs,r,ob,es,ep,e,c⟩:=x;exact⟨z,y,xs,Paired.mapP r fun p q z=>⟨z.1,ht _ _ z.2.1,z.2.2⟩,ob,es,ep,k _ _ (.inl rfl) e,c⟩
 | set S n=>obtain⟨ob,es,ep,t,e,c⟩:=x;exact⟨ob,es,ep,t,k _ _ (.inl rfl) e,c⟩
 | ins C dx fs=>
  obtain⟨d,z,ne,e,mA,⟨od,es,ep,e2,c⟩,r⟩:=x;exact⟨F _ d,z,ne,k _ _ (.inl rfl) e,mA,⟨od,es,ep,k _ _ (.inr d) e2,c⟩,r⟩
 | own y=>obtain⟨ob,e⟩:=x;exact⟨ob,k _ _ (.inl rfl) e⟩
 | xd fs=>obtain⟨mA,⟨od,es,ep,e,c⟩,r⟩:=x;exact⟨mA,⟨od,es,ep,k _ _ (.inl rfl) e,c⟩,r⟩
 | rng lo hi=>obtain⟨t,u,v,e⟩:=x;exact⟨t,u,v,k _ _ (.inl rfl) e⟩
 | frz ob u G=>obtain⟨e,q⟩:=x;exact⟨k _ _ (.inl rfl) e,G q⟩
 | tbl ps=>
  have e:h.get? a=some { cls:=.none,data:=.fields ps }:=x;show h'.get? a=some { cls:=.none,data:=.fields ps };exact k a _ (.inl rfl) e
 | met f y=>
  have e:h.get? a=some (Fw (.ref f) (.ref y)):=x;show h'.get? a=some (Fw (.ref f) (.ref y));exact k a _ (.inl rfl) e
 | ext φ=>obtain⟨p,⟨o,e⟩,st⟩:=x;exact⟨st _ _ p fun o q=>k _ _ (.inl rfl) q,⟨o,k _ _ (.inl rfl) e⟩,st⟩
theorem HOk.lt(x:HOk P w H h)(e:H a=some o):a<h.objs.size:=(x a o e).lt
theorem HOk.fresh(x:HOk P w H h)(e:h.objs.size<=a):H a=none:=by
 cases q:H a with
 | none=>rfl
 | some u=>exact absurd (AE (x.lt q) e) (BD _)
theorem HOk.kept(x:HOk P w H h)(k:∀ b u,h.get? b=some u->h'.get? b=some u):HOk P w H h':=fun a o e=>
 (x a o e).stay (fun b u _ q=>k b u q) (fun _ q=>q) fun _ _ q=>q
theorem HOk.laid(x:HOk P w H h)(k:∀ b u,h.get? b=some u->h'.get? b=some u)(F:h.objs.size<=a)(new:bZ P w (upd H a o) h' a o):HOk P w (upd H a o) h':=fun b u e=>by
 have hn:=x.fresh F;by_cases hb:b=a
 .subst hb;rw[aA]at e;cases e;exact new
 .rw[aF hb]at e;exact(x b u e).stay (fun c v _ q=>k c v q) (fun c q=>by rw[aF (aJ q hn)];exact q) fun c xs q=>by rw[aF (aJ q hn)];exact q
end
def Rd(H:Hp)(a:Ad)(u:HO):Prop:=H a=some u\/∃ o,H a=some (.frz o u)
theorem Rd.ok{P:Aq}{w:AL}{H:Hp}{h:A9}{a:Ad}{u:HO}(r:Rd H a u)(x:HOk P w H h):bZ P w H h a u:=by
 rcases r with r|⟨o,r⟩
 .exact x a u r
 .obtain⟨_,q⟩:=x a _ r;exact q
def Mut:Option HO->Prop
 | some (.lst _)=>True
 | some (.dK _)=>True
 | some (.dT _)=>True
 | some (.set _ _)=>True
 | some (.ins _ _ _)=>True
 | some (.ext _)=>True
 | _=>False
section
variable{x e:Ad}{o':HO}
theorem HOk.write(ok:HOk P w H h)(O:Mut (H x))(Y:e=x\/H e=some (.own x))(k:∀ b u,b≠e->h.get? b=some u->h'.get? b=some u)(U:∃ u,h'.get? e=some u)
  (new:bZ P w (upd H x o') h' x o'):HOk P w (upd H x o') h':=fun b u q=>by
 have G:∀ c y,H c=some (.own y)->c≠x:=fun c y r z=>by subst z;rw[r]at O;exact O
 have J:∀ c xs,H c=some (.tup xs)->c≠x:=fun c xs r z=>by subst z;rw[r]at O;exact O
 by_cases hb:b=x
 .subst hb;rw[aA]at q;cases q;exact new
 .rw[aF hb]at q;by_cases F:b=e
  .have Z:H b=some (.own x):=by
    rcases Y with z|z
    .exact absurd (F.trans z) hb
    .rw[F];exact z
   rw[q]at Z;cases Z;obtain⟨v,hv⟩:=U;exact⟨v,by rw[F];exact hv⟩
  .refine(ok b u q).stay (fun c v hc r=>k c v ?_ r) (fun c r=>by rw[aF (G c b r)];exact r) fun c xs r=>by rw[aF (J c xs r)];exact r
   rcases hc with rfl|hc
   .exact F
   .rintro rfl;rcases Y with z|z
    .exact G c b hc z
    .rw[hc]at z;cases z;exact hb rfl
end
structure Un(fs ex:List Ad)(H H':Hp)(h h':A9):Prop where
 keep:∀ b o,h.get? b=some o->H b=none->b∉fs->b∉ex->h'.get? b=some o
 slot:∀ b o,h.get? b=some o->H b=none->b∈fs->b∉ex->∃ sl,h'.get? b=some { o with slots:=sl }
 free:∀ b o,h.get? b=some o->H b=none->b∉ex->H' b=none
 there:∀ b o,h.get? b=some o->b∉ex->∃ o',h'.get? b=some o'
 tups:∀ b xs,H b=some (.tup xs)->H' b=some (.tup xs)
 frzs:∀ b o u,H b=some (.frz o u)->H' b=some (.frz o u)
 tbls:∀ b ps,H b=some (.tbl ps)->∃ more,H' b=some (.tbl (ps++more))
section
variable{fs im ex ex':List Ad}{H1 H2:Hp}{h1 h2:A9}{a x e:Ad}{o:HO}
theorem Un.any(u:Un fs ex H H1 h h1){b:Ad}{ob:Obj}(q:h.get? b=some ob)(n:H b=none)(F:b∉ex):∃ sl,h1.get? b=some { ob with slots:=sl }:=by
 by_cases hb:b∈fs
 .exact u.slot b ob q n hb F
 .exact⟨ob.slots,u.keep b ob q n hb F⟩
theorem Un.kept(k:∀ b u,h.get? b=some u->h'.get? b=some u):Un fs ex H H h h':=
 ⟨fun b ob q _ _ _=>k b ob q,fun b ob q _ _ _=>⟨ob.slots,k b ob q⟩,fun _ _ _ n _=>n,fun b ob q _=>⟨ob,k b ob q⟩,fun _ _ q=>q,fun _ _ _ q=>q,fun _ ps q=>⟨#[],by rw[q];simp⟩⟩
theorem Un.refl:Un fs ex H H h h:=Un.kept fun _ _ q=>q
theorem Un.laid(k:∀ b u,h.get? b=some u->h'.get? b=some u)(F:h.objs.size<=a)(hn:H a=none):Un fs ex H (upd H a o) h h' where
 keep:=fun b u q _ _ _=>k b u q
 slot:=fun b u q _ _ _=>⟨u.slots,k b u q⟩
 free:=fun b u q n _=>by rw[aF (Ar (AE (Ap q) F))];exact n
 there:=fun b u q _=>⟨u,k b u q⟩
 tups:=fun b xs q=>by rw[aF (aJ q hn)];exact q
 frzs:=fun b u xs q=>by rw[aF (aJ q hn)];exact q
 tbls:=fun b ps q=>⟨#[],by rw[aF (aJ q hn),q];simp⟩
theorem Un.write(G:Mut (H x))(U:e=x\/H e=some (.own x))(k:∀ b u,b≠e->h.get? b=some u->h'.get? b=some u)(J:∃ u,h'.get? e=some u):Un fs ex H (upd H x o) h h':=by
 have O:∀ b,H b=none->b≠x:=fun b n z=>by subst z;rw[n]at G;exact G
 have hb:∀ b,H b=none->b≠e:=fun b n z=>by
  subst z;rcases U with r|r
  .exact O b n r
  .rw[n]at r;cases r
 have hm:∀ b u,H b=some u->¬ Mut (some u)->b≠x:=fun b u q nm z=>by subst z;rw[q]at G;exact nm G
 refine⟨fun b u q n _ _=>k b u (hb b n) q,fun b u q n _ _=>⟨u.slots,k b u (hb b n) q⟩,fun b u q n _=>by rw[aF (O b n)];exact n,fun b u q _=>?_,
  fun b xs q=>by rw[aF (hm b _ q fun z=>z)];exact q,fun b u xs q=>by rw[aF (hm b _ q fun z=>z)];exact q,fun b ps q=>⟨#[],by rw[aF (hm b _ q fun z=>z),q];simp⟩⟩
 by_cases F:b=e
 .subst F;exact J
 .exact⟨u,k b u F q⟩
end
def trk(h:A9)(H:Hp):List Ad:=(B7 h.objs.size).filter fun a=>(H a).isSome
def yD(h:A9)(H:Hp):A9:=PySem.W.hideAll h (trk h H)
theorem aDU(h:A9)(H:Hp):(yD h H).objs.size=h.objs.size:=PySem.W.hideAll_size _ _
theorem sQ{h:A9}{H:Hp}{b:Ad}{o:Obj}(e:h.get? b=some o)(n:H b=none):(yD h H).get? b=some o:=
 PySem.W.hideAll_get _ e fun hm=>by
  have q:(H b).isSome=true:=(Cz.mp hm).2;rw[n]at q;simp at q
theorem aGR{h:A9}{H:Hp}{b:Ad}{o:Obj}(e:(yD h H).get? b=some o):h.get? b=some o/\H b=none:=by
 have F:h.get? b=some o:=PySem.W.of_hideAll (trk h H) e;refine⟨F,?_⟩;cases q:H b with
 | none=>rfl
 | some x=>
  have hm:b∈trk h H:=Cz.mpr ⟨DS.mpr (Ap F),by simp[q]⟩;have z:(yD h H).get? b=none:=PySem.W.hideAll_none (trk h H) hm;rw[z]at e;cases e
def aGS(g h:A9)(L:Ad):List (Ad×Obj):=(B7 h.objs.size).filterMap fun a=>if a=L\/(g.get? a).isSome=true then none else(h.get? a).map fun o=>(a,o)
def gL(g h:A9)(L d:Ad):List (Ad×Obj):=(aGS g h L).filter fun p=>decide (p.1≠d)
structure Mod(K:Ag)(mg:Str->Option Ab)(base:A9):Prop where
 kin:K.In base
 glob:base.Ns mainGlobals mg
 blt:∃ mb,base.Ns builtinsNs mb/\∀ x:Str,x≠"__name__"->mb x=bootBuiltins x
 nolimit:base.NoLimit
structure Cx where
 prog:Aq
 w:AL
 K:Ag
 mg:Str->Option Ab
 base:A9
 A:AI
 N:List Str
 s₀:Ac
 H₀:Hp
 env:Env
 outer:List Env
 stack:List Env
 ex:List Ad
 fn:Str->Bool
 calm:Bool
 pn:List (Ad×Obj)
 xe:Ab->Ac->Prop
def frs(l:List Env):List Ad:=l.filterMap (·.frame)
abbrev Cx.fs(X:Cx):List Ad:=frs X.outer
def Vis(sc:CF)(x:Str):Prop:=sc.names.lookup x=some .local\/sc.names.lookup x=some .cell\/sc.names.lookup x=some .free
def Loc(sc:CF)(x:Str):Prop:=sc.names.lookup x=some .local\/sc.names.lookup x=some .cell
def aJX(env:Env)(h:A9)(m:Str->Option Ab)(x:Str)(u:Ab):Prop:=
 (env.kindOf x=some .local/\m x=some u)\/((env.kindOf x=some .cell\/env.kindOf x=some .free)/\∃ c,env.cells.lookup x=some c/\h.IsCell c (some u))
structure Cx.Ok(X:Cx):Prop where
 mod:Mod X.K X.mg X.base
 kind:X.env.scope.kind=.function
 glob:X.env.globals=mainGlobals
 blt:X.env.builtins=builtinsNs
 above:X.s₀.heap.objs.size<=X.env.locals
 inj:∀ x y c,X.env.cells.lookup x=some c->X.env.cells.lookup y=some c->x=y
 has:∀ x,(X.env.kindOf x=some .cell\/X.env.kindOf x=some .free)->∃ c,X.env.cells.lookup x=some c
 cab:∀ x c,X.fn x=true->X.env.cells.lookup x=some c->X.s₀.heap.objs.size<=c
 hd:X.calm=true->X.A.handled=none
 frames:X.A.frames=some X.stack
 stk:X.stack=X.outer\/(X.stack=X.env::X.outer/\X.env.frame=some X.env.locals)
 exf:∀ b∈X.ex,b≠X.env.locals/\∀ x c,X.env.cells.lookup x=some c->c≠b
 bs:∀ b o,X.base.get? b=some o->X.s₀.heap.get? b=some o/\X.H₀ b=none
 bsz:X.base.objs.size<=X.s₀.heap.objs.size
 noex:∀ b o,X.base.get? b=some o->b∉X.ex
 exfs:∀ b∈X.ex,b∉X.fs
 funs:X.s₀.heap.FunFrames X.base X.outer
 frf:∀ b∈X.fs,X.H₀ b=none
structure Inv(X:Cx)(df:List (Ad×Obj))(σ:List (Option V))(H:Hp)(s:Ac):Prop where
 ok:X.Ok
 os:s.os=X.s₀.os
 bare:EJ s.gens
 base:Un X.fs X.ex X.H₀ H X.s₀.heap s.heap
 loc:∃ m,s.heap.Ns X.env.locals m/\∀(i:Nat) (x:Str) (v:V),X.N[i]?=some x->σ[i]?=some (some v)->Vis X.env.scope x->∃ u,bQ v u/\aJX X.env s.heap m x u
 cell:∀ x c,X.env.cells.lookup x=some c->∃ v,s.heap.IsCell c v
 free:H X.env.locals=none
 freeC:∀ x c,X.env.cells.lookup x=some c->H c=none
 pin:∀ p∈X.pn++df,s.heap.get? p.1=some p.2/\H p.1=none/\p.1≠X.env.locals/\p.1∉X.fs/\∀ v,p.2.data≠.cell v
 hok:HOk X.prog X.w H s.heap
 len:σ.length=X.N.length
section
variable{σ:List (Option V)}
theorem Cx.Ok.nofr(ok:X.Ok){b:Ad}{o:Obj}(e:X.base.get? b=some o):b∉X.fs:=fun hb=>by
 have:=(ok.funs.mem hb).1;rw[e]at this;cases this
theorem Inv.bs(I:Inv X df σ H s):∀ b o,X.base.get? b=some o->s.heap.get? b=some o/\H b=none:=fun b o e=>
 ⟨I.base.keep b o (I.ok.bs b o e).1 (I.ok.bs b o e).2 (I.ok.nofr e) (I.ok.noex b o e),I.base.free b o (I.ok.bs b o e).1 (I.ok.bs b o e).2 (I.ok.noex b o e)⟩
theorem Inv.bk(I:Inv X df σ H s):∀ b o,X.base.get? b=some o->s.heap.get? b=some o:=fun b o e=>(I.bs b o e).1
theorem Inv.mod(I:Inv X df σ H s):Mod X.K X.mg X.base:=I.ok.mod
theorem Inv.kIn(I:Inv X df σ H s):X.K.In s.heap:=I.ok.mod.kin.keeps I.bk
theorem Inv.nolimit(I:Inv X df σ H s):s.heap.NoLimit:=I.ok.mod.nolimit.keeps I.bk
theorem Inv.lt(I:Inv X df σ H s):X.env.locals<s.heap.objs.size:=let ⟨_,hn,_⟩:=I.loc;hn.lt
theorem Inv.sz(I:Inv X df σ H s):X.s₀.heap.objs.size<=s.heap.objs.size:=AM I.ok.above (Bd I.lt)
theorem Inv.nofs(I:Inv X df σ H s){a:Ad}(h:s.heap.objs.size<=a):a∉X.fs:=fun hb=>by
 obtain⟨_,o,ho,_⟩:=I.ok.funs.mem hb;exact absurd (AE (Ap ho) (AM I.sz h)) (BD _)
theorem Inv.cne(I:Inv X df σ H s):∀ x c,X.env.cells.lookup x=some c->c≠X.env.locals:=fun x c e z=>by
 obtain⟨v,o,ho,hd⟩:=I.cell x c e;obtain⟨m,⟨o',es,ep,ho',hd',_⟩,_⟩:=I.loc;rw[z,ho']at ho;cases ho;rw[hd']at hd;cases hd
theorem Inv.funs(I:Inv X df σ H s):s.heap.FunFrames X.base X.outer:=by
 have all:∀(l:List Env),(∀ b∈frs l,b∈X.fs)->X.s₀.heap.FunFrames X.base l->s.heap.FunFrames X.base l:=by
  intro l
  induction l with
  | nil=>intro _ _;trivial
  | cons env r F=>
   intro hs hl;obtain⟨hk,⟨L,o,hf,hn,ho,hd⟩,hr⟩:=hl;have hL:L∈X.fs:=hs L (by unfold frs;rw[Ei,hf];exact Am);obtain⟨sl,e⟩:=I.base.slot L o ho (I.ok.frf L hL) hL fun z=>I.ok.exfs L z hL;exact⟨hk,⟨L,_,hf,hn,e,hd⟩,F (fun b hb=>hs b (by unfold frs;rw[Ei,hf];exact Al _ hb)) hr⟩
 exact all X.outer (fun _ hb=>hb) I.ok.funs
theorem Inv.stack(I:Inv X df σ H s):s.heap.FunFrames X.base X.stack:=by
 rcases I.ok.stk with e|⟨e,hf⟩
 .rw[e];exact I.funs
 .rw[e];obtain⟨m,hn,_⟩:=I.loc;refine .cons (by rw[I.ok.kind];decide) hf hn ?_ I.funs;exact Heap.get?_none_of_le (AM I.ok.bsz I.ok.above)
theorem Inv.stkSub(I:Inv X df σ H s):∀ b∈frs X.stack,b∈X.env.locals::X.fs:=fun b hb=>by
 rcases I.ok.stk with e|⟨e,hf⟩
 .rw[e]at hb;exact Al _ hb
 .rw[e]at hb;unfold frs at hb;rw[Ei,hf]at hb;exact hb
theorem Inv.stkFree(I:Inv X df σ H s):∀ b∈frs X.stack,H b=none:=fun b hb=>by
 rcases An.mp (I.stkSub b hb)with e|hb
 .rw[e];exact I.free
 .obtain⟨_,o,ho,_⟩:=I.ok.funs.mem hb;exact I.base.free b o ho (I.ok.frf b hb) fun z=>I.ok.exfs b z hb
theorem Inv.step{g':Array Gm}{t':Nat}{d':Hy}{ch:List Ad}(I:Inv X df σ H s)
  (O:∀ b∈ch,(b∈X.ex\/X.s₀.heap.objs.size<=b)/\b≠X.env.locals/\(∀ x c,X.env.cells.lookup x=some c->c≠b)/\∀ p∈X.pn++df,p.1≠b)
  (keep:∀ b o,b≠X.env.locals->b∉X.fs->b∉ch->s.heap.get? b=some o->H b=none->h'.get? b=some o)
  (slot:∀ b o,b≠X.env.locals->b∈X.fs->b∉ch->s.heap.get? b=some o->H b=none->∃ sl,h'.get? b=some { o with slots:=sl }) (free:∀ b o,b∉ch->s.heap.get? b=some o->H b=none->H' b=none)
  (there:∀ b o,b∉ch->s.heap.get? b=some o->∃ o',h'.get? b=some o')
  (tups:∀ b xs,H b=some (.tup xs)->H' b=some (.tup xs)) (frzs:∀ b o u,H b=some (.frz o u)->H' b=some (.frz o u)) (tbls:∀ b ps,H b=some (.tbl ps)->∃ more,H' b=some (.tbl (ps++more)))
  (ns:∀ m,s.heap.Ns X.env.locals m->h'.Ns X.env.locals m) (hok:HOk X.prog X.w H' h') (hg:EJ g'):
  Inv X df σ H' { s with heap:=h',gens:=g',drawn:=d',toks:=t' }:=by
 have ad:∀ b o,X.s₀.heap.get? b=some o->b≠X.env.locals:=fun b o e=>Ar (AE (Ap e) I.ok.above);have U:∀ b o,X.s₀.heap.get? b=some o->b∉X.ex->b∉ch:=fun b o e F hb=>by
  rcases(O b hb).1 with z|z
  .exact F z
  .exact absurd (AE (Ap e) z) (BD _)
 have J:∀ x c,X.env.cells.lookup x=some c->∀ v,s.heap.IsCell c v->h'.IsCell c v:=fun x c e v ⟨o,Z,hd⟩=>by
  have G:c∉ch:=fun z=>(O c z).2.2.1 x c e rfl;by_cases hc:c∈X.fs
  .obtain⟨sl,q⟩:=slot c o (I.cne x c e) hc G Z (I.freeC x c e);exact⟨_,q,hd⟩
  .exact⟨o,keep c o (I.cne x c e) hc G Z (I.freeC x c e),hd⟩
 refine⟨I.ok,I.os,hg,⟨fun b o e n hb F=>?_,fun b o e n hb F=>?_,fun b o e n F=>?_,fun b o e F=>?_,fun b xs e=>tups b xs (I.base.tups b xs e),fun b o xs e=>frzs b o xs (I.base.frzs b o xs e),fun b ps e=>?_⟩,?_,fun x c e=>?_,?_,fun x c e=>?_,fun p hp=>?_,hok,I.len⟩
 .exact keep b o (ad b o e) hb (U b o e F) (I.base.keep b o e n hb F) (I.base.free b o e n F)
 .obtain⟨sl,Y⟩:=I.base.slot b o e n hb F;obtain⟨sl',e2⟩:=slot b _ (ad b o e) hb (U b o e F) Y (I.base.free b o e n F);exact⟨sl',e2⟩
 .obtain⟨o',Y⟩:=I.base.there b o e F;exact free b o' (U b o e F) Y (I.base.free b o e n F)
 .obtain⟨o',Y⟩:=I.base.there b o e F;exact there b o' (U b o e F) Y
 .obtain⟨m1,Y⟩:=I.base.tbls b ps e;obtain⟨m2,e2⟩:=tbls b _ Y;exact⟨m1++m2,by rw[e2,Fz]⟩
 .obtain⟨m,hn,hl⟩:=I.loc;refine⟨m,ns m hn,fun i x v Y e2 e3=>?_⟩;obtain⟨u,r,l⟩:=hl i x v Y e2 e3;refine⟨u,r,?_⟩;rcases l with l|⟨k,c,e,z⟩
  .exact .inl l
  .exact .inr ⟨k,c,e,J x c e _ z⟩
 .obtain⟨v,z⟩:=I.cell x c e;exact⟨v,J x c e v z⟩
 .obtain⟨m,⟨o,_,_,Z,_⟩,_⟩:=I.loc;exact free _ o (fun z=>(O _ z).2.1 rfl) Z I.free
 .obtain⟨v,o,Z,hd⟩:=I.cell x c e;exact free c o (fun z=>(O c z).2.2.1 x c e rfl) Z (I.freeC x c e)
 .obtain⟨e,n,ne,nf,d⟩:=I.pin p hp;have G:p.1∉ch:=fun z=>(O p.1 z).2.2.2 p hp rfl;exact⟨keep p.1 p.2 ne nf G e n,free p.1 p.2 G e n,ne,nf,d⟩
theorem Inv.un{t':Nat}(I:Inv X df σ H s)(u:Un X.fs [] H H' s.heap h')(hok:HOk X.prog X.w H' h'):Inv X df σ H' { s with heap:=h',toks:=t' }:=by
 obtain⟨m,⟨o,es,ep,ho,r⟩,_⟩:=id I.loc;obtain⟨sl,hL⟩:=u.any ho I.free (by simp);exact I.step (g':=s.gens) (d':=s.drawn) (ch:=[]) (fun _ z=>nomatch z) (fun b o _ hb _ e n=>u.keep b o e n hb (by simp)) (fun b o _ hb _ e n=>u.slot b o e n hb (by simp)) (fun b o _ e n=>u.free b o e n (by simp)) (fun b o _ e=>u.there b o e (by simp)) u.tups u.frzs u.tbls (fun F hm=>by
  obtain⟨o',es',ep',ho',r'⟩:=hm;rw[ho]at ho';cases ho';exact⟨_,es',ep',hL,r'⟩) hok I.bare
theorem Inv.call{g':Array Gm}{t':Nat}{d':Hy}{ch:List Ad}(I:Inv X df σ H s)(u:Un (frs X.stack) ch H H' s.heap h')(hok:HOk X.prog X.w H' h')(G:EJ g')
  (F:∀ b∈ch,(b∈X.ex\/X.s₀.heap.objs.size<=b)/\b≠X.env.locals/\(∀ x c,X.env.cells.lookup x=some c->c≠b)/\∀ p∈X.pn++df,p.1≠b):
  Inv X df σ H' { s with heap:=h',gens:=g',drawn:=d',toks:=t' }:=by
 obtain⟨m,⟨o,es,ep,ho,r⟩,_⟩:=id I.loc;obtain⟨sl,hL⟩:=u.any ho I.free fun z=>(F _ z).2.1 rfl;exact I.step (ch:=ch) F (fun b o hL hb hc e n=>u.keep b o e n (fun z=>(An.mp (I.stkSub b z)).elim hL hb) hc) (fun b o _ _ hc e n=>u.any e n hc) (fun b o hc e n=>u.free b o e n hc) (fun b o hc e=>u.there b o e hc) u.tups u.frzs u.tbls (fun J hm=>by
  obtain⟨o',es',ep',ho',r'⟩:=hm;rw[ho]at ho';cases ho';exact⟨_,es',ep',hL,r'⟩) hok G
theorem Inv.turned{t':Nat}{it:Ad}(I:Inv X df σ H s)(k:∀ b o,b≠it->s.heap.get? b=some o->h'.get? b=some o)(hn:H it=none)(hL:it≠X.env.locals)
  (h1:it∈X.ex\/X.s₀.heap.objs.size<=it) (h2:∀ x c,X.env.cells.lookup x=some c->c≠it) (G:∀ p∈X.pn++df,p.1≠it):Inv X df σ H { s with heap:=h',toks:=t' }:=by
 have F:∀ b u,H b=some u->b≠it:=fun b u e z=>by rw[z,hn]at e;cases e
 refine I.step (g':=s.gens) (d':=s.drawn) (ch:=[it]) (fun b hb=>?_) (fun b o _ _ hc e _=>k b o (fun z=>hc (by simp[z])) e) (fun b o _ _ hc e _=>⟨o.slots,k b o (fun z=>hc (by simp[z])) e⟩) (fun _ _ _ _ n=>n)
  (fun b o hc e=>⟨o,k b o (fun z=>hc (by simp[z])) e⟩) (fun _ _ e=>e) (fun _ _ _ e=>e) (fun b ps e=>⟨#[],by rw[e];simp⟩) (fun m hm=>?_) (fun b u e=>?_) I.bare
 .have e:b=it:=by simpa using hb
  subst e;exact⟨h1,hL,h2,G⟩
 .obtain⟨o,es,ep,ho,r⟩:=hm;exact⟨o,es,ep,k _ o (Cf hL) ho,r⟩
 .refine(I.hok b u e).stay (fun c v hc q=>k c v ?_ q) (fun _ q=>q) fun _ _ q=>q;rcases hc with z|z
  .rw[z];exact F b u e
  .exact F c _ z
theorem Inv.tok(I:Inv X df σ H s)(t:Nat):Inv X df σ H { s with toks:=t }:=I.un (h':=s.heap) (t':=t) Un.refl I.hok
theorem Inv.kept{t':Nat}(I:Inv X df σ H s)(k:∀ b u,s.heap.get? b=some u->h'.get? b=some u):Inv X df σ H { s with heap:=h',toks:=t' }:=I.un (Un.kept k) (I.hok.kept k)
theorem Inv.laid{a:Ad}{o:HO}{t':Nat}(I:Inv X df σ H s)(k:∀ b u,s.heap.get? b=some u->h'.get? b=some u)(F:s.heap.objs.size<=a)(new:bZ X.prog X.w (upd H a o) h' a o):
  Inv X df σ (upd H a o) { s with heap:=h',toks:=t' }:=I.un (Un.laid k F (I.hok.fresh F)) (I.hok.laid k F new)
theorem Inv.write{x e:Ad}{o:HO}{t':Nat}(I:Inv X df σ H s)(J:Mut (H x))(G:e=x\/H e=some (.own x))(k:∀ b u,b≠e->s.heap.get? b=some u->h'.get? b=some u)(F:∃ u,h'.get? e=some u)
  (new:bZ X.prog X.w (upd H x o) h' x o):Inv X df σ (upd H x o) { s with heap:=h',toks:=t' }:=I.un (Un.write J G k F) (I.hok.write J G k F new)
theorem Inv.pins_of{F:List (Ad×Obj)}(I:Inv X df σ H s)(h:∀ p∈F,s.heap.get? p.1=some p.2/\H p.1=none/\p.1≠X.env.locals/\p.1∉X.fs/\∀ v,p.2.data≠.cell v):Inv X F σ H s:=
 ⟨I.ok,I.os,I.bare,I.base,I.loc,I.cell,I.free,I.freeC,fun p G=>(AK.mp G).elim (fun z=>I.pin p (BN _ z)) (h p),I.hok,I.len⟩
theorem sR{N:List Str}(hN:N.Nodup){i j:Nat}{x:Str}(a:N[i]?=some x)(b:N[j]?=some x):i=j:=by
 obtain⟨h1,e1⟩:=Ak.mp a;obtain⟨h2,e2⟩:=Ak.mp b;exact(CH hN).mp (e1.trans e2.symm)
theorem wE{M:E2}{A:AI}{E:Ab->Ac->Prop}{i:Nat}{x:Str}{v:V}{u:Ab}{Q:Unit->Ac->Prop}(I:Inv X df σ H s)(hN:X.N.Nodup)(hi:X.N[i]?=some x)(J:Loc X.env.scope x)(r:bQ v u)
  (h:∀ s',Inv X df (σ.set i (some v)) H s'->(∃ a,Dv a s.heap s'.heap/\(a=X.env.locals\/X.env.cells.lookup x=some a))->Q () s') (hf:X.fn x=true\/X.env.scope.names.lookup x=some .local:=by first|exact .inl rfl|exact .inr rfl|assumption):wpAny M A (storeName X.env x u) Q E s:=by
 obtain⟨m,hn,hl⟩:=id I.loc;have ae:(X.env.scope.kind==.class||(X.env.scope.kind==.module&&X.env.locals != X.env.globals))=false:=by rw[I.ok.kind];rfl
 have aa:i<σ.length:=by rw[I.len];exact(Ak.mp hi).1
 have cne:=I.cne;have F:∀{a:Ad} {h':A9},(∃ o,s.heap.get? a=some o/\H a=none)->Dv a s.heap h'->HOk X.prog X.w H h':=fun{a h'} ha hs b ob e=>by
  obtain⟨_,_,hfree⟩:=ha;refine(I.hok b ob e).stay (fun c w' hc q=>(hs.2 c ?_).trans q) (fun _ q=>q) fun _ _ q=>q;rintro rfl;rcases hc with rfl|hc
  .rw[hfree]at e;cases e
  .rw[hfree]at hc;cases hc
 rcases J with U|U
 .refine wpAny_storeName_local U hn (fun h' ah hs=>?_) ae;obtain⟨oL,_,_,hoL,_⟩:=id hn;refine h _ ⟨I.ok,I.os,I.bare,⟨fun b o e n hb J=>?_,fun b o e n hb J=>?_,I.base.free,fun b o e J=>?_,I.base.tups,I.base.frzs,I.base.tbls⟩,⟨_,ah,fun j y v' G O e3=>?_⟩,fun y c e=>?_,I.free,I.freeC,fun p hp=>?_,F ⟨oL,hoL,I.free⟩ hs,by simpa using I.len⟩ ⟨_,hs,.inl rfl⟩
  .exact(hs.2 b (Ar (AE (Ap e) I.ok.above))).trans (I.base.keep b o e n hb J)
  .obtain⟨sl,G⟩:=I.base.slot b o e n hb J;exact⟨sl,(hs.2 b (Ar (AE (Ap e) I.ok.above))).trans G⟩
  .obtain⟨o',G⟩:=I.base.there b o e J;exact⟨o',(hs.2 b (Ar (AE (Ap e) I.ok.above))).trans G⟩
  .by_cases Z:j=i
   .subst Z;rw[hi]at G;cases G;rw[DU aa]at O;cases O;exact⟨u,r,.inl ⟨U,by simp⟩⟩
   .rw[Fi (Cf Z)]at O;obtain⟨u',r',q⟩:=hl j y v' G O e3;refine⟨u',r',?_⟩;rcases q with⟨k,e⟩|⟨k,c,e,z⟩
    .refine .inl ⟨k,?_⟩;have:y≠x:=fun e=>Z (sR hN G (e▸hi));simp[this,e]
    .exact .inr ⟨k,c,e,z.sameBut hs (cne y c e)⟩
  .obtain⟨w',z⟩:=I.cell y c e;exact⟨w',z.sameBut hs (cne y c e)⟩
  .obtain⟨e,n,ne,nf,d⟩:=I.pin p hp;exact⟨(hs.2 p.1 ne).trans e,n,ne,nf,d⟩
 .have Y:X.fn x=true:=by
   rcases hf with z|z
   .exact z
   .rw[z]at U;cases U
  obtain⟨c,hc⟩:=I.ok.has x (.inl U);obtain⟨w',z⟩:=I.cell x c hc;refine wpAny_storeName_cell I.ok.kind U hc z (fun h' af hs=>?_);obtain⟨oc,hoc,hocd⟩:=id z;refine h { s with heap:=h' } ⟨I.ok,I.os,I.bare,⟨fun b o e n hb J=>?_,fun b o e n hb J=>?_,I.base.free,fun b o e J=>?_,I.base.tups,I.base.frzs,I.base.tbls⟩,⟨m,hn.sameBut hs (Cf (cne x c hc)),fun j y v' G O e3=>?_⟩,fun y c' e=>?_,I.free,I.freeC,fun p hp=>?_,F ⟨oc,hoc,I.freeC x c hc⟩ hs,by simpa using I.len⟩ ⟨c,hs,.inr hc⟩
  .exact(hs.2 b (Ar (AE (Ap e) (I.ok.cab x c Y hc)))).trans (I.base.keep b o e n hb J)
  .obtain⟨sl,G⟩:=I.base.slot b o e n hb J;exact⟨sl,(hs.2 b (Ar (AE (Ap e) (I.ok.cab x c Y hc)))).trans G⟩
  .obtain⟨o',G⟩:=I.base.there b o e J;exact⟨o',(hs.2 b (Ar (AE (Ap e) (I.ok.cab x c Y hc)))).trans G⟩
  .by_cases Z:j=i
   .subst Z;rw[hi]at G;cases G;rw[DU aa]at O;cases O;exact⟨u,r,.inr ⟨.inl U,c,hc,af⟩⟩
   .rw[Fi (Cf Z)]at O;obtain⟨u',r',q⟩:=hl j y v' G O e3;refine⟨u',r',?_⟩;rcases q with q|⟨k,c',e,z'⟩
    .exact .inl q
    .refine .inr ⟨k,c',e,z'.sameBut hs ?_⟩;rintro rfl;exact Z (sR hN G (I.ok.inj _ _ _ e hc▸hi))
  .by_cases ad:c'=c
   .subst ad;exact⟨_,af⟩
   .obtain⟨w2,z2⟩:=I.cell y c' e;exact⟨w2,z2.sameBut hs ad⟩
  .obtain⟨e,n,ne,nf,d⟩:=I.pin p hp;refine⟨(hs.2 p.1 ?_).trans e,n,ne,nf,d⟩;intro q;rw[q,hoc]at e;have q':oc=p.2:=Bt.inj e;exact d w' (by rw[<- q'];exact hocd)
theorem jT{M:E2}{A:AI}{E:Ab->Ac->Prop}{i:Nat}{x:Str}{v:V}{u:Ab}{Q:Unit->Ac->Prop}(I:Inv X df σ H s)(hN:X.N.Nodup)(hi:X.N[i]?=some x)(F:Loc X.env.scope x)(r:bQ v u)
  (h:∀ s',Inv X df (σ.set i (some v)) H s'->Q () s') (hf:X.fn x=true\/X.env.scope.names.lookup x=some .local:=by first|exact .inl rfl|exact .inr rfl|assumption):wpAny M A (storeName X.env x u) Q E s:=
 wE I hN hi F r (fun s' G _=>h s' G) hf
theorem Inv.call'{s':Ac}{ch:List Ad}(I:Inv X df σ H s)(G:s'.os=s.os)(u:Un (frs X.stack) ch H H' s.heap s'.heap)(hok:HOk X.prog X.w H' s'.heap)(J:EJ s'.gens)
  (F:∀ b∈ch,(b∈X.ex\/X.s₀.heap.objs.size<=b)/\b≠X.env.locals/\(∀ x c,X.env.cells.lookup x=some c->c≠b)/\∀ p∈X.pn++df,p.1≠b):Inv X df σ H' s':=by
 obtain⟨h',g',d',t',o'⟩:=s';have e:o'=s.os:=G;subst e;exact I.call (g':=g') (t':=t') (d':=d') u hok J F
end
abbrev XK:=Ab->Option Ad->Hp->Prop
abbrev St:=List (Option V)
abbrev VK:=V->Hp->Prop
abbrev TE:=St->Hp->VK->Prop
abbrev TT:=St->Hp->(Bool->Hp->Prop)->Prop
abbrev TA:=St->Hp->(List V->Hp->Prop)->Prop
structure c6 where
 nx:St->Hp->Prop
 rt:VK
 bk:St->Hp->Prop:=fun _ _=>False
 ct:St->Hp->Prop:=fun _ _=>False
abbrev TS:=c6->St->Hp->Prop
inductive aI0(X:Cx)(df:List (Ad×Obj))(σ:St)(Q:VK)(u:Ab)(s':Ac):Prop
 | mk (v:_) (H':_) (q0:Inv X df σ H' s') (q1:bQ v u) (q2:Q v H'):aI0 X df σ Q u s'
def EP(X:Cx)(df:List (Ad×Obj))(σ:St)(Q:VK)(u:Ab)(s':Ac):Prop:=aI0 X df σ Q u s'
def TP(X:Cx)(df:List (Ad×Obj))(σ:St)(Q:Bool->Hp->Prop)(b:Bool)(s':Ac):Prop:=∃ H',Inv X df σ H' s'/\Q b H'
inductive aI1(X:Cx)(df:List (Ad×Obj))(σ:St)(Q:List V->Hp->Prop)(us:List Ab)(s':Ac):Prop
 | mk (vs:_) (H':_) (q0:Inv X df σ H' s') (q1:bK vs us) (q2:Q vs H'):aI1 X df σ Q us s'
def AP(X:Cx)(df:List (Ad×Obj))(σ:St)(Q:List V->Hp->Prop)(us:List Ab)(s':Ac):Prop:=aI1 X df σ Q us s'
def SP(X:Cx)(df:List (Ad×Obj))(D:c6)(f:Flow)(s':Ac):Prop:=
 match f with
 | .next=>∃ σ' H',Inv X df σ' H' s'/\D.nx σ' H'
 | .brk=>∃ σ' H',Inv X df σ' H' s'/\D.bk σ' H'
 | .cont=>∃ σ' H',Inv X df σ' H' s'/\D.ct σ' H'
 | .ret u=>∃ v σ' H',Inv X df σ' H' s'/\bQ v u/\D.rt v H'
structure PE(X:Cx)(e:Ba)(t:TE):Prop where
 run:
  ∀(df:List (Ad×Obj)) (s:Ac) (σ:St) (H:Hp) (Q:VK),Inv X df σ H s->t σ H Q->wpAny (model X.prog X.w) X.A (eval e X.env) (EP X df σ Q) X.xe s
instance{X:Cx}{e:Ba}{t:TE}:CoeFun (PE X e t) (fun _=>
 ∀(df:List (Ad×Obj)) (s:Ac) (σ:St) (H:Hp) (Q:VK),Inv X df σ H s->t σ H Q->wpAny (model X.prog X.w) X.A (eval e X.env) (EP X df σ Q) X.xe s):=⟨fun h=>h.run⟩
structure PT(X:Cx)(e:Ba)(t:TT):Prop where
 run:
  ∀(df:List (Ad×Obj)) (s:Ac) (σ:St) (H:Hp) (Q:Bool->Hp->Prop),Inv X df σ H s->t σ H Q->wpAny (model X.prog X.w) X.A (isTrue e X.env (eval e X.env)) (TP X df σ Q) X.xe s
instance{X:Cx}{e:Ba}{t:TT}:CoeFun (PT X e t) (fun _=>
 ∀(df:List (Ad×Obj)) (s:Ac) (σ:St) (H:Hp) (Q:Bool->Hp->Prop),Inv X df σ H s->t σ H Q->wpAny (model X.prog X.w) X.A (isTrue e X.env (eval e X.env)) (TP X df σ Q) X.xe s):=⟨fun h=>h.run⟩
structure PW(X:Cx)(e:Ba)(t:TT):Prop where
 run:
  ∀(whole:Sem Ab) (df:List (Ad×Obj)) (s:Ac) (σ:St) (H:Hp) (Q:Bool->Hp->Prop),Inv X df σ H s->t σ H Q->wpAny (model X.prog X.w) X.A (isTrue e X.env whole) (TP X df σ Q) X.xe s
instance{X:Cx}{e:Ba}{t:TT}:CoeFun (PW X e t) (fun _=>
 ∀(whole:Sem Ab) (df:List (Ad×Obj)) (s:Ac) (σ:St) (H:Hp) (Q:Bool->Hp->Prop),Inv X df σ H s->t σ H Q->wpAny (model X.prog X.w) X.A (isTrue e X.env whole) (TP X df σ Q) X.xe s):=⟨fun h=>h.run⟩
theorem PW.pt{X:Cx}{e:Ba}{t:TT}(h:PW X e t):PT X e t:=⟨h.run _⟩
structure PA(X:Cx)(es:List Ba)(t:TA):Prop where
 run:
  ∀(pos:Pos) (df:List (Ad×Obj)) (s:Ac) (σ:St) (H:Hp) (Q:List V->Hp->Prop),Inv X df σ H s->t σ H Q->wpAny (model X.prog X.w) X.A (spliced (backTo pos (starEach es X.env))) (AP X df σ Q) X.xe s
instance{X:Cx}{es:List Ba}{t:TA}:CoeFun (PA X es t) (fun _=>
 ∀(pos:Pos) (df:List (Ad×Obj)) (s:Ac) (σ:St) (H:Hp) (Q:List V->Hp->Prop),Inv X df σ H s->t σ H Q->wpAny (model X.prog X.w) X.A (spliced (backTo pos (starEach es X.env))) (AP X df σ Q) X.xe s):=⟨fun h=>h.run⟩
structure PS(X:Cx)(st:Cd)(t:TS):Prop where
 run:
  ∀(df:List (Ad×Obj)) (s:Ac) (σ:St) (H:Hp) (D:c6),Inv X df σ H s->t D σ H->wpAny (model X.prog X.w) X.A (exec st X.env) (SP X df D) X.xe s
instance{X:Cx}{st:Cd}{t:TS}:CoeFun (PS X st t) (fun _=>
 ∀(df:List (Ad×Obj)) (s:Ac) (σ:St) (H:Hp) (D:c6),Inv X df σ H s->t D σ H->wpAny (model X.prog X.w) X.A (exec st X.env) (SP X df D) X.xe s):=⟨fun h=>h.run⟩
structure PSs(X:Cx)(st:List Cd)(t:TS):Prop where
 run:
  ∀(df:List (Ad×Obj)) (s:Ac) (σ:St) (H:Hp) (D:c6),Inv X df σ H s->t D σ H->wpAny (model X.prog X.w) X.A (execs st X.env) (SP X df D) X.xe s
instance{X:Cx}{st:List Cd}{t:TS}:CoeFun (PSs X st t) (fun _=>
 ∀(df:List (Ad×Obj)) (s:Ac) (σ:St) (H:Hp) (D:c6),Inv X df σ H s->t D σ H->wpAny (model X.prog X.w) X.A (execs st X.env) (SP X df D) X.xe s):=⟨fun h=>h.run⟩
theorem thn{α:Type}{t:Sem α}{Q F:α->Ac->Prop}{M:E2}{A:AI}{E:Ab->Ac->Prop}{s:Ac}(h:wpAny M A t Q E s)(G:∀ a s,Q a s->F a s):wpAny M A t F E s:=BM h G fun _ _ x=>x
section
inductive aEN(i:Nat)(σ:St)(H:Hp)(Q:VK):Prop
 | mk (v:_) (q0:σ[i]?=some (some v)) (q1:Q v H):aEN i σ H Q
def aI2(i:Nat):TE:=fun σ H Q=>aEN i σ H Q
def tC(v:V):TE:=fun _ H Q=>Q v H
theorem aH7{i:Nat}{x:Str}{pos:Pos}(hN:X.N[i]?=some x)(J:Vis X.env.scope x)(hd:(x==("__debug__":Str))=false:=by decide)(G:(x==("__classdict__":Str))=false:=by decide):PE X (.Name x pos) (aI2 i):=by
 constructor;intro df s σ H Q I h;obtain⟨v,e,h⟩:=h;obtain⟨m,hn,hl⟩:=I.loc;obtain⟨u,r,l⟩:=hl i x v hN e J;have fin:EP X df σ Q u s:=⟨v,H,I,r,h⟩
 rcases l with⟨F,hm⟩|⟨F,c,hc,hcell⟩
 .exact wpAny_Name (wpAny_loadName_local I.ok.kind F hn hm fin) hd
 .rcases F with F|F
  .exact wpAny_Name (wpAny_loadName_cell I.ok.kind F hc hcell fin) hd
  .exact wpAny_Name (wpAny_loadName_free I.ok.kind F hc hcell fin G) hd
theorem aG{i j pos}:PE X (.Constant (.int i) j pos) (tC (.int i)):=⟨fun _ _ _ H _ I h=>wpAny_Constant_int ⟨.int i,H,I.tok _,⟨_,rfl⟩,h⟩⟩
theorem jC{b j pos}:PE X (.Constant (.bool b) j pos) (tC (.bl b)):=⟨fun _ _ _ H _ I h=>Constant_bool ⟨.bl b,H,I,rfl,h⟩⟩
theorem aBD{j pos}:PE X (.Constant .none j pos) (tC .non):=⟨fun _ _ _ H _ I h=>Hf ⟨.non,H,I,rfl,h⟩⟩
theorem cS{x j pos}:PE X (.Constant (.str x) j pos) (tC (.str x)):=⟨fun _ _ _ H _ I h=>Calls.Constant_str ⟨.str x,H,I.tok _,⟨_,rfl⟩,h⟩⟩
def Gl(X:Cx)(x:Str):Prop:=X.env.kindOf x=some .globalImplicit
theorem oH{E:Ab->Ac->Prop}{df:List (Ad×Obj)}{s:Ac}{σ:St}{H:Hp}{x:Str}{u:Ab}{pos:Pos}{Q:Ab->Ac->Prop}(I:Inv X df σ H s)(F:Gl X x)(hm:X.mg x=some u)(h:Q u s)
  (hd:(x==("__debug__":Str))=false:=by decide):wpAny (model X.prog X.w) X.A (eval (.Name x pos) X.env) Q E s:=
 Calls.Name_function_global I.ok.kind F (Calls.loadGlobal_global (by rw[I.ok.glob];exact I.mod.glob.keeps I.bk) hm h) hd
theorem nL{E:Ab->Ac->Prop}{df:List (Ad×Obj)}{s:Ac}{σ:St}{H:Hp}{x:Str}{u:Ab}{pos:Pos}{Q:Ab->Ac->Prop}(I:Inv X df σ H s)(G:Gl X x)(hm:X.mg x=none)(F:bootBuiltins x=some u)(h:Q u s)
  (hn:x≠"__name__":=by decide) (hd:(x==("__debug__":Str))=false:=by decide):wpAny (model X.prog X.w) X.A (eval (.Name x pos) X.env) Q E s:=by
 obtain⟨mb,h1,h2⟩:=I.mod.blt;exact Calls.Name_function_global I.ok.kind G (Calls.loadGlobal_builtin (by rw[I.ok.glob];exact I.mod.glob.keeps I.bk) hm (by rw[I.ok.blt];exact h1.keeps I.bk) ((h2 x hn).trans F) h) hd
theorem eG{x:Str}{v:V}{u:Ab}{pos:Pos}(F:Gl X x)(hm:X.mg x=some u)(r:bQ v u)(hd:(x==("__debug__":Str))=false:=by decide):PE X (.Name x pos) (tC v):=
 ⟨fun _ _ _ H _ I h=>oH I F hm ⟨v,H,I,r,h⟩ hd⟩
theorem oI{x:Str}{v:V}{u:Ab}{pos:Pos}(G:Gl X x)(hm:X.mg x=none)(F:bootBuiltins x=some u)(r:bQ v u)(hn:x≠"__name__":=by decide)(hd:(x==("__debug__":Str))=false:=by decide):PE X (.Name x pos) (tC v):=
 ⟨fun _ _ _ H _ I h=>nL I G hm F ⟨v,H,I,r,h⟩ hn hd⟩
variable{a b:Ba}{ta tb:TE}
structure PC(X:Cx)(op:Gz)(a b:Ba)(t:TE):Prop where
 run:
  ∀(df:List (Ad×Obj)) (s:Ac) (σ:St) (H:Hp) (Q:VK),Inv X df σ H s->t σ H Q->
   wpAny (model X.prog X.w) X.A (eval a X.env) (fun v s₁=>wpAny (model X.prog X.w) X.A (eval b X.env) (fun u s₂=>wpAny (model X.prog X.w) X.A (compareOp op v u) (EP X df σ Q) X.xe s₂) X.xe s₁) X.xe s
instance{X:Cx}{op:Gz}{a b:Ba}{t:TE}:CoeFun (PC X op a b t) (fun _=>
 ∀(df:List (Ad×Obj)) (s:Ac) (σ:St) (H:Hp) (Q:VK),Inv X df σ H s->t σ H Q->
  wpAny (model X.prog X.w) X.A (eval a X.env) (fun v s₁=>wpAny (model X.prog X.w) X.A (eval b X.env) (fun u s₂=>wpAny (model X.prog X.w) X.A (compareOp op v u) (EP X df σ Q) X.xe s₂) X.xe s₁) X.xe s):=⟨fun h=>h.run⟩
theorem zZ(b:Ba){F:Gz}(h:F≠.In)(h2:F≠.NotIn):behindInMarks F b=false:=by
 have G:(F==CmpOp.In)=false:=by cases F<;>first|rfl|exact absurd rfl h
 have J:(F==CmpOp.NotIn)=false:=by cases F<;>first|rfl|exact absurd rfl h2
 cases b<;>simp[behindInMarks,G,J]
def aJY(ta:TE):TE:=fun σ H Q=>ta σ H fun x H1=>Q (.bl (decide (x=.non))) H1
def aI3(ta:TE):TE:=fun σ H Q=>ta σ H fun x H1=>Q (.bl (!decide (x=.non))) H1
theorem bQ.none_iff{x:V}{v:Ab}(r:bQ x v):(v==CW)=decide (x=.non):=by
 cases x with
 | non=>cases r;rfl
 | bl _=>cases r;rfl
 | int _=>obtain⟨t,rfl⟩:=r;rfl
 | str _=>obtain⟨t,rfl⟩:=r;rfl
 | byt _=>obtain⟨t,rfl⟩:=r;rfl
 | flt _=>obtain⟨t,rfl⟩:=r;rfl
 | ref _=>cases r;rfl
 | ty _=>cases r;rfl
theorem aBE{j ig}(ha:PE X a ta):PC X .Is a (.Constant .none j ig) (aJY ta):=by
 constructor;intro df s σ H Q I h;refine thn (ha df s σ H _ I h) fun v O ⟨x,H1,J,G,F⟩=>?_;exact Hf (is_none_gen ⟨.bl _,H1,J,by rw[G.none_iff];rfl,F⟩)
theorem aGT{j ig}(ha:PE X a ta):PC X .IsNot a (.Constant .none j ig) (aI3 ta):=by
 constructor;intro df s σ H Q I h;refine thn (ha df s σ H _ I h) fun v O ⟨x,H1,J,G,F⟩=>?_;exact Hf (isnot_none_gen ⟨.bl _,H1,J,by rw[G.none_iff];rfl,F⟩)
inductive As{α:Type}(f:α->V)(x:V)(Q:α->Prop):Prop
 | mk (c:α) (h:x=f c) (q:Q c):As f x Q
def tB(t:TE):TT:=fun σ H Q=>t σ H fun x H1=>As V.bl x fun c=>Q c H1
theorem aH8{F:Gz}{t:TE}(h:PC X F a b t)(h1:behindInMarks F b=false:=by first|exact zZ _ (by decide) (by decide)|rfl):PE X (.Compare a [F] [b] pos) t:=⟨fun df s σ H Q I hw=>wpAny_Compare1 (h df s σ H Q I hw) h1⟩
theorem sS{F:Gz}{t:TE}(h:PC X F a b t)(h1:behindInMarks F b=false:=by first|exact zZ _ (by decide) (by decide)|rfl):PT X (.Compare a [F] [b] pos) (tB t):=by
 constructor;intro df s σ H Q I hw;refine wpAny_isTrue_Compare1 (thn (h df s σ H _ I hw) fun v Y h1=>thn h1 fun u U h2=>thn h2 fun c Z ⟨x,H1,J,G,O⟩=>?_) h1;obtain⟨d,rfl,q⟩:=O;cases G;exact BX ⟨H1,J,q⟩
theorem iU{e:Ba}{t:TE}(h:PE X e t)(U:∀ F,isTrue e X.env F=(do let v <- F;standAt e.pos;holding [v] (truthy v)):=by intro _;rfl):PT X e (tB t):=by
 constructor;intro df s σ H Q I hw;refine isTrue_plain (thn (h df s σ H _ I hw) fun v Y ⟨x,H1,J,G,O⟩=>?_) (U _);obtain⟨d,rfl,q⟩:=O;cases G;exact BX ⟨H1,J,q⟩
variable{tA iq:TT}{gL:List Ba}
def aJZ(t u:TT):TT:=fun σ H Q=>t σ H fun c H1=>if c=true then u σ H1 Q else Q false H1
def tOr(t u:TT):TT:=fun σ H Q=>t σ H fun c H1=>if c=true then Q true H1 else u σ H1 Q
def aJ0(t:TT):TT:=fun σ H Q=>t σ H fun c H1=>Q (!c) H1
theorem yE(ha:PT X a tA):PW X (.BoolOp .And [a] pos) tA:=by
 constructor;intro F df s σ H Q I h;refine isTrue_and (thn (ha df s σ H Q I h) fun c G e=>?_);cases c with
 | true=>exact isTrue_and_nil e
 | false=>exact e
theorem nN(ha:PT X a tA):PW X (.BoolOp .Or [a] pos) tA:=by
 constructor;intro F df s σ H Q I h;refine isTrue_or (thn (ha df s σ H Q I h) fun c G e=>?_);cases c with
 | false=>exact isTrue_or_nil e
 | true=>exact e
theorem aBF(ha:PT X a tA)(hb:PW X (.BoolOp .And (b::gL) pos) iq):PW X (.BoolOp .And (a::b::gL) pos) (aJZ tA iq):=by
 constructor;intro J df s σ H Q I h;refine isTrue_and (thn (ha df s σ H _ I h) fun c O ⟨H1,G,F⟩=>?_);cases c with
 | true=>exact hb J df O σ H1 Q G F
 | false=>exact⟨H1,G,F⟩
theorem qM(ha:PT X a tA)(hb:PW X (.BoolOp .Or (b::gL) pos) iq):PW X (.BoolOp .Or (a::b::gL) pos) (tOr tA iq):=by
 constructor;intro J df s σ H Q I h;refine isTrue_or (thn (ha df s σ H _ I h) fun c O ⟨H1,G,F⟩=>?_);cases c with
 | true=>exact⟨H1,G,F⟩
 | false=>exact hb J df O σ H1 Q G F
theorem j9(ha:PT X a tA):PT X (.UnaryOp .Not a pos) (aJ0 tA):=by
 constructor;intro df s σ H Q I h;exact isTrue_not (ha df s σ H (fun c H1=>Q (!c) H1) I h)
def aI4(ta tb:TE):TE:=fun σ H Q=>ta σ H fun x H1=>As V.bl x fun c=>if c=true then tb σ H1 Q else Q (.bl false) H1
def aI5(ta:TE):TE:=fun σ H Q=>ta σ H fun x H1=>As V.bl x fun c=>Q (.bl (!c)) H1
theorem yF{op}{t:TE}(h:PE X a t):PE X (.BoolOp op [a] pos) t:=⟨fun df s σ H Q I hw=>BoolOp_one (h df s σ H Q I hw)⟩
theorem yG(ha:PE X a ta)(hb:PE X (.BoolOp .And (b::gL) pos) tb):PE X (.BoolOp .And (a::b::gL) pos) (aI4 ta tb):=by
 constructor;intro df s σ H Q I h;refine BoolOp_and (thn (ha df s σ H _ I h) fun v J ⟨x,H1,G,O,F⟩=>?_);obtain⟨c,rfl,F⟩:=F;cases O;refine BX ?_;cases c with
 | true=>exact hb df J σ H1 Q G F
 | false=>exact⟨.bl false,H1,G,rfl,F⟩
theorem aH9(ha:PE X a ta):PE X (.UnaryOp .Not a pos) (aI5 ta):=by
 constructor;intro df s σ H Q I h;refine UnaryOp_ (thn (ha df s σ H _ I h) fun v O ⟨x,H1,J,G,F⟩=>?_);obtain⟨c,rfl,F⟩:=F;cases G;exact not_of (BX ⟨.bl (!c),H1,J,rfl,F⟩)
end
def SqL(K:Ag)(H:Hp)(a:Ad)(xs:List V):Prop:=
 Rd H a (.lst xs)\/
  ∃(o:Obj) (its:Array Ab) (n:Nat),K.lookup a=some o/\o.cls=.type "list"/\o.dict=none/\o.data=.seq its n/\its.size<=sizeLine/\bK xs its.toList
def SqT(K:Ag)(H:Hp)(a:Ad)(xs:List V):Prop:=
 Rd H a (.tup xs)\/
  ∃(o:Obj) (its:Array Ab) (n:Nat),K.lookup a=some o/\o.cls=.type "tuple"/\o.data=.seq its n/\its.size<=sizeLine/\bK xs its.toList
def aJ1:Ab->Option V
 | .none=>some .non
 | .bool b=>some (.bl b)
 | .int i _=>some (.int i)
 | .str x _=>some (.str x)
 | .bytes b _=>some (.byt b)
 | .float b _=>some (.flt b)
 | .ref a=>some (.ref a)
 | .type n=>some (.ty n)
 | _=>none
theorem bQ.abs{x:V}{u:Ab}(r:bQ x u):aJ1 u=some x:=by
 cases x with
 | non=>cases r;rfl
 | bl _=>cases r;rfl
 | int _=>obtain⟨t,rfl⟩:=r;rfl
 | str _=>obtain⟨t,rfl⟩:=r;rfl
 | byt _=>obtain⟨t,rfl⟩:=r;rfl
 | flt _=>obtain⟨t,rfl⟩:=r;rfl
 | ref _=>cases r;rfl
 | ty _=>cases r;rfl
theorem bQ.inj{x y:V}{u:Ab}(r:bQ x u)(q:bQ y u):x=y:=Bt.inj (r.abs.symm.trans q.abs)
theorem bK.inj:∀{xs ys:List V}{F:List Ab},bK xs F->bK ys F->xs=ys
 | _,_,_,.nil,.nil=>rfl
 | _,_,_,.cons r t,.cons G t'=>by rw[r.inj G,bK.inj t t']
section
variable{a:Ad}{xs ys:List V}
theorem aO{K:Ag}(h:H a=some (.lst xs)):SqL K H a xs:=.inl (.inl h)
theorem bJ{K:Ag}(h:H a=some (.tup xs)):SqT K H a xs:=.inl (.inl h)
theorem Inv.list(I:Inv X df σ H s)(h:SqL X.K H a xs):∃ its:List Ab,bK xs its/\PlainL s.heap a its.toArray/\xs.length<=sizeLine:=by
 rcases h with h|⟨o,its,n,F,hc,hd,hs,G,r⟩
 .obtain⟨z,its,n,r,e⟩:=h.ok I.hok;exact⟨its,r,⟨_,n,e,rfl,rfl,rfl⟩,z⟩
 .refine⟨its.toList,r,⟨o,n,I.kIn a o F,hc,hd,by simpa using hs⟩,?_⟩;have e:=r.length;simp only[AN]at e;omega
theorem Inv.tuple(I:Inv X df σ H s)(h:SqT X.K H a xs):∃ its:List Ab,bK xs its/\E4 s.heap a its.toArray/\xs.length<=sizeLine:=by
 rcases h with h|⟨o,its,n,F,hc,hs,G,r⟩
 .obtain⟨z,its,r,p⟩:=h.ok I.hok;exact⟨its,r,p.tup,z⟩
 .refine⟨its.toList,r,⟨o,I.kIn a o F,hc,n,by simpa using hs⟩,?_⟩;have e:=r.length;simp only[AN]at e;omega
theorem Inv.list_inj(I:Inv X df σ H s)(h:SqL X.K H a xs)(h':SqL X.K H a ys):xs=ys:=by
 obtain⟨its,r,⟨o,n,e,_,_,d⟩,_⟩:=I.list h;obtain⟨its',r',⟨o',n',e',_,_,d'⟩,_⟩:=I.list h';rw[e]at e';cases e';rw[d]at d';injection d' with d1 _;have:its=its':=by simpa using congrArg Array.toList d1
 subst this;exact r.inj r'
theorem Inv.tuple_inj(I:Inv X df σ H s)(h:SqT X.K H a xs)(h':SqT X.K H a ys):xs=ys:=by
 obtain⟨its,r,⟨o,e,_,n,d⟩,_⟩:=I.tuple h;obtain⟨its',r',⟨o',e',_,n',d'⟩,_⟩:=I.tuple h';rw[e]at e';cases e';rw[d]at d';injection d' with d1 _;have:its=its':=by simpa using congrArg Array.toList d1
 subst this;exact r.inj r'
end
abbrev Cx.wish(X:Cx)(E:Ab->Ac->Prop):Cx:={ X with xe:=E }
abbrev Cx.nox(X:Cx):Cx:=X.wish fun _ _=>False
theorem Cx.Ok.wish{X:Cx}(ok:X.Ok)(E:Ab->Ac->Prop):(X.wish E).Ok:=
 ⟨ok.mod,ok.kind,ok.glob,ok.blt,ok.above,ok.inj,ok.has,ok.cab,ok.hd,ok.frames,ok.stk,ok.exf,ok.bs,ok.bsz,ok.noex,ok.exfs,ok.funs,ok.frf⟩
theorem Cx.Ok.unwish{X:Cx}{E:Ab->Ac->Prop}(ok:(X.wish E).Ok):X.Ok:=
 ⟨ok.mod,ok.kind,ok.glob,ok.blt,ok.above,ok.inj,ok.has,ok.cab,ok.hd,ok.frames,ok.stk,ok.exf,ok.bs,ok.bsz,ok.noex,ok.exfs,ok.funs,ok.frf⟩
theorem Inv.wish(I:Inv X df σ H s)(E:Ab->Ac->Prop):Inv (X.wish E) df σ H s:=⟨I.ok.wish E,I.os,I.bare,I.base,I.loc,I.cell,I.free,I.freeC,I.pin,I.hok,I.len⟩
theorem Inv.unwish(I:Inv (X.wish E) df σ H s):Inv X df σ H s:=⟨I.ok.unwish,I.os,I.bare,I.base,I.loc,I.cell,I.free,I.freeC,I.pin,I.hok,I.len⟩
theorem SP.unwish{D:c6}{f:Flow}{s':Ac}(h:SP (X.wish E) df D f s'):SP X df D f s':=by
 cases f with
 | next=>obtain⟨σ',H',I,q⟩:=h;exact⟨σ',H',I.unwish,q⟩
 | brk=>obtain⟨σ',H',I,q⟩:=h;exact⟨σ',H',I.unwish,q⟩
 | cont=>obtain⟨σ',H',I,q⟩:=h;exact⟨σ',H',I.unwish,q⟩
 | ret u=>obtain⟨v,σ',H',I,r,q⟩:=h;exact⟨v,σ',H',I.unwish,r,q⟩
theorem PSs.nox{st:List Cd}{t:TS}(h:PSs X.nox st t):PSs X st t:=⟨fun df s σ H D I hw=>
 BM (h df s σ H D (I.wish _) hw) (fun _ _ q=>q.unwish) fun _ _ z=>Bw z⟩
section
variable{st:Cd}{gL:List Cd}{t u:TS}
def aI6:TS:=fun D σ H=>D.nx σ H
def aJ2(t u:TS):TS:=fun D σ H=>t { D with nx:=u D } σ H
theorem cN:PSs X [] aI6:=⟨fun _ _ σ H _ I h=>DR ⟨σ,H,I,h⟩⟩
theorem aE(h1:PS X st t)(h2:PSs X gL u):PSs X (st::gL) (aJ2 t u):=by
 constructor;intro df s σ H D I h;refine Gr (thn (h1 df s σ H { D with nx:=u D } I h) fun f F q=>?_);cases f with
 | next=>
  obtain⟨σ',H',I',q⟩:=q;exact h2 df F σ' H' D I' q
 | ret v=>exact q
 | brk=>exact q
 | cont=>exact q
theorem aN(h1:PS X st t):PSs X [st] t:=by
 constructor;intro df s σ H D I h;refine Gr (thn (h1 df s σ H D I h) fun f F q=>?_);cases f with
 | next=>exact DR q
 | ret v=>exact q
 | brk=>exact q
 | cont=>exact q
def aIa:TS:=fun D σ H=>D.bk σ H
theorem aEO:PS X (.Break pos) aIa:=⟨fun _ _ σ H _ I h=>wpAny_Break ⟨σ,H,I,h⟩⟩
theorem Inv.quiet{df:List (Ad×Obj)}{σ:St}{H:Hp}{s:Ac}(I:Inv X df σ H s):interactive X.env=false:=by simp[interactive,I.ok.kind]
def aI7(te:TE):TS:=fun D σ H=>te σ H fun _ H1=>D.nx σ H1
theorem iO(F:PE X e te)(hs:swapsWith e none pos.line X.env=pure false:=by rfl):PS X (.Expr e pos) (aI7 te):=by
 constructor;intro df s σ H D I h;exact wpAny_Expr_any (thn (F df s σ H _ I h) fun v O ⟨x,H1,J,U,G⟩=>⟨σ,H1,J,G⟩) I.quiet hs
def aJ3(te:TE):TS:=fun D σ H=>te σ H D.rt
theorem bC(F:PE X e te):PS X (.Return (some e) pos) (aJ3 te):=by
 constructor;intro df s σ H D I h;exact wpAny_Return_some (thn (F df s σ H _ I h) fun v U ⟨x,H1,O,J,G⟩=>⟨x,σ,H1,O,J,G⟩)
def aJ4(c:TT)(t u:TS):TS:=fun D σ H=>c σ H fun b H1=>if b=true then t D σ H1 else u D σ H1
theorem dN{c:Ba}{a b:List Cd}{tc:TT}(hc:PT X c tc)(ha:PSs X a t)(hb:PSs X b u):PS X (.If c a b pos) (aJ4 tc t u):=by
 constructor;intro df s σ H D I h;refine wpAny_If (thn (hc df s σ H _ I h) fun d J ⟨H1,F,G⟩=>?_);cases d with
 | true=>exact ha df J σ H1 D F G
 | false=>exact hb df J σ H1 D F G
end
abbrev TG:=V->St->Hp->(St->Hp->Prop)->Prop
abbrev TGs:=List V->St->Hp->(St->Hp->Prop)->Prop
structure PG(X:Cx)(target:Ba)(t:TG):Prop where
 run:
  ∀(df:List (Ad×Obj)) (s:Ac) (σ:St) (H:Hp) (v:V) (u:Ab) (Q:St->Hp->Prop),Inv X df σ H s->bQ v u->t v σ H Q->
   wpAny (model X.prog X.w) X.A (assign target X.env u) (fun _ s'=>∃ σ' H',Inv X df σ' H' s'/\Q σ' H') X.xe s
instance{X:Cx}{target:Ba}{t:TG}:CoeFun (PG X target t) (fun _=>
 ∀(df:List (Ad×Obj)) (s:Ac) (σ:St) (H:Hp) (v:V) (u:Ab) (Q:St->Hp->Prop),Inv X df σ H s->bQ v u->t v σ H Q->
  wpAny (model X.prog X.w) X.A (assign target X.env u) (fun _ s'=>∃ σ' H',Inv X df σ' H' s'/\Q σ' H') X.xe s):=⟨fun h=>h.run⟩
structure PGs(X:Cx)(ts:List Ba)(t:TGs):Prop where
 run:
  ∀(df:List (Ad×Obj)) (s:Ac) (σ:St) (H:Hp) (vs:List V) (us:List Ab) (Q:St->Hp->Prop),Inv X df σ H s->bK vs us->t vs σ H Q->
   wpAny (model X.prog X.w) X.A (assignInOrder ((assignEach ts X.env).map (·.2)) us) (fun _ s'=>∃ σ' H',Inv X df σ' H' s'/\Q σ' H') X.xe s
instance{X:Cx}{ts:List Ba}{t:TGs}:CoeFun (PGs X ts t) (fun _=>
 ∀(df:List (Ad×Obj)) (s:Ac) (σ:St) (H:Hp) (vs:List V) (us:List Ab) (Q:St->Hp->Prop),Inv X df σ H s->bK vs us->t vs σ H Q->
  wpAny (model X.prog X.w) X.A (assignInOrder ((assignEach ts X.env).map (·.2)) us) (fun _ s'=>∃ σ' H',Inv X df σ' H' s'/\Q σ' H') X.xe s):=⟨fun h=>h.run⟩
abbrev aIb:=V->V->V->Hp->(Hp->Prop)->Prop
def aI8(X:Cx)(t:aIb):Prop:=
 ∀(df:List (Ad×Obj)) (s:Ac) (σ:St) (H:Hp) (o i v:V) (ov iv u:Ab) (Q:Hp->Prop),Inv X df σ H s->bQ o ov->bQ i iv->bQ v u->t o i v H Q->
  wpAny (model X.prog X.w) X.A (setItem ov iv u) (fun _ s'=>∃ H',Inv X df σ H' s'/\Q H') X.xe s
abbrev TIp:=V->V->Hp->VK->Prop
def PIp(X:Cx)(op:Operator)(t:TIp):Prop:=
 ∀(df:List (Ad×Obj)) (s:Ac) (σ:St) (H:Hp) (x y:V) (v u:Ab) (Q:VK),Inv X df σ H s->bQ x v->bQ y u->t x y H Q->
  wpAny (model X.prog X.w) X.A (inplaceOp op v u) (EP X df σ Q) X.xe s
def aW(i:Nat):TG:=fun v σ H Q=>Q (σ.set i (some v)) H
theorem aP{i:Nat}{x:Str}(hN:X.N.Nodup)(hi:X.N[i]?=some x)(F:Loc X.env.scope x)(hf:X.fn x=true\/X.env.scope.names.lookup x=some .local:=by first|exact .inl rfl|exact .inr rfl|assumption):PG X (.Name x pos) (aW i):=by
 constructor;intro df s σ H v u Q I r h;exact wpAny_assign_Name (jT I hN hi F r (fun s' G=>⟨_,H,G,h⟩) hf)
def nO:TGs:=fun vs σ H Q=>vs=[]/\Q σ H
inductive aCC(t:TG)(u:TGs)(vs:List V)(σ:St)(H:Hp)(Q:(St->Hp->Prop)):Prop
 | mk (v:_) (r:_) (q0:vs=v::r) (q1:t v σ H fun σ' H'=>u r σ' H' Q):aCC t u vs σ H Q
def cW(t:TG)(u:TGs):TGs:=fun vs σ H Q=>aCC t u vs σ H Q
theorem cZ:PGs X [] nO:=by
 constructor;intro df s σ H vs F Q I r h;obtain⟨e,h⟩:=h;subst e;cases r;exact assignInOrder_nil ⟨σ,H,I,h⟩
theorem aQ{e:Ba}{es:List Ba}{t:TG}{u:TGs}(h1:PG X e t)(h2:PGs X es u)
  (hs:(assignEach (e::es) X.env).map (·.2)=assign e X.env::(assignEach es X.env).map (·.2):=by rfl):PGs X (e::es) (cW t u):=by
 constructor;intro df s σ H vs Y Q I r h;obtain⟨v,vr,e1,h⟩:=h;subst e1;cases r with
 | cons r U=>
  rw[hs];refine F8 (thn (h1 df s σ H _ _ _ I r h) fun _ O ⟨F,H1,G,J⟩=>?_);exact h2 df O F H1 _ _ Q G U J
inductive aEP(K:Ag)(n:Nat)(t:TGs)(v:V)(σ:St)(H:Hp)(Q:(St->Hp->Prop)):Prop
 | mk (a:_) (xs:_) (q0:v=.ref a) (q1:SqT K H a xs) (q2:xs.length=n) (q3:t xs σ H Q):aEP K n t v σ H Q
def oJ(K:Ag)(n:Nat)(t:TGs):TG:=fun v σ H Q=>aEP K n t v σ H Q
theorem dJ{es:List Ba}{k:Nat}{t:TGs}{n:Nat}(hc:X.calm=true)(h:PGs X es t)
  (hn:(assignEach es X.env).length=n:=by rfl) (F:(assignEach es X.env).findIdx? (·.1)=none:=by rfl):PG X (.Tuple es k pos) (oJ X.K n t):=by
 constructor;intro df s σ H v u Q I r hw;obtain⟨a,xs,e1,hq,hl,hw⟩:=hw;subst e1;cases r;obtain⟨its,rv,ht,hz⟩:=I.tuple hq;refine assign_Tuple_tuple (I.ok.hd hc) ht (by simp[hn,<- hl,rv.length]) F fun h' J=>?_;have G:Inv X df σ H { s with heap:=h' }:=I.kept (t':=s.toks) fun b o e=>J b o (Ar (Ap e)) e;exact h df _ σ H xs _ Q G (by simpa using rv) hw
def aJ5(to ti:TE)(t:aIb):TG:=fun v σ H Q=>to σ H fun o H1=>ti σ H1 fun i H2=>t o i v H2 fun H3=>Q σ H3
theorem aIc{o i:Ba}{to J:TE}{t:aIb}(Z:PE X o to)(hi:PE X i J)(hs:aI8 X t)
  (ha:∀ v,assign (.Subscript o i pos) X.env v=(do
   let F <- holding [v] (eval o X.env)
   let G <- holding [v,F] (eval i X.env)
   standAt pos
   holding [v,F,G] (setItem F G v)
   release [v,F,G] []):=by intro _;rfl):PG X (.Subscript o i pos) (aJ5 to J t):=by
 constructor;intro df s σ H v u Q I r h;rw[ha];refine Aa (By (thn (Z df s σ H _ I h) fun F s1 ⟨x,H1,I1,r1,q1⟩=>?_));refine Aa (By (thn (hi df s1 σ H1 _ I1 q1) fun G O ⟨y,H2,Y,r2,q2⟩=>?_));refine Aa (E5 (Aa (By (thn (hs df O σ H2 x y v F G u _ Y r1 r2 r q2) fun _ s3 ⟨H3,U,q3⟩=>?_))));exact wpAny_release ⟨σ,H3,U,q3⟩
def aId(te:TE)(g:TG):TS:=fun D σ H=>te σ H fun x H1=>g x σ H1 D.nx
theorem jQ{tg e:Ba}{te:TE}{g:TG}(Y:PE X e te)(J:PG X tg g)(hs:swapsWithSole [tg] e pos.line X.env=pure false:=by rfl)(hw:swappedStores [tg] e X.env=pure none:=by rfl)
  (h1:(assignEach [tg] X.env).map (·.2)=[assign tg X.env]:=by rfl):PS X (.Assign [tg] e pos) (aId te g):=by
 constructor;intro df s σ H D I h;refine wpAny_Assign_stores (thn (Y df s σ H _ I h) fun v U ⟨x,H1,G,F,O⟩=>?_) hs hw;rw[h1];exact thn (J df U σ H1 x v _ G F O) fun _ Z q=>q
theorem aX{i:Nat}{x:Str}{e:Ba}{te:TE}{ig:Pos}(hN:X.N.Nodup)(hi:X.N[i]?=some x)(Y:Loc X.env.scope x)(U:PE X e te)(hs:swapsWith e (some (.Name x ig)) pos.line X.env=pure false:=by rfl)(hf:X.fn x=true\/X.env.scope.names.lookup x=some .local:=by first|exact .inl rfl|exact .inr rfl|assumption):
  PS X (.Assign [.Name x ig] e pos) (aId te (aW i)):=by
 constructor;intro df s σ H D I h;refine wpAny_Assign_Name (thn (U df s σ H _ I h) fun v s1 ⟨y,H1,J,G,O⟩=>?_) hs;exact jT J hN hi Y G (fun Z F=>⟨_,H1,F,O⟩) hf
def aJ6(i j:Nat)(ta:TA):TS:=fun D σ H=>ta σ H fun vs H1=>∃ v w,vs=[v,w]/\D.nx ((σ.set i (some v)).set j (some w)) H1
theorem sU{i j:Nat}{x y:Str}{a b:Ba}{ta:TA}{Z O pt:Pos}{kt k2 pt2}(hc:X.calm=true)(hN:X.N.Nodup)(hi:X.N[i]?=some x)(hj:X.N[j]?=some y)(U:i≠j)
  (hx:X.env.scope.names.lookup x=some .local) (hy:X.env.scope.names.lookup y=some .local) (ha:PA X [a,b] ta)
  (hw:swappedStores [.Tuple [.Name x Z,.Name y O] kt pt] (.Tuple [a,b] k2 pt2) X.env=pure (some [x,y]))
  (hs:swapsWithSole [.Tuple [.Name x Z,.Name y O] kt pt] (.Tuple [a,b] k2 pt2) pos.line X.env=pure false:=by rfl):
  PS X (.Assign [.Tuple [.Name x Z,.Name y O] kt pt] (.Tuple [a,b] k2 pt2) pos) (aJ6 i j ta):=by
 constructor;intro df s σ H D I h;rw[exec_Assign_arm];refine Aa (E5 ?_);rw[hs];refine Aa (Ah ?_);rw[Ia (by decide)];refine Aa (Tuple_ (thn (ha _ df s σ H _ I h) fun us G ⟨vs,H1,I1,r1,Y⟩=>?_));obtain⟨v,w,e1,Y⟩:=Y;subst e1;obtain⟨J,F,rfl,rv,rw'⟩:∃ J F,us=[J,F]/\bQ v J/\bQ w F:=by
  cases r1 with
  | cons p q=>
   cases q with
   | cons p' q'=>
    cases q';exact⟨_,_,rfl,p,p'⟩
 refine BY ?_ (by show 2<=sizeLine;decide);have I2:Inv X df σ H1 { G with heap:=G.heap.push { cls:=.type "tuple",data:=.seq [J,F].toArray } }:=I1.kept (t':=G.toks) fun b o e=>Ai _ e;rw[hw];refine Aa (Ah ?_);show wpAny (model X.prog X.w) X.A (do rule "assign.swapped-stores";let items <- unpackItems (.ref G.heap.objs.size) 2 none;assignInOrder [fun v=>bindName X.env y v,fun v=>bindName X.env x v] items.reverse;pure Flow.next) _ _ _;refine Aa (C6 (Aa (unpackItems_tuple (items:=#[J,F]) (I.ok.hd hc) (IsTup.new G.heap _) fun h' aa=>?_)));have I3:=I2.kept (h':=h') (t':=G.toks) fun b o e=>aa b o (Ar (Ap e)) e;show wpAny _ _ (assignInOrder [fun v=>bindName X.env y v,fun v=>bindName X.env x v] [F,J] >>= fun _=>pure Flow.next) _ _ _;refine Aa (F8 (wpAny_bindName (jT I3 hN hj (.inl hy) rw' (fun s2 I4=>?_) (.inr hy))));refine F8 (wpAny_bindName (jT I4 hN hi (.inl hx) rv (fun s3 I5=>assignInOrder_nil (Ah ?_)) (.inr hx)));rw[List.set_comm _ _ (Cf U)]at I5;exact⟨_,H1,I5,Y⟩
inductive aEQ(i:Nat)(te:TE)(ti:TIp)(D:c6)(σ:St)(H:Hp):Prop
 | mk (x:_) (q0:σ[i]?=some (some x)) (q1:te σ H fun y H1=>ti x y H1 fun z H2=>D.nx (σ.set i (some z)) H2):aEQ i te ti D σ H
def aJ7(i:Nat)(te:TE)(ti:TIp):TS:=fun D σ H=>aEQ i te ti D σ H
theorem aIe{i:Nat}{x:Str}{e:Ba}{te:TE}{J:Operator}{U:TIp}{ig:Pos}(hN:X.N.Nodup)(hi:X.N[i]?=some x)(O:Loc X.env.scope x)(he:PE X e te)(ho:PIp X J U)(hf:X.fn x=true\/X.env.scope.names.lookup x=some .local:=by first|exact .inl rfl|exact .inr rfl|assumption):
  PS X (.AugAssign (.Name x ig) J e pos) (aJ7 i te U):=by
 constructor;intro df s σ H D I h;obtain⟨v,e1,h⟩:=h;obtain⟨m,hn,hl⟩:=I.loc;have G:Vis X.env.scope x:=by rcases O with k|k;exact .inl k;exact .inr (.inl k)
 obtain⟨u,r,l⟩:=hl i x v hi e1 G;refine wpAny_AugAssign_Name ?_;have go:wpAny (model X.prog X.w) X.A (eval e X.env) (fun w Z=>wpAny (model X.prog X.w) X.A (inplaceOp J u w) (fun r Y=>wpAny (model X.prog X.w) X.A (storeName X.env x r) (fun _=>SP X df D .next) X.xe Y) X.xe Z) X.xe s:=by
  refine thn (he df s σ H _ I h) fun w s1 ⟨y,H1,I1,r1,q1⟩=>?_;refine thn (ho df s1 σ H1 v y u w _ I1 r r1 q1) fun z s2 ⟨zv,H2,I2,r2,q2⟩=>?_;exact jT I2 hN hi O r2 (fun s3 I3=>⟨_,H2,I3,q2⟩) hf
 rcases l with⟨F,hm⟩|⟨F,c,hc,hcell⟩
 .exact wpAny_loadName_local I.ok.kind F hn hm go
 .rcases F with F|F
  .exact wpAny_loadName_cell I.ok.kind F hc hcell go
  .rcases O with k|k
   .have:X.env.scope.names.lookup x=some .free:=F;rw[k]at this;cases this
   .have:X.env.scope.names.lookup x=some .free:=F;rw[k]at this;cases this
def ipI(f:Int->Int->Int):TIp:=fun x y H Q=>∃ i j,x=.int i/\y=.int j/\Q (.int (f i j)) H
theorem aIf:PIp X .Add (ipI fun i j=>i+j):=by
 intro df s σ H x y v u Q I G F h;obtain⟨i,j,e1,e2,q⟩:=h;subst e1;subst e2;obtain⟨t,rfl⟩:=G;obtain⟨t',rfl⟩:=F;exact iadd_int ⟨.int _,H,I.tok _,⟨_,rfl⟩,q⟩
inductive z8(c:TT)(tb:TS)(D:c6)(σ:St)(H:Hp):Prop
 | mk (W:Nat->St->Hp->Prop) (q0:(∃ m,W m σ H)) (q1:∀ m σ H,W m σ H->
 c σ H fun b H1=>if b=true then∃ N:St->Hp->Prop,(∀ σ' H',N σ' H'->∃ m',m'<m/\W m' σ' H')/\tb { D with nx:=N,ct:=N,bk:=D.nx } σ H1 else D.nx σ H1):z8 c tb D σ H
def aIg(c:TT)(tb:TS):TS:=fun D σ H=>z8 c tb D σ H
theorem z9{c:Ba}{F:List Cd}{tc:TT}{tb:TS}(U:PassesOwn (model X.prog X.w) X.A X.env X.xe)(hc:PT X c tc)(hb:PSs X F tb):PS X (.While c F [] pos) (aIg tc tb):=by
 constructor;intro df s σ H D I h;obtain⟨W,⟨m0,w0⟩,turn⟩:=h;refine wpAny_While (codeAny_whileLoop (fun n s'=>∃ Z H',Inv X df Z H' s'/\W n Z H') ?_ m0 ⟨σ,H,I,w0⟩);rintro n s1 ⟨G,H1,I1,w1⟩;refine Dk U (thn (hc df s1 G H1 _ I1 (turn n G H1 w1)) fun b s2 ⟨H2,Y,O⟩=>?_);cases b with
 | true=>
  obtain⟨N,hN,O⟩:=O;rw[Ib rfl];refine Dk U (thn (hb df s2 G H2 _ Y O) fun f s3 J=>?_);cases f with
  | next=>
   obtain⟨σ3,H3,I3,n3⟩:=J;obtain⟨m',hm,w3⟩:=hN σ3 H3 n3;exact⟨m',hm,σ3,H3,I3,w3⟩
  | cont=>
   obtain⟨σ3,H3,I3,n3⟩:=J;obtain⟨m',hm,w3⟩:=hN σ3 H3 n3;exact⟨m',hm,σ3,H3,I3,w3⟩
  | brk=>exact J
  | ret v=>exact J
 | false=>
  rw[Ia Av];exact DR ⟨G,H2,Y,O⟩
structure It where
 go:Nat->Hp->Prop
 yld:Nat->Hp->V->Hp->Prop
 stop:Nat->Hp->Prop
def lC(X:Cx)(df:List (Ad×Obj))(H:Hp)(b:Ad):Prop:=
 H b=none/\b≠X.env.locals/\b∉X.fs/\(b∈X.ex\/X.s₀.heap.objs.size<=b)/\(∀ x c,X.env.cells.lookup x=some c->c≠b)/\∀ p∈X.pn++df,p.1≠b
theorem Inv.fpOk{X:Cx}{df:List (Ad×Obj)}{σ:St}{H H':Hp}{s:Ac}{b:Ad}(I:Inv X df σ H s)(hb:s.heap.objs.size<=b)(hn:H' b=none):lC X df H' b:=by
 refine⟨hn,CG (AE I.lt hb),I.nofs hb,.inr (AM I.sz hb),fun x c e z=>?_,fun p F z=>?_⟩
 .obtain⟨v,q⟩:=I.cell x c e;exact absurd (AE q.lt (by rw[z];exact hb)) (BD _)
 .exact absurd (AE (Ap (I.pin p F).1) (by rw[z];exact hb)) (BD _)
structure aBG(P:Aq)(w:AL)(K:Ag)(tg:Ba)(J:It)(fp:List Ad)(it:Ad)(tn:Nat->A9->Prop):Prop where
 mem:it∈fp
 obj:∀ i h,tn i h->∀ b∈fp,∃ o,h.get? b=some o/\∀ v,o.data≠.cell v
 keep:∀ i h h',tn i h->(∀ b∈fp,∀ o,h.get? b=some o->h'.get? b=some o)->tn i h'
 item:∀(X:Cx),X.prog=P->X.w=w->X.K=K->X.calm=true->∀(i:Nat) (df:List (Ad×Obj)) (s:Ac) (σ:St) (H:Hp) (E:Ab->Ac->Prop),Inv X df σ H s->(∀ b∈fp,lC X df H b)->tn i s.heap->J.go i H->
  wpAny (model P w) X.A (pyNext (.ref it)) (fun r s1=>∃ u,r=some u/\
   wpAny (model P w) X.A (letOwnedTupleGo tg (.ref it) u) (fun _ s2=>∃ x H',Inv X df σ H' s2/\bQ x u/\J.yld i H x H'/\tn (i+1) s2.heap/\∀ b∈fp,H' b=none) E s1) E s
 done:∀(X:Cx),X.prog=P->X.w=w->X.K=K->X.calm=true->∀(i:Nat) (df:List (Ad×Obj)) (s:Ac) (σ:St) (H:Hp) (E:Ab->Ac->Prop),Inv X df σ H s->(∀ b∈fp,lC X df H b)->tn i s.heap->J.stop i H->
  wpAny (model P w) X.A (pyNext (.ref it)) (fun r s1=>r=none/\Inv X df σ H s1) E s
 self:∀(A:AI) (i:Nat) (s:Ac) (Q:Ab->Ac->Prop) (E:Ab->Ac->Prop),tn i s.heap->Q (.ref it) s->wpAny (model P w) A (pyIter (.ref it)) Q E s
abbrev TI:=St->Hp->(It->Hp->Prop)->Prop
inductive aHF(X:Cx)(df:List (Ad×Obj))(σ:St)(tg:Ba)(R:It->Hp->Prop)(itv:Ab)(s2:Ac):Prop
 | mk (it:Ad) (fp:List Ad) (tn:Nat->A9->Prop) (J:It) (H':Hp) (q0:itv=.ref it) (q1:Inv X df σ H' s2) (q2:aBG X.prog X.w X.K tg J fp it tn) (q3:tn 0 s2.heap) (q4:(∀ b∈fp,lC X df H' b)) (q5:R J H'):aHF X df σ tg R itv s2
def PIE(X:Cx)(df:List (Ad×Obj))(σ:St)(tg:Ba)(R:It->Hp->Prop)(itv:Ab)(s2:Ac):Prop:=aHF X df σ tg R itv s2
structure PI(X:Cx)(tg iter:Ba)(wi:TI):Prop where
 run:
  ∀(df:List (Ad×Obj)) (s:Ac) (σ:St) (H:Hp) (R:It->Hp->Prop),Inv X df σ H s->wi σ H R->
   wpAny (model X.prog X.w) X.A (eval iter X.env) (fun v s1=>wpAny (model X.prog X.w) X.A (pyIter v) (PIE X df σ tg R) X.xe s1) X.xe s
instance{X:Cx}{tg iter:Ba}{wi:TI}:CoeFun (PI X tg iter wi) (fun _=>
 ∀(df:List (Ad×Obj)) (s:Ac) (σ:St) (H:Hp) (R:It->Hp->Prop),Inv X df σ H s->wi σ H R->
  wpAny (model X.prog X.w) X.A (eval iter X.env) (fun v s1=>wpAny (model X.prog X.w) X.A (pyIter v) (PIE X df σ tg R) X.xe s1) X.xe s):=⟨fun h=>h.run⟩
theorem aER{M : E2}{A : AI}{E : Ab -> Ac -> Prop}{s : Ac}{tg : Ba}{it : Ad}{u : Ab}{o : Obj}{n : String}{vs : Array Ab}{Q : Unit -> Ac -> Prop}(G : s.heap.get? it = some o)(hc : o.cls = .type n)(hd : o.data = .fields vs)
    (hn : ["enumerate", "zip", "dict_itemiterator", "dict_reverseitemiterator", "odict_iterator", "itertools.zip_longest", "itertools.pairwise"].contains n = false) (F : Q () s) : wpAny M A (letOwnedTupleGo tg (.ref it) u) Q E s := by
  unfold letOwnedTupleGo;cases tg<;>first
    | exact Ah F
    | (cases u<;>first
        | exact Ah F
        | (refine Aa (wpAny_load G ?_)
           rw[hc, hd];show wpAny M A (if (["enumerate", "zip", "dict_itemiterator", "dict_reverseitemiterator", "odict_iterator", "itertools.zip_longest", "itertools.pairwise"].contains n&&vs[0]?==some (rawInt _)) = true then _ else _) Q E s;rw[Ia (by intro h;rw[hn, Bool.false_and]at h;cases h)];exact Ah F))
def Itl(K:Ag)(a:Ad):It:=
 ⟨fun i H=>∃ xs x,SqL K H a xs/\xs[i]?=some x,fun i H x H'=>H'=H/\∀ xs,SqL K H a xs->xs[i]?=some x,fun i H=>∃ xs,SqL K H a xs/\xs.length<=i⟩
def Itt(K:Ag)(a:Ad):It:=
 ⟨fun i H=>∃ xs x,SqT K H a xs/\xs[i]?=some x,fun i H x H'=>H'=H/\∀ xs,SqT K H a xs->xs[i]?=some x,fun i H=>∃ xs,SqT K H a xs/\xs.length<=i⟩
def Itr(lo:Int)(n:Nat):It:=⟨fun i _=>i<n,fun i H x H'=>H'=H/\x=.int (lo+i),fun i _=>n<=i⟩
theorem aDV{P:Aq}{w:AL}{K:Ag}{tg:Ba}(a it:Ad):aBG P w K tg (Itl K a) [it] it (fun i h=>h.IsListIter it a i) where
 mem:=by simp
 obj:=fun i h st b hb=>by
  have e:b=it:=by simpa using hb
  subst e;obtain⟨o,e,c,d⟩:=st;exact⟨o,e,fun v z=>by rw[d]at z;cases z⟩
 keep:=fun i h h' st k=>st.at fun o e=>k it (by simp) o e
 item:=by
  intro X G hw O hc i df s σ H E I hf st J;subst G hw O;obtain⟨xs,x,hq,hx⟩:=J;obtain⟨its,rv,p,hz⟩:=I.list hq;obtain⟨u,hu,ru⟩:=rv.get hx;obtain⟨f0,f1,f2,f3,f4,f5⟩:=hf it (by simp);refine wpAny_pyNext_list_item st p.isList (x:=u) (by simpa using hu) fun h' F Z=>?_;have U:Inv X df σ H { s with heap:=h' }:=I.turned (t':=s.toks) (fun b o hb e=>(Z.2 b hb).trans e) f0 f1 f3 f4 f5;obtain⟨o,e,c,d⟩:=id F;exact⟨u,rfl,aER (s:={ s with heap:=h' }) e c d (by decide) ⟨x,H,U,ru,⟨rfl,fun ys hy=>by rw[I.list_inj hy hq];exact hx⟩,F,fun b hb=>(hf b hb).1⟩⟩
 done:=by
  intro X G hw O hc i df s σ H E I hf st J;subst G hw O;obtain⟨xs,hq,hx⟩:=J;obtain⟨its,rv,p,hz⟩:=I.list hq;obtain⟨f0,f1,f2,f3,f4,f5⟩:=hf it (by simp);have hl:=rv.length;exact wpAny_pyNext_list_end (I.ok.hd hc) st p.isList (by simp;omega) fun h' Y=>⟨rfl,I.turned (t':=s.toks) (fun b o hb e=>Y b o hb e) f0 f1 f3 f4 f5⟩
 self:=fun _ _ _ _ _ st h=>wpAny_pyIter_listiter st h
theorem aBH{P:Aq}{w:AL}{K:Ag}{tg:Ba}(a it:Ad):aBG P w K tg (Itt K a) [it] it (fun i h=>h.IsTupleIter it a i) where
 mem:=by simp
 obj:=fun i h st b hb=>by
  have e:b=it:=by simpa using hb
  subst e;obtain⟨o,e,c,d⟩:=st;exact⟨o,e,fun v z=>by rw[d]at z;cases z⟩
 keep:=fun i h h' st k=>st.at fun o e=>k it (by simp) o e
 item:=by
  intro X G hw O hc i df s σ H E I hf st J;subst G hw O;obtain⟨xs,x,hq,hx⟩:=J;obtain⟨its,rv,p,hz⟩:=I.tuple hq;obtain⟨u,hu,ru⟩:=rv.get hx;obtain⟨f0,f1,f2,f3,f4,f5⟩:=hf it (by simp);refine wpAny_pyNext_tuple_item st (show s.heap.IsTuple a its.toArray from p) (x:=u) (by simpa using hu) fun h' F Z=>?_;have U:Inv X df σ H { s with heap:=h' }:=I.turned (t':=s.toks) (fun b o hb e=>(Z.2 b hb).trans e) f0 f1 f3 f4 f5;obtain⟨o,e,c,d⟩:=id F;exact⟨u,rfl,aER (s:={ s with heap:=h' }) e c d (by decide) ⟨x,H,U,ru,⟨rfl,fun ys hy=>by rw[I.tuple_inj hy hq];exact hx⟩,F,fun b hb=>(hf b hb).1⟩⟩
 done:=by
  intro X G hw O hc i df s σ H E I hf st J;subst G hw O;obtain⟨xs,hq,hx⟩:=J;obtain⟨its,rv,p,hz⟩:=I.tuple hq;obtain⟨f0,f1,f2,f3,f4,f5⟩:=hf it (by simp);have hl:=rv.length;exact wpAny_pyNext_tuple_end (I.ok.hd hc) st (show s.heap.IsTuple a its.toArray from p) (by simp;omega) fun h' Y=>⟨rfl,I.turned (t':=s.toks) (fun b o hb e=>Y b o hb e) f0 f1 f3 f4 f5⟩
 self:=fun _ _ _ _ _ st h=>wpAny_pyIter_tupleiter st h
theorem aBI{P:Aq}{w:AL}{K:Ag}{tg:Ba}(it:Ad)(lo:Int)(n:Nat):aBG P w K tg (Itr lo n) [it] it (fun i h=>IsRangeIter h it (lo+(i:Nat)*1) ((n:Int)-(i:Nat)) 1) where
 mem:=by simp
 obj:=fun i h st b hb=>by
  have e:b=it:=by simpa using hb
  subst e;exact⟨_,st,fun v z=>by
   have z':G6 _=Data.cell v:=z;cases z'⟩
 keep:=fun i h h' st k=>k it (by simp) _ st
 item:=by
  intro X G hw O hc i df s σ H E I hf st J;subst G hw O;obtain⟨f0,f1,f2,f3,f4,f5⟩:=hf it (by simp);have W:=Walks.range (prog:=X.prog) (w:=X.w) (I.ok.hd hc) it lo 1 n;refine W.item i s _ _ J st fun v h' tk hv F Y=>?_;obtain⟨t,rfl⟩:=hv;have U:Inv X df σ H { s with heap:=h',toks:=tk }:=I.turned (fun b o hb e=>Y b o (by simpa using hb) e) f0 f1 f3 f4 f5;refine⟨_,rfl,aER (s:={ s with heap:=h',toks:=tk }) (n:="range_iterator") F rfl rfl (by decide) ⟨.int (lo+i),H,U,⟨t,?_⟩,⟨rfl,rfl⟩,F,fun b hb=>(hf b hb).1⟩⟩;rw[Int.mul_one]
 done:=by
  intro X G hw O hc i df s σ H E I hf st J;subst G hw O;obtain⟨f0,f1,f2,f3,f4,f5⟩:=hf it (by simp);exact wpAny_pyNext_range_end (I.ok.hd hc) st (by have:n<=i:=J;omega) fun h' Z=>⟨rfl,I.turned (t':=s.toks) (fun b o hb e=>Z b o hb e) f0 f1 f3 f4 f5⟩
 self:=fun _ _ _ _ _ st h=>wpAny_pyIter_rangeiter st h
section
variable{tg:Ba}
def aI9(K:Ag)(tl:TE):TI:=fun σ H R=>tl σ H fun x H1=>As V.ref x fun a=>(∃ xs,SqL K H1 a xs)/\R (Itl K a) H1
def aJ8(K:Ag)(tl:TE):TI:=fun σ H R=>tl σ H fun x H1=>As V.ref x fun a=>(∃ xs,SqT K H1 a xs)/\R (Itt K a) H1
theorem dO{l:Ba}{tl:TE}(hl:PE X l tl):PI X tg l (aI9 X.K tl):=by
 constructor;intro df s σ H R I h;refine thn (hl df s σ H _ I h) fun v G ⟨x,H1,F,J,O⟩=>?_;obtain⟨a,e,⟨xs,hq⟩,q⟩:=O;subst e;cases J;obtain⟨its,rv,p,hz⟩:=F.list hq;refine EY p.isList ?_;refine⟨G.heap.objs.size,[G.heap.objs.size],_,_,H1,rfl,F.kept (t':=G.toks) fun b o e=>Ai _ e,aDV a _,⟨_,Aw _ rfl,rfl,rfl⟩,fun b hb=>?_,q⟩;have e:b=G.heap.objs.size:=by simpa using hb
 subst e;exact F.fpOk (Aj _) (F.hok.fresh (Aj _))
theorem sV{l:Ba}{tl:TE}(hl:PE X l tl):PI X tg l (aJ8 X.K tl):=by
 constructor;intro df s σ H R I h;refine thn (hl df s σ H _ I h) fun v F ⟨x,H1,G,J,O⟩=>?_;obtain⟨a,e,⟨xs,hq⟩,q⟩:=O;subst e;cases J;obtain⟨its,rv,p,hz⟩:=G.tuple hq;refine wpAny_pyIter_tuple (show F.heap.IsTuple a its.toArray from p) ?_;refine⟨F.heap.objs.size,[F.heap.objs.size],_,_,H1,rfl,G.kept (t':=F.toks) fun b o e=>Ai _ e,aBH a _,⟨_,Aw _ rfl,rfl,rfl⟩,fun b hb=>?_,q⟩;have e:b=F.heap.objs.size:=by simpa using hb
 subst e;exact G.fpOk (Aj _) (G.hok.fresh (Aj _))
theorem aAa{df:List (Ad×Obj)}{σ:St}{H:Hp}{s:Ac}{R:It->Hp->Prop}{E:Ab->Ac->Prop}{lo hi:Int}{t u v:Tok}{tk:Nat}(I:Inv X df σ H s)(h1:-(2^62)<=lo)(h2:lo<2^62)(O:-(2^62)<=hi)(J:hi<2^62)
  (q:R (Itr lo (hi-lo).toNat) H):wpAny (model X.prog X.w) X.A (pyIter (.ref s.heap.objs.size)) (PIE X df σ tg R) E { s with heap:=s.heap.push { cls:=.type "range",data:=.fields #[.int lo t,.int hi u,.int 1 v] },toks:=tk }:=by
 refine wpAny_pyIter_range (IsRange.new ..) (small_one h1 h2 O J) ?_;have F:Inv X df σ H { s with heap:=s.heap.push { cls:=.type "range",data:=.fields #[.int lo t,.int hi u,.int 1 v] },toks:=tk }:=I.kept fun b o e=>Ai _ e;refine⟨(s.heap.push { cls:=.type "range",data:=.fields #[.int lo t,.int hi u,.int 1 v] }).objs.size,[(s.heap.push { cls:=.type "range",data:=.fields #[.int lo t,.int hi u,.int 1 v] }).objs.size],_,_,H,rfl,
  F.kept (t':=tk) fun b o e=>Ai _ e,aBI _ lo (hi-lo).toNat,?_,fun b hb=>?_,q⟩
 .have U:lo+((0:Nat):Int)*1=lo:=by simp
  have G:(((hi-lo).toNat:Nat):Int)-((0:Nat):Int)=Builtin.Range.rangeSize lo hi 1:=by rw[rangeSize_one];split<;>omega
  show IsRangeIter _ _ (lo+((0:Nat):Int)*1) ((((hi-lo).toNat:Nat):Int)-((0:Nat):Int)) 1;rw[U,G];exact Aw _ rfl
 .have e:b=(s.heap.push { cls:=.type "range",data:=.fields #[.int lo t,.int hi u,.int 1 v] }).objs.size:=by simpa using hb
  subst e;exact F.fpOk (Aj _) (F.hok.fresh (Aj _))
def aJa(ta:TA):TI:=fun σ H R=>ta σ H fun vs H1=>∃ j:Int,vs=[.int j]/\-(2^62)<=j/\j<2^62/\R (Itr 0 j.toNat) H1
def aJb(ta:TA):TI:=fun σ H R=>ta σ H fun vs H1=>∃ i j:Int,vs=[.int i,.int j]/\(-(2^62)<=i/\i<2^62/\-(2^62)<=j/\j<2^62)/\R (Itr i (j-i).toNat) H1
theorem gN{a:Ba}{ta:TA}{p pos:Pos}(O:Gl X "range")(hm:X.mg "range"=none)(ha:PA X [a] ta)(hs:starEach [a] X.env=[(false,eval a X.env)]:=by rfl):PI X tg (.Call (.Name "range" p) [a] [] pos) (aJa ta):=by
 constructor;intro df s σ H R I h;refine Call_ (nL I O hm boot_range (C7 (thn (ha pos df s σ H _ I h) fun Y Z ⟨vs,H1,J,G,F⟩=>?_) hs rfl));obtain⟨j,e,F,q2,q⟩:=F;subst e;cases G with
 | cons r U=>
  cases U;obtain⟨t,rfl⟩:=r;exact call_range_1 (aAa J (by omega) (by omega) F q2 (by simpa using q))
theorem aDW{a b:Ba}{ta:TA}{p pos:Pos}(Z:Gl X "range")(hm:X.mg "range"=none)(ha:PA X [a,b] ta)(hs:starEach [a,b] X.env=[(false,eval a X.env),(false,eval b X.env)]:=by rfl)(F:starEach [b] X.env=[(false,eval b X.env)]:=by rfl):
  PI X tg (.Call (.Name "range" p) [a,b] [] pos) (aJb ta):=by
 constructor;intro df s σ H R I h;refine Call_ (nL I Z hm boot_range (C7 (thn (ha pos df s σ H _ I h) fun us s1 ⟨vs,H1,Y,U,G⟩=>?_) (by rw[hs,F]) (by rw[F];rfl)));obtain⟨i,j,e,⟨G,q2,q3,q4⟩,q⟩:=G;subst e;cases U with
 | cons r J=>
  cases J with
  | cons O J=>
   cases J;obtain⟨t,rfl⟩:=r;obtain⟨t',rfl⟩:=O;exact call_range_2 (aAa Y G q2 q3 q4 q)
def aJ9(wi:TI)(g:TG)(tb:TS):TS:=fun D σ H=>wi σ H fun J H1=>∃ W:Nat->Nat->St->Hp->Prop,(∃ m,W 0 m σ H1)/\∀ i m σ H,W i m σ H->
 (J.stop i H/\D.nx σ H)\/(J.go i H/\∃ N:St->Hp->Prop,(∀ σ' H',N σ' H'->∃ m',m'<m/\W (i+1) m' σ' H')/\∀ x H',J.yld i H x H'->g x σ H' fun σ2 H2=>tb { D with nx:=N,ct:=N,bk:=D.nx } σ2 H2)
def nP(fp:List Ad)(h:A9):List (Ad×Obj):=fp.filterMap fun b=>(h.get? b).map fun o=>(b,o)
theorem kC{fp:List Ad}{h:A9}{b:Ad}{o:Obj}(hb:b∈fp)(e:h.get? b=some o):(b,o)∈nP fp h:=A8.mpr ⟨b,hb,by rw[e];rfl⟩
theorem wF{fp:List Ad}{h:A9}{p:Ad×Obj}(F:p∈nP fp h):p.1∈fp/\h.get? p.1=some p.2:=by
 obtain⟨b,hb,e⟩:=A8.mp F;cases q:h.get? b with
 | none=>rw[q]at e;cases e
 | some o=>
  rw[q]at e;have G:(b,o)=p:=Bt.inj e;subst G;exact⟨hb,q⟩
theorem Inv.pinned{df:List (Ad×Obj)}{σ:St}{H:Hp}{s:Ac}{fp:List Ad}(I:Inv X df σ H s)(hf:∀ b∈fp,lC X df H b)(G:∀ b∈fp,∃ o,s.heap.get? b=some o/\∀ v,o.data≠.cell v):Inv X (df++nP fp s.heap) σ H s:=
 I.pins_of fun p F=>(AK.mp F).elim (fun z=>I.pin p (AH _ z)) fun z=>by
  obtain⟨hb,e⟩:=wF z;obtain⟨f0,f1,f2,_⟩:=hf p.1 hb;obtain⟨o,e',d⟩:=G p.1 hb;rw[e]at e';cases e';exact⟨e,f0,f1,f2,d⟩
theorem Inv.unpinned{df pl:List (Ad×Obj)}{σ:St}{H:Hp}{s:Ac}(I:Inv X (df++pl) σ H s):Inv X df σ H s:=I.pins_of fun p F=>I.pin p (AH _ (BN _ F))
theorem fO{F:Ba}{Y:List Cd}{wi:TI}{g:TG}{tb:TS}{pos:Pos}(hp:PassesOwn (model X.prog X.w) X.A X.env X.xe)(hc:X.calm=true)(hi:PI X tg F wi)(hg:PG X tg g)(hb:PSs X Y tb)
  (hs:∀ x,foldedSetIterable F X.env x=pure x:=by intro _;rfl):PS X (.For tg F Y [] pos) (aJ9 wi g tb):=by
 constructor;intro df s σ H D I h;refine wpAny_For (thn (hi df s σ H _ I h) fun v s1 h1=>thn h1 fun ay s2 h2=>?_) hs;obtain⟨it,fp,tn,J,H2,e,I2,T,st2,f2,W,⟨m0,w0⟩,turn⟩:=h2;subst e;have G:∀{H':Hp},(∀ b∈fp,H' b=none)->∀ b∈fp,lC X df H' b:=fun hn b hb=>⟨hn b hb,(f2 b hb).2⟩
 refine codeAny_forLoop_any (fun n s'=>∃ i σ' H',Inv X df σ' H' s'/\tn i s'.heap/\(∀ b∈fp,H' b=none)/\W i n σ' H') ?_ m0 ⟨0,σ,H2,I2,st2,fun b hb=>(f2 b hb).1,w0⟩;rintro n s3 ⟨i,σ3,H3,I3,ah,af,w3⟩;rcases turn i n σ3 H3 w3 with⟨stop,qn⟩|⟨go,N,hN,step⟩
 .refine Dk hp (thn (T.done X rfl rfl rfl hc i df s3 σ3 H3 X.xe I3 (G af) ah stop) fun r s4 ⟨hr,I4⟩=>?_);subst hr;exact DR ⟨σ3,H3,I4,qn⟩
 .refine Dk hp (thn (T.item X rfl rfl rfl hc i df s3 σ3 H3 X.xe I3 (G af) ah go) fun r s4 ⟨u,hr,h4⟩=>?_);subst hr;refine Dk hp (thn h4 fun _ s5 ⟨x,H5,I5,r5,y5,aa,al⟩=>?_);have am:=I5.pinned (G al) (T.obj _ _ aa);refine Dk hp (thn (hg _ s5 σ3 H5 x u _ am r5 (step x H5 y5)) fun _ s6 ⟨σ6,H6,I6,q6⟩=>?_);refine Dk hp (thn (hb _ s6 σ6 H6 _ I6 q6) fun f s7 Z=>?_);have again:∀{U:St} {O:Hp},Inv X (df++nP fp s5.heap) U O s7->N U O->∃ m,m<n/\∃ i σ' H',Inv X df σ' H' s7/\tn i s7.heap/\(∀ b∈fp,H' b=none)/\W i m σ' H':=fun{U O} I7 n7=>by
   obtain⟨m',hm,w7⟩:=hN U O n7;refine⟨m',hm,i+1,U,O,I7.unpinned,T.keep _ _ _ aa fun b hb o e=>(I7.pin (b,o) (AH _ (AH _ (kC hb e)))).1,fun b hb=>?_,w7⟩;obtain⟨o,e,d⟩:=T.obj _ _ aa b hb;exact(I7.pin (b,o) (AH _ (AH _ (kC hb e)))).2.1
  cases f with
  | next=>obtain⟨U,O,I7,n7⟩:=Z;exact again I7 n7
  | cont=>obtain⟨U,O,I7,n7⟩:=Z;exact again I7 n7
  | brk=>obtain⟨U,O,I7,Z⟩:=Z;exact⟨U,O,I7.unpinned,Z⟩
  | ret v=>obtain⟨x7,U,O,I7,r7,Z⟩:=Z;exact⟨x7,U,O,I7.unpinned,r7,Z⟩
end
theorem hJ{K:Ag}{a:Ad}{xs:List V}{g:TG}{tb:TS}{D:c6}{σ:St}{H:Hp}(F:Nat->St->Hp->Prop)(Y:F 0 σ H)(hl:∀ i σ H,i<=xs.length->F i σ H->SqL K H a xs)
  (hs:∀ i x σ H,xs[i]?=some x->F i σ H->g x σ H fun O H2=>tb { D with nx:=F (i+1),ct:=F (i+1),bk:=D.nx } O H2) (hd:∀ σ H,F xs.length σ H->D.nx σ H):
  ∃ W:Nat->Nat->St->Hp->Prop,(∃ m,W 0 m σ H)/\∀ i m σ H,W i m σ H->
   ((Itl K a).stop i H/\D.nx σ H)\/((Itl K a).go i H/\∃ N:St->Hp->Prop,(∀ J H',N J H'->∃ U,U<m/\W (i+1) U J H')/\∀ x H',(Itl K a).yld i H x H'->g x σ H' fun O H2=>tb { D with nx:=N,ct:=N,bk:=D.nx } O H2):=by
 refine⟨fun i m σ H=>m=xs.length-i/\i<=xs.length/\F i σ H,⟨xs.length,by simp,AV _,Y⟩,?_⟩;rintro i m σ H ⟨rfl,hi,p⟩;have q:=hl i σ H hi p;by_cases G:i<xs.length
 .refine .inr ⟨⟨xs,xs[i],q,by simp[G]⟩,F (i+1),fun J H' Z=>⟨xs.length-(i+1),by omega,rfl,G,Z⟩,fun x H' y=>?_⟩;obtain⟨e,y⟩:=y;subst e;exact hs i x σ _ (y xs q) p
 .have e:i=xs.length:=by omega
  subst e;exact .inl ⟨⟨xs,q,Aj _⟩,hd σ H p⟩
theorem yH{K:Ag}{a:Ad}{xs:List V}{g:TG}{tb:TS}{D:c6}{σ:St}{H:Hp}(F:Nat->St->Hp->Prop)(Y:F 0 σ H)(hl:∀ i σ H,i<=xs.length->F i σ H->SqT K H a xs)
  (hs:∀ i x σ H,xs[i]?=some x->F i σ H->g x σ H fun O H2=>tb { D with nx:=F (i+1),ct:=F (i+1),bk:=D.nx } O H2) (hd:∀ σ H,F xs.length σ H->D.nx σ H):
  ∃ W:Nat->Nat->St->Hp->Prop,(∃ m,W 0 m σ H)/\∀ i m σ H,W i m σ H->
   ((Itt K a).stop i H/\D.nx σ H)\/((Itt K a).go i H/\∃ N:St->Hp->Prop,(∀ J H',N J H'->∃ U,U<m/\W (i+1) U J H')/\∀ x H',(Itt K a).yld i H x H'->g x σ H' fun O H2=>tb { D with nx:=N,ct:=N,bk:=D.nx } O H2):=by
 refine⟨fun i m σ H=>m=xs.length-i/\i<=xs.length/\F i σ H,⟨xs.length,by simp,AV _,Y⟩,?_⟩;rintro i m σ H ⟨rfl,hi,p⟩;have q:=hl i σ H hi p;by_cases G:i<xs.length
 .refine .inr ⟨⟨xs,xs[i],q,by simp[G]⟩,F (i+1),fun J H' Z=>⟨xs.length-(i+1),by omega,rfl,G,Z⟩,fun x H' y=>?_⟩;obtain⟨e,y⟩:=y;subst e;exact hs i x σ _ (y xs q) p
 .have e:i=xs.length:=by omega
  subst e;exact .inl ⟨⟨xs,q,Aj _⟩,hd σ H p⟩
theorem wG{lo:Int}{n:Nat}{g:TG}{tb:TS}{D:c6}{σ:St}{H:Hp}(G:Nat->St->Hp->Prop)(Y:G 0 σ H)
  (hs:∀ i σ H,i<n->G i σ H->g (.int (lo+i)) σ H fun O H2=>tb { D with nx:=G (i+1),ct:=G (i+1),bk:=D.nx } O H2) (hd:∀ σ H,G n σ H->D.nx σ H):
  ∃ W:Nat->Nat->St->Hp->Prop,(∃ m,W 0 m σ H)/\∀ i m σ H,W i m σ H->
   ((Itr lo n).stop i H/\D.nx σ H)\/((Itr lo n).go i H/\∃ N:St->Hp->Prop,(∀ J H',N J H'->∃ U,U<m/\W (i+1) U J H')/\∀ x H',(Itr lo n).yld i H x H'->g x σ H' fun O H2=>tb { D with nx:=N,ct:=N,bk:=D.nx } O H2):=by
 refine⟨fun i m σ H=>m=n-i/\i<=n/\G i σ H,⟨n,by simp,AV _,Y⟩,?_⟩;rintro i m σ H ⟨rfl,hi,p⟩;by_cases F:i<n
 .refine .inr ⟨F,G (i+1),fun J H' Z=>⟨n-(i+1),by omega,rfl,F,Z⟩,fun x H' y=>?_⟩;obtain⟨e,y⟩:=y;subst e y;exact hs i σ _ F p
 .have e:i=n:=by omega
  subst e;exact .inl ⟨Aj _,hd σ H p⟩
abbrev R2:=V->V->Hp->VK->Prop
def OpR(X:Cx)(f:Ab->Ab->Sem Ab)(r:R2):Prop:=
 ∀(df:List (Ad×Obj)) (s:Ac) (σ:St) (H:Hp) (x y:V) (v u:Ab) (Q:VK),Inv X df σ H s->bQ x v->bQ y u->r x y H Q->
  wpAny (model X.prog X.w) X.A (f v u) (EP X df σ Q) X.xe s
def UnR(X:Cx)(f:Ab->Sem Ab)(r:V->Hp->VK->Prop):Prop:=
 ∀(df:List (Ad×Obj)) (s:Ac) (σ:St) (H:Hp) (x:V) (v:Ab) (Q:VK),Inv X df σ H s->bQ x v->r x H Q->
  wpAny (model X.prog X.w) X.A (f v) (EP X df σ Q) X.xe s
def eJ(X:Cx)(f:Ab)(r:List V->Hp->VK->Prop):Prop:=
 ∀(df:List (Ad×Obj)) (s:Ac) (σ:St) (H:Hp) (xs:List V) (us:List Ab) (Q:VK),Inv X df σ H s->bK xs us->r xs H Q->
  wpAny (model X.prog X.w) X.A (call f us) (EP X df σ Q) X.xe s
def aKa(X:Cx)(r:V->Hp->(Bool->Hp->Prop)->Prop):Prop:=
 ∀(df:List (Ad×Obj)) (s:Ac) (σ:St) (H:Hp) (x:V) (v:Ab) (Q:Bool->Hp->Prop),Inv X df σ H s->bQ x v->r x H Q->
  wpAny (model X.prog X.w) X.A (truthy v) (TP X df σ Q) X.xe s
def tOp(r:R2)(ta tb:TE):TE:=fun σ H Q=>ta σ H fun x H1=>tb σ H1 fun y H2=>r x y H2 Q
def tUn(r:V->Hp->VK->Prop)(ta:TE):TE:=fun σ H Q=>ta σ H fun x H1=>r x H1 Q
inductive aJc(C:Int->Int->Prop)(g:Int->Int->V)(x:V)(y:V)(H:Hp)(Q:VK):Prop
 | mk (i:_) (j:_) (q0:x=.int i) (q1:y=.int j) (q2:C i j) (q3:Q (g i j) H):aJc C g x y H Q
def rI(C:Int->Int->Prop)(g:Int->Int->V):R2:=fun x y H Q=>aJc C g x y H Q
inductive aHG(g:Int->Int->V)(x:V)(y:V)(H:Hp)(Q:VK):Prop
 | mk (i:_) (j:_) (q0:x=.int i) (q1:y=.int j) (q2:Q (g i j) H):aHG g x y H Q
def rI0(g:Int->Int->V):R2:=fun x y H Q=>aHG g x y H Q
inductive aJd(g:Int->V)(x:V)(H:Hp)(Q:VK):Prop
 | mk (i:_) (q0:x=.int i) (q1:Q (g i) H):aJd g x H Q
def rU(g:Int->V):V->Hp->VK->Prop:=fun x H Q=>aJd g x H Q
section
variable{a b c:Ba}{ta tb tc:TE}
theorem aIh(ha:PE X a ta)(hb:PE X b tb){df:List (Ad×Obj)}{s:Ac}{σ:St}{H:Hp}{R:V->V->Hp->Prop}(I:Inv X df σ H s)
  (h:ta σ H fun x H1=>tb σ H1 fun y H2=>R x y H2) {Q:Ab->Ac->Prop} {f:Ab->Ab->Sem Ab}
  (hf:∀ v u F x y H2,Inv X df σ H2 F->bQ x v->bQ y u->R x y H2->wpAny (model X.prog X.w) X.A (f v u) Q X.xe F):
  wpAny (model X.prog X.w) X.A (eval a X.env) (fun v Y=>wpAny (model X.prog X.w) X.A (eval b X.env) (fun u G=>wpAny (model X.prog X.w) X.A (f v u) Q X.xe G) X.xe Y) X.xe s:=by
 refine thn (ha df s σ H _ I h) fun v s1 ⟨x,H1,U,O,Z⟩=>?_;refine thn (hb df s1 σ H1 _ U Z) fun u F ⟨y,H2,J,r2,q2⟩=>?_;exact hf v u F x y H2 J O r2 q2
theorem aU{F:Operator}{r:R2}(O:OpR X (binaryOp F) r)(ha:PE X a ta)(hb:PE X b tb):PE X (.BinOp a F b pos) (tOp r ta tb):=by
 constructor;intro df s σ H Q I h;exact wpAny_BinOp (aIh ha hb I h fun v u G x y H2 J Y U q=>O df G σ H2 x y v u Q J Y U q)
theorem wH{F:UnaryOp}{r:V->Hp->VK->Prop}(G:UnR X (unaryOp F) r)(ha:PE X a ta):PE X (.UnaryOp F a pos) (tUn r ta):=by
 constructor;intro df s σ H Q I h;exact UnaryOp_ (thn (ha df s σ H _ I h) fun v O ⟨x,H1,Y,U,J⟩=>G df O σ H1 x v Q Y U J)
theorem opI{f:Ab->Ab->Sem Ab}{C:Int->Int->Prop}{g:Int->Int->Int}
  (F:∀(i j:Int) (t u:Tok) (s:Ac) (Q:Ab->Ac->Prop) (E:Ab->Ac->Prop),C i j->Q (.int (g i j) s.toks) { s with toks:=s.toks+1 }->wpAny (model X.prog X.w) X.A (f (.int i t) (.int j u)) Q E s):
  OpR X f (rI C fun i j=>.int (g i j)):=by
 intro df s σ H x y v u Q I J G h;obtain⟨i,j,rfl,rfl,hc,q⟩:=h;obtain⟨t,rfl⟩:=J;obtain⟨t',rfl⟩:=G;exact F i j t t' s _ _ hc ⟨.int (g i j),H,I.tok _,⟨_,rfl⟩,q⟩
theorem aJe{f:Ab->Ab->Sem Ab}{g:Int->Int->Int}
  (F:∀(i j:Int) (t u:Tok) (s:Ac) (Q:Ab->Ac->Prop) (E:Ab->Ac->Prop),Q (.int (g i j) s.toks) { s with toks:=s.toks+1 }->wpAny (model X.prog X.w) X.A (f (.int i t) (.int j u)) Q E s):
  OpR X f (rI0 fun i j=>.int (g i j)):=by
 intro df s σ H x y v u Q I J G h;obtain⟨i,j,rfl,rfl,q⟩:=h;obtain⟨t,rfl⟩:=J;obtain⟨t',rfl⟩:=G;exact F i j t t' s _ _ ⟨.int (g i j),H,I.tok _,⟨_,rfl⟩,q⟩
theorem aGU{f:Ab->Ab->Sem Ab}{g:Int->Int->Bool}
  (F:∀(i j:Int) (t u:Tok) (s:Ac) (Q:Ab->Ac->Prop) (E:Ab->Ac->Prop),Q (.bool (g i j)) s->wpAny (model X.prog X.w) X.A (f (.int i t) (.int j u)) Q E s):
  OpR X f (rI0 fun i j=>.bl (g i j)):=by
 intro df s σ H x y v u Q I J G h;obtain⟨i,j,rfl,rfl,q⟩:=h;obtain⟨t,rfl⟩:=J;obtain⟨t',rfl⟩:=G;exact F i j t t' s _ _ ⟨.bl (g i j),H,I,rfl,q⟩
def aKb(i j:Int):Prop:=0<j/\j<1073741824
def aKc(i j:Int):Prop:=0<=j/\j<=1000000/\i.natAbs<2^64
def aIi(i j:Int):Prop:=(-(2^64)<i/\i<2^64)\/(-(2^64)<j/\j<2^64)
theorem aIi.ok{i j:Int}(h:aIi i j):IntMulOk i j:=by
 rcases h with⟨h1,h2⟩|⟨h1,h2⟩
 .exact .of_left (intBits_le_64 h1 h2)
 .exact .of_right (intBits_le_64 h1 h2)
theorem cC:OpR X (binaryOp .Add) (rI0 fun i j=>.int (i+j)):=aJe fun _ _ _ _ _ _ _ q=>add_int q
theorem iV:OpR X (binaryOp .Sub) (rI0 fun i j=>.int (i-j)):=aJe fun _ _ _ _ _ _ _ q=>sub_int q
theorem eR:OpR X (binaryOp .Mult) (rI aIi fun i j=>.int (i*j)):=opI fun _ _ _ _ _ _ _ hc q=>mul_int q hc.ok
theorem aGV:OpR X (binaryOp .FloorDiv) (rI aKb fun i j=>.int (i/j)):=opI fun i j _ _ _ _ _ hc q=>by
 have h1:(0:Int)<j:=hc.1;have h2:j<1073741824:=hc.2;exact floordiv_int (by omega) (by rw[Int.fdiv_eq_ediv_of_nonneg i (by omega)];exact q) (.inl (PyProof.noPylong_small (by omega)))
theorem iW:OpR X (binaryOp .Mod) (rI (fun _ j=>0<j) fun i j=>.int (i%j)):=opI fun i j _ _ _ _ _ hc q=>by
 have h1:(0:Int)<j:=hc;exact mod_int' (by omega) (by rw[Int.fmod_eq_emod_of_nonneg i (by omega)];exact q)
theorem nQ:OpR X (binaryOp .Pow) (rI aKc fun i j=>.int (i^j.toNat)):=opI fun _ _ _ _ _ _ _ hc q=>pow_int_small hc.1 hc.2.1 hc.2.2 q
theorem unI{f:Ab->Sem Ab}{g:Int->Int}
  (F:∀(i:Int) (t:Tok) (s:Ac) (Q:Ab->Ac->Prop) (E:Ab->Ac->Prop),Q (.int (g i) s.toks) { s with toks:=s.toks+1 }->wpAny (model X.prog X.w) X.A (f (.int i t)) Q E s):
  UnR X f (rU fun i=>.int (g i)):=by
 intro df s σ H x v Q I G h;obtain⟨i,rfl,q⟩:=h;obtain⟨t,rfl⟩:=G;exact F i t s _ _ ⟨.int (g i),H,I.tok _,⟨_,rfl⟩,q⟩
theorem pT:UnR X (unaryOp .USub) (rU fun i=>.int (-i)):=unI fun _ _ _ _ _ q=>neg_int q
end
def aJf:V->V->Bool
 | .non,.non=>true|.non,.int _=>true|.int _,.non=>true|.non,.bl _=>true|.bl _,.non=>true|.non,.str _=>true|.str _,.non=>true
 | .int _,.int _=>true|.bl _,.bl _=>true|.str _,.str _=>true|.byt _,.byt _=>true
 | .int _,.str _=>true|.str _,.int _=>true|.bl _,.str _=>true|.str _,.bl _=>true
 | _,_=>false
def rEq:R2:=fun x y H Q=>aJf x y=true/\Q (.bl (decide (x=y))) H
def rNe:R2:=fun x y H Q=>aJf x y=true/\Q (.bl (!decide (x=y))) H
theorem yI{i j:Int}:decide (V.int i=V.int j)=(i==j):=by
 rw[CA];simp
theorem aES{i j:Bool}:decide (V.bl i=V.bl j)=(i==j):=by
 rw[CA];simp
theorem aCD{i j:Str}:decide (V.str i=V.str j)=(i==j):=by
 rw[CA];simp
theorem aCE{i j:Array UInt8}:decide (V.byt i=V.byt j)=(i.toList==j.toList):=by
 rw[CA];cases i;cases j;simp
section
variable{a b c:Ba}{ta tb tc:TE}
theorem cV{df:List (Ad×Obj)}{σ:St}{H:Hp}{s:Ac}{Q:VK}{k F:Bool}(I:Inv X df σ H s)(q:Q (.bl k) H)(e:k=F):EP X df σ Q (.bool F) s:=by
 subst e;exact⟨.bl k,H,I,rfl,q⟩
theorem wI:OpR X (compareOp .Eq) rEq:=by
 intro df s σ H x y v u Q I G F h;obtain⟨hs,q⟩:=h;cases x with
 | non=>
  cases G;cases y with
  | non=>cases F;exact PySem.EqNone.eq_none_none (cV I q (by simp))
  | bl j=>cases F;exact PySem.EqNone.eq_none_bool (cV I q (by simp))
  | int j=>obtain⟨t',rfl⟩:=F;exact PySem.EqNone.eq_none_int (cV I q (by simp))
  | str j=>obtain⟨t',rfl⟩:=F;exact PySem.EqNone.eq_none_str (cV I q (by simp))
  | _=>exact absurd (show false=true from hs) Av
 | bl i=>
  cases G;cases y with
  | non=>cases F;exact PySem.EqNone.eq_bool_none (cV I q (by simp))
  | bl j=>cases F;exact eq_bool (cV I q aES)
  | str j=>obtain⟨t',rfl⟩:=F;exact PySem.EqMixed.eq_bool_str (cV I q (by simp))
  | _=>exact absurd (show false=true from hs) Av
 | int i=>
  obtain⟨t,rfl⟩:=G;cases y with
  | non=>cases F;exact PySem.EqNone.eq_int_none (cV I q (by simp))
  | int j=>obtain⟨t',rfl⟩:=F;exact eq_int (cV I q yI)
  | str j=>obtain⟨t',rfl⟩:=F;exact PySem.EqMixed.eq_int_str (cV I q (by simp))
  | _=>exact absurd (show false=true from hs) Av
 | str i=>
  obtain⟨t,rfl⟩:=G;cases y with
  | non=>cases F;exact PySem.EqNone.eq_str_none (cV I q (by simp))
  | bl j=>cases F;exact PySem.EqMixed.eq_str_bool (cV I q (by simp))
  | int j=>obtain⟨t',rfl⟩:=F;exact PySem.EqMixed.eq_str_int (cV I q (by simp))
  | str j=>obtain⟨t',rfl⟩:=F;exact eq_str (cV I q aCD)
  | _=>exact absurd (show false=true from hs) Av
 | byt i=>
  obtain⟨t,rfl⟩:=G;cases y with
  | byt j=>obtain⟨t',rfl⟩:=F;exact PySem.W.eq_bytes (cV I q aCE)
  | _=>exact absurd (show false=true from hs) Av
 | _=>cases y<;>exact absurd (show false=true from hs) Av
theorem wJ:OpR X (compareOp .NotEq) rNe:=by
 intro df s σ H x y v u Q I G F h;obtain⟨hs,q⟩:=h;cases x with
 | non=>
  cases G;cases y with
  | non=>cases F;exact PySem.EqNone.ne_none_none (cV I q (by simp))
  | bl j=>cases F;exact PySem.EqNone.ne_none_bool (cV I q (by simp))
  | int j=>obtain⟨t',rfl⟩:=F;exact PySem.EqNone.ne_none_int (cV I q (by simp))
  | str j=>obtain⟨t',rfl⟩:=F;exact PySem.EqNone.ne_none_str (cV I q (by simp))
  | _=>exact absurd (show false=true from hs) Av
 | bl i=>
  cases G;cases y with
  | non=>cases F;exact PySem.EqNone.ne_bool_none (cV I q (by simp))
  | bl j=>cases F;exact ne_bool (cV I q (congrArg not aES))
  | str j=>obtain⟨t',rfl⟩:=F;exact PySem.EqMixed.ne_bool_str (cV I q (by simp))
  | _=>exact absurd (show false=true from hs) Av
 | int i=>
  obtain⟨t,rfl⟩:=G;cases y with
  | non=>cases F;exact PySem.EqNone.ne_int_none (cV I q (by simp))
  | int j=>obtain⟨t',rfl⟩:=F;exact ne_int (cV I q (congrArg not yI))
  | str j=>obtain⟨t',rfl⟩:=F;exact PySem.EqMixed.ne_int_str (cV I q (by simp))
  | _=>exact absurd (show false=true from hs) Av
 | str i=>
  obtain⟨t,rfl⟩:=G;cases y with
  | non=>cases F;exact PySem.EqNone.ne_str_none (cV I q (by simp))
  | bl j=>cases F;exact PySem.EqMixed.ne_str_bool (cV I q (by simp))
  | int j=>obtain⟨t',rfl⟩:=F;exact PySem.EqMixed.ne_str_int (cV I q (by simp))
  | str j=>obtain⟨t',rfl⟩:=F;exact ne_str (cV I q (congrArg not aCD))
  | _=>exact absurd (show false=true from hs) Av
 | byt i=>
  obtain⟨t,rfl⟩:=G;cases y with
  | byt j=>obtain⟨t',rfl⟩:=F;exact PySem.W.ne_bytes (cV I q (congrArg not aCE))
  | _=>exact absurd (show false=true from hs) Av
 | _=>cases y<;>exact absurd (show false=true from hs) Av
theorem qN:OpR X (compareOp .Lt) (rI0 fun i j=>.bl (decide (i<j))):=aGU fun _ _ _ _ _ _ _ q=>lt_int q
theorem wK:OpR X (compareOp .LtE) (rI0 fun i j=>.bl (decide (i<=j))):=aGU fun _ _ _ _ _ _ _ q=>le_int q
theorem aCF:OpR X (compareOp .Gt) (rI0 fun i j=>.bl (decide (j<i))):=aGU fun _ _ _ _ _ _ _ q=>gt_int q
theorem aHH:OpR X (compareOp .GtE) (rI0 fun i j=>.bl (decide (j<=i))):=aGU fun _ _ _ _ _ _ _ q=>ge_int q
theorem cH(b:Ba){F:Gz}(h:F≠.In:=by decide)(h2:F≠.NotIn:=by decide):behindInMarks F b=false:=by
 have G:(F==CmpOp.In)=false:=by cases F<;>first|rfl|exact absurd rfl h
 have J:(F==CmpOp.NotIn)=false:=by cases F<;>first|rfl|exact absurd rfl h2
 cases b<;>simp[behindInMarks,G,J]
theorem iP{F:Gz}{r:R2}(O:OpR X (compareOp F) r)(ha:PE X a ta)(hb:PE X b tb)(hm:behindInMarks F b=false):PE X (.Compare a [F] [b] pos) (tOp r ta tb):=by
 constructor;intro df s σ H Q I h;exact wpAny_Compare1 (aIh ha hb I h fun v u G x y H2 J Y U q=>O df G σ H2 x y v u Q J Y U q) hm
def aHI(t:TE):TT:=fun σ H Q=>t σ H fun x H'=>As V.bl x fun k=>Q k H'
theorem cG{F:Gz}{r:R2}(Y:OpR X (compareOp F) r)(ha:PE X a ta)(hb:PE X b tb)(hm:behindInMarks F b=false):PT X (.Compare a [F] [b] pos) (aHI (tOp r ta tb)):=by
 constructor;intro df s σ H Q I h;refine wpAny_isTrue_Compare1 (thn (ha df s σ H _ I h) fun v s1 ⟨x,H1,I1,Z,q1⟩=>thn (hb df s1 σ H1 _ I1 q1) fun u G ⟨y,H2,U,r2,q2⟩=>
  thn (Y df G σ H2 x y v u _ U Z r2 q2) fun c s3 ⟨z,H3,J,O,k,e,q3⟩=>?_) hm
 subst e;cases O;exact BX ⟨H3,J,q3⟩
def aET(r r':R2)(ta tb tc:TE):TE:=fun σ H Q=>ta σ H fun x H1=>tb σ H1 fun y H2=>r x y H2 fun z H3=>As V.bl z fun k=>
 (if k=true then tc σ H3 fun w' H4=>r' y w' H4 Q else Q (.bl false) H3)
theorem aEU{G F:Gz}{r O:R2}(ho:OpR X (compareOp G) r)(J:OpR X (compareOp F) O)(ha:PE X a ta)(hb:PE X b tb)(hc:PE X c tc)
  (hm:lastMarks [G,F] [b,c]=false:=by with_unfolding_all rfl):PE X (.Compare a [G,F] [b,c] pos) (aET r O ta tb tc):=by
 constructor;intro df s σ H Q I h;refine Compare_chain (thn (ha df s σ H _ I h) fun v s1 ⟨x,H1,I1,r1,q1⟩=>chain_link (thn (hb df s1 σ H1 _ I1 q1) fun u s2 ⟨y,H2,I2,Z,q2⟩=>
  thn (ho df s2 σ H2 x y v u _ I2 r1 Z q2) fun d s3 ⟨z,Y,U,r3,k,e,q3⟩=>?_)) hm
 subst e;cases r3;refine BX ?_;cases k with
 | false=>exact ite_ff ⟨.bl false,Y,U,rfl,q3⟩
 | true=>exact ite_tt (chain_last (thn (hc df s3 σ Y _ U q3) fun w' s4 ⟨z',H4,I4,r4,q4⟩=>J df s4 σ H4 y z' u w' Q I4 Z r4 q4))
theorem aAb{G F:Gz}{r O:R2}(ho:OpR X (compareOp G) r)(J:OpR X (compareOp F) O)(ha:PE X a ta)(hb:PE X b tb)(hc:PE X c tc)
  (hm:lastMarks [G,F] [b,c]=false:=by with_unfolding_all rfl):PT X (.Compare a [G,F] [b,c] pos) (aHI (aET r O ta tb tc)):=by
 constructor;intro df s σ H Q I h;refine isTrue_chain (thn (ha df s σ H _ I h) fun v s1 ⟨x,H1,I1,r1,q1⟩=>test_link (thn (hb df s1 σ H1 _ I1 q1) fun u s2 ⟨y,H2,I2,Z,q2⟩=>
  thn (ho df s2 σ H2 x y v u _ I2 r1 Z q2) fun d s3 ⟨z,Y,U,r3,k,e,q3⟩=>?_)) hm
 subst e;cases r3;refine BX ?_;cases k with
 | false=>
  obtain⟨k',e',q'⟩:=q3;cases e';exact ite_ff ⟨Y,U,q'⟩
 | true=>
  refine ite_tt (test_last (thn (hc df s3 σ Y _ U q3) fun w' s4 ⟨z',H4,I4,r4,q4⟩=>thn (J df s4 σ H4 y z' u w' _ I4 Z r4 q4) fun d' s5 ⟨z2,H5,I5,r5,k2,e2,q5⟩=>?_));subst e2;cases r5;exact BX ⟨H5,I5,q5⟩
def aJg(K:Ag)(x:V)(H:Hp)(k:Bool):Prop:=
 match x with
 | .non=>k=false
 | .bl b=>k=b
 | .int i=>k=(i != 0)
 | .str y=>y.length<=sizeLine/\k=((y.length:Int) != 0)
 | .byt y=>y.size<=sizeLine/\k=((y.size:Int) != 0)
 | .ref p=>(∃ xs,SqL K H p xs/\k=!xs.isEmpty)\/(∃ xs,SqT K H p xs/\k=!xs.isEmpty)\/∃ fo,H p=some (.dK fo)/\k=!fo.isEmpty
 | _=>False
theorem aBJ{κ:Type}{fo:List (κ×V)}{vs:List (κ×Ab)}(r:KV fo vs):(!vs.isEmpty)=!fo.isEmpty:=by
 cases r<;>rfl
theorem sW{xs:List V}{its:List Ab}(r:bK xs its):(!its.toArray.isEmpty)=!xs.isEmpty:=by
 cases r<;>simp
theorem nS:(sizeLine:Nat)<2^63:=by rw[En];decide
theorem aIj:aKa X (fun x H Q=>∃ k,aJg X.K x H k/\Q k H):=by
 intro df s σ H x v Q I J h;obtain⟨k,e,q⟩:=h;have hl:=nS;have hs:sizeLine=16777216:=En;cases x with
 | non=>
  cases J;have F:k=false:=e;subst F;exact truthy_none ⟨H,I,q⟩
 | bl b=>
  cases J;have F:k=b:=e;subst F;exact BX ⟨H,I,q⟩
 | int i=>
  obtain⟨t,rfl⟩:=J;have F:k=(i != 0):=e;subst F;exact PySem.P.truthy_int ⟨H,I,q⟩
 | str y=>
  obtain⟨t,rfl⟩:=J;obtain⟨hy,F⟩:y.length<=sizeLine/\k=((y.length:Int) != 0):=e;subst F;exact PySem.P.truthy_str (by omega) ⟨H,I.tok _,q⟩
 | byt y=>
  obtain⟨t,rfl⟩:=J;obtain⟨hy,F⟩:y.size<=sizeLine/\k=((y.size:Int) != 0):=e;subst F;exact PySem.W.truthy_bytes (by omega) ⟨H,I.tok _,q⟩
 | ref p=>
  cases J;have F:(∃ xs,SqL X.K H p xs/\k=!xs.isEmpty)\/(∃ xs,SqT X.K H p xs/\k=!xs.isEmpty)\/∃ fo,H p=some (.dK fo)/\k=!fo.isEmpty:=e;rcases F with⟨xs,hx,F⟩|⟨xs,hx,F⟩|⟨fo,hx,F⟩
  .subst F;obtain⟨its,r,pl,hz⟩:=I.list hx;have G:=r.length;exact wpAny_truthy_list pl.isList (by simp only[AA];omega) ⟨H,I.tok _,by rw[sW r];exact q⟩
  .subst F;obtain⟨its,r,pl,hz⟩:=I.tuple hx;have G:=r.length;exact truthy_tuple pl (by simp only[AA];omega) ⟨H,I.tok _,by rw[sW r];exact q⟩
  .subst F;obtain⟨hz,hS,vs,r,m⟩:fo.length<=sizeLine/\(p==sysModules)=false/\∃ vs,KV fo vs/\s.heap.DictOf (cK X.prog X.w) p vs:=I.hok p _ hx;have G:fo.length=vs.length:=Fj r;exact wpAny_truthy_dict hS m (by omega) ⟨H,I.tok _,by rw[aBJ r];exact q⟩
 | _=>exact(show False from e).elim
theorem aEV(ha:PE X a ta)(Y:∀ F,isTrue a X.env F=(do let v <- F;standAt a.pos;holding [v] (truthy v))):
  PT X a (fun σ H Q=>ta σ H fun x H'=>∃ k,aJg X.K x H' k/\Q k H'):=by
 constructor;intro df s σ H Q I h;exact isTrue_plain (thn (ha df s σ H _ I h) fun v U ⟨x,H1,J,G,O⟩=>aIj df U σ H1 x v Q J G O) (Y _)
inductive lF(x:V)(y:V)(H:Hp)(Q:VK):Prop
 | mk (i:_) (j:_) (q0:x=.str i) (q1:y=.str j) (q2:i.length+j.length<=sizeLine) (q3:Q (.str (i++j)) H):lF x y H Q
def yJ:V->V->Hp->VK->Prop:=fun x y H Q=>lF x y H Q
theorem iX:OpR X (binaryOp .Add) yJ:=by
 intro df s σ H x y v u Q I G F h;obtain⟨i,j,rfl,rfl,hz,q⟩:=h;obtain⟨t,rfl⟩:=G;obtain⟨J,rfl⟩:=F;exact add_str (fun J tk=>⟨.str (i++j),H,I.tok _,⟨_,rfl⟩,q⟩) hz
theorem eV{x:V}{F:List Ab}(r:bK [x] F):∃ u,F=[u]/\bQ x u:=by
 cases r with
 | cons J G=>cases G;exact⟨_,rfl,J⟩
theorem aCG{x y:V}{G:List Ab}(r:bK [x,y] G):∃ u F,G=[u,F]/\bQ x u/\bQ y F:=by
 cases r with
 | cons Y O=>
  cases O with
  | cons J U=>cases U;exact⟨_,_,rfl,Y,J⟩
inductive oK(xs:List V)(H:Hp)(Q:VK):Prop
 | mk (i:_) (q0:xs=[.int i]) (q1:Q (.int (if i<0 then -i else i)) H):oK xs H Q
def aBK:List V->Hp->VK->Prop:=fun xs H Q=>oK xs H Q
theorem sZ:eJ X (.builtin "abs") aBK:=by
 intro df s σ H xs F Q I r h;obtain⟨i,rfl,q⟩:=h;obtain⟨u,rfl,t,rfl⟩:=eV r;exact call_abs_int fun u tk=>⟨.int (if i<0 then -i else i),H,I.tok _,⟨_,rfl⟩,q⟩
inductive mW(xs:List V)(H:Hp)(Q:VK):Prop
 | mk (i:_) (j:_) (q0:xs=[.int i,.int j]) (q1:Q (.int (if j>i then j else i)) H):mW xs H Q
def aAc:List V->Hp->VK->Prop:=fun xs H Q=>mW xs H Q
theorem pU(hc:X.calm=true):eJ X (.builtin "max") aAc:=by
 intro df s σ H xs G Q I r h;obtain⟨i,j,rfl,q⟩:=h;obtain⟨u,w',rfl,⟨t,rfl⟩,⟨t',rfl⟩⟩:=aCG r;refine max_two_ints (I.ok.hd hc) fun h' tk k=>⟨_,H,I.kept k,?_,q⟩
 by_cases F:j>i
 .rw[Ib F,Ib F];exact⟨_,rfl⟩
 .rw[Ia F,Ia F];exact⟨_,rfl⟩
inductive mX(xs:List V)(H:Hp)(Q:VK):Prop
 | mk (i:_) (j:_) (q0:xs=[.int i,.int j]) (q1:Q (.int (if j<i then j else i)) H):mX xs H Q
def aAd:List V->Hp->VK->Prop:=fun xs H Q=>mX xs H Q
theorem jU(hc:X.calm=true):eJ X (.builtin "min") aAd:=by
 intro df s σ H xs G Q I r h;obtain⟨i,j,rfl,q⟩:=h;obtain⟨u,w',rfl,⟨t,rfl⟩,⟨t',rfl⟩⟩:=aCG r;refine min_two_ints (I.ok.hd hc) fun h' tk k=>⟨_,H,I.kept k,?_,q⟩
 by_cases F:j<i
 .rw[Ib F,Ib F];exact⟨_,rfl⟩
 .rw[Ia F,Ia F];exact⟨_,rfl⟩
theorem wL:eJ X (.type "int") (fun xs H Q=>(∃ i,xs=[.int i]/\Q (.int i) H)\/∃ k,xs=[.bl k]/\Q (.int (if k then 1 else 0)) H):=by
 intro df s σ H xs F Q I r h;rcases h with⟨i,rfl,q⟩|⟨k,rfl,q⟩
 .obtain⟨u,rfl,t,rfl⟩:=eV r;exact call_int_int ⟨.int i,H,I,⟨_,rfl⟩,q⟩
 .obtain⟨u,rfl,r1⟩:=eV r;cases r1;exact call_int_bool ⟨.int (if k then 1 else 0),H,I.tok _,⟨_,rfl⟩,q⟩
end
structure aDX(h:A9)(x dx C:Ad)(mA:Str->Option Ab):Prop where
 obj:h.get? x=some (CO C dx)
 ns:h.Ns1 dx mA
 ne:dx≠x
theorem aDY{h:A9}{dx:Ad}{mA:Str->Option Ab}(n:h.Ns1 dx mA):∃ od,h.get? dx=some od/\∀ name,F9 name od=some (mA name):=by
 obtain⟨o,es,ep,ho,hd,hk,_,hm⟩:=n;refine⟨o,ho,fun name=>?_⟩;have e:=hm name;unfold nsFind findBy at e;rw[<- Array.find?_toList]at e;unfold F9;rw[hd];dsimp only;split
 .rename_i y q;rw[q]at e;exact congrArg some e
 .rename_i q;rw[q]at e;have a:es.toList.any (·.refKey)=false:=by
   rw[List.any_eq_false];intro y G;obtain⟨z,t,hkey⟩:=hk y (Array.mem_toList_iff.mp G);simp[DictEntry.refKey,hkey]
  have F:¬ es.toList.any (·.refKey)=true:=by rw[a];exact Av
  rw[Ia F];exact congrArg some e
theorem aDX.look{h:A9}{x dx C:Ad}{mA:Str->Option Ab}(I:aDX h x dx C mA):∃ od,PySem.W.InstAt h x (CO C dx) C (some od)/\∀ name,F9 name od=some (mA name):=
 let ⟨od,ho,hl⟩:=aDY I.ns
 ⟨od,⟨I.obj,rfl,rfl,ho⟩,hl⟩
section
variable{prog:Aq}{K:Ag}{x dx:Ad}{mA:Str->Option Ab}{name:Str}{v:Ab}
theorem aGW{F:Bool}{Q:Ab->Ac->Prop}(X:K.In s.heap)(I:aDX s.heap x dx C mA)(U:ED K C name=true)(hh:DP K C=true)
  (ha:Br K (.ref C) name=some none) (O:mA name=some v) (G:PySem.W.handedIn v=true) (h:Q v { s with toks:=s.toks+1 }):
  wpAny (model prog w) A (getAttr (.ref x) name F) Q E s:=by
 obtain⟨od,J,hl⟩:=I.look;exact PySem.W.get_value X J (PySem.W.plainGet_of U).1 (PySem.W.findObj_own hh ha rfl (by rw[hl,O])) G h
theorem aGX{ns:List Str}{Q:Unit->Ac->Prop}(X:K.In s.heap)(I:aDX s.heap x dx C mA)
  (hs:Br K (.ref C) "__setattr__"=some (some (.builtin "object.__setattr__"))) (O:Fv K C=true) (ht:FV K C name=some none) (hh:DP K C=true)
  (hw:GK mA ns) (hsz:ns.length<=sizeLine)
  (h:∀ h',aDX h' x dx C (fun y=>if y=name then some v else mA y)->Dv dx s.heap h'->Q () { s with heap:=h',toks:=s.toks+2 }):
  wpAny (model prog w) A (setAttr (.ref x) name v) Q E s:=by
 obtain⟨od,J,hl⟩:=I.look;refine PySem.W.set_plain X J hs (PySem.W.osa_open (s:={ s with toks:=s.toks+1 }) (r:=none) X J O ht fun b=>?_);obtain⟨cd,hc,hd'⟩:=PySem.W.any_some hh;have U:s.heap.get? x=some ⟨.ref C,some dx,.plain,#[]⟩:=I.obj;refine Aa (Ah (Aa (Aa (wpAny_loadPart U (Aa (PySem.W.Looks.here (s:={ s with toks:=s.toks+1 }) (PySem.W.looks_clsIn X hc) ?_))))));rw[hd'];refine Ah (a:=some dx) (Aa (Ah (Aa ?_)));refine wpAny_nsSet1 (s:={ s with toks:=s.toks+1 }) I.ns fun h' F G=>?_;obtain⟨oD,esD,epD,hoD,hdD,hcD⟩:=F.count (PySem.Within.cons name v hw);refine Aa (wpAny_lookBehind hoD (by rw[hdD];exact pastItsLine_dict (AM hcD (by rw[AQ];omega))) ?_);exact Ah (h _ ⟨(G.2 _ (Cf I.ne)).trans I.obj,F,I.ne⟩ G)
theorem aEW{R:Hm->Ac->Prop}{vs:List Ab}{F:List (Str×Ab)}(X:K.In s.heap)(hm:FW K C=true)
  (hi:Br K (.ref C) "__init__"=some (some (.ref f))) (hf:PySem.W.typeIn K (.ref f)=some (.type "function"))
  (h:codeAny (model prog w) (A.under (.builtin "type.__call__" ⟨.ref C::vs,F⟩)) (.call (.ref f) ⟨.ref (s.heap.objs.size+1)::vs,F⟩) (PySem.W.InitBack (s.heap.objs.size+1) R)
   { s with heap:=(s.heap.push Cm).push (CO C s.heap.objs.size) }):
  codeAny (model prog w) A (.call (.ref C) ⟨vs,F⟩) R s:=by
 obtain⟨hh,g,d,t,os⟩:=s;exact PySem.W.make_core (PySem.W.makes_of X hm) (PySem.W.looks_findIn X hi) (fun self=>PySem.W.bind_fn X self hf) (.inl rfl) h
end
def fQ(f:Str)(v:V):List (Str×V)->List (Str×V)
 | []=>[(f,v)]
 | (g,x)::r=>if g=f then(g,v)::r else(g,x)::fQ f v r
theorem qO(f g:Str)(v:V):∀ fs:List (Str×V),(fQ f v fs).lookup g=if g=f then some v else fs.lookup g
 | []=>by
  show Do g [(f,v)]=_;by_cases h:g=f
  .have hb:(g==f)=true:=beq_iff_eq.mpr h;simp only[Do,hb,Ib h]
  .have hb:(g==f)=false:=beq_eq_false_iff_ne.mpr h;simp only[Do,hb,Ia h]
 | (k,x)::r=>by
  have G:=qO f g v r;rw[show fQ f v ((k,x)::r)=(if k=f then(k,v)::r else(k,x)::fQ f v r) from rfl];by_cases F:k=f
  .rw[Ib F];by_cases h:g=k
   .have hb:(g==k)=true:=beq_iff_eq.mpr h;simp only[Do,hb,Ib (h.trans F)]
   .have hb:(g==k)=false:=beq_eq_false_iff_ne.mpr h;simp only[Do,hb,Ia (fun e:g=f=>h (e.trans F.symm))]
  .rw[Ia F];by_cases h:g=k
   .have hb:(g==k)=true:=beq_iff_eq.mpr h;simp only[Do,hb,Ia (fun e:g=f=>F (h.symm.trans e))]
   .have hb:(g==k)=false:=beq_eq_false_iff_ne.mpr h;simp only[Do,hb];exact G
theorem pV(f:Str)(v:V):∀ fs:List (Str×V),f∈(fQ f v fs).map (·.1)/\∀ g,g∈fs.map (·.1)->g∈(fQ f v fs).map (·.1)
 | []=>⟨by simp[fQ],fun g h=>by simp at h⟩
 | (k,x)::r=>by
  obtain⟨i1,i2⟩:=pV f v r;rw[show fQ f v ((k,x)::r)=(if k=f then(k,v)::r else(k,x)::fQ f v r) from rfl];by_cases F:k=f
  .rw[Ib F];subst F;exact⟨by simp,fun g h=>by simpa using h⟩
  .rw[Ia F];refine⟨?_,fun g h=>?_⟩
   .rw[AF];exact Al _ i1
   .rw[AF]at h ⊢;rcases An.mp h with e|e
    .exact An.mpr (.inl e)
    .exact Al _ (i2 g e)
theorem qP(f:Str)(v:V):∀ fs:List (Str×V),(fQ f v fs).length<=fs.length+1
 | []=>by simp[fQ]
 | (k,x)::r=>by
  have G:=qP f v r;rw[show fQ f v ((k,x)::r)=(if k=f then(k,v)::r else(k,x)::fQ f v r) from rfl];by_cases F:k=f
  .rw[Ib F,AQ,AQ];omega
  .rw[Ia F,AQ,AQ];omega
theorem oG.some_of{v:V}{o:Option Ab}(r:oG (some v) o):∃ u,o=some u/\bQ v u:=by
 cases o with
 | none=>exact(show False from r).elim
 | some u=>exact⟨u,rfl,r⟩
theorem aDZ{v:V}{u:Ab}(r:bQ v u):PySem.W.handedIn u=true:=by
 cases v with
 | non=>cases(show u=CW from r);rfl
 | bl b=>cases(show u=Gh b from r);rfl
 | int i=>obtain⟨t,e⟩:=(show∃ t,u=BH i t from r);cases e;rfl
 | str x=>obtain⟨t,e⟩:=(show∃ t,u=Ff x t from r);cases e;rfl
 | byt b=>obtain⟨t,e⟩:=(show∃ t,u=Value.bytes b t from r);cases e;rfl
 | flt b=>obtain⟨t,e⟩:=(show∃ t,u=G5 b t from r);cases e;rfl
 | ref a=>cases(show u=AD a from r);rfl
 | ty n=>cases(show u=Bq n from r);rfl
section
variable{a dx:Ad}{fs im:List (Str×V)}
theorem yK(hok:HOk P w H h)(e:H a=some (.ins C dx fs)):∃ mA,aDX h a dx C mA/\(∀ f,oG (fs.lookup f) (mA f))/\GK mA (fs.map (·.1))/\fs.length<=1000/\H dx=some (.own a):=by
 obtain⟨d,z,ne,ob,mA,n,r,q⟩:=(show bZ P w H h a (.ins C dx fs) from hok a _ e)
 exact⟨mA,⟨ob,n,ne⟩,r,q,z,d⟩
end
structure Cls(K:Ag)(C:Ad):Prop where
 pg:ED K C Dy=true
 hd:DP K C=true
 po:Fv K C=true
 sa:Br K (.ref C) "__setattr__"=some (some (.builtin "object.__setattr__"))
theorem Cls.get{K:Ag}{C:Ad}(c:Cls K C)(f:Str):ED K C f=true:=c.pg
def iY(K:Ag)(C:Ad)(f:Str):Prop:=Br K (.ref C) f=some none
theorem iY.taker{K:Ag}{C:Ad}{f:Str}(n:iY K C f):FV K C f=some none:=by
 unfold FV;rw[show Br K (.ref C) f=some none from n];rfl
structure Con(K:Ag)(C:Ad)(f:Str)(v:V)(u:Ab):Prop where
 at_:Br K (.ref C) f=some (some u)
 rel:bQ v u
 get:Fu K u "__get__"=some none
 cp:PySem.W.copiedNames.contains f=false
structure aKL(K:Ag)(C:Ad)(m:Str)(f:Ad):Prop where
 at_:Br K (.ref C) m=some (some (.ref f))
 fn:Gv K (.ref f)=true
 kp:AJ K (.ref f)=true
section
variable{a dx:Ad}{fs:List (Str×V)}{f:Str}{v:V}
theorem aBL{b:Bool}{Q:Ab->Ac->Prop}(I:Inv X df σ H s)(e:H a=some (.ins C dx fs))(c:Cls X.K C)(n:iY X.K C f)(l:fs.lookup f=some v)
  (h:∀ u s',Inv X df σ H s'->bQ v u->Q u s'):wpAny (model X.prog X.w) A (getAttr (.ref a) f b) Q E s:=by
 obtain⟨mA,O,r,_,_,_⟩:=yK I.hok e;obtain⟨u,hu,ru⟩:=oG.some_of (v:=v) (o:=mA f) (by rw[<- l];exact r f);exact aGW I.kIn O (c.get f) c.hd n hu (aDZ ru) (h u _ (I.tok _) ru)
theorem aBM{y:V}{u:Ab}{Q:Unit->Ac->Prop}(I:Inv X df σ H s)(e:H a=some (.ins C dx fs))(c:Cls X.K C)(n:iY X.K C f)(hl:fs.length<1000)(U:bQ y u)
  (h:∀ s',Inv X df σ (upd H a (.ins C dx (fQ f y fs))) s'->Q () s'):wpAny (model X.prog X.w) A (setAttr (.ref a) f u) Q E s:=by
 obtain⟨mA,O,r,wi,_,ho⟩:=yK I.hok e;have G:(fs.map (·.1)).length<=sizeLine:=by rw[Af,En];omega
 refine aGX I.kIn O c.sa c.po n.taker c.hd wi G fun h' F Y=>h _ ?_;have hd:∃ o,h'.get? dx=some o:=let ⟨o,_,_,e',_⟩:=F.ns;⟨o,e'⟩
 refine I.write (x:=a) (e:=dx) (by rw[e];exact Cy) (.inr ho) (fun b q hb z=>(Y.2 b hb).trans z) hd ?_;refine⟨by rw[aF O.ne];exact ho,?_,O.ne,F.obj,_,F.ns,fun g=>?_,fun g J=>?_⟩
 .have:=qP f y fs;omega
 .show oG ((fQ f y fs).lookup g) (if g=f then some u else mA g);rw[qO];by_cases q:g=f
  .rw[Ib q,Ib q];exact U
  .rw[Ia q,Ia q];exact r g
 .by_cases q:g=f
  .rw[q];exact(pV f y fs).1
  .refine(pV f y fs).2 g (wi g fun z=>J ?_);show(if g=f then some u else mA g)=none;rw[Ia q];exact z
theorem Inv.made(I:Inv X df σ H s):Inv X df σ (upd (upd H s.heap.objs.size (.own (s.heap.objs.size+1))) (s.heap.objs.size+1) (.ins C s.heap.objs.size []))
  { s with heap:=(s.heap.push Cm).push (CO C s.heap.objs.size) }:=by
 have F:(s.heap.push Cm).get? s.heap.objs.size=some Cm:=Aw s.heap rfl;have O:((s.heap.push Cm).push (CO C s.heap.objs.size)).get? (s.heap.objs.size+1)=some (CO C s.heap.objs.size):=by
  have:=Aw (s.heap.push Cm) (o:=CO C s.heap.objs.size) rfl
  rwa [Co]at this
 have J:(s.heap.push Cm).Ns s.heap.objs.size (fun _=>none):=⟨Cm,#[],_,F,rfl,(fun e G=>absurd G (by simp)),fun _=>rfl⟩
 have U:=I.laid (a:=s.heap.objs.size) (o:=.own (s.heap.objs.size+1)) (h':=s.heap.push Cm) (t':=s.toks) (fun b u q=>Ai _ q) (Aj _) ⟨_,F⟩;refine U.laid (a:=s.heap.objs.size+1) (o:=.ins C s.heap.objs.size []) (t':=s.toks) (fun b u q=>Ai _ q) (DX (Co _ _)) ?_;have ne:s.heap.objs.size≠s.heap.objs.size+1:=Ar (BR _);refine⟨by rw[aF ne,aA],AV _,ne,O,fun _=>none,(Heap.Ns1.of_empty J).at fun o q=>Ai _ q,fun _=>Cy,fun y Y=>absurd rfl Y⟩
theorem aGY{prog:Aq}{w:AL}{env:Env}{e:Ba}{f:Str}{pos:Pos}{s:Ac}{Q:Ab->Ac->Prop}(hb:attributeBase e f env (eval e env)=eval e env)
  (h:wpAny (model prog w) A (eval e env) (fun o F=>wpAny (model prog w) A (getAttr o f true) Q E F) E s):wpAny (model prog w) A (eval (.Attribute e f pos) env) Q E s:=
 Attribute_any_ h (by rw[arm_eval_Attribute,hb])
end
def aJh(K:Ag)(ta:TE)(f:Str):TE:=fun σ H Q=>ta σ H fun x H1=>∃ a C dx fs v,x=.ref a/\H1 a=some (.ins C dx fs)/\Cls K C/\iY K C f/\fs.lookup f=some v/\Q v H1
def aKd(K:Ag)(ta tv:TE)(f:Str):TS:=fun D σ H=>tv σ H fun y H1=>ta σ H1 fun x H2=>∃ a C dx fs,x=.ref a/\H2 a=some (.ins C dx fs)/\Cls K C/\iY K C f/\fs.length<1000/\
 D.nx σ (upd H2 a (.ins C dx (fQ f y fs)))
section
variable{o value:Ba}{f:Str}{ig tpos:Pos}{ta tv:TE}
theorem eU(O:PE X e ta)(hb:attributeBase e f X.env (eval e X.env)=eval e X.env):PE X (.Attribute e f pos) (aJh X.K ta f):=by
 constructor;intro df s σ H Q I h;refine aGY hb (thn (O df s σ H _ I h) fun u s1 ⟨x,H1,J,U,a,C,dx,fs,v,ex,F,c,n,l,q⟩=>?_);subst ex;obtain rfl:u=AD a:=U;exact aBL J F c n l fun u' Z G Y=>⟨v,H1,G,Y,q⟩
theorem tD(ha:PE X o ta)(hv:PE X value tv)(hs:swapsWith value (some (.Attribute o f ig)) pos.line X.env=pure false):PS X (.Assign [.Attribute o f ig] value pos) (aKd X.K ta tv f):=by
 constructor;intro df s σ H D I h;refine plainObj_wpAny_Assign_Attribute (thn (hv df s σ H _ I h) fun u Z ⟨y,H1,O,U,q⟩=>thn (ha df Z σ H1 _ O q) fun Y s2 ⟨x,H2,J,rx,a,C,dx,fs,ex,G,c,n,l,q2⟩=>?_) hs;subst ex;obtain rfl:Y=AD a:=rx;exact aBM J G c n l U fun s3 F=>⟨σ,_,F,q2⟩
end
section
variable{Q:Ab->Ac->Prop}{c:Ab}{b:Bool}
inductive lG(K:Ag)(H:Hp):V->Ab->Prop where
 | non:lG K H .non (.type "NoneType")
 | bl (x:Bool):lG K H (.bl x) (.type "bool")
 | int (i:Int):lG K H (.int i) (.type "int")
 | str (x:Str):lG K H (.str x) (.type "str")
 | flt (x:UInt64):lG K H (.flt x) (.type "float")
 | lst {a:Ad} {xs:List V} (e:H a=some (.lst xs)):lG K H (.ref a) (.type "list")
 | frz {a:Ad} {o:Obj} {xs:List V} (e:H a=some (.frz o (.lst xs))):lG K H (.ref a) (.type "list")
 | tup {a:Ad} {xs:List V} (e:H a=some (.tup xs)):lG K H (.ref a) (.type "tuple")
 | dK {a:Ad} {fo:List (Key×V)} (e:H a=some (.dK fo)):lG K H (.ref a) (.type "dict")
 | dT {a:Ad} {fo:List (List Key×V)} (e:H a=some (.dT fo)):lG K H (.ref a) (.type "dict")
 | ins {a C dx:Ad} {fs:List (Str×V)} (e:H a=some (.ins C dx fs)) (cl:Cls K C) (ha:Br K (.ref C) "__class__"=some (some (.builtin "object.__class__")))
   (hn:Fu K (.builtin "object.__class__") "__get__"=some (some (.builtin "getset_descriptor.__get__"))) (htk:PySem.W.takesIn K (.builtin "object.__class__")=some true)
   (hm:Gi K C (.type "object")=some true):lG K H (.ref a) (.ref C)
theorem aD0{x:V}{u t:Ab}(I:Inv X df σ H s)(G:bQ x u)(ty:lG X.K H x t)(e:Ck X.K t c=some b)(h:∀ tk,Q (.bool b) { s with toks:=tk }):
  wpAny (model X.prog X.w) A (call (.builtin "isinstance") [u,c]) Q E s:=by
 cases ty with
 | non=>cases(show u=CW from G);exact Cb PySem.W.kitx_none I.kIn Cy e (fun z=>nomatch z) h
 | bl y=>cases(show u=Gh y from G);exact Cb PySem.W.kitx_bool I.kIn Cy e (fun z=>nomatch z) h
 | int i=>obtain⟨t,q⟩:=(show∃ t,u=BH i t from G);cases q;exact Cb PySem.W.kitx_int I.kIn Cy e (fun z=>nomatch z) h
 | str y=>obtain⟨t,q⟩:=(show∃ t,u=Ff y t from G);cases q;exact Cb PySem.W.kitx_str I.kIn Cy e (fun z=>nomatch z) h
 | flt y=>obtain⟨t,q⟩:=(show∃ t,u=G5 y t from G);cases q;exact Cb PySem.W.kitx_float I.kIn Cy e (fun z=>nomatch z) h
 | @lst a xs F=>
  cases(show u=AD a from G);obtain⟨_,_,n,_,h1⟩:=(show bZ X.prog X.w H s.heap a (.lst xs) from I.hok a _ F)
  exact Cb PySem.W.kitx_list I.kIn ⟨_,h1,rfl⟩ e (fun z=>nomatch z) h
 | @frz a ob xs F=>
  cases(show u=AD a from G);obtain⟨_,_,_,n,_,h1⟩:=(show bZ X.prog X.w H s.heap a (.frz ob (.lst xs)) from I.hok a _ F)
  exact Cb PySem.W.kitx_list I.kIn ⟨_,h1,rfl⟩ e (fun z=>nomatch z) h
 | @tup a xs F=>
  cases(show u=AD a from G);obtain⟨_,_,_,p⟩:=(show bZ X.prog X.w H s.heap a (.tup xs) from I.hok a _ F)
  obtain⟨o,h1,h2,_⟩:=p;exact Cb PySem.W.kitx_tuple I.kIn ⟨o,h1,h2.1⟩ e (fun z=>nomatch z) h
 | @dK a fo F=>
  cases(show u=AD a from G);obtain⟨_,_,vs,_,p⟩:=(show bZ X.prog X.w H s.heap a (.dK fo) from I.hok a _ F)
  obtain⟨o,es,ep,h1,h2,_⟩:=p;exact Cb PySem.W.kitx_dict I.kIn ⟨o,h1,h2.1⟩ e (fun z=>nomatch z) h
 | @dT a fo F=>
  cases(show u=AD a from G);obtain⟨_,_,xs,_,o,es,ep,h1,h2,_⟩:=(show bZ X.prog X.w H s.heap a (.dT fo) from I.hok a _ F)
  exact Cb PySem.W.kitx_dict I.kIn ⟨o,h1,h2.1⟩ e (fun z=>nomatch z) h
 | @ins a C dx fs F cl ha hn U hm=>
  cases(show u=AD a from G);obtain⟨mA,O,_⟩:=yK I.hok F;obtain⟨od,J,_⟩:=O.look;exact Cb (PySem.W.kitx_own (cl.get _) cl.hd ha hn U hm) I.kIn J e (fun z=>nomatch z) h
end
structure cF(k:Nat)(A:AI):Prop where
 hd:A.handled=none
 dp:A.depth+3*k+5<recursionLimit
 un:A.units+16*k+200<cLine
 gd:A.guards=some []
theorem cF.mono{j k:Nat}{A:AI}(r:cF k A)(h:j<=k):cF j A:=⟨r.hd,by have:=r.dp;omega,by have:=r.un;omega,r.gd⟩
theorem cF.deeper{k:Nat}{A:AI}(r:cF (k+1) A)(env:Env):cF k (A.deeper env):=
 ⟨r.hd,by have:=r.dp;show A.depth+1+3*k+5<_;omega,by have:=r.un;show A.units+3+16*k+200<_;omega,r.gd⟩
theorem cF.in1{k:Nat}{A:AI}(r:cF (k+1) A):cF k A.in1:=
 ⟨r.hd,by have:=r.dp;show A.depth+3*k+5<_;omega,by have:=r.un;show A.units+1+16*k+200<_;omega,r.gd⟩
theorem aBN{A:AI}{C:Ad}{G:List Ab}{F:List (Str×Ab)}:(A.under (.builtin "type.__call__" ⟨.ref C::G,F⟩)).depth=A.depth+1:=by
 first|rfl|simp[FG,Code.weight,Code.isCreation,Code.isGuard,Code.isCaller,Code.frames,GY,guardIds]
theorem aBO{A:AI}{C:Ad}{G:List Ab}{F:List (Str×Ab)}:(A.under (.builtin "type.__call__" ⟨.ref C::G,F⟩)).units=A.units+1:=by
 first|rfl|simp[FG,Code.cUnits,Code.frames,GY]
theorem aAe{A:AI}{C:Ad}{F:List Ab}{G:List (Str×Ab)}:(A.under (.builtin "type.__call__" ⟨.ref C::F,G⟩)).guards=A.guards:=by
 first|rfl|(cases A;rename_i a b c g e;cases g<;>first|rfl|simp[FG,Code.guards,Code.isGuard,guardIds,pushGuards])
theorem cF.make{k:Nat}{A:AI}(r:cF (k+1) A)(C:Ad)(F:List Ab)(G:List (Str×Ab)):cF k (A.under (.builtin "type.__call__" ⟨.ref C::F,G⟩)):=
 ⟨r.hd,by have:=r.dp;rw[aBN];omega,by have:=r.un;rw[aBO];omega,aAe.trans r.gd⟩
theorem cF.depth{k:Nat}{A:AI}(r:cF k A):A.depth<recursionLimit:=by have:=r.dp;omega
theorem cF.units{k:Nat}{A:AI}(r:cF k A):A.units+64<cLine:=by have:=r.un;omega
theorem cF.units0{k:Nat}{A:AI}(r:cF k A):A.units<cLine:=by have:=r.un;omega
def aGZ:TA:=fun _ H Q=>Q [] H
def aAf(ta:TE)(tr:TA):TA:=fun σ H Q=>ta σ H fun x H1=>tr σ H1 fun xs H2=>Q (x::xs) H2
section
variable{t:TA}
theorem aB:PA X [] aGZ:=⟨fun _ _ _ _ H Q I h=>Calls.spliced_nil ⟨[],H,I,.nil,h⟩⟩
theorem jD(ha:PE X e te)(F:PA X es t)(hs:starEach (e::es) X.env=(false,eval e X.env)::starEach es X.env:=by rfl):PA X (e::es) (aAf te t):=by
 constructor;intro pos df s σ H Q I h;rw[hs];show wpAny _ _ (spliced ((false,eval e X.env)::backTo pos (starEach es X.env))) _ _ s;refine Calls.spliced_cons (thn (ha df s σ H _ I h) fun u Z ⟨x,H1,O,J,U⟩=>?_);exact thn (F pos df Z σ H1 _ O U) fun us s2 ⟨xs,H2,G,Y,q2⟩=>⟨x::xs,H2,G,.cons J Y,q2⟩
def aKe(t:TA):TE:=fun σ H Q=>t σ H fun xs H1=>xs.length<=sizeLine/\∀ p,H1 p=none->Q (.ref p) (upd H1 p (.tup xs))
def aKf(t:TA):TE:=fun σ H Q=>t σ H fun xs H1=>xs.length<=sizeLine/\∀ p,H1 p=none->Q (.ref p) (upd H1 p (.lst xs))
theorem cE{x1}(h:PA X es t):PE X (.Tuple es x1 pos) (aKe t):=by
 constructor;intro df s σ H Q I O;refine wpAny_Tuple_spliced (thn (h pos df s σ H _ I O) fun J F ⟨xs,H1,G,r,z,q⟩=>⟨by rw[<- r.length];exact z,?_⟩);have hf:H1 F.heap.objs.size=none:=G.hok.fresh (Aj _);refine⟨.ref F.heap.objs.size,upd H1 F.heap.objs.size (.tup xs),G.laid (t':=F.toks) (fun b u e=>Ai _ e) (Aj _) ?_,rfl,q _ hf⟩;exact⟨z,J,r,⟨_,Aw _ rfl,⟨rfl,_,rfl⟩,rfl⟩⟩
theorem cJ(h:PA X es t):PE X (.List es pos) (aKf t):=by
 constructor;intro df s σ H Q I O;refine wpAny_List_spliced (thn (h pos df s σ H _ I O) fun J F ⟨xs,H1,G,r,z,q⟩=>⟨by rw[<- r.length];exact z,?_⟩);have hf:H1 F.heap.objs.size=none:=G.hok.fresh (Aj _);refine⟨.ref F.heap.objs.size,upd H1 F.heap.objs.size (.lst xs),G.laid (t':=F.toks) (fun b u e=>Ai _ e) (Aj _) ?_,rfl,q _ hf⟩;exact⟨z,J,0,r,Aw _ rfl⟩
end
abbrev Sp:=List V->Hp->VK->XK->Prop
abbrev CXT:=List Env->Hp->Ac->XK->Ab->Ac->Prop
structure tE(P:Aq)(w:AL)(K:Ag)(mg:Str->Option Ab)(base:A9)(A:AI)(outer:List Env)(s:Ac)(H:Hp):Prop where
 frames:A.frames=some outer
 mod:Mod K mg base
 bs:∀ b o,base.get? b=some o->s.heap.get? b=some o/\H b=none
 bsz:base.objs.size<=s.heap.objs.size
 funs:s.heap.FunFrames base outer
 frf:∀ b∈frs outer,H b=none
 hok:HOk P w H s.heap
 bare:EJ s.gens
inductive aJi(outer:List Env)(P:Aq)(w:AL)(H:Hp)(s:Ac)(Q:VK)(u:Ab)(s':Ac):Prop
 | mk (v:_) (H':_) (q0:s'.os=s.os) (q1:EJ s'.gens) (q2:Un (frs outer) [] H H' s.heap s'.heap) (q3:HOk P w H' s'.heap) (q4:bQ v u) (q5:Q v H'):aJi outer P w H s Q u s'
def CE(outer:List Env)(P:Aq)(w:AL)(H:Hp)(s:Ac)(Q:VK)(u:Ab)(s':Ac):Prop:=aJi outer P w H s Q u s'
def CR(CX:CXT)(outer:List Env)(P:Aq)(w:AL)(H:Hp)(s:Ac)(Q:VK)(E:XK)(r:Hm)(s':Ac):Prop:=
 match r with
 | .ok (.ret u)=>CE outer P w H s Q u s'
 | .ok _=>False
 | .error e=>CX outer H s E e s'
structure cA(P:Aq)(w:AL)(K:Ag)(mg:Str->Option Ab)(base:A9)(CX:CXT)(k:Nat)(f:Ad)(fd:A4)(ps:List Str)(sp:Sp):Prop where
 len:∀ vs H Q E,sp vs H Q E->vs.length=ps.length
 run:∀(A:AI) (outer:List Env) (s:Ac) (H:Hp) (args:Args) (us:List Ab) (vs:List V) (Q:VK) (E:XK),cF k A->tE P w K mg base A outer s H->Gn s fd args (ps.zip us)->bK vs us->sp vs H Q E->
  codeAny (model P w) A (.call (.ref f) args) (CR CX outer P w H s Q E) s
theorem cA.mono{P:Aq}{w:AL}{K:Ag}{mg:Str->Option Ab}{base:A9}{CX:CXT}{j k:Nat}{f:Ad}{fd:A4}{ps:List Str}{sp:Sp}(F:cA P w K mg base CX j f fd ps sp)(h:j<=k):
  cA P w K mg base CX k f fd ps sp:=⟨F.len,fun A outer s H G J vs Q E O=>F.run A outer s H G J vs Q E (O.mono h)⟩
theorem tE.make{P:Aq}{w:AL}{K:Ag}{mg:Str->Option Ab}{base:A9}{A:AI}{outer:List Env}{s:Ac}{H:Hp}(e:tE P w K mg base A outer s H)(C:Ad)(F:List Ab)(G:List (Str×Ab)):
  tE P w K mg base (A.under (.builtin "type.__call__" ⟨.ref C::F,G⟩)) outer s H:=⟨by first|exact e.frames|(simpa[FG,Code.envs,GY,pushEnvs]using e.frames),e.mod,e.bs,e.bsz,e.funs,e.frf,e.hok,e.bare⟩
section
variable{s':Ac}
theorem Inv.env0(I:Inv X df σ H s):tE X.prog X.w X.K X.mg X.base X.A X.stack s H:=
 ⟨I.ok.frames,I.ok.mod,I.bs,AM I.ok.bsz I.sz,I.stack,I.stkFree,I.hok,I.bare⟩
theorem Inv.after{Q:VK}{u:Ab}(I:Inv X df σ H s)(h:CE X.stack X.prog X.w H s Q u s'):EP X df σ Q u s':=by
 obtain⟨v,H',os,bare,un,hok,r,q⟩:=h;obtain⟨hh,g,d,t,os'⟩:=s';obtain rfl:os'=s.os:=os;exact⟨v,H',I.call (h':=hh) (g':=g) (d':=d) (t':=t) (ch:=[]) un hok bare (fun b z=>absurd z (by simp)),r,q⟩
end
def aHJ(sp:Sp)(il:List V)(E:XK)(t:TA):TE:=fun σ H Q=>t σ H fun vs H1=>sp (vs++il) H1 Q E
def aJj(C:Ad)(sp:Sp)(il:List V)(E:XK)(t:TA):TE:=fun σ H Q=>t σ H fun vs H1=>∀ x dx,H1 x=none->H1 dx=none->dx≠x->
 sp (.ref x::(vs++il)) (upd (upd H1 dx (.own x)) x (.ins C dx [])) (fun v H2=>v=.non/\Q (.ref x) H2) E
def dA(K:Ag)(fd:A4)(ps:List Str)(ds:List Ab):Prop:=
 ∀(s:Ac) (us:List Ab),K.In s.heap->(us++ds).length=ps.length->Gn s fd ⟨us,[]⟩ (ps.zip (us++ds))
theorem dA.all{K:Ag}{fd:A4}{ps:List Str}(h:∀ F:List Ab,F.length=ps.length->bindArgs fd ⟨F,[]⟩=pure (ps.zip F)):dA K fd ps []:=fun s F _ hl=>by
 rw[Bp]at hl ⊢;exact .of_eq (h F hl)
def lH(CX:CXT)(X:Cx)(E:XK):Prop:=∀(df:List (Ad×Obj)) (σ:St) (H:Hp) (s:Ac) (e:Ab) (s':Ac),Inv X df σ H s->CX X.stack H s E e s'->X.xe e s'
section
variable{CX:CXT}{k:Nat}{fd:A4}{ps:List Str}{sp:Sp}{il:List V}{ds:List Ab}{E:XK}{x m:Str}{p gp:Pos}{o:Ba}{ta:TE}{t:TA}
theorem aEX{df:List (Ad×Obj)}{σ:St}{H:Hp}{s:Ac}{Q:VK}{G:List Ab}{vs:List V}(F:cA X.prog X.w X.K X.mg X.base CX k f fd ps sp)(U:cF k X.A)(hb:dA X.K fd ps ds)(hd:bK il ds)(Y:lH CX X E)
  (I:Inv X df σ H s) (r:bK vs G) (h:sp (vs++il) H Q E):wpAny (model X.prog X.w) X.A (call (.ref f) G) (EP X df σ Q) X.xe s:=by
 have O:bK (vs++il) (G++ds):=r.append hd;have hl:(G++ds).length=ps.length:=by rw[<- O.length];exact F.len _ _ _ _ h
 refine DF (C2 (F.run X.A X.stack s H ⟨G,[]⟩ (G++ds) (vs++il) Q E U I.env0 (hb s G I.kIn hl) O h) fun r s' J=>?_);cases r with
 | error e=>exact Y df σ H s e s' I J
 | ok Z=>
  cases Z with
  | ret u=>exact I.after J
  | next=>exact Bw J
  | brk=>exact Bw J
  | cont=>exact Bw J
theorem cB(F:cA X.prog X.w X.K X.mg X.base CX k f fd ps sp)(U:cF k X.A)(Z:Gl X x)(hm:X.mg x=some (.ref f))(Y:AJ X.K (.ref f)=true)(hb:dA X.K fd ps ds)(hd:bK il ds)(hx:lH CX X E)
  (ha:PA X (e::es) t) (J:(x==("__debug__":Str))=false:=by decide) (he:starEach (e::es) X.env=(false,eval e X.env)::starEach es X.env:=by rfl) (G:(backTo pos (starEach es X.env)).any (·.1)=false:=by rfl):
  PE X (.Call (.Name x p) (e::es) [] pos) (aHJ sp il E t):=by
 constructor;intro df s σ H Q I h;refine Cw (oH I Z hm ?_ J);refine Eh (h₀:=X.base) I.ok.mod.kin Y (thn (ha pos df s σ H _ I h) fun us s1 ⟨vs,H1,O,r,q⟩=>⟨O.kIn,?_⟩) he G;exact aEX F U hb hd hx O r q
structure Mk(K:Ag)(C f:Ad):Prop where
 makes:FW K C=true
 init:Br K (.ref C) "__init__"=some (some (.ref f))
 fn:Gv K (.ref f)=true
 kp:AJ K (.ref C)=true
theorem aEY{df:List (Ad×Obj)}{σ:St}{H:Hp}{s:Ac}{Q:VK}{J:List Ab}{vs:List V}(M:Mk X.K C f)(F:cA X.prog X.w X.K X.mg X.base CX k f fd ps sp)(Z:cF (k+1) X.A)(hb:dA X.K fd ps ds)(hd:bK il ds)
  (hx:lH CX X E) (I:Inv X df σ H s) (r:bK vs J)
  (h:∀ x dx,H x=none->H dx=none->dx≠x->sp (.ref x::(vs++il)) (upd (upd H dx (.own x)) x (.ins C dx [])) (fun v H2=>v=.non/\Q (.ref x) H2) E):
  wpAny (model X.prog X.w) X.A (call (.ref C) J) (EP X df σ Q) X.xe s:=by
 have Y:=h (s.heap.objs.size+1) s.heap.objs.size (I.hok.fresh (C9 _)) (I.hok.fresh (Aj _)) (Ar (BR _));have O:=Inv.made (C:=C) I;have U:bK (V.ref (s.heap.objs.size+1)::(vs++il)) (AD (s.heap.objs.size+1)::(J++ds)):=.cons rfl (r.append hd);have hl:(AD (s.heap.objs.size+1)::J++ds).length=ps.length:=by
  have e:=U.length;rw[F.len _ _ _ _ Y]at e;exact e.symm
 refine DF (aEW (f:=f) I.kIn M.makes M.init (beq_iff_eq.mp M.fn) (C2 (F.run _ X.stack _ _ ⟨AD (s.heap.objs.size+1)::J,[]⟩ (AD (s.heap.objs.size+1)::(J++ds)) _ _ E (Z.make C J [])
  (O.env0.make C J []) (hb _ (AD (s.heap.objs.size+1)::J) O.kIn hl) U Y) fun r s' G=>?_))
 cases r with
 | error e=>exact hx df σ _ _ e s' O G
 | ok fl=>
  cases fl with
  | ret u=>
   obtain⟨v,H',I3,rv,ev,q3⟩:=O.after G;subst ev;exact⟨rv,⟨V.ref (s.heap.objs.size+1),H',I3,rfl,q3⟩⟩
  | next=>exact Bw G
  | brk=>exact Bw G
  | cont=>exact Bw G
theorem aG0(M:Mk X.K C f)(F:cA X.prog X.w X.K X.mg X.base CX k f fd ps sp)(U:cF (k+1) X.A)(Y:Gl X x)(hm:X.mg x=some (.ref C))(hb:dA X.K fd ps ds)(hd:bK il ds)(hx:lH CX X E)
  (ha:PA X (e::es) t) (J:(x==("__debug__":Str))=false:=by decide) (Z:starEach (e::es) X.env=(false,eval e X.env)::starEach es X.env:=by rfl) (G:(backTo pos (starEach es X.env)).any (·.1)=false:=by rfl):
  PE X (.Call (.Name x p) (e::es) [] pos) (aJj C sp il E t):=by
 constructor;intro df s σ H Q I h;refine Cw (oH I Y hm ?_ J);refine Eh (h₀:=X.base) I.ok.mod.kin M.kp (thn (ha pos df s σ H _ I h) fun us s1 ⟨vs,H1,O,r,q⟩=>⟨O.kIn,?_⟩) Z G;exact aEY M F U hb hd hx O r q
end
structure PK(X:Cx)(io:List Fk)(t:TA):Prop where
 run:
  ∀(pos:Pos) (df:List (Ad×Obj)) (s:Ac) (σ:St) (H:Hp) (Q:List V->Hp->Prop),Inv X df σ H s->t σ H Q->wpAny (model X.prog X.w) X.A (evalAll ((backToKw pos (keywordEach io X.env)).map (·.2))) (AP X df σ Q) X.xe s
instance{X:Cx}{io:List Fk}{t:TA}:CoeFun (PK X io t) (fun _=>
 ∀(pos:Pos) (df:List (Ad×Obj)) (s:Ac) (σ:St) (H:Hp) (Q:List V->Hp->Prop),Inv X df σ H s->t σ H Q->wpAny (model X.prog X.w) X.A (evalAll ((backToKw pos (keywordEach io X.env)).map (·.2))) (AP X df σ Q) X.xe s):=⟨fun h=>h.run⟩
section
variable{CX:CXT}{k:Nat}{fd:A4}{ps ks:List Str}{sp:Sp}{E:XK}{x m:Str}{p gp kpos:Pos}{o:Ba}{io:List Fk}{ta:TE}{t tk:TA}{nm:Option Str}
theorem aIk:PK X [] aGZ:=⟨fun _ _ _ _ H Q I h=>wpAny_evalAll_nil ⟨[],H,I,.nil,h⟩⟩
theorem aG1(ha:PE X e te)(F:PK X io t):PK X (⟨nm,e,kpos⟩::io) (aAf te t):=by
 constructor;intro pos df s σ H Q I h;show wpAny _ _ (evalAll ((do let v <- eval e X.env;standAt pos;pure v)::(backToKw pos (keywordEach io X.env)).map (·.2))) _ _ s
 refine wpAny_evalAll_cons (Aa (thn (ha df s σ H _ I h) fun u Z ⟨x,H1,O,J,U⟩=>Aa (E5 (Ah ?_))));exact thn (F pos df Z σ H1 _ O U) fun us s2 ⟨xs,H2,G,Y,q2⟩=>⟨x::xs,H2,G,.cons J Y,q2⟩
structure aKg(K:Ag)(fd:A4)(ps ks:List Str)(g:List Ab->List Ab->List Ab)(gV:List V->List V->List V):Prop where
 to:∀(s:Ac) (us ws:List Ab),K.In s.heap->(g us ws).length=ps.length->Gn s fd ⟨us,ks.zip ws⟩ (ps.zip (g us ws))
 rel:∀{vs:List V} {us:List Ab} {zs:List V} {ws:List Ab},bK vs us->bK zs ws->bK (gV vs zs) (g us ws)
variable{g:List Ab->List Ab->List Ab}{gV:List V->List V->List V}
end
structure bG(N P:List Str)(sc:CF):Prop where
 kind:sc.kind=.function
 co:sc.isCoroutine=false
 gen:sc.isGenerator=false
 nd:N.Nodup
 pre:N.take P.length=P
 par:∀ x∈P,sc.names.lookup x=some .local\/sc.names.lookup x=some .cell
 nofree:∀ y∈sc.names,y.2≠.free
theorem wM{kindOf:Str->Option Ea}{x:Str}:∀{binds:List (Str×Ab)}{m:Str->Option Ab},(∀ v,(x,v)∉binds)->bindL kindOf binds m x=m x
 | [],_,_=>rfl
 | (n,v)::r,m,h=>by
  unfold bindL;rw[wM fun w hw=>h w (Al _ hw)];split
  .have:x≠n:=by rintro rfl;exact h v Am
   simp[this]
  .rfl
theorem wN{kindOf:Str->Option Ea}{x:Str}:∀{binds:List (Str×Ab)}{m:Str->Option Ab},(∀ v,(x,v)∉binds)->bindC kindOf binds m x=m x
 | [],_,_=>rfl
 | (n,v)::r,m,h=>by
  unfold bindC;rw[wN fun w hw=>h w (Al _ hw)];split
  .rfl
  .have:x≠n:=by rintro rfl;exact h v Am
   simp[this]
theorem pW{kindOf:Str->Option Ea}{x:Str}{v:Ab}:∀{P:List Str}{vs:List Ab}{i:Nat}{m:Str->Option Ab},P.Nodup->P[i]?=some x->vs[i]?=some v->kindOf x=some .local->
  bindL kindOf (P.zip vs) m x=some v
 | [],_,_,_,_,h,_,_=>by simp at h
 | _::_,[],_,_,_,_,h,_=>by simp at h
 | p::P,w::vs,0,m,nd,h1,h2,F=>by
  simp at h1 h2;subst h1;subst h2;show bindL kindOf ((p,w)::P.zip vs) m p=_;unfold bindL;rw[wM fun v G=>(Bo.mp nd).1 (E9 G).1,Ib F];simp
 | p::P,w::vs,i+1,m,nd,h1,h2,F=>by
  show bindL kindOf ((p,w)::P.zip vs) m x=_;unfold bindL;exact pW (i:=i) (Bo.mp nd).2 (by simpa using h1) (by simpa using h2) F
theorem wO{kindOf:Str->Option Ea}{x:Str}{v:Ab}:∀{P:List Str}{vs:List Ab}{i:Nat}{m:Str->Option Ab},P.Nodup->P[i]?=some x->vs[i]?=some v->kindOf x≠some .local->
  bindC kindOf (P.zip vs) m x=some v
 | [],_,_,_,_,h,_,_=>by simp at h
 | _::_,[],_,_,_,_,h,_=>by simp at h
 | p::P,w::vs,0,m,nd,h1,h2,F=>by
  simp at h1 h2;subst h1;subst h2;show bindC kindOf ((p,w)::P.zip vs) m p=_;unfold bindC;rw[wN fun v G=>(Bo.mp nd).1 (E9 G).1,Ia F];simp
 | p::P,w::vs,i+1,m,nd,h1,h2,F=>by
  show bindC kindOf ((p,w)::P.zip vs) m x=_;unfold bindC;exact wO (i:=i) (Bo.mp nd).2 (by simpa using h1) (by simpa using h2) F
def start(N:List Str)(vs:List V):St:=vs.map some++Cu (N.length-vs.length) none
def iH(CX:CXT)(P:Aq)(w:AL)(K:Ag)(mg:Str->Option Ab)(base:A9)(N:List Str)(qual:Str)(scope:CF)(f:Ad)(cd:Ab)(A:AI)(outer:List Env)(s:Ac)(H:Hp)(E:XK):Cx where
 prog:=P
 w:=w
 K:=K
 mg:=mg
 base:=base
 A:=A.deeper (envOfC qual scope s.heap.objs.size f cd)
 N:=N
 s₀:=s
 H₀:=H
 env:=envOfC qual scope s.heap.objs.size f cd
 outer:=outer
 stack:=envOfC qual scope s.heap.objs.size f cd::outer
 ex:=[]
 calm:=true
 fn:=fun _=>true
 pn:=[]
 xe:=fun e s'=>wpAny (model P w) (A.deeper (envOfC qual scope s.heap.objs.size f cd)) (leaving (envOfC qual scope s.heap.objs.size f cd) e) (fun _ s''=>CX outer H s E e s'') (fun e' s''=>CX outer H s E e' s'') s'
theorem aAg{F:CF}{n:Nat}{x:Str}(h:F.names.lookup x=some .cell):∃ c,(cellsFrom n F.names []).lookup x=some c:=by
 have q:=PySem.W.cellsFrom_some F.names n [] (.inl h);exact EA.mp q
theorem aD1{CX:CXT}{P:Aq}{w:AL}{K:Ag}{mg:Str->Option Ab}{base:A9}{N ps:List Str}{qual:Str}{scope:CF}{f:Ad}{cd:Ab}{A:AI}{outer:List Env}{s Z:Ac}{H:Hp}{E:XK}{Y:List Ab}{vs:List V}
  (S:bG N ps scope) (hd:A.handled=none) (F:tE P w K mg base A outer s H) (hl:vs.length=ps.length) (r:bK vs Y)
  (x:InCallC s s.heap.objs.size (bindL (envOfC qual scope s.heap.objs.size f cd).kindOf (ps.zip Y) fun _=>none) (cellsFrom (s.heap.objs.size+1) scope.names []) (bindC (envOfC qual scope s.heap.objs.size f cd).kindOf (ps.zip Y) fun _=>none) Z):
  Inv (iH CX P w K mg base N qual scope f cd A outer s H E) [] (start N vs) H Z:=by
 have aa:ps.length<=N.length:=by have:=congrArg CU S.pre;rw[Bm]at this;omega
 obtain⟨h1,tk,rfl,hk⟩:=x.done;have G:∀ b:Ad,b∉(iH CX P w K mg base N qual scope f cd A outer s H E).ex:=fun b z=>absurd (show b∈([]:List Ad) from z) (by simp);refine⟨⟨F.mod,S.kind,rfl,rfl,Aj _,fun y z c h1 h2=>?_,fun y J=>?_,fun y c _ h=>?_,fun _=>hd,Fd F.frames,.inr ⟨rfl,rfl⟩,fun b z=>absurd z (G b),F.bs,F.bsz,fun b _ _=>G b,fun b z=>absurd z (G b),F.funs,F.frf⟩,
  rfl,F.bare,Un.kept hk,⟨_,x.toInCall.ns,fun i y v h1 h2 h3=>?_⟩,fun y c h=>⟨_,x.cell y c h⟩,F.hok.fresh (Aj _),fun y c h=>?_,fun p O=>absurd (show p∈([]:List (Ad×Obj)) from O) (by simp),F.hok.kept hk,?_⟩
 .exact name_of_addr x.apart (Bl h1) (Bl h2)
 .have J:scope.names.lookup y=some .cell\/scope.names.lookup y=some .free:=J;rcases J with J|J
  .exact aAg J
  .exact absurd rfl (S.nofree _ (Bl J))
 .exact Bd (x.above y c (Bl h))
 .have hi:i<vs.length:=by
   unfold start at h2;by_cases hi:i<vs.length
   .exact hi
   .rw[BL (by simpa using hi)]at h2;rw[List.getElem?_replicate]at h2;split at h2<;>cases h2
  have ha:vs[i]?=some v:=by
   unfold start at h2;rw[B6 (by simpa using hi),AB]at h2;cases e:vs[i]? with
   | none=>rw[e]at h2;cases h2
   | some a=>rw[e]at h2;cases h2;rfl
  obtain⟨u,hu,rv⟩:=r.get ha;have O:ps[i]?=some y:=by
   rw[<- S.pre,List.getElem?_take_of_lt (by omega)];exact h1
  have U:ps.Nodup:=by rw[<- S.pre];exact S.nd.sublist (FQ _ _)
  refine⟨u,rv,?_⟩;rcases S.par y (AU O)with k|k
  .exact .inl ⟨k,pW U O hu k⟩
  .obtain⟨c,e⟩:=aAg (n:=s.heap.objs.size+1) k;refine .inr ⟨.inl k,c,e,?_⟩;have q:=x.cell y c e;rw[wO U O hu (by show scope.names.lookup y≠_;rw[k];decide)]at q;exact q
 .exact F.hok.fresh (Bd (x.above y c (Bl h)))
 .unfold start;show _=N.length;rw[Ay,Af,List.length_replicate];omega
theorem aEZ{CX:CXT}{P:Aq}{w:AL}{K:Ag}{mg:Str->Option Ab}{base:A9}{k:Nat}{f:Ad}{name qual:Str}{G:CZ}{O:List Cd}{scope:CF}{dV kV ad pm F ct oc:Ab}{an od:Option Ad}
  {ah:Array (Option Ab)} {N ps:List Str} {sp:Sp} (lk:K.lookup f=some ⟨oc,od,.func (Cc name qual G O scope dV kV ad pm an F ct),ah⟩) (ag:Cr K F qual=true) (S:bG N ps scope)
  (len:∀ vs H Q E,sp vs H Q E->vs.length=ps.length)
  (Y:∀(A:AI) (outer:List Env) (s:Ac) (H:Hp) (vs:List V) (Q:VK) (E:XK),cF k (A.deeper (envOfC qual scope s.heap.objs.size f F))->sp vs H Q E->
   ∃ t,PSs (iH CX P w K mg base N qual scope f F A outer s H E) O t/\t { nx:=fun _ H'=>Q .non H',rt:=Q } (start N vs) H):
  cA P w K mg base CX (k+1) f (Cc name qual G O scope dV kV ad pm an F ct) ps sp:=by
 refine⟨len,fun A outer s H am us vs Q E hr Z hb r aa=>?_⟩;have hl:=len _ _ _ _ aa;have KX:K.In s.heap:=Z.mod.kin.keeps fun b o e=>(Z.bs b o e).1;have ai:s.heap.NoLimit:=Z.mod.nolimit.keeps fun b o e=>(Z.bs b o e).1;have U:∀ y∈ps.zip us,scope.names.lookup y.1=some .local\/(scope.names.lookup y.1=some .cell/\((cellsFrom (s.heap.objs.size+1) scope.names []).lookup y.1).isSome=true):=fun⟨n,v⟩ hy=>by
  rcases S.par n (E9 hy).1 with q|q
  .exact .inl q
  .exact .inr ⟨q,PySem.W.cellsFrom_some _ _ _ (.inl q)⟩
 refine codeAny_call_function hr.depth (KX _ _ lk) rfl S.co S.gen rfl (PySem.W.codeRec_of KX ag) (hb _ _ _ _ ?_);refine wpAny_newFunctionEnv_cells S.kind U fun env he s1 x=>?_;subst he;refine⟨ai.keeps x.toInCall.keep,codeAny_func ?_⟩;obtain⟨t,ht,hq⟩:=Y A outer s H vs Q E (hr.deeper _) aa;have I:Inv (iH CX P w K mg base N qual scope f F A outer s H E) [] (start N vs) H s1:=aD1 S hr.hd Z hl r x;refine BM (ht [] s1 (start N vs) H _ I hq) (fun fl s' hs=>?_) fun e s' hs=>hs;have fin:∀{σ':St} {H':Hp} {v:V} {u:Ab},Inv (iH CX P w K mg base N qual scope f F A outer s H E) [] σ' H' s'->bQ v u->Q v H'->CE outer P w H s Q u s':=
  fun{σ' H' v u} J rv q=>⟨v,H',J.os,J.bare,J.base,J.hok,rv,q⟩
 cases fl with
 | ret u=>
  obtain⟨v,σ',H',J,rv,q⟩:=hs;exact fin J rv q
 | next=>
  obtain⟨σ',H',J,q⟩:=hs;exact fin (v:=V.non) (u:=CW) J rfl q
 | brk=>
  obtain⟨_,_,_,q⟩:=hs;exact Bw q
 | cont=>
  obtain⟨_,_,_,q⟩:=hs;exact Bw q
section
variable{x:Str}{p:Pos}{t:TA}{id T:String}{r:List V->Hp->VK->Prop}
def tCB(r:List V->Hp->VK->Prop)(t:TA):TE:=fun σ H Q=>t σ H fun vs H1=>r vs H1 Q
theorem aV(hc:eJ X (.builtin id) r)(Y:Gl X x)(hm:X.mg x=none)(hv:bootBuiltins x=some (.builtin id))(ha:PA X (e::es) t)(hn:x≠"__name__":=by decide)(G:(x==("__debug__":Str))=false:=by decide)
  (he:starEach (e::es) X.env=(false,eval e X.env)::starEach es X.env:=by rfl) (F:(backTo pos (starEach es X.env)).any (·.1)=false:=by rfl):PE X (.Call (.Name x p) (e::es) [] pos) (tCB r t):=by
 constructor;intro df s σ H Q I h;refine Cw (nL I Y hm hv ?_ hn G);exact PyProof.Rows.callWith_builtin1 (thn (ha pos df s σ H _ I h) fun J s1 ⟨vs,H1,U,O,Z⟩=>hc df s1 σ H1 vs J Q U O Z) he F
theorem fU(hc:eJ X (.type T) r)(Y:Gl X x)(hm:X.mg x=none)(hv:bootBuiltins x=some (.type T))(ha:PA X (e::es) t)(hn:x≠"__name__":=by decide)(G:(x==("__debug__":Str))=false:=by decide)
  (he:starEach (e::es) X.env=(false,eval e X.env)::starEach es X.env:=by rfl) (F:(backTo pos (starEach es X.env)).any (·.1)=false:=by rfl):PE X (.Call (.Name x p) (e::es) [] pos) (tCB r t):=by
 constructor;intro df s σ H Q I h;refine Cw (nL I Y hm hv ?_ hn G);exact C7 (thn (ha pos df s σ H _ I h) fun J s1 ⟨vs,H1,U,O,Z⟩=>hc df s1 σ H1 vs J Q U O Z) he F
end
end L2
namespace HT
open PySem PyProof.Rows
section
open PySem.SeqAt
open PySem.AutoSeq1 (wpAny_loadPart')
open PySem.MeetsSeq PySem.MeetsSeq2 PySem.MeetsSeq3
end
section
variable{prog:Aq}{w:AL}{A:AI}{E:Ab->Ac->Prop}{s:Ac}
theorem cat_tup{t b:Ad}{vs ws:List Ab}{Q:Ab->Ac->Prop}(ht:E4 s.heap t vs.toArray)(hb:E4 s.heap b ws.toArray)(F:vs≠[])
  (h1:ws=[]->Q (.ref t) s) (h2:ws≠[]->Q (.ref s.heap.objs.size) { s with heap:=s.heap.push { cls:=.type "tuple",data:=.seq (vs++ws).toArray } })
  (hsz:vs.length+ws.length<=sizeLine):wpAny (model prog w) A (binaryOp .Add (.ref t) (.ref b)) Q E s:=by
 obtain⟨⟨cls,dd,data,sl⟩,ho,hc,n,hd⟩:=id ht;obtain⟨⟨cls2,dd2,data2,sl2⟩,ho2,hc2,n2,hd2⟩:=id hb;simp only at hc hd hc2 hd2;subst hc hd hc2 hd2;have e:vs.toArray++ws.toArray=(vs++ws).toArray:=by simp
 by_cases hw:ws=[]
 .exact Hl ⟨_,ho,rfl⟩ ⟨_,ho2,rfl⟩ Gu G9 EL EE (Ex _ _)
   (tuple_addW1 t b vs.toArray ws.toArray n n2 dd dd2 sl sl2 (by simpa using F) (by simp[hw])) ⟨ho,ho2,h1 hw⟩
 .refine Hl ⟨_,ho,rfl⟩ ⟨_,ho2,rfl⟩ Gu G9 EL EE (Ex _ _)
   (tuple_addW2 t b vs.toArray ws.toArray n n2 dd dd2 sl sl2 (by simpa using F) (by simpa using hw) (by rw[AA,AA];exact hsz)) ⟨ho,ho2,?_⟩
  rw[e];exact h2 hw
def sIx(n d:Nat):Option Int->Nat
 | none=>d
 | some v=>if v<0 then(v+(n:Int)).toNat else min v.toNat n
theorem sIx_none(n d:Nat):sIx n d none=d:=rfl
theorem sIx_nat(n d k:Nat):sIx n d (some (k:Int))=min k n:=by
 show(if (k:Int)<0 then((k:Int)+(n:Int)).toNat else min (k:Int).toNat n)=min k n;rw[Ia (by omega),BV]
theorem aIl(n d:Nat)(hd:d<=n)(o:Option Int):sIx n d o<=n:=by
 cases o with
 | none=>exact hd
 | some v=>
  show(if v<0 then(v+(n:Int)).toNat else min v.toNat n)<=n;by_cases F:v<0
  .rw[Ib F];omega
  .rw[Ia F];exact Nat.min_le_right _ _
theorem aCH(v:Int)(n d:Nat):(if v<0 then max (v+(n:Int)) 0 else min v (n:Int))=((sIx n d (some v):Nat):Int):=by
 show(if v<0 then max (v+(n:Int)) 0 else min v (n:Int))=(((if v<0 then(v+(n:Int)).toNat else min v.toNat n):Nat):Int)
 by_cases F:v<0
 .simp only[Ib F];omega
 .simp only[Ia F];omega
theorem aBP(lo hi:Option Int)(n:Nat):Ed lo hi 1 (n:Int)=(((sIx n 0 lo:Nat):Int),((sIx n n hi:Nat):Int)):=by
 have h1:¬ ((1:Int)<0):=by omega
 unfold Ed;simp only[h1,if_false];refine Hz ?_ ?_
 .cases lo with
  | none=>rfl
  | some v=>exact aCH v n 0
 .cases hi with
  | none=>rfl
  | some v=>exact aCH v n n
theorem aBQ(i j:Nat):De (i:Int) (j:Int) 1=j-i:=by
 unfold De;have h1:(1:Int)>0:=by omega
 simp only[h1,if_true,Int.ediv_one];split<;>omega
theorem tF{v:Ab}{o:Option Int}{Q:Option Int->Ac->Prop}(p:Fl v o)(h:Q o s):wpAny (model prog w) A (Builtin.Slice.slicePartIndex v) Q E s:=by
 cases p with
 | none=>exact slicePart_none h
 | int i t=>exact slicePart_int h
theorem sliceApplied_gen{sl:Ad}{G F:Ab}{lo hi:Option Int}{n:Nat}{Q:Int×Int×Nat->Ac->Prop}(hs:s.heap.IsSliceOf sl G F .none)(pl:Fl G lo)(J:Fl F hi)
  (h:Q (((sIx n 0 lo:Nat):Int),1,sIx n n hi-sIx n 0 lo) s):wpAny (model prog w) A (Builtin.Slice.sliceApplied (.ref sl) (pure (n:Int))) Q E s:=by
 obtain⟨os,hos,hcs,hds⟩:=id hs;unfold Builtin.Slice.sliceApplied Builtin.Slice.sliceFields;refine Aa (Aa (Hs hos hds (x:=G) rfl (Aa (Hs hos hds (x:=F) rfl (Aa (Hs hos hds (x:=.none) rfl (Ah ?_)))))));refine Aa (slicePart_none ?_);show wpAny _ _ (if ((1:Int)==0)=true then _ else _) _ _ s;rw[Ia (by decide)];refine Aa (tF pl (Aa (tF J (Aa (Ah ?_)))));show wpAny _ _ (match Ed lo hi 1 (n:Int)with|(lo,hi)=>pure (lo,(1:Int),De lo hi 1)) _ _ s;rw[aBP lo hi n];show wpAny _ _ (pure (((sIx n 0 lo:Nat):Int),(1:Int),De ((sIx n 0 lo:Nat):Int) ((sIx n n hi:Nat):Int) 1)) _ _ s;rw[aBQ];exact Ah h
theorem aE0(xs:Array Ab)(i k:Nat):((B7 k).filterMap fun(m:Nat)=>xs[((i:Int)+(m:Int)*1).toNat]?).toArray=((xs.toList.drop i).take k).toArray:=by
 have e:(fun(m:Nat)=>xs[((i:Int)+(m:Int)*1).toNat]?)=fun m=>xs[i+m]?:=by
  funext m;have:((i:Int)+(m:Int)*1).toNat=i+m:=by omega
  rw[this]
 rw[e];have:=pick_run xs i k;rw[List.filterMap_map]at this;have F:((fun x=>xs[x]?) ∘ fun x=>i+x)=fun m=>xs[i+m]?:=rfl;rw[F]at this;rw[this]
theorem getItem_tuple_cut{t sl:Ad}{items:Array Ab}{U O:Ab}{lo hi:Option Int}{Q:Ab->Ac->Prop}(ht:E4 s.heap t items)(hs:s.heap.IsSliceOf sl U O .none)(pl:Fl U lo)(Y:Fl O hi)
  (hw:¬ (sIx items.size 0 lo=0/\sIx items.size items.size hi=items.size))
  (h:Q (.ref s.heap.objs.size) { s with heap:=s.heap.push { cls:=.type "tuple",data:=.seq ((items.toList.drop (sIx items.size 0 lo)).take (sIx items.size items.size hi-sIx items.size 0 lo)).toArray } })
  (hsz:items.size<=sizeLine):wpAny (model prog w) A (getItem (.ref t) (.ref sl)) Q E s:=by
 have F:sizeOk (.seq ((items.toList.drop (sIx items.size 0 lo)).take (sIx items.size items.size hi-sIx items.size 0 lo)).toArray):=by
  show((items.toList.drop (sIx items.size 0 lo)).take (sIx items.size items.size hi-sIx items.size 0 lo)).toArray.size<=sizeLine;rw[AA,Bm,BP,AN];omega
 have hj:sIx items.size items.size hi<=items.size:=aIl _ _ (Aj _) hi;obtain⟨os,hos,hcs,hds⟩:=id hs;have J:s.TypeIs (.ref sl) "slice":=⟨os,hos,hcs⟩
 unfold getItem
 try with_reducible refine By ?_
 first|refine Aa (Ah ?_)|skip
 refine Aa (wpAny_sequenceKey ht.typeIs (by decide) ?_);refine Aa (CC (name:=BJ "__getitem__") ht.typeIs BQ
  (Cn BQ ht.typeIs entry_tuple_getitem ?_ (args_tuple_getitem _ _)))
 show wpAny _ _ (Builtin.Tuple.tupleItemsOf (.ref t) >>= _) _ _ s;refine Aa (tupleItemsOf_ ht ?_);refine Aa (DI J ?_);rw[Ib (by decide)];refine Aa (sliceApplied_gen hs pl Y ?_);have G:¬ ((((sIx items.size 0 lo:Nat):Int)==0&&(1:Int)==1&&(sIx items.size items.size hi-sIx items.size 0 lo)==items.size)=true):=by
  intro q;rw[Cq,Cq]at q;have Z:((sIx items.size 0 lo:Nat):Int)=0:=eq_of_beq q.1.1;have q2:sIx items.size items.size hi-sIx items.size 0 lo=items.size:=eq_of_beq q.2;exact hw ⟨by omega,by omega⟩
 show wpAny _ _ (if (((sIx items.size 0 lo:Nat):Int)==0&&(1:Int)==1&&(sIx items.size items.size hi-sIx items.size 0 lo)==items.size)=true then _ else _) _ _ s;rw[Ia G,aE0]
 first
  | exact Aa (m:=Dh _) (BY (Ah ⟨_,rfl,Ah h⟩) F)
  | exact Aa (m:=Dh _) (BY (Aa (Ah (Ah ⟨_,rfl,Ah h⟩))) F)
  | exact Aa (Aa (m:=Dh _) (BY (Ah (Ah ⟨_,rfl,Ah h⟩)) F))
  | exact Aa (Aa (m:=Dh _) (BY (Ah ⟨_,rfl,Ah h⟩) F))
end
end HT
namespace L2
open PySem PySem.Spec PyProof.Rows
variable{X:Cx}{e:Ba}{pos:Pos}{df:List (Ad×Obj)}{σ:St}{H:Hp}{s:Ac}{A:AI}{E:Ab->Ac->Prop}
abbrev TO:=St->Hp->(Option Int->Hp->Prop)->Prop
structure PO(X:Cx)(e:Option Ba)(t:TO):Prop where
 run:
  ∀(df:List (Ad×Obj)) (s:Ac) (σ:St) (H:Hp) (Q:Option Int->Hp->Prop),Inv X df σ H s->t σ H Q->
   wpAny (model X.prog X.w) X.A (evalPart e X.env) (fun u s'=>∃ o H',Inv X df σ H' s'/\Fl u o/\Q o H') X.xe s
instance{X:Cx}{e:Option Ba}{t:TO}:CoeFun (PO X e t) (fun _=>
 ∀(df:List (Ad×Obj)) (s:Ac) (σ:St) (H:Hp) (Q:Option Int->Hp->Prop),Inv X df σ H s->t σ H Q->
  wpAny (model X.prog X.w) X.A (evalPart e X.env) (fun u s'=>∃ o H',Inv X df σ H' s'/\Fl u o/\Q o H') X.xe s):=⟨fun h=>h.run⟩
def aG2:TO:=fun _ H Q=>Q none H
def aJk(t:TE):TO:=fun σ H Q=>t σ H fun x H1=>As V.int x fun i=>Q (some i) H1
theorem tG{ns:List Int}:∀{F:List Ab},bK (ns.map V.int) F->Ec F ns:=by
 induction ns with
 | nil=>intro F r;rw[El]at r;cases r;exact .nil
 | cons n ns G=>
  intro F r;rw[AF]at r;cases r with
  | cons O J=>
   obtain⟨t,e⟩:=O;subst e;exact .cons n t (G J)
section
variable{te:TE}{lo hi:Option Ba}{tl th:TO}{p2:Pos}
theorem jE:PO X none aG2:=by
 constructor;intro df s σ H Q I h;rw[evalPart_none];exact Ah ⟨none,H,I,.none,h⟩
theorem jF(h:PE X e te):PO X (some e) (aJk te):=by
 constructor;intro df s σ H Q I hw;rw[evalPart_some];refine thn (h df s σ H _ I hw) fun u O ⟨x,H1,J,G,F⟩=>?_;obtain⟨i,rfl,q⟩:=F;obtain⟨t,rfl⟩:=G;exact⟨some i,H1,J,.int i t,q⟩
def SlR(X:Cx)(r:V->Option Int->Option Int->Hp->VK->Prop):Prop:=
 ∀(df:List (Ad×Obj)) (s:Ac) (σ:St) (H:Hp) (x:V) (v vl vu:Ab) (lo hi:Option Int) (sl:Ad) (Q:VK),Inv X df σ H s->bQ x v->s.heap.IsSliceOf sl vl vu .none->Fl vl lo->Fl vu hi->r x lo hi H Q->
  ∃ T id,typeLookup (.type T) "__getitem__"=pure (some (.builtin id))/\s.TypeIs v T/\wpAny (model X.prog X.w) X.A (getItem v (.ref sl)) (EP X df σ Q) X.xe s
def tSl(r:V->Option Int->Option Int->Hp->VK->Prop)(te:TE)(tl th:TO):TE:=fun σ H Q=>te σ H fun x H1=>tl σ H1 fun l H2=>th σ H2 fun u H3=>r x l u H3 Q
theorem hU{r:V->Option Int->Option Int->Hp->VK->Prop}(U:SlR X r)(he:PE X e te)(hl:PO X lo tl)(hu:PO X hi th):PE X (.Subscript e (.Slice lo hi none p2) pos) (tSl r te tl th):=by
 constructor;intro df s σ H Q I h;refine Subscript_ (thn (he df s σ H _ I h) fun v s1 ⟨x,H1,I1,r1,q1⟩=>?_);refine wpAny_Slice (thn (hl df s1 σ H1 _ I1 q1) fun J Y ⟨l,H2,I2,pl,q2⟩=>thn (hu df Y σ H2 _ I2 q2) fun G F ⟨u,O,Z,pu,q3⟩=>?_);rw[evalPart_none];refine Ah ?_;have I4:Inv X df σ O { F with heap:=F.heap.push { cls:=.type "slice",data:=.fields #[J,G,.none] } }:=Z.kept (t':=F.toks) fun b ob q=>Ai _ q;obtain⟨T,id,hT,ht,hg⟩:=U df { F with heap:=F.heap.push { cls:=.type "slice",data:=.fields #[J,G,.none] } } σ O x v J G l u F.heap.objs.size Q I4 r1 (Heap.IsSliceOf.new ..) pl pu q3;show wpAny (model X.prog X.w) X.A (subscriptTail e (.Slice lo hi none p2) v (.ref F.heap.objs.size)) (EP X df σ Q) X.xe { F with heap:=F.heap.push { cls:=.type "slice",data:=.fields #[J,G,.none] } };exact tail_any (ops:=[.ref F.heap.objs.size,v]) ht hT hg (by with_unfolding_all rfl)
def jA(xs:List V)(lo hi:Option Int):List V:=(xs.drop (HT.sIx xs.length 0 lo)).take (HT.sIx xs.length xs.length hi-HT.sIx xs.length 0 lo)
theorem qQ(xs:List V)(lo hi:Option Int):(jA xs lo hi).length<=xs.length:=by
 unfold jA;rw[Bm,BP];omega
inductive aE1(K:Ag)(x:V)(lo:Option Int)(hi:Option Int)(H:Hp)(Q:VK):Prop
 | mk (a:_) (xs:_) (q0:x=.ref a) (q1:SqT K H a xs) (q2:¬ (HT.sIx xs.length 0 lo=0/\HT.sIx xs.length xs.length hi=xs.length)) (q3:∀ p,H p=none->Q (.ref p) (upd H p (.tup (jA xs lo hi)))):aE1 K x lo hi H Q
def aKh(K:Ag):V->Option Int->Option Int->Hp->VK->Prop:=fun x lo hi H Q=>aE1 K x lo hi H Q
theorem aIm:SlR X (aKh X.K):=by
 intro df s σ H x v U O lo hi sl Q I J hs pl G h;obtain⟨a,xs,rfl,hx,hw,q⟩:=h;cases J;obtain⟨its,r,ht,hz⟩:=I.tuple hx;have F:its.toArray.size=xs.length:=by rw[AA];exact r.length.symm
 refine⟨"tuple",_,BQ.lookup,ht.typeIs,HT.getItem_tuple_cut ht hs pl G (by rw[F];exact hw) ?_ (by rw[F];exact hz)⟩;rw[F];refine⟨.ref s.heap.objs.size,_,I.laid (t':=s.toks) (o:=.tup (jA xs lo hi)) (fun b ob q=>Ai _ q) (Aj _) ?_,rfl,q _ (I.hok.fresh (Aj _))⟩;exact⟨AM (qQ xs lo hi) hz,_,(r.drop (HT.sIx xs.length 0 lo)).take (HT.sIx xs.length xs.length hi-HT.sIx xs.length 0 lo),⟨_,Aw _ rfl,⟨rfl,_,rfl⟩,rfl⟩⟩
inductive aCI(K:Ag)(x:V)(y:V)(H:Hp)(Q:VK):Prop
 | mk (a:_) (b:_) (xs:_) (ys:_) (q0:x=.ref a) (q1:y=.ref b) (q2:SqT K H a xs) (q3:SqT K H b ys) (q4:xs≠[]) (q5:xs.length+ys.length<=sizeLine) (q6:(ys=[]->Q (.ref a) H)) (q7:(ys≠[]->∀ p,H p=none->Q (.ref p) (upd H p (.tup (xs++ys))))):aCI K x y H Q
def aJl(K:Ag):R2:=fun x y H Q=>aCI K x y H Q
theorem bK.nil_iff{xs:List V}{F:List Ab}(r:bK xs F):F=[]↔xs=[]:=by
 cases r with
 | nil=>simp
 | cons _ _=>simp
theorem aG3:OpR X (binaryOp .Add) (aJl X.K):=by
 intro df s σ H x y v u Q I G F h;obtain⟨a,b,xs,ys,rfl,rfl,ha,hb,hx,hz,q1,q2⟩:=h;cases G;cases F;obtain⟨its,r1,p1,_⟩:=I.tuple ha;obtain⟨its2,r2,p2,_⟩:=I.tuple hb;refine HT.cat_tup p1 p2 (fun z=>hx (r1.nil_iff.mp z)) (fun z=>⟨.ref a,H,I,rfl,q1 (r2.nil_iff.mp z)⟩) (fun z=>?_) (by rw[<- r1.length,<- r2.length];exact hz);refine⟨.ref s.heap.objs.size,_,I.laid (t':=s.toks) (o:=.tup (xs++ys)) (fun b ob q=>Ai _ q) (Aj _) ?_,rfl,q2 (fun w=>z (r2.nil_iff.mpr w)) _ (I.hok.fresh (Aj _))⟩;exact⟨by rw[Ay];exact hz,_,r1.append r2,⟨_,Aw _ rfl,⟨rfl,_,rfl⟩,rfl⟩⟩
end
def ixN(n:Nat)(i:Int):Option Nat:=if 0<=i then(if i<n then some i.toNat else none) else if -(n:Int)<=i then some (i+n).toNat else none
def atI{α:Type}(xs:List α)(i:Int):Option α:=(ixN xs.length i).bind fun j=>xs[j]?
theorem aCJ{n:Nat}{i:Int}{j:Nat}(h:ixN n i=some j):seqIndex? i n=some j/\j<n/\-(n:Int)<=i/\i<n:=by
 unfold ixN at h;by_cases F:0<=i
 .rw[Ib F]at h;by_cases h1:i<n
  .rw[Ib h1]at h;have e:i.toNat=j:=Bt.inj h;exact⟨by rw[Ht F h1,e],by omega,by omega,h1⟩
  .rw[Ia h1]at h;cases h
 .rw[Ia F]at h;by_cases h1:-(n:Int)<=i
  .rw[Ib h1]at h;have e:(i+n).toNat=j:=Bt.inj h;exact⟨by rw[seqIndex_neg (by omega) h1,e],by omega,h1,by omega⟩
  .rw[Ia h1]at h;cases h
theorem yL{α:Type}{xs:List α}{i:Int}{v:α}(h:atI xs i=some v):∃ j,seqIndex? i xs.length=some j/\xs[j]?=some v/\j<xs.length/\-(xs.length:Int)<=i/\i<xs.length:=by
 unfold atI at h;cases e:ixN xs.length i with
 | none=>rw[e]at h;cases h
 | some j=>
  rw[e]at h;obtain⟨h1,h2,h3,h4⟩:=aCJ e;exact⟨j,h1,h,h2,h3,h4⟩
theorem f6{α:Type}{xs:List α}{j:Nat}{v:α}(h:xs[j]?=some v):atI xs (j:Int)=some v:=by
 have F:j<xs.length:=(Ak.mp h).1;have e:ixN xs.length (j:Int)=some j:=by
  unfold ixN;rw[Ib (by omega),Ib (by omega)];simp
 unfold atI;rw[e];exact h
theorem oM{α:Type}(xs:List α)(v:α):atI (xs++[v]) (-1)=some v:=by
 have hl:(xs++[v]).length=xs.length+1:=by simp
 have e:ixN (xs++[v]).length (-1)=some xs.length:=by
  unfold ixN;rw[hl,Ia (by decide),Ib (by omega)];congr 1;omega
 unfold atI;rw[e];show(xs++[v])[xs.length]?=some v;simp
def aG4(b:Ba):Prop:=∀ o i,subscripted b false o i=operate [o,i] (getItem o i)
def IxR(X:Cx)(r:R2):Prop:=
 ∀(value slice:Ba) (df:List (Ad×Obj)) (s:Ac) (σ:St) (H:Hp) (x y:V) (v u:Ab) (Q:VK),Inv X df σ H s->bQ x v->bQ y u->r x y H Q->
  subscripted slice false v u=operate [v,u] (getItem v u)->wpAny (model X.prog X.w) X.A (subscriptTail value slice v u) (EP X df σ Q) X.xe s
def MtR(X:Cx)(id:String)(r:V->List V->Hp->VK->Prop):Prop:=
 ∀(df:List (Ad×Obj)) (s:Ac) (σ:St) (H:Hp) (x:V) (xs:List V) (v:Ab) (us:List Ab) (Q:VK),Inv X df σ H s->bQ x v->bK xs us->r x xs H Q->
  wpAny (model X.prog X.w) X.A (call (.builtin id) (v::us)) (EP X df σ Q) X.xe s
section
variable{a b:Ba}{ta tb:TE}
theorem bO{r:R2}(F:IxR X r)(ha:PE X a ta)(hb:PE X b tb)(hs:aG4 b):PE X (.Subscript a b pos) (tOp r ta tb):=by
 constructor;intro df s σ H Q I h;exact Subscript_ (aIh ha hb I h fun v u G x y H2 J U O q=>F a b df G σ H2 x y v u Q J U O q (hs _ _))
inductive aE2(K:Ag)(x:V)(y:V)(H:Hp)(Q:VK):Prop
 | mk (p:_) (xs:_) (i:_) (v:_) (q0:x=.ref p) (q1:y=.int i) (q2:SqL K H p xs) (q3:atI xs i=some v) (q4:Q v H):aE2 K x y H Q
def yM(K:Ag):R2:=fun x y H Q=>aE2 K x y H Q
inductive aE3(K:Ag)(x:V)(y:V)(H:Hp)(Q:VK):Prop
 | mk (p:_) (xs:_) (i:_) (v:_) (q0:x=.ref p) (q1:y=.int i) (q2:SqT K H p xs) (q3:atI xs i=some v) (q4:Q v H):aE3 K x y H Q
def aAh(K:Ag):R2:=fun x y H Q=>aE3 K x y H Q
inductive aE4(x:V)(y:V)(H:Hp)(Q:VK):Prop
 | mk (z:_) (i:_) (c:_) (q0:x=.str z) (q1:y=.int i) (q2:z.length<=sizeLine) (q3:atI z.cps.toList i=some c) (q4:Q (.str ⟨#[c]⟩) H):aE4 x y H Q
def aKi:R2:=fun x y H Q=>aE4 x y H Q
theorem bW:IxR X (yM X.K):=by
 intro value F df s σ H x y v u Q I U O h hs;obtain⟨p,xs,i,z,rfl,rfl,hq,he,q⟩:=h;cases U;obtain⟨t,rfl⟩:=O;obtain⟨its,r,pl,hz⟩:=I.list hq;obtain⟨j,h1,h2,h3,h4,h5⟩:=yL he;obtain⟨w,ew,rw'⟩:=r.get h2;have hl:=r.length;have hn:=nS;have fin:EP X df σ Q w s:=⟨z,H,I,rw',q⟩
 by_cases J:0<=i
 .have G:i.toNat=j:=by
   rw[Ht J h5]at h1;exact Bt.inj h1
  exact item_listR pl.isList J (by omega) (by rw[G];simpa using ew) fin hs
 .have G:(i+(its.toArray.size:Int)).toNat=j:=by
   rw[seqIndex_neg (by omega) h4]at h1;rw[AA,<- hl];exact Bt.inj h1
  exact subscriptTail_builtinR (x:=w) pl.isList.typeIs slot_list_getitem.lookup
   (wpAny_getItem_list_neg (Q:=fun r s'=>r=w/\EP X df σ Q r s') pl.isList (by omega) (by rw[AA]<;>omega) (by omega) (by rw[G];simpa using ew) ⟨rfl,fin⟩) hs
theorem dG:IxR X (aAh X.K):=by
 intro value F df s σ H x y v u Q I J G h hs;obtain⟨p,xs,i,z,rfl,rfl,hq,he,q⟩:=h;cases J;obtain⟨t,rfl⟩:=G;obtain⟨its,r,pl,hz⟩:=I.tuple hq;obtain⟨j,h1,h2,h3,h4,h5⟩:=yL he;obtain⟨w,ew,rw'⟩:=r.get h2;have hl:=r.length;have hn:=nS;have fin:EP X df σ Q w s:=⟨z,H,I,rw',q⟩
 exact subscriptTail_builtinR (x:=w) pl.typeIs slot_tuple_getitem.lookup
  (getItem_tuple (j:=j) (Q:=fun r s'=>r=w/\EP X df σ Q r s') pl (by omega) (by omega) (by rw[AA,<- hl];exact h1) (by simpa using ew) ⟨rfl,fin⟩) hs
theorem aBR:IxR X aKi:=by
 intro value F df s σ H x y v u Q I O J h hs;obtain⟨z,i,c,rfl,rfl,hz,he,q⟩:=h;obtain⟨t,rfl⟩:=O;obtain⟨t',rfl⟩:=J;obtain⟨j,h1,h2,h3,h4,h5⟩:=yL he;have hl:z.cps.toList.length=z.length:=by simp[Str.length]
 rw[hl]at h1 h4 h5;have hn:=nS;exact tail_any (typeIs_str s z t) slot_str_getitem.lookup (getItem_str (c:=c) (by
  have U:decide (i < -(2^63:Int))=false:=Ie (by omega);have G:decide (i ≥ 2^63)=false:=Ie (by omega);rw[U,G,Bool.or_false]) (by rw[h1];simpa using h2) ⟨.str ⟨#[c]⟩,H,I.tok _,⟨_,rfl⟩,q⟩) hs
theorem aBS(its:List Ab)(n j:Nat)(u:Ab):Bh (·.setIfInBounds j u) { cls:=.type "list",data:=.seq its.toArray n }={ cls:=.type "list",data:=.seq (its.set j u).toArray n }:=by
 simp[Bh]
theorem Inv.lst{df:List (Ad×Obj)}{σ:St}{H:Hp}{s:Ac}{p:Ad}{xs:List V}(I:Inv X df σ H s)(h:H p=some (.lst xs)):
  ∃(its:List Ab) (n:Nat),bK xs its/\s.heap.get? p=some { cls:=.type "list",data:=.seq its.toArray n }/\xs.length<=sizeLine:=by
 obtain⟨z,its,n,r,e⟩:=I.hok p _ h;exact⟨its,n,r,e,z⟩
theorem Inv.lstUpd{df:List (Ad×Obj)}{σ:St}{H:Hp}{s:Ac}{p:Ad}{xs ys:List V}{its its':List Ab}{n F:Nat}{f:Obj->Obj}(I:Inv X df σ H s)(h:H p=some (.lst xs))
  (J:s.heap.get? p=some { cls:=.type "list",data:=.seq its.toArray n }) (hf:f { cls:=.type "list",data:=.seq its.toArray n }={ cls:=.type "list",data:=.seq its'.toArray F }) (r:bK ys its') (G:ys.length<=sizeLine) (t:Nat):
  Inv X df σ (upd H p (.lst ys)) { s with heap:=s.heap.update p f,toks:=t }:=by
 have e:(s.heap.update p f).get? p=some { cls:=.type "list",data:=.seq its'.toArray F }:=by
  rw[Cp f J (by rw[hf]<;>rfl),hf]
 refine I.write (x:=p) (e:=p) (by rw[h];trivial) (.inl rfl) (fun b u hb q=>(DW _ _ (Cf hb)).trans q) ⟨_,e⟩ ?_;exact⟨G,its',F,r,e⟩
inductive aCK(o:V)(i:V)(v:V)(H:Hp)(Q:(Hp->Prop)):Prop
 | mk (p:_) (xs:_) (k:_) (j:_) (q0:o=.ref p) (q1:i=.int k) (q2:H p=some (.lst xs)) (q3:ixN xs.length k=some j) (q4:Q (upd H p (.lst (xs.set j v)))):aCK o i v H Q
def aJm:V->V->V->Hp->(Hp->Prop)->Prop:=fun o i v H Q=>aCK o i v H Q
theorem aE5:aI8 X aJm:=by
 intro df s σ H o i v Z iv u Q I U O Y h;obtain⟨p,xs,k,j,rfl,rfl,hp,hj,q⟩:=h;cases U;obtain⟨t,rfl⟩:=O;obtain⟨its,n,r,ho,hz⟩:=I.lst hp;obtain⟨h1,h2,h3,h4⟩:=aCJ hj;have hl:=r.length;have hn:=nS;have J:Inv X df σ (upd H p (.lst (xs.set j v))) { s with heap:=s.heap.update p (Bh (·.setIfInBounds j u)) }:=
  I.lstUpd hp ho (aBS its n j u) (r.set Y j) (by rw[Gf];exact hz) s.toks
 by_cases G:0<=k
 .have F:k.toNat=j:=by
   rw[Ht G h4]at h1;exact Bt.inj h1
  exact PySem.W.ki_setAt ho G (by omega) (by rw[AA,<- hl];exact h4) (by rw[F];exact⟨_,J,q⟩)
 .have F:(k+(its.toArray.size:Int)).toNat=j:=by
   rw[seqIndex_neg (by omega) h3]at h1;rw[AA,<- hl];exact Bt.inj h1
  exact PySem.W.ki_setBack ho (by omega) (by rw[AA,<- hl];exact h3) (by omega) (by rw[F];exact⟨_,J,q⟩)
theorem yN(lo hi:Option Int)(n:Nat):(sliceBounds lo hi none n).1=((HT.sIx n 0 lo:Nat):Int)/\(sliceBounds lo hi none n).2.1=((HT.sIx n n hi:Nat):Int)/\(sliceBounds lo hi none n).2.2=1:=by
 refine⟨?_,?_,rfl⟩
 .cases lo with
  | none=>simp[sliceBounds,HT.sIx]
  | some i=>
   simp only[sliceBounds,HT.sIx,Option.getD_none,show(1:Int)>0 by decide,if_true];by_cases h:i<0
   .simp only[h,if_true]<;>omega
   .simp only[h,if_false]<;>omega
 .cases hi with
  | none=>simp[sliceBounds,HT.sIx]
  | some i=>
   simp only[sliceBounds,HT.sIx,Option.getD_none,show(1:Int)>0 by decide,if_true];by_cases h:i<0
   .simp only[h,if_true]<;>omega
   .simp only[h,if_false]<;>omega
theorem v7(its:List Ab)(lo hi:Option Int):slicePick its.toArray lo hi none=((its.drop (HT.sIx its.length 0 lo)).take (HT.sIx its.length its.length hi-HT.sIx its.length 0 lo)).toArray:=by
 obtain⟨h1,h2,h3⟩:=yN lo hi its.toArray.size;unfold slicePick;rw[h1,h2,h3];simp only[sliceRange_one,pick_run,AA]<;>rfl
inductive aE6(K:Ag)(x:V)(lo:Option Int)(hi:Option Int)(H:Hp)(Q:VK):Prop
 | mk (a:_) (xs:_) (q0:x=.ref a) (q1:SqL K H a xs) (q2:∀ p,H p=none->Q (.ref p) (upd H p (.lst (jA xs lo hi)))):aE6 K x lo hi H Q
def aKj(K:Ag):V->Option Int->Option Int->Hp->VK->Prop:=fun x lo hi H Q=>aE6 K x lo hi H Q
theorem aCL:SlR X (aKj X.K):=by
 intro df s σ H x v U O lo hi sl Q I J hs pl G h;obtain⟨a,xs,rfl,hx,q⟩:=h;cases J;obtain⟨its,r,ht,hz⟩:=I.list hx;have F:=r.length;refine⟨"list",_,slot_list_getitem.lookup,ht.isList.typeIs,wpAny_getItem_list_slice ht.isList hs pl G .none (by simp) ?_ (by rw[AA]<;>omega)⟩;rw[v7,<- F];refine⟨.ref s.heap.objs.size,_,I.laid (t':=s.toks) (o:=.lst (jA xs lo hi)) (fun b ob q=>Ai _ q) (Aj _) ?_,rfl,q _ (I.hok.fresh (Aj _))⟩;exact⟨AM (qQ xs lo hi) hz,_,0,(r.drop (HT.sIx xs.length 0 lo)).take (HT.sIx xs.length xs.length hi-HT.sIx xs.length 0 lo),Aw _ rfl⟩
def hV:V->Bool
 | .non=>true
 | .bl _=>true
 | .int _=>true
 | .str _=>true
 | _=>false
def eqV:V->V->Bool
 | .non,.non=>true
 | .bl a,.bl b=>a==b
 | .bl a,.int b=>(if a then 1 else 0)==b
 | .int a,.bl b=>a==(if b then 1 else 0)
 | .int a,.int b=>a==b
 | .str a,.str b=>a==b
 | _,_=>false
theorem aE7{A:AI}{s:Ac}{y x:V}{u v:Ab}(J:bQ y u)(F:bQ x v)(O:hV y=true)(G:hV x=true):Hb A s u v (eqV y x):=by
 cases y with
 | non=>
  cases J;cases x with
  | non=>cases F;exact SeqAt.EqAt.same _
  | bl b=>cases F;exact SeqAt.EqAt.none_bool b
  | int b=>obtain⟨t,rfl⟩:=F;exact SeqAt.EqAt.none_int b t
  | str b=>obtain⟨t,rfl⟩:=F;exact SeqAt.EqAt.none_str b t
  | _=>exact absurd (show false=true from G) Av
 | bl a=>
  cases J;cases x with
  | non=>cases F;exact SeqAt.EqAt.bool_none a
  | bl b=>cases F;exact EN a b
  | int b=>obtain⟨t,rfl⟩:=F;exact SeqAt.EqAt.bool_int a b t
  | str b=>obtain⟨t,rfl⟩:=F;exact SeqAt.EqAt.bool_str a b t
  | _=>exact absurd (show false=true from G) Av
 | int a=>
  obtain⟨t',rfl⟩:=J;cases x with
  | non=>cases F;exact SeqAt.EqAt.int_none a t'
  | bl b=>cases F;exact SeqAt.EqAt.int_bool a t' b
  | int b=>obtain⟨t,rfl⟩:=F;exact SeqAt.EqAt.int_int a t' b t
  | str b=>obtain⟨t,rfl⟩:=F;exact SeqAt.EqAt.int_str a t' b t
  | _=>exact absurd (show false=true from G) Av
 | str a=>
  obtain⟨t',rfl⟩:=J;cases x with
  | non=>cases F;exact SeqAt.EqAt.str_none a t'
  | bl b=>cases F;exact SeqAt.EqAt.str_bool a t' b
  | int b=>obtain⟨t,rfl⟩:=F;exact SeqAt.EqAt.str_int a t' b t
  | str b=>obtain⟨t,rfl⟩:=F;exact SeqAt.EqAt.str_str a t' b t
  | _=>exact absurd (show false=true from G) Av
 | _=>exact absurd (show false=true from O) Av
def eqU(x:V)(u:Ab):Bool:=match u with
 | .none=>eqV .non x
 | .bool b=>eqV (.bl b) x
 | .int i _=>eqV (.int i) x
 | .str z _=>eqV (.str z) x
 | _=>false
theorem aE8{x y:V}{u:Ab}(r:bQ y u)(f:hV y=true):eqU x u=eqV y x:=by
 cases y with
 | non=>cases r;rfl
 | bl b=>cases r;rfl
 | int i=>obtain⟨t,rfl⟩:=r;rfl
 | str z=>obtain⟨t,rfl⟩:=r;rfl
 | _=>exact absurd (show false=true from f) Av
theorem yO{x:V}:∀{xs:List V}{F:List Ab},bK xs F->xs.all hV=true->F.any (eqU x)=xs.any fun y=>eqV y x
 | _,_,.nil,_=>rfl
 | y::xs,u::F,.cons r t,f=>by
  rw[Gy,Cq]at f;rw[Eb,Eb,aE8 r f.1,yO t f.2]
theorem tH{A:AI}{s:Ac}{x:V}{v:Ab}(J:bQ x v)(G:hV x=true):∀{xs:List V}{F:List Ab},bK xs F->xs.all hV=true->∀ u∈F,Hb A s u v (eqU x u)
 | _,_,.nil,_=>fun u hu=>by cases hu
 | y::xs,u::F,.cons r t,f=>fun O hu=>by
  rw[Gy,Cq]at f;rcases An.mp hu with rfl|hu
  .rw[aE8 r f.1];exact aE7 r J f.1 G
  .exact tH J G t f.2 O hu
def inV(x:V)(xs:List V):Bool:=xs.any fun y=>eqV y x
inductive aHK(K:Ag)(neg:Bool)(x:V)(y:V)(H:Hp)(Q:VK):Prop
 | mk (p:_) (xs:_) (q0:y=.ref p) (q1:(SqL K H p xs\/SqT K H p xs)) (q2:hV x=true) (q3:xs.all hV=true) (q4:Q (.bl (if neg then !inV x xs else inV x xs)) H):aHK K neg x y H Q
def rIn(K:Ag)(neg:Bool):R2:=fun x y H Q=>aHK K neg x y H Q
theorem wP:OpR X (compareOp .In) (rIn X.K false):=by
 intro df s σ H x y v u Q I G J h;obtain⟨p,xs,rfl,F,fx,fs,q⟩:=h;cases J;rcases F with F|F
 .obtain⟨its,r,pl,hz⟩:=I.list F;refine SeqAt.in_listAt (eqU x) pl.isList (fun w hw=>tH G fx r fs w (by simpa using hw)) ⟨.bl _,H,I,rfl,?_⟩;rw[show its.toArray.any (eqU x)=its.any (eqU x) by simp,yO r fs];exact q
 .obtain⟨its,r,pl,hz⟩:=I.tuple F;refine SeqAt.in_tupleAt (eqU x) pl (fun w hw=>tH G fx r fs w (by simpa using hw)) ⟨.bl _,H,I,rfl,?_⟩;rw[show its.toArray.any (eqU x)=its.any (eqU x) by simp,yO r fs];exact q
inductive jV(K:Ag)(xs:List V)(H:Hp)(Q:VK):Prop
 | mk (p:_) (ys:_) (q0:xs=[.ref p]) (q1:(SqL K H p ys\/SqT K H p ys)) (q2:Q (.int ys.length) H):jV K xs H Q
def tI(K:Ag):List V->Hp->VK->Prop:=fun xs H Q=>jV K xs H Q
theorem cO:eJ X (.builtin "len") (tI X.K):=by
 intro df s σ H xs J Q I r h;obtain⟨p,ys,rfl,G,q⟩:=h;obtain⟨u,rfl,rx⟩:=eV r;cases rx;have hn:=nS;rcases G with G|G
 .obtain⟨its,r',pl,hz⟩:=I.list G;have F:=r'.length;exact Calls.call_len_list pl.isList (by simp only[AA]<;>omega) ⟨.int ys.length,H,I.tok _,⟨s.toks+1,by rw[AA,F]⟩,q⟩
 .obtain⟨its,r',pl,hz⟩:=I.tuple G;have F:=r'.length;exact len_tuple pl (by simp only[AA]<;>omega) ⟨.int ys.length,H,I.tok _,⟨s.toks+1,by rw[AA,F]⟩,q⟩
inductive jW(xs:List V)(H:Hp)(Q:VK):Prop
 | mk (z:_) (q0:xs=[.str z]) (q1:z.length<=sizeLine) (q2:Q (.int z.length) H):jW xs H Q
def tJ:List V->Hp->VK->Prop:=fun xs H Q=>jW xs H Q
theorem yP:eJ X (.builtin "len") tJ:=by
 intro df s σ H xs F Q I r h;obtain⟨z,rfl,hz,q⟩:=h;obtain⟨u,rfl,t,rfl⟩:=eV r;have hn:=nS;exact len_str (by omega) ⟨.int z.length,H,I.tok _,⟨_,rfl⟩,q⟩
inductive jX(K:Ag)(xs:List V)(H:Hp)(Q:VK):Prop
 | mk (p:_) (ys:_) (q0:xs=[.ref p]) (q1:(SqL K H p ys\/SqT K H p ys)) (q2:∀ l,H l=none->Q (.ref l) (upd H l (.lst ys))):jX K xs H Q
def tK(K:Ag):List V->Hp->VK->Prop:=fun xs H Q=>jX K xs H Q
theorem oO:eJ X (.type "list") (tK X.K):=by
 intro df s σ H xs Y Q I r h;obtain⟨p,ys,rfl,U,q⟩:=h;obtain⟨u,rfl,rx⟩:=eV r;cases rx;have fin:∀(F:List Ab),bK ys F->ys.length<=sizeLine->∀(h':A9) (c':Nat),(∀ b o',s.heap.get? b=some o'->h'.get? b=some o')->
   h'.get? s.heap.objs.size=some { cls:=.type "list",dict:=none,data:=.seq F.toArray c',slots:=#[] }->EP X df σ Q (.ref s.heap.objs.size) { s with heap:=h' }:=fun F G O h' c' kp e=>
  ⟨.ref s.heap.objs.size,_,I.laid (t':=s.toks) kp (Aj _) (show bZ X.prog X.w _ h' _ (.lst ys) from⟨O,F,c',G,e⟩),rfl,q _ (I.hok.fresh (Aj _))⟩
 rcases U with U|U
 .obtain⟨F,G,pl,O⟩:=I.list U;have J:=G.length;obtain⟨o,ho,hc,n,hd⟩:=pl.isList;exact call_list_seq p (.inl rfl) ho hc hd (fun h' c' kp e=>fin F G O h' c' kp e) (by simp only[AA]<;>omega)
 .obtain⟨F,G,pl,O⟩:=I.tuple U;have J:=G.length;obtain⟨o,ho,hc,n,hd⟩:=pl;exact call_list_seq p (.inr rfl) ho hc hd (fun h' c' kp e=>fin F G O h' c' kp e) (by simp only[AA]<;>omega)
inductive jG(K:Ag)(xs:List V)(H:Hp)(Q:VK):Prop
 | mk (p:_) (ys:_) (q0:xs=[.ref p]) (q1:((SqL K H p ys/\∀ l,H l=none->Q (.ref l) (upd H l (.tup ys)))\/(SqT K H p ys/\Q (.ref p) H))):jG K xs H Q
def rO(K:Ag):List V->Hp->VK->Prop:=fun xs H Q=>jG K xs H Q
theorem mY:eJ X (.type "tuple") (rO X.K):=by
 intro df s σ H xs O Q I r h;obtain⟨p,ys,rfl,h⟩:=h;obtain⟨u,rfl,rx⟩:=eV r;cases rx;rcases h with⟨hq,q⟩|⟨hq,q⟩
 .obtain⟨its,r',pl,hz⟩:=I.list hq;have F:=r'.length;refine call_tuple_list pl.isList (fun h' kp=>?_) (by simp only[AA]<;>omega);have G:Inv X df σ H { s with heap:=h' }:=I.kept (t':=s.toks) kp;have J:Inv X df σ (upd H h'.objs.size (.tup ys)) { s with heap:=h'.push { cls:=.type "tuple",data:=.seq its.toArray } }:=
   G.laid (t':=s.toks) (fun b o e=>Ai _ e) (Aj _) (show bZ X.prog X.w _ _ _ (.tup ys) from⟨hz,its,r',⟨_,Aw _ rfl,⟨rfl,_,rfl⟩,rfl⟩⟩)
  exact⟨.ref h'.objs.size,_,J,rfl,q _ (G.hok.fresh (Aj _))⟩
 .obtain⟨its,r',pl,hz⟩:=I.tuple hq;exact call_tuple_same pl ⟨.ref p,H,I,rfl,q⟩
def tyV(K:Ag)(T:String)(x:V)(H:Hp):Prop:=match x with
 | .str _=>T="str"
 | .int _=>T="int"
 | .ref p=>(T="list"/\∃ xs,SqL K H p xs)\/(T="tuple"/\∃ o,K.lookup p=some o/\o.cls=.type "tuple"/\o.dict=none)\/
   (T="dict"/\((∃ fo,H p=some (.dK fo))\/∃ fo,H p=some (.dT fo)))\/(T="set"/\∃ S n,H p=some (.set S n))\/(T="tuple"/\∃ xs,H p=some (.tup xs))
 | _=>False
theorem aIn{df:List (Ad×Obj)}{σ:St}{H:Hp}{s:Ac}{T:String}{x:V}{v:Ab}(I:Inv X df σ H s)(r:bQ x v)(ty:tyV X.K T x H):
  s.TypeIs v T/\∀ a,v=.ref a->∃ ob,s.heap.get? a=some ob/\ob.dict=none:=by
 cases x with
 | str z=>
  obtain⟨t,rfl⟩:=r;cases(show T="str" from ty);exact⟨typeIs_str s z t,fun _ e=>nomatch e⟩
 | int i=>
  obtain⟨t,rfl⟩:=r;cases(show T="int" from ty);exact⟨typeIs_int s i t,fun _ e=>nomatch e⟩
 | ref p=>
  cases r;rcases ty with⟨rfl,xs,hq⟩|⟨rfl,o,hk,hc,hd⟩|⟨rfl,hk⟩|⟨rfl,S,n,hk⟩|⟨rfl,xs,hq⟩
  .obtain⟨its,_,pl,_⟩:=I.list hq;refine⟨pl.isList.typeIs,fun a e=>?_⟩;cases e;obtain⟨o,n,e,c,hd,_⟩:=pl;exact⟨o,e,hd⟩
  .refine⟨⟨o,I.kIn p o hk,hc⟩,fun a e=>?_⟩;cases e;exact⟨o,I.kIn _ o hk,hd⟩
  .have z:∃ o,s.heap.get? p=some o/\o.ExactDict:=by
    rcases hk with⟨fo,hk⟩|⟨fo,hk⟩
    .obtain⟨_,_,_,_,o,_,_,e,ex,_⟩:=I.hok p _ hk;exact⟨o,e,ex⟩
    .obtain⟨_,_,_,_,o,_,_,e,ex,_⟩:=I.hok p _ hk;exact⟨o,e,ex⟩
   obtain⟨o,e,ex⟩:=z;refine⟨⟨o,e,ex.1⟩,fun a F=>?_⟩;cases F;exact⟨o,e,ex.2.1⟩
  .obtain⟨o,_,_,_,e,ex,_⟩:=I.hok p _ hk;refine⟨⟨o,e,ex.1⟩,fun a F=>?_⟩;cases F;exact⟨o,e,ex.2.1⟩
  .obtain⟨_,_,_,o,e,⟨c,_⟩,hd⟩:=(show bZ X.prog X.w H s.heap p (.tup xs) from I.hok p _ hq)
   refine⟨⟨o,e,c⟩,fun a F=>?_⟩;cases F;exact⟨o,e,hd⟩
 | _=>exact Bw ty
def tBM(K:Ag)(T:String)(r:V->List V->Hp->VK->Prop)(to:TE)(t:TA):TE:=fun σ H Q=>to σ H fun x H1=>tyV K T x H1/\t σ H1 fun xs H2=>r x xs H2 Q
variable{o:Ba}{es:List Ba}{to:TE}{t:TA}{name:Str}{gp fq:Pos}{T id:String}{r:V->List V->Hp->VK->Prop}
theorem lJ(pa:PlainAttrs T)(slot:Slot T name id)(U:typeOf (.builtin id)=pure (.type "method_descriptor"))(hm:MtR X id r)(ho:PE X o to)(ha:PA X (e::es) t)
  (J:attributeBase o name X.env (eval o X.env)=eval o X.env:=by rfl)
  (O:((backTo fq (starEach (e::es) X.env)).all (fun x=>!x.1)&&(backToKw fq (keywordEach [] X.env)).all (fun x=>x.1.isSome)
   && decide ((e::es).length+([]:List Fk).length+(if ([]:List Fk).isEmpty then 0 else 1)<30))=true:=by rfl)
  (G:(gp.endLine==fq.line)=true:=by rfl) (hs:starEach (e::es) X.env=(false,eval e X.env)::starEach es X.env:=by rfl) (F:(backTo fq (starEach es X.env)).any (·.1)=false:=by rfl):
  PE X (.Call (.Attribute o name gp) (e::es) [] fq) (tBM X.K T r to t):=by
 constructor;intro df s σ H Q I h;refine wpAny_Call_method_late J O G rfl (thn (ho df s σ H _ I h) fun v s1 ⟨x,H1,Z,Y,ty,q1⟩=>?_);obtain⟨h1,h2⟩:=aIn Z Y ty;refine⟨T,id,pa,slot,U,h1,h2,?_⟩;have hA:=ha fq df s1 σ H1 _ Z q1;rw[hs]at hA ⊢;refine EW (by show(false||(backTo fq (starEach es X.env)).any (·.1))=false;rw[F]<;>rfl) (Calls.evalArgs_plain ?_)
 exact thn hA fun us s2 ⟨vs,H2,I2,r2,q2⟩=>hm df s2 σ H2 x vs v us Q I2 Y r2 q2
end
def MtM(X:Cx)(id:String)(r:V->List V->Hp->VK->Prop):Prop:=
 ∀(df:List (Ad×Obj)) (s:Ac) (σ:St) (H:Hp) (x:V) (xs:List V) (v:Ab) (us:List Ab) (Q:VK),Inv X df σ H s->bQ x v->bK xs us->r x xs H Q->
  wpAny (model X.prog X.w) X.A (call (.builtin id) (v::us)) (EP X df σ Q) X.xe s
theorem bK.one:∀{x:V}{F:List Ab},bK [x] F->∃ u,F=[u]/\bQ x u
 | _,_,.cons r .nil=>⟨_,rfl,r⟩
theorem bK.two:∀{x y:V}{F:List Ab},bK [x,y] F->∃ u v,F=[u,v]/\bQ x u/\bQ y v
 | _,_,_,.cons r (.cons q .nil)=>⟨_,_,rfl,r,q⟩
section
variable{l b:Ad}{xs ys zs:List V}
theorem Inv.lset{its its':List Ab}{n:Nat}{f:Array Ab->Array Ab}{t':Nat}(I:Inv X df σ H s)(G:H l=some (.lst xs))
  (e:s.heap.get? l=some { cls:=.type "list",data:=.seq its.toArray n }) (hf:f its.toArray=its'.toArray) (J:bK ys its') (F:ys.length<=sizeLine):
  Inv X df σ (upd H l (.lst ys)) { s with heap:=s.heap.update l (Bh f),toks:=t' }:=by
 have q:=PySem.IsL.update e f;rw[hf]at q;refine I.write (x:=l) (e:=l) (by rw[G];exact trivial) (.inl rfl) (fun O u hb hu=>(DW s.heap (Bh f) (Cf hb)).trans hu) ⟨_,q⟩ ?_;exact⟨F,its',_,J,q⟩
theorem Inv.lnew{its:List Ab}{t':Nat}(I:Inv X df σ H s)(G:bK ys its)(F:ys.length<=sizeLine):
  Inv X df σ (upd H s.heap.objs.size (.lst ys)) { s with heap:=s.heap.push { cls:=.type "list",data:=.seq its.toArray },toks:=t' }:=
 I.laid (fun _ _ q=>Ai _ q) (Aj _) ⟨F,its,0,G,Aw _ rfl⟩
theorem Inv.fresh(I:Inv X df σ H s):H s.heap.objs.size=none:=I.hok.fresh (Aj _)
theorem Inv.lstM(I:Inv X df σ H s)(F:H l=some (.lst xs)):xs.length<=sizeLine/\∃(its:List Ab) (n:Nat),bK xs its/\xs.length=its.length/\s.heap.get? l=some { cls:=.type "list",data:=.seq its.toArray n }:=by
 obtain⟨z,its,n,r,e⟩:=I.hok l _ F;exact⟨z,its,n,r,r.length,e⟩
end
inductive wQ(x:V)(vs:List V)(H:Hp)(Q:VK):Prop
 | mk (l:_) (xs:_) (y:_) (q0:x=.ref l) (q1:vs=[y]) (q2:H l=some (.lst xs)) (q3:xs.length<sizeLine) (q4:Q .non (upd H l (.lst (xs++[y])))):wQ x vs H Q
def aG5:V->List V->Hp->VK->Prop:=fun x vs H Q=>wQ x vs H Q
theorem gO:MtM X "list.append" aG5:=by
 intro df s σ H x vs v O Q I G J h;obtain⟨l,xs,y,rfl,rfl,hH,hz,q⟩:=h;cases G;obtain⟨u,rfl,ru⟩:=J.one;obtain⟨z,its,n,r,hl,e⟩:=I.lstM hH;refine G0 F.slot_list_append ⟨_,e,rfl⟩ F.entry_list_append (F.args_list_append_2 _ _) (PySem.list_append l its.toArray n u (by rw[AA];omega)) ⟨e,?_⟩;refine⟨.non,_,I.lset (its':=its++[u]) hH e (by simp) (r.append (.cons ru .nil)) ?_,rfl,q⟩;rw[Ay,BU];omega
inductive aE9(x:V)(y:V)(H:Hp)(Q:VK):Prop
 | mk (l:_) (b:_) (xs:_) (zs:_) (q0:x=.ref l) (q1:y=.ref b) (q2:H l=some (.lst xs)) (q3:H b=some (.lst zs)) (q4:xs.length+zs.length<=sizeLine) (q5:∀ p,H p=none->Q (.ref p) (upd H p (.lst (xs++zs)))):aE9 x y H Q
def aKk:R2:=fun x y H Q=>aE9 x y H Q
theorem aFa:OpR X (binaryOp .Add) aKk:=by
 intro df s σ H x y v u Q I J F h;obtain⟨l,b,xs,zs,rfl,rfl,hH,hB,hz,q⟩:=h;cases J;cases F;obtain⟨z,its,n,r,hl,e⟩:=I.lstM hH;obtain⟨z2,its2,n2,r2,hl2,e2⟩:=I.lstM hB;refine PySem.P.add_list e e2 ?_ (by rw[AA,AA];omega);have G:its.toArray++its2.toArray=(its++its2).toArray:=by simp
 rw[G];exact⟨.ref _,_,I.lnew (t':=s.toks) (r.append r2) (by rw[Ay];omega),rfl,q _ I.fresh⟩
section
variable{prog:Aq}{w:AL}
end
section
variable{κ:Type}[DecidableEq κ]
def c9(fo:List (κ×V))(k:κ):Option V:=(fo.find? fun kv=>decide (kv.1=k)).map (·.2)
def dM(fo:List (κ×V))(k:κ)(v:V):List (κ×V):=
 if (fo.any fun kv=>decide (kv.1=k))=true then fo.map (fun kv=>if kv.1=k then(kv.1,v) else kv) else fo++[(k,v)]
def aJn(fo:List (κ×V))(k:κ):List (κ×V):=fo.filter fun kv=>decide (kv.1≠k)
theorem tL{k:κ}:c9 ([]:List (κ×V)) k=none:=rfl
theorem cU{p:κ×V}{r:List (κ×V)}{k:κ}(e:p.1=k):c9 (p::r) k=some p.2:=by simp[c9,DL,e]
theorem bX{p:κ×V}{r:List (κ×V)}{k:κ}(e:¬ p.1=k):c9 (p::r) k=c9 r k:=by simp[c9,DL,e]
theorem iZ(k:κ):∀ fo:List (κ×V),(fo.any fun F=>decide (F.1=k))=(c9 fo k).isSome
 | []=>rfl
 | p::r=>by
  rw[Eb];by_cases e:p.1=k
  .simp only[cU e,Ic e,Bool.true_or,Option.isSome_some]
  .rw[bX e,Ie e,Bool.false_or];exact iZ k r
theorem aAi(k j:κ)(y:V):∀ fo:List (κ×V),c9 (fo.map fun F=>if F.1=k then(F.1,y) else F) j=(c9 fo j).map fun x=>if j=k then y else x
 | []=>rfl
 | p::r=>by
  have G:=aAi k j y r;rw[AF];by_cases h:p.1=k
  .rw[Ib h];by_cases e:p.1=j
   .rw[cU (p:=(p.1,y)) e,cU e,ET,Ib (e.symm.trans h)]
   .rw[bX (p:=(p.1,y)) e,bX e,G]
  .rw[Ia h];by_cases e:p.1=j
   .rw[cU (p:=p) e,cU e,ET,Ia (fun z=>h (e.trans z))]
   .rw[bX (p:=p) e,bX e,G]
theorem wR(k j:κ)(y:V):∀ fo:List (κ×V),c9 fo k=none->c9 (fo++[(k,y)]) j=if j=k then some y else c9 fo j
 | [],_=>by
  by_cases e:k=j
  .rw[Ib e.symm];exact cU (p:=(k,y)) e
  .rw[Ia (fun z=>e z.symm)];exact bX (p:=(k,y)) e
 | p::r,hn=>by
  rw[Ds];have F:¬ p.1=k:=fun z=>by rw[cU z]at hn;cases hn
  rw[bX F]at hn;have G:=wR k j y r hn;by_cases e:p.1=j
  .rw[cU e,cU e,Ia (fun z=>F (e.trans z))]
  .rw[bX e,bX e,G]
theorem aFb(fo:List (κ×V))(k j:κ)(y:V):c9 (dM fo k y) j=if j=k then some y else c9 fo j:=by
 unfold dM;by_cases a:(fo.any fun F=>decide (F.1=k))=true
 .rw[Ib a,aAi];rw[iZ]at a;by_cases e:j=k
  .obtain⟨x,hx⟩:=EA.mp a;rw[Ib e,e,hx,ET,Ib rfl]
  .rw[Ia e];cases c9 fo j with
   | none=>rfl
   | some x=>rw[ET,Ia e]
 .rw[Ia a];refine wR k j y fo ?_;rw[iZ]at a;cases q:c9 fo k with
  | none=>rfl
  | some x=>rw[q]at a;exact(a rfl).elim
theorem jH(fo:List (κ×V))(k:κ)(v:V):(dM fo k v).length<=fo.length+1:=by
 unfold dM;split
 .rw[Af];omega
 .rw[Ay,AQ,List.length_nil];omega
theorem iC{fo:List (κ×V)}{k:κ}(v:V)(h:c9 fo k=none):dM fo k v=fo++[(k,v)]:=by
 unfold dM;rw[iZ,h];exact Ia (by decide)
theorem oG.isSome_eq{o:Option V}{u:Option Ab}(r:oG o u):o.isSome=u.isSome:=by
 cases o with
 | none=>cases u with
  | none=>rfl
  | some _=>exact(show False from r).elim
 | some _=>cases u with
  | none=>exact(show False from r).elim
  | some _=>rfl
theorem KV.val{fo:List (κ×V)}{vs:List (κ×Ab)}(r:KV fo vs)(k:κ):oG (c9 fo k) (valueAt vs k):=by
 unfold KV at r
 induction r with
 | nil=>exact Cy
 | @cons p q ps F h t J=>
  obtain⟨h1,h2⟩:=h;by_cases e:p.1=k
  .have G:q.1=k:=h1.symm.trans e;have b:valueAt (q::F) k=some q.2:=by simp[valueAt,DL,G]
   rw[cU e,b];exact h2
  .have G:¬ q.1=k:=fun z=>e (h1.trans z);have b:valueAt (q::F) k=valueAt F k:=by simp[valueAt,DL,G]
   rw[bX e,b];exact J
theorem KV.any{fo:List (κ×V)}{vs:List (κ×Ab)}(r:KV fo vs)(k:κ):(fo.any fun F=>decide (F.1=k))=vs.any fun F=>decide (F.1=k):=by
 unfold KV at r
 induction r with
 | nil=>rfl
 | cons h t G=>rw[Eb,Eb,G,h.1]
theorem KV.repl{fo:List (κ×V)}{vs:List (κ×Ab)}(r:KV fo vs)(k:κ){y:V}{u:Ab}(G:bQ y u):
  KV (fo.map fun F=>if F.1=k then(F.1,y) else F) (vs.map fun F=>if F.1=k then(F.1,u) else F):=by
 unfold KV at r ⊢
 induction r with
 | nil=>exact .nil
 | @cons p q ps O h t J=>
  rw[AF,AF];refine .cons ?_ J;obtain⟨h1,h2⟩:=h;by_cases e:p.1=k
  .rw[Ib e,Ib (h1.symm.trans e)];exact⟨h1,G⟩
  .rw[Ia e,Ia (fun z=>e (h1.trans z))];exact⟨h1,h2⟩
theorem KV.put{fo:List (κ×V)}{vs:List (κ×Ab)}(r:KV fo vs)(k:κ){y:V}{u:Ab}(F:bQ y u):KV (dM fo k y) (stored vs k u):=by
 unfold dM stored;rw[r.any k];by_cases e:(vs.any fun G=>decide (G.1=k))=true
 .rw[Ib e,Ib e];exact r.repl k F
 .rw[Ia e,Ia e];exact Ce r ⟨rfl,F⟩
theorem KV.length{fo:List (κ×V)}{vs:List (κ×Ab)}(r:KV fo vs):fo.length=vs.length:=Fj r
end
theorem tM{P:Aq}{w:AL}{k:Key}{u:Ab}(r:bQ (kV k) u):(cK P w).is k u=true:=by
 cases k with
 | inl i=>obtain⟨t,e⟩:=(show∃ t,u=BH i t from r);subst e;exact zX P w i t
 | inr x=>obtain⟨t,e⟩:=(show∃ t,u=Ff x t from r);subst e;exact zY P w x t
theorem wS{P:Aq}{w:AL}:∀{ks:List Key}{F:List Ab},bK (ks.map kV) F->ItemsAre (cK P w) ks F
 | [],_,r=>by rw[El]at r;cases r;exact .nil
 | k::ks,_,r=>by
  rw[AF]at r;cases r with
  | cons h t=>exact .cons (tM h) (wS t)
abbrev KT(H:Hp):List (List Key×V)->List (List Key×Ad×Ab)->Prop:=AZ fun p q=>p.1=q.1/\H q.2.1=some (.tup (p.1.map kV))/\bQ p.2 q.2.2
theorem KT.val{H:Hp}{fo:List (List Key×V)}{xs:List (List Key×Ad×Ab)}(r:KT H fo xs)(k:List Key):oG (c9 fo k) ((atKey xs k).map (·.2)):=by
 induction r with
 | nil=>exact Cy
 | @cons p q ps F h t J=>
  obtain⟨h1,_,h2⟩:=h;by_cases e:p.1=k
  .have G:q.1=k:=h1.symm.trans e;have b:atKey (q::F) k=some q.2:=by simp[atKey,DL,G]
   rw[cU e,b];exact h2
  .have G:¬ q.1=k:=fun z=>e (h1.trans z);have b:atKey (q::F) k=atKey F k:=by simp[atKey,DL,G]
   rw[bX e,b];exact J
theorem KT.repl{H:Hp}{fo:List (List Key×V)}{xs:List (List Key×Ad×Ab)}(r:KT H fo xs)(k:List Key){y:V}{u:Ab}(G:bQ y u):
  KT H (fo.map fun F=>if F.1=k then(F.1,y) else F) (xs.map (putAt k u)):=by
 induction r with
 | nil=>exact .nil
 | @cons p q ps O h t J=>
  rw[AF,AF];refine .cons ?_ J;obtain⟨h1,h2,h3⟩:=h;unfold putAt;by_cases e:p.1=k
  .rw[Ib e,Ib (h1.symm.trans e)];exact⟨h1,h2,G⟩
  .rw[Ia e,Ia (fun z=>e (h1.trans z))];exact⟨h1,h2,h3⟩
theorem KT.put{H:Hp}{fo:List (List Key×V)}{xs:List (List Key×Ad×Ab)}(r:KT H fo xs)(k:List Key){b:Ad}{y:V}{u:Ab}(hb:H b=some (.tup (k.map kV)))(F:bQ y u):
  KT H (dM fo k y) (storedH xs k b u):=by
 have e:(fo.any fun G=>decide (G.1=k))=(atKey xs k).isSome:=by
  rw[iZ,(r.val k).isSome_eq,FD]
 unfold dM storedH;rw[e];by_cases q:(atKey xs k).isSome=true
 .rw[Ib q,Ib q];exact r.repl k F
 .rw[Ia q,Ia q];exact Ce r ⟨rfl,hb,F⟩
theorem KT.keeps{H H':Hp}{fo:List (List Key×V)}{xs:List (List Key×Ad×Ab)}(r:KT H fo xs)(ht:∀ b ys,H b=some (.tup ys)->H' b=some (.tup ys)):KT H' fo xs:=
 Paired.mapP r fun _ _ z=>⟨z.1,ht _ _ z.2.1,z.2.2⟩
section
variable{P:Aq}{w:AL}{h:A9}{a:Ad}
theorem aHL{u:HO}(ok:HOk P w H h)(e:Rd H a u):bZ P w H h a u:=e.ok ok
theorem oP{fo:List (Key×V)}(ok:HOk P w H h)(e:Rd H a (.dK fo)):fo.length<=sizeLine/\(a==sysModules)=false/\∃ vs,KV fo vs/\h.DictOf (cK P w) a vs:=
 show bZ P w H h a (.dK fo) from aHL ok e
theorem aFc{fo:List (Key×V)}(ok:HOk P w H h)(e:H a=some (.dK fo)):fo.length<=sizeLine/\(a==sysModules)=false/\∃ vs,KV fo vs/\h.DictOf (cK P w) a vs:=oP ok (.inl e)
theorem tN{ks:List Key}(ok:HOk P w H h)(e:H a=some (.tup (ks.map kV))):(tupleKind (cK P w)).is h ks a:=by
 obtain⟨_,its,r,o,h1,⟨h2,n,h3⟩,_⟩:=(show bZ P w H h a (.tup (ks.map kV)) from ok a _ e)
 exact⟨o,its.toArray,n,h1,h2,h3,by simpa using wS r⟩
theorem wT{fo:List (List Key×V)}(ok:HOk P w H h)(e:Rd H a (.dT fo)):fo.length<=sizeLine/\(a==sysModules)=false/\
  ∃ xs,KT H fo xs/\h.DictOfH (tupleKind (cK P w)) a xs:=by
 obtain⟨z,y,xs,r,o,es,ep,h1,h2,h3,h4,h5⟩:=(show bZ P w H h a (.dT fo) from aHL ok e)
 refine⟨z,y,xs,r,o,es,ep,h1,h2,h3,h4,fun x F=>?_,h5⟩;have all:∀{l:List (List Key×V)} {m:List (List Key×Ad×Ab)},KT H l m->∀ x∈m,(tupleKind (cK P w)).is h x.1 x.2.1:=by
  intro l m q
  induction q with
  | nil=>intro x F;exact nomatch F
  | @cons p q ps O G t J=>
   intro x F;rcases An.mp F with e|F
   .subst e;exact tN ok (by rw[<- G.1];exact G.2.1)
   .exact J x F
 exact all r x F
theorem aJo{fo:List (List Key×V)}(ok:HOk P w H h)(e:H a=some (.dT fo)):fo.length<=sizeLine/\(a==sysModules)=false/\
  ∃ xs,KT H fo xs/\h.DictOfH (tupleKind (cK P w)) a xs:=wT ok (.inl e)
end
def nU(H:Hp)(a:Ad)(y:V)(r:Option V):Prop:=
 (∃ fo k,Rd H a (.dK fo)/\y=kV k/\r=c9 fo k)\/∃ fo k b,Rd H a (.dT fo)/\y=.ref b/\H b=some (.tup (k.map kV))/\r=c9 fo k
def nV(H:Hp)(a:Ad)(y v:V)(H':Hp):Prop:=
 (∃ fo k,H a=some (.dK fo)/\y=kV k/\fo.length<sizeLine/\H'=upd H a (.dK (dM fo k v)))\/
 ∃ fo k b,H a=some (.dT fo)/\y=.ref b/\H b=some (.tup (k.map kV))/\fo.length<sizeLine/\H'=upd H a (.dT (dM fo k v))
theorem nU.k{H:Hp}{a:Ad}{fo:List (Key×V)}{k:Key}(e:H a=some (.dK fo)):nU H a (kV k) (c9 fo k):=.inl ⟨fo,k,.inl e,rfl,rfl⟩
theorem nV.k{H:Hp}{a:Ad}{fo:List (Key×V)}{k:Key}{v:V}(e:H a=some (.dK fo))(hl:fo.length<sizeLine):nV H a (kV k) v (upd H a (.dK (dM fo k v))):=.inl ⟨fo,k,e,rfl,hl,rfl⟩
section
variable{a:Ad}{y v:V}{u r:Ab}{o:Option V}
theorem Inv.big(I:Inv X df σ H s):sysModules<s.heap.objs.size:=by
 have h:mainGlobals<s.heap.objs.size:=(I.mod.glob.keeps I.bk).lt;exact FY (by decide) h
theorem aD2{Q:Ab->Ac->Prop}(hu:A.units+1<cLine)(I:Inv X df σ H s)(g:nU H a y (some v))(G:bQ y u)(h:∀ F s',Inv X df σ H s'->bQ v F->Q F s'):
  wpAny (model X.prog X.w) A (getItem (.ref a) u) Q E s:=by
 rcases g with⟨fo,k,e,ey,l⟩|⟨fo,k,b,e,ey,eb,l⟩
 .subst ey;obtain⟨z,hd,vs,rel,dd⟩:=oP I.hok e;obtain⟨F,hw,rw'⟩:=oG.some_of (v:=v) (o:=valueAt vs k) (by rw[l];exact rel.val k);exact wpAny_getItem_of (tM G) dd.mapOf hw (h F _ (I.tok _) rw')
 .subst ey;cases(show u=AD b from G);obtain⟨z,hd,xs,rel,dd⟩:=wT I.hok e;obtain⟨F,hw,rw'⟩:=oG.some_of (v:=v) (o:=(atKey xs k).map (·.2)) (by rw[l];exact rel.val k)
  obtain⟨p,hp,hp2⟩:=A5.mp hw;refine wpAny_getItem_heap (EK hu) (tN I.hok eb) dd hp ?_;rw[hp2];exact h F _ (I.tok _) rw'
theorem aKl{Q:Ab->Ac->Prop}(hu:A.units+1<cLine)(I:Inv X df σ H s)(g:nU H a y o)(F:bQ y u)(h:∀ s',Inv X df σ H s'->Q (.bool o.isSome) s'):
  wpAny (model X.prog X.w) A (compareOp .In u (.ref a)) Q E s:=by
 rcases g with⟨fo,k,e,ey,l⟩|⟨fo,k,b,e,ey,eb,l⟩
 .subst ey;obtain⟨z,hd,vs,rel,dd⟩:=oP I.hok e;refine wpAny_in_of (tM F) hd dd.mapOf ?_;rw[<- (rel.val k).isSome_eq,<- l];exact h _ (I.tok _)
 .subst ey;cases(show u=AD b from F);obtain⟨z,hd,xs,rel,dd⟩:=wT I.hok e;refine wpAny_in_heap (EK hu) (tN I.hok eb) hd dd ?_;have q:=(rel.val k).isSome_eq;rw[FD]at q;rw[<- q,<- l];exact h _ (I.tok _)
theorem aG6{Q:Ab->Ac->Prop}(hu:A.units+1<cLine)(I:Inv X df σ H s)(g:nU H a y o)(F:bQ y u)(h:∀ s',Inv X df σ H s'->Q (.bool (!o.isSome)) s'):
  wpAny (model X.prog X.w) A (compareOp .NotIn u (.ref a)) Q E s:=by
 rcases g with⟨fo,k,e,ey,l⟩|⟨fo,k,b,e,ey,eb,l⟩
 .subst ey;obtain⟨z,hd,vs,rel,dd⟩:=oP I.hok e;refine wpAny_notIn_of (tM F) hd dd.mapOf ?_;rw[<- (rel.val k).isSome_eq,<- l];exact h _ (I.tok _)
 .subst ey;cases(show u=AD b from F);obtain⟨z,hd,xs,rel,dd⟩:=wT I.hok e;refine wpAny_notIn_heap (EK hu) (tN I.hok eb) hd dd ?_;have q:=(rel.val k).isSome_eq;rw[FD]at q;rw[<- q,<- l];exact h _ (I.tok _)
theorem yQ{h':A9}{t':Nat}{ob:HO}(I:Inv X df σ H s)(G:Mut (H a))(hs:Dv a s.heap h')(F:∃ q,h'.get? a=some q)(new:bZ X.prog X.w (upd H a ob) h' a ob):
  Inv X df σ (upd H a ob) { s with heap:=h',toks:=t' }:=
 I.write (x:=a) (e:=a) G (.inl rfl) (fun b q hb z=>(hs.2 b hb).trans z) F new
theorem aFd{P:Aq}{w:AL}{H':Hp}{h':A9}{fo:List (Key×V)}{vs:List (Key×Ab)}(z:fo.length<=sizeLine)(hd:(a==sysModules)=false)(rel:KV fo vs)(dd:h'.DictOf (cK P w) a vs):
  bZ P w H' h' a (.dK fo):=⟨z,hd,vs,rel,dd⟩
theorem aD3{H':Hp}{Q:Unit->Ac->Prop}(hu:A.units+1<cLine)(I:Inv X df σ H s)(g:nV H a y v H')(O:bQ y u)(U:bQ v r)(h:∀ s',Inv X df σ H' s'->Q () s'):
  wpAny (model X.prog X.w) A (setItem (.ref a) u r) Q E s:=by
 rcases g with⟨fo,k,e,ey,l,eH⟩|⟨fo,k,b,e,ey,eb,l,eH⟩
 .subst ey eH;obtain⟨z,hd,vs,rel,dd⟩:=aFc I.hok e;have G:vs.length<=sizeLine:=by rw[<- rel.length];exact z
  have hl:(dM fo k v).length<=sizeLine:=by have:=jH fo k v;omega
  refine wpAny_setItem_pairs (hsz:=G) (tM O) dd fun h' F hs=>h _ ?_;have Y:∃ q,h'.get? a=some q:=let ⟨q,_,_,hq,_⟩:=F;⟨q,hq⟩
  exact yQ I (by rw[e];exact Cy) hs Y (aFd hl hd (rel.put k U) F)
 .subst ey eH;cases(show u=AD b from O);obtain⟨z,hd,xs,rel,dd⟩:=aJo I.hok e;have G:xs.length<=sizeLine:=by rw[<- Fj rel];exact z
  have hl:(dM fo k v).length<=sizeLine:=by have:=jH fo k v;omega
  refine wpAny_setItem_heap (hsz:=G) (EK hu) (tN I.hok eb) dd fun h' F hs=>h _ ?_;obtain⟨q,es,ep,hq,h2,h3,h4,_,h5⟩:=F;refine yQ I (by rw[e];exact Cy) hs ⟨q,hq⟩ ⟨hl,hd,_,(rel.put k eb U).keeps fun c ys J=>?_,q,es,ep,hq,h2,h3,h4,h5⟩;rw[aF (dL J e (fun z=>nomatch z))];exact J
end
section
variable{a:Ad}{fo:List (Key×V)}{k:Key}{u:Ab}
theorem aJp{Q:Ab->Ac->Prop}(I:Inv X df σ H s)(e:Rd H a (.dK fo))(h:∀ t s',Inv X df σ H s'->Q (.int fo.length t) s'):wpAny (model X.prog X.w) A (call (.builtin "len") [.ref a]) Q E s:=by
 obtain⟨z,hd,vs,rel,dd⟩:=oP I.hok e;refine call_len_dict hd dd (by rw[<- rel.length];rw[En]at z;omega) ?_;rw[<- rel.length];exact h _ _ (I.tok _)
end
def aIo(i:Ba):Prop:=∀ ov iv,subscripted i false ov iv=operate [ov,iv] (getItem ov iv)
theorem aCM{prog:Aq}{w:AL}{A:AI}{E:Ab->Ac->Prop}{s:Ac}{env:Env}{value F:Ba}{pos:Pos}{T id:String}{Q:Ab->Ac->Prop}
  (hl:typeLookup (.type T) "__getitem__"=pure (some (.builtin id))) (hs:aIo F)
  (h:wpAny (model prog w) A (eval value env) (fun o U=>wpAny (model prog w) A (eval F env) (fun i G=>G.TypeIs o T/\wpAny (model prog w) A (getItem o i) Q E G) E U) E s):
  wpAny (model prog w) A (eval (.Subscript value F pos) env) Q E s:=by
 refine Subscript_ (BM h (fun o U Z=>BM Z (fun i G J=>?_) fun _ _ x=>x) fun _ _ x=>x);obtain⟨hT,J⟩:=J;unfold subscriptTail;refine Aa ?_;rw[getitemInPython_of_ne hT.not_modules];refine Aa (GG hT hl ?_);have fin:wpAny (model prog w) A (subscripted F false o i) (fun r O=>wpAny (model prog w) A (letTemporaryGo value o r >>= fun _=>pure r) Q E O) E G:=by
  rw[hs o i];exact wpAny_operating (BM J (fun r O Y=>Aa (wpAny_letTemporaryGo (Ah Y))) fun _ _ x=>x)
 first
  | exact Ah (Aa fin)
  | exact Aa (Ah (Aa fin))
  | exact Aa fin
theorem aAj{X:Cx}{df:List (Ad×Obj)}{σ:St}{H:Hp}{s:Ac}{a:Ad}{y:V}{o:Option V}(I:Inv X df σ H s)(g:nU H a y o):s.TypeIs (.ref a) "dict":=by
 rcases g with⟨fo,k,e,_,_⟩|⟨fo,k,b,e,_,_,_⟩
 .obtain⟨_,_,vs,_,dd⟩:=oP I.hok e;exact dd.typeIs
 .obtain⟨_,_,xs,_,dd⟩:=wT I.hok e;exact dd.typeIs
def aJq(td ty:TE):TE:=fun σ H Q=>td σ H fun x H1=>ty σ H1 fun y H2=>∃ a v,x=.ref a/\nU H2 a y (some v)/\Q v H2
def aKm(ty td:TE):TE:=fun σ H Q=>ty σ H fun y H1=>td σ H1 fun x H2=>∃ a o,x=.ref a/\nU H2 a y o/\Q (.bl o.isSome) H2
def aG7(ty td:TE):TE:=fun σ H Q=>ty σ H fun y H1=>td σ H1 fun x H2=>∃ a o,x=.ref a/\nU H2 a y o/\Q (.bl (!o.isSome)) H2
def aJr(td ty tv:TE):TS:=fun D σ H=>tv σ H fun v H1=>td σ H1 fun x H2=>ty σ H2 fun y H3=>∃ a H4,x=.ref a/\nV H3 a y v H4/\D.nx σ H4
section
variable{o i value:Ba}{ig tpos:Pos}{td ty tv:TE}
theorem e8(hu:X.A.units+1<cLine)(U:PE X o td)(hi:PE X i ty)(hs:aIo i):PE X (.Subscript o i pos) (aJq td ty):=by
 constructor;intro df s σ H Q I h;refine aCM PySem.F.slot_dict_getitem.lookup hs (thn (U df s σ H _ I h) fun u s1 ⟨x,H1,Y,rx,q1⟩=>thn (hi df s1 σ H1 _ Y q1) fun iv s2 ⟨y,H2,J,Z,a,v,ex,g,q2⟩=>?_);subst ex;obtain rfl:u=AD a:=rx;exact⟨aAj J g,aD2 hu J g Z fun w' s3 O G=>⟨v,H2,O,G,q2⟩⟩
theorem aIp(hu:X.A.units+1<cLine)(hi:PE X i ty)(J:PE X o td):PC X .In i o (aKm ty td):=by
 constructor;intro df s σ H Q I h;refine thn (hi df s σ H _ I h) fun iv s1 ⟨y,H1,O,U,Z⟩=>thn (J df s1 σ H1 _ O Z) fun u s2 ⟨x,H2,G,rx,a,Y,ex,g,q2⟩=>?_;subst ex;obtain rfl:u=AD a:=rx;exact aKl hu G g U fun s3 F=>⟨.bl Y.isSome,H2,F,rfl,q2⟩
theorem aD4(hu:X.A.units+1<cLine)(hi:PE X i ty)(J:PE X o td):PC X .NotIn i o (aG7 ty td):=by
 constructor;intro df s σ H Q I h;refine thn (hi df s σ H _ I h) fun iv s1 ⟨y,H1,O,U,Z⟩=>thn (J df s1 σ H1 _ O Z) fun u s2 ⟨x,H2,G,rx,a,Y,ex,g,q2⟩=>?_;subst ex;obtain rfl:u=AD a:=rx;exact aG6 hu G g U fun s3 F=>⟨.bl (!Y.isSome),H2,F,rfl,q2⟩
theorem gZ(hu:X.A.units+1<cLine)(O:PE X o td)(hi:PE X i ty)(hv:PE X value tv)(hs:swapsWith value (some (.Subscript o i ig)) pos.line X.env=pure false):
  PS X (.Assign [.Subscript o i ig] value pos) (aJr td ty tv):=by
 constructor;intro df s σ H D I h;refine wpAny_Assign_Subscript (thn (hv df s σ H _ I h) fun r s1 ⟨v,H1,Y,rv,q1⟩=>thn (O df s1 σ H1 _ Y q1) fun u F ⟨x,H2,J,rx,q2⟩=>thn (hi df F σ H2 _ J q2) fun iv s3 ⟨y,H3,G,Z,a,U,ex,g,q3⟩=>?_) hs;subst ex;obtain rfl:u=AD a:=rx;exact aD3 hu G g Z rv fun s4 I4=>⟨σ,U,I4,q3⟩
end
theorem aAk{P:Aq}{w:AL}{H:Hp}(h:A9)(hb:sysModules<h.objs.size):bZ P w H (h.push { cls:=.type "dict",data:=.dict #[] }) h.objs.size (.dK []):=
 ⟨AV _,beq_eq_false_iff_ne.mpr (Cf (Ar hb)),[],.nil,Heap.DictOf.new h⟩
def aIq:TE:=fun _ H Q=>∀ p,H p=none->Q (.ref p) (upd H p (.dK []))
theorem jY:PE X (.Dict [] [] pos) aIq:=⟨fun df s σ H Q I h=>
 wpAny_Dict_empty ⟨.ref s.heap.objs.size,_,I.laid (a:=s.heap.objs.size) (o:=.dK []) (t':=s.toks) (fun _ _ q=>Ai _ q) (Aj _) (aAk s.heap I.big),rfl,h _ (I.hok.fresh (Aj _))⟩⟩
def aBT:List (TE×TE)->St->Hp->(List (V×V)->Hp->Prop)->Prop
 | [],_,H,Q=>Q [] H
 | (tk,tv)::r,σ,H,Q=>tk σ H fun x H1=>tv σ H1 fun y H2=>aBT r σ H2 fun ps H3=>Q ((x,y)::ps) H3
abbrev VV:List (V×V)->List (Ab×Ab)->Prop:=AZ fun p q=>bQ p.1 q.1/\bQ p.2 q.2
def PPs(X:Cx)(pos:Pos)(keys:List (Option Ba))(values:List Ba)(trs:List (TE×TE)):Prop:=
 ∀(df:List (Ad×Obj)) (s:Ac) (σ:St) (H:Hp) (Q:List (V×V)->Hp->Prop),Inv X df σ H s->aBT trs σ H Q->
  wpAny (model X.prog X.w) X.A (evalPairs (pairTrees keys values X.env pos)) (fun vs s'=>∃ ps H',Inv X df σ H' s'/\VV ps vs/\Q ps H') X.xe s
theorem aG8{X:Cx}{pos:Pos}:PPs X pos [] [] []:=fun df s σ H Q I h=>pairTrees_nil_walk ⟨[],H,I,.nil,h⟩
theorem tO{X:Cx}{pos:Pos}{k v:Ba}{ks:List (Option Ba)}{vs:List Ba}{tk tv:TE}{F:List (TE×TE)}(J:PE X k tk)(hv:PE X v tv)(G:PPs X pos ks vs F):
  PPs X pos (some k::ks) (v::vs) ((tk,tv)::F):=fun df s σ H Q I h=>
 pairTrees_cons_walk (thn (J df s σ H _ I h) fun u s1 ⟨x,H1,Z,rx,q1⟩=>thn (hv df s1 σ H1 _ Z q1) fun w2 O ⟨y,H2,Y,ry,q2⟩=>
  thn (G df O σ H2 _ Y q2) fun ws s3 ⟨ps,H3,U,rel,q3⟩=>⟨(x,y)::ps,H3,U,.cons ⟨rx,ry⟩ rel,q3⟩)
def pX(fo more:List (Key×V)):List (Key×V):=more.foldl (fun acc kv=>dM acc kv.1 kv.2) fo
theorem KV.merge:∀{more:List (Key×V)}{rs:List (Key×Ab)}{fo:List (Key×V)}{vs:List (Key×Ab)},KV more rs->KV fo vs->KV (pX fo more) (merged vs rs):=by
 intro more rs fo vs r;unfold KV at r
 induction r generalizing fo vs with
 | nil=>intro q;exact q
 | @cons p q ps J h t G=>
  intro F;have e:KV (dM fo p.1 p.2) (stored vs q.1 q.2):=by
   have:=F.put p.1 h.2;rw[<- h.1];exact this
  exact G e
theorem mZ:∀(more fo:List (Key×V)),(pX fo more).length<=fo.length+more.length
 | [],fo=>by show fo.length<=fo.length+0;omega
 | p::r,fo=>by
  have h1:=mZ r (dM fo p.1 p.2);have h2:=jH fo p.1 p.2;show(pX (dM fo p.1 p.2) r).length<=_;rw[AQ];omega
theorem tP{P:Aq}{w:AL}:∀{fo:List (Key×V)}{ws:List (Ab×Ab)},VV (fo.map fun F=>(kV F.1,F.2)) ws->∃ rs,Carries (cK P w) ws rs/\KV fo rs
 | [],_,r=>by rw[El]at r;cases r;exact⟨[],Cy,.nil⟩
 | p::fo,_,r=>by
  rw[AF]at r;cases r with
  | @cons a b as bs h t=>
   obtain⟨rs,c,q⟩:=tP (P:=P) (w:=w) t;obtain⟨b1,b2⟩:=b;exact⟨(p.1,b2)::rs,⟨tM h.1,rfl,c⟩,.cons ⟨rfl,h.2⟩ q⟩
def aJs(trs:List (TE×TE)):TE:=fun σ H Q=>∀ p,H p=none->aBT trs σ (upd H p (.dK [])) fun ps H2=>H2 p=some (.dK [])/\∃ fo:List (Key×V),ps=fo.map (fun kv=>(kV kv.1,kv.2))/\fo.length<=15/\Q (.ref p) (upd H2 p (.dK (pX [] fo)))
theorem aG9{X:Cx}{pos:Pos}{keys:List (Option Ba)}{F:List Ba}{G:List (TE×TE)}(h:PPs X pos keys F G)(J:keys.all (·.isSome)=true)(hl:keys.length=F.length)(Z:keys≠[])
  (U:keys.length<=15):PE X (.Dict keys F pos) (aJs G):=by
 constructor;intro df s σ H Q I q;have hn:=I.hok.fresh (Aj s.heap.objs.size);have I1:=I.laid (a:=s.heap.objs.size) (o:=.dK []) (h':=s.heap.push { cls:=.type "dict",data:=.dict #[] }) (t':=s.toks) (fun _ _ q=>Ai _ q) (Aj _) (aAk s.heap I.big);refine wpAny_Dict_walk (knd:=cK X.prog X.w) J hl Z U (thn (h df _ σ _ _ I1 (q _ hn)) fun ws s2 ⟨ps,H2,Y,rel,e,fo,ep,lk,q2⟩=>?_);subst ep;obtain⟨rs,c,rk⟩:=tP (P:=X.prog) (w:=X.w) rel;obtain⟨z,hd,vs0,r0,dd⟩:=aFc Y.hok e;cases r0;refine⟨rs,c,dd,fun h' O hs=>⟨.ref s.heap.objs.size,_,?_,rfl,q2⟩⟩;have hz:(pX [] fo).length<=sizeLine:=by
  have h1:=mZ fo [];rw[List.length_nil]at h1;rw[En];omega
 have he:∃ q,h'.get? s.heap.objs.size=some q:=let ⟨q,_,_,hq,_⟩:=O;⟨q,hq⟩
 exact yQ Y (by rw[e];exact Cy) hs he (aFd hz hd (rk.merge .nil) O)
structure M1(X:Cx)(o:Ba)(m:Str)(gp:Pos)(e:Ba)(fq:Pos):Prop where
 base:attributeBase o m X.env (eval o X.env)=eval o X.env
 few:((backTo fq (starEach [e] X.env)).all (fun x=>!x.1)&&(backToKw fq (keywordEach [] X.env)).all (fun x=>x.1.isSome)
  && decide (([e]:List Ba).length+([]:List Fk).length+(if ([]:List Fk).isEmpty then 0 else 1)<30))=true
 line:(gp.endLine==fq.line)=true
 trees:backTo fq (starEach [e] X.env)=[(false,eval e X.env)]
structure M2(X:Cx)(o:Ba)(m:Str)(gp:Pos)(e f:Ba)(fq:Pos):Prop where
 base:attributeBase o m X.env (eval o X.env)=eval o X.env
 few:((backTo fq (starEach [e,f] X.env)).all (fun x=>!x.1)&&(backToKw fq (keywordEach [] X.env)).all (fun x=>x.1.isSome)
  && decide (([e,f]:List Ba).length+([]:List Fk).length+(if ([]:List Fk).isEmpty then 0 else 1)<30))=true
 line:(gp.endLine==fq.line)=true
 trees:backTo fq (starEach [e,f] X.env)=[(false,eval e X.env),(false,eval f X.env)]
def IsD(H:Hp)(a:Ad):Prop:=(∃ fo,Rd H a (.dK fo))\/∃ fo,Rd H a (.dT fo)
theorem aFe{X:Cx}{df:List (Ad×Obj)}{σ:St}{H:Hp}{s:Ac}{a:Ad}(I:Inv X df σ H s)(d:IsD H a):
  s.TypeIs (.ref a) "dict"/\(∀ b,AD a=.ref b->∃ ob,s.heap.get? b=some ob/\ob.dict=none)/\(a==sysModules)=false:=by
 rcases d with⟨fo,e⟩|⟨fo,e⟩
 .obtain⟨_,hd,vs,_,dd⟩:=oP I.hok e;refine⟨dd.typeIs,fun b q=>?_,hd⟩;cases q;obtain⟨ob,_,_,h1,h2,_⟩:=dd;exact⟨ob,h1,h2.2.1⟩
 .obtain⟨_,hd,xs,_,dd⟩:=wT I.hok e;refine⟨dd.typeIs,fun b q=>?_,hd⟩;cases q;obtain⟨ob,_,_,h1,h2,_⟩:=dd;exact⟨ob,h1,h2.2.1⟩
section
variable{a:Ad}{y d:V}{u r:Ab}{o:Option V}
end
section
variable{o f:Ba}{gp fq:Pos}{td ty tx:TE}
end
section
variable{a:Ad}{fo:List (Key×V)}
end
section
variable{a:Ad}{y:V}{u:Ab}
end
end L2
namespace Att
open PySem PySem.W PySem.Calls PyProof.Rows
theorem rP{P:Params}{h:A9}:∀(ns:List Int) (vs:List Ab),WellAll P h vs (ns.map WData.int)->Ec vs ns:=by
 intro ns
 induction ns with
 | nil=>
  intro vs w;rw[El]at w;cases w;exact .nil
 | cons n ns F=>
  intro vs w;rw[AF]at w;cases w with
  | cons a b=>
   cases a;exact .cons _ _ (F _ b)
theorem aD5{l:OpenLaw}{n:Nat}(hn:l.most=some n){P:Params}{h:A9}{args:List WData}{F:List Ab}
  (G:l.row.toRowW.claim.pre args=true) (Z:WellAll P h F args):
  ∃ a vs ns,F=[AD a]/\args=[WData.list (ns.map WData.int)]/\h.get? a=some { cls:=.type "list",data:=.seq vs.toArray }/\Ec vs ns/\ns.length<=n:=by
 have aa:WShape.hasAll [] args [.list .int]=true:=(pre_splitW G).1;have hc:l.pre.holds [] { args:=args }=true:=(pre_splitW G).2;obtain⟨d,r,rfl,h1,h2⟩:=hasAllW_cons aa;obtain rfl:=hasAllW_nil h2;obtain⟨xs,rfl,h3⟩:=hasW_list h1;obtain⟨ns,rfl⟩:=items_int h3;have J:ns.length<=n:=by
  unfold OpenLaw.pre at hc;have U:(WTm.not (.lt (.lit (.int (n:Int))) (.len (.arg 0)))).holds [] { args:=[.list (ns.map .int)] }=true:=by
   have U:=(holds_andW hc).1;rw[hn]at U;exact U
  have Y:=condW_of U (w_not (w_lt w_lit (w_len_list (w_arg rfl))));rw[Af]at Y;refine CI fun q=>?_;have q':(n:Int)<((ns.length:Nat):Int):=by omega
  first
   | (rw[Ic q']at Y;exact absurd Y (by decide))
   | (simp at Y;omega)
 cases Z with
 | cons w1 w2=>
  cases w2;cases w1 with
  | list ho O=>exact⟨_,_,ns,rfl,rfl,ho,rP ns _ O,J⟩
theorem aD6(l:OpenLaw)(args:List WData):l.row.toRowW.claim.post args (.bool true) args=true:=
 postW_of (r:=l.row.toRowW) (X:=(true==true))
  (show WShape.has [] (.bool true) .bool=true by first|rfl|decide|simp[WShape.has,WShape.arms,WShape.armsAll])
  (show(WTm.eq .res (.lit (.bool true))).value [] { args:=args,res:=some (.bool true),after:=args }=some (.bool (true==true)) from w_eq_bool (w_res rfl) w_lit) rfl
theorem attach_call{l:OpenLaw}{n:Nat}{q:Aq}{F:List Str}{XP:(Str->Option Ab)->A9->Prop}{YP:AL->A9->Prop}{d:DefRec}
  (hn:l.most=some n) (aa:d.params.defaults=[])
  (call:∀(w:AL) (s₀ J:Ac) (mg mb:Str->Option Ab) (Z:Ad) (o:Obj) (pm cd O:Ab) (a:Ad) (vs:List Ab) (ns:List Int),
   Ground q F [] XP w s₀ mg mb J.heap->YP w J.heap->
   J.heap.get? Z=some o->o.data=.func (docDef d.name d.params d.body d.scope pm cd O)->J.heap.CodeRec cd d.name->mg d.name=some (.ref Z)->
   J.heap.get? a=some { cls:=.type "list",data:=.seq vs.toArray }->Ec vs ns->ns.length<=n->J.gens=#[]->
   codeAny (model l.prog w) callerA (.call (.ref Z) ⟨[.ref a],[]⟩) (fun r s'=>r=.ok (.ret (.bool true))/\OldK J.heap s'.heap/\s'.os=J.os/\EJ s'.gens) J):
  WalkO q F XP YP l.row.toRowW d [] (fun f vs=>Hc f vs):=by
 intro w s₀ J mg mb G Y Z o pm cd O dV kV ho hd ae hD ad hg ak ah as U ai al af ao;obtain rfl:dV=.none:=Dflts.none hD aa;obtain rfl:kV=.none:=Dflts.noKw hD;obtain⟨a,vs,ns,rfl,rfl,hobj,hints,hlen⟩:=aD5 hn U af;refine enter_call (C2 (call w s₀ J mg mb Z o pm cd O a vs ns G Y ho (fd_plain hd) ae ad hobj hints hlen hg) fun r s' hq=>?_);obtain⟨rfl,h2,h3,h4⟩:=hq;exact⟨.inl ⟨.bool true,.bool true,[],rfl,fun _=>rfl,.bool true,aD6 l _,fun _=>⟨BZ,fun _ hm=>(nomatch hm)⟩⟩,h2,h3,h4⟩
section
variable{prog:Aq}{w:AL}{A:AI}{E:Ab->Ac->Prop}{s:Ac}{K:Frag}
end
end Att
namespace L2
open PySem PySem.Spec PyProof.Rows
variable{P prog:Aq}{w:AL}{K:Ag}{mg:Str->Option Ab}{base h':A9}{X:Cx}{df:List (Ad×Obj)}{σ:St}{H H':Hp}{s:Ac}{A:AI}{E:Ab->Ac->Prop}{e:Ba}{te:TE}{pos gp fq:Pos}{es:Array (Int×Ab)}{f:Ad}{qual:Str}{scope:CF}{cd:Ab}{outer:List Env}
theorem wU:∀{vs:List Ab}{ns:List Int},Ec vs ns->bK (ns.map V.int) vs
 | _,_,.nil=>.nil
 | _,_,.cons n t h=>.cons ⟨t,rfl⟩ (wU h)
def aKM(H:Hp):Prop:=∀ b,H b=none\/∃ o xs,H b=some (.frz o (.lst xs))
abbrev KOf{K:Ag}{h:A9}(_:K.In h):Ag:=K
def aHa(s:Cd)(j:Nat):Cd:=match s with
 | .ClassDef _ _ _ body _ _ _ _ _ _ _=>body.getD j (.Pass ⟨0,0,0,0⟩)
 | _=>.Pass ⟨0,0,0,0⟩
def fG(s:Cd):CZ:=match s with
 | .FunctionDef _ a _ _ _ _ _ _ _ _=>a
 | _=>{ posonlyargs:=[],args:=[],vararg:=none,kwonlyargs:=[],kw_defaults:=[],kwarg:=none,defaults:=[] }
def dQ(s:Cd):List Cd:=match s with
 | .FunctionDef _ _ b _ _ _ _ _ _ _=>b
 | _=>[]
def aM(s:Cd):CF:=match s with
 | .FunctionDef _ _ _ _ _ _ sc _ _ _=>sc
 | _=>{ kind:=.function,names:=[],isGenerator:=false,isCoroutine:=false }
abbrev CX0:CXT:=fun _ _ _ _ _ _=>False
abbrev E0:XK:=fun _ _ _=>False
theorem dP{X:Cx}:lH CX0 X E0:=fun _ _ _ _ _ _ _ h=>h.elim
structure Fun(K:Ag)(x qual:Str)(st:Cd)(f:Ad)(fd:A4):Prop where
 ex:∃(oc:Ab) (od:Option Ad) (kV doc pm:Ab) (an:Option Ad) (cdv ct:Ab) (osl:Array (Option Ab)),
  fd=Cc x qual (fG st) (dQ st) (aM st) .none kV doc pm an cdv ct/\K.lookup f=some ⟨oc,od,.func fd,osl⟩/\Cr K cdv qual=true
 kp:AJ K (.ref f)=true
theorem Fun.ok{x qual:Str}{st:Cd}{f:Ad}{fd:A4}{N ps:List Str}{k:Nat}{sp:Sp}(F:Fun K x qual st f fd)(S:bG N ps (aM st))(len:∀ vs H Q E,sp vs H Q E->vs.length=ps.length)
  (J:∀(G:Ab) (A:AI) (outer:List Env) (s:Ac) (H:Hp) (vs:List V) (Q:VK) (E:XK),cF k (A.deeper (envOfC qual (aM st) s.heap.objs.size f G))->sp vs H Q E->
   ∃ t,PSs (iH CX0 P w K mg base N qual (aM st) f G A outer s H E).nox (dQ st) t/\t { nx:=fun _ H'=>Q .non H',rt:=Q } (start N vs) H):cA P w K mg base CX0 (k+1) f fd ps sp:=by
 obtain⟨oc,od,kV,doc,pm,an,G,ct,osl,rfl,lk,hcd⟩:=F.ex;refine aEZ lk hcd S len fun A outer s H vs Q E U O=>?_;obtain⟨t,h,q⟩:=J G A outer s H vs Q E U O;exact⟨t,h.nox,q⟩
theorem Fun.binds{x qual:Str}{st:Cd}{f:Ad}{fd:A4}{ps:List Str}(F:Fun K x qual st f fd)
  (h:∀(kV J pm:Ab) (U:Option Ad) (G ct:Ab) (O:List Ab),O.length=ps.length->bindArgs (Cc x qual (fG st) (dQ st) (aM st) .none kV J pm U G ct) ⟨O,[]⟩=pure (ps.zip O)):dA K fd ps []:=by
 obtain⟨oc,od,kV,J,pm,U,G,ct,osl,rfl,lk,hcd⟩:=F.ex;exact .all (h kV J pm U G ct)
theorem nX{x qual:Str}{st:Cd}{f:Ad}{U:Ab}{od O:Option Ad}{J:Array (Option Ab)}{kV G pm F ct:Ab}(l:K.lookup f=some ⟨U,od,.func (Cc x qual (fG st) (dQ st) (aM st) .none kV G pm O F ct),J⟩)
  (c:Cr K F qual=true) (k:AJ K (.ref f)=true):Fun K x qual st f (Cc x qual (fG st) (dQ st) (aM st) .none kV G pm O F ct):=⟨⟨U,od,kV,G,pm,O,F,ct,J,rfl,l,c⟩,k⟩
theorem oQ{A:AI}{k:Nat}(F:cF k A):A.units+1<cLine:=B0 (Nat.add_le_add_left (by decide:1<=64) _) F.units
theorem wV{n:Nat}(h:n<=1000):n<sizeLine:=B0 h (by decide)
theorem pv(i:Nat){x:Str}{pos:Pos}(hN:X.N[i]?=some x:=by rfl)(G:Vis X.env.scope x:=by first|exact AC rfl|exact Ej (AC rfl)|exact Ej (Ej rfl))(hd:(x==("__debug__":Str))=false:=by decide)
  (F:(x==("__classdict__":Str))=false:=by decide):PE X (.Name x pos) (aI2 i):=aH7 hN G hd F
theorem dU{A B:Prop}(h:B):if false=true then A else B:=by
 rw[Ia Av];exact h
theorem iD{A B:Prop}(h:A):if true=true then A else B:=by
 rw[Ib rfl];exact h
theorem mQ{c A B:Prop}[Decidable c](h1:c->A)(h2:¬ c->B):if c then A else B:=by
 by_cases h:c
 .rw[Ib h];exact h1 h
 .rw[Ia h];exact h2 h
def bU(H H':Hp):Prop:=∀ b o,H b=some o->H' b=some o
theorem bU.refl(H:Hp):bU H H:=fun _ _ h=>h
theorem bU.trans{H H1 H2:Hp}(a:bU H H1)(b:bU H1 H2):bU H H2:=fun c o h=>b c o (a c o h)
theorem bU.seq{K:Ag}{H H':Hp}{a:Ad}{xs:List V}(e:bU H H')(h:SqL K H a xs):SqL K H' a xs:=by
 rcases h with(h|⟨o,h⟩)|h
 .exact .inl (.inl (e _ _ h))
 .exact .inl (.inr ⟨o,e _ _ h⟩)
 .exact .inr h
inductive m4(xs:List V)(H:Hp)(Q:VK):Prop
 | mk (a:_) (fo:_) (q0:xs=[V.ref a]) (q1:H a=some (.dK fo)) (q2:Q (.int fo.length) H):m4 xs H Q
def aAl:List V->Hp->VK->Prop:=fun xs H Q=>m4 xs H Q
theorem aD7:eJ X (.builtin "len") aAl:=by
 intro df s σ H xs G Q I r h;obtain⟨a,fo,rfl,ha,q⟩:=h;obtain⟨u,rfl,ru⟩:=eV r;cases ru;exact aJp I (.inl ha) fun t s' F=>⟨.int fo.length,H,F,⟨t,rfl⟩,q⟩
section
variable{κ:Type}[DecidableEq κ]
theorem aHb{fo:List (κ×V)}{k:κ}{v:V}(h:c9 fo k=some v):k∈fo.map (·.1):=by
 have q:(fo.any fun F=>decide (F.1=k))=true:=by
  rw[iZ,h]
  all_goals rfl
 obtain⟨p,hp,e⟩:=Dt.mp q;exact BA.mpr ⟨p,hp,Ig e⟩
end
theorem Inv.track{D:Ad}{ob:HO}(I:Inv X df σ H s)(hf:lC X df H D)(new:bZ X.prog X.w (upd H D ob) s.heap D ob):Inv X df σ (upd H D ob) s:=by
 obtain⟨hn,hL,hfs,hex,hce,hpi⟩:=hf;have F:∀ b u,H b=some u->b≠D:=fun b u e=>aJ e hn;refine I.step (g':=s.gens) (t':=s.toks) (d':=s.drawn) (h':=s.heap) (H':=upd H D ob) (ch:=[D]) (fun b hb=>?_) (fun b o _ _ _ e _=>e) (fun b o _ _ _ e _=>⟨o.slots,e⟩) (fun b o hc e n=>?_)
  (fun b o _ e=>⟨o,e⟩) (fun b xs e=>by rw[aF (F b _ e)];exact e) (fun b o u e=>by rw[aF (F b _ e)];exact e) (fun b ps e=>⟨#[],by rw[aF (F b _ e),e];simp⟩) (fun m hm=>hm) (fun b u e=>?_) I.bare
 .have e:b=D:=by simpa using hb
  subst e;exact⟨hex,hL,hce,hpi⟩
 .rw[aF (fun z=>hc (by simp[z]))];exact n
 .by_cases hb:b=D
  .subst hb;rw[aA]at e;cases e;exact new
  .rw[aF hb]at e;exact(I.hok b u e).stay (fun c v _ q=>q) (fun c q=>by rw[aF (F c _ q)];exact q) fun c xs q=>by rw[aF (F c _ q)];exact q
def iM(env:Env):List (Str×Ea)->List (Str×Ad)->List (Str×Ad)
 | [],cs=>cs
 | (n,k)::r,cs=>iM env r (if k=.free then(match env.cells.lookup n with|some c=>(n,c)::cs|none=>cs) else cs)
theorem tQ{α β:Type}(f:α->β->Sem (ForInStep β))(g:α->β->β):∀(l:List α) (b:β),(∀ y∈l,∀ b,f y b=pure (.yield (g y b)))->(forIn l b f:Sem β)=pure (l.foldl (fun b y=>g y b) b)
 | [],b,_=>rfl
 | a::r,b,h=>by
  rw[Fb,h a Am b];exact tQ f g r (g a b) fun y F=>h y (Al _ F)
def wW(env:Env)(y:Str×Ea)(cs:List (Str×Ad)):List (Str×Ad):=if y.2=.free then(match env.cells.lookup y.1 with|some c=>(y.1,c)::cs|none=>cs) else cs
theorem tR(env:Env):∀(l:List (Str×Ea)) (F:List (Str×Ad)),l.foldl (fun b y=>wW env y b) F=iM env l F
 | [],F=>rfl
 | (n,k)::r,F=>by
  rw[B1,tR env r];rfl
theorem oR{scope:CF}{env:Env}(h:∀ y∈scope.names,y.2=.free->∃ c,env.cells.lookup y.1=some c):closureFor scope env=pure (iM env scope.names []):=by
 simp only[closureFor];rw[tQ _ (wW env) scope.names [] (fun y J b=>?_)]
 .rw[tR];rfl
 .obtain⟨n,k⟩:=y;by_cases F:k=.free
  .obtain⟨c,hc⟩:=h (n,k) J F;subst F;have e:cellOf env n=pure c:=by unfold cellOf;rw[hc]
   have G:wW env (n,Bb) b=(n,c)::b:=by unfold wW;rw[Ib rfl,hc]
   simp only[e,G];rfl
  .have e:(k==Bb)=false:=by simpa using F
   have G:wW env (n,k) b=b:=by unfold wW;rw[Ia F]
   simp only[e,G,Da,if_false]
theorem pY{env:Env}:∀(l:List (Str×Ea)) (F:List (Str×Ad)),(∀ x c,F.lookup x=some c->env.cells.lookup x=some c)->∀ x c,(iM env l F).lookup x=some c->env.cells.lookup x=some c
 | [],F,h,x,c,e=>h x c e
 | (n,k)::r,F,h,x,c,e=>by
  unfold iM at e;refine pY r _ (fun x c e=>?_) x c e;by_cases J:k=.free
  .rw[Ib J]at e;cases hc:env.cells.lookup n with
   | none=>rw[hc]at e;exact h x c e
   | some d=>
    rw[hc]at e;by_cases G:x=n
    .subst G;simp at e;rw[<- e];exact hc
    .have:(x==n)=false:=by simpa using G
     rw[Bv,this]at e;exact h x c e
  .rw[Ia J]at e;exact h x c e
theorem pZ{env:Env}:∀(l:List (Str×Ea)) (F:List (Str×Ad)) (x:Str),(∀ y∈l,y.2=.free->∃ c,env.cells.lookup y.1=some c)->((∃ c,F.lookup x=some c)\/(x,Bb)∈l)->∃ c,(iM env l F).lookup x=some c
 | [],F,x,_,h=>by
  rcases h with h|h
  .exact h
  .simp at h
 | (n,k)::r,F,x,hc,h=>by
  unfold iM;refine pZ r _ x (fun y O=>hc y (Al _ O)) ?_;rcases h with⟨c,h⟩|h
  .refine .inl ?_;split
   .split
    .rename_i d _;by_cases J:x=n
     .subst J;exact⟨d,by simp⟩
     .have:(x==n)=false:=by simpa using J
      exact⟨c,by rw[Bv,this];exact h⟩
    .exact⟨c,h⟩
   .exact⟨c,h⟩
  .rcases An.mp h with h|h
   .cases h;obtain⟨d,hd⟩:=hc (n,Bb) Am rfl;refine .inl ⟨d,?_⟩;rw[Ib rfl];have G:env.cells.lookup n=some d:=hd;rw[G];simp
   .exact .inr h
theorem tS{env : Env} : ∀{names : List (Str×Ea)}{x : Str}, (∀ y∈names, y.2≠.cell) ->
    ((names.map fun(n, k) => if (k==Bb&&env.scope.kind==.function&&env.kindOf n==some .cell) then(n, DY) else(n, k)).lookup x = some .cell \/
     (names.map fun(n, k) => if (k==Bb&&env.scope.kind==.function&&env.kindOf n==some .cell) then(n, DY) else(n, k)).lookup x = some .free) -> names.lookup x = some .free
  | [], x, _, h => by simp at h
  | (n, k)::r, x, hc, h => by
    have J := @tS env r x fun y O => hc y (Al _ O);have U := hc (n, k) Am;rw[AF]at h;by_cases G : x = n
    . subst G
      rw[Bv, beq_self_eq_true];simp only;by_cases F : (k==Bb&&env.scope.kind==.function&&env.kindOf x==some .cell) = true
      . have : (k==Bb) = true := by
          rw[Cq, Cq]at F;exact F.1.1
        simpa using this
      . simp only[Ia F, Bv, beq_self_eq_true]at h
        rcases h with h|h
        . exact absurd (Bt.inj h) U
        . exact h
    . have e : (x==n) = false := by simpa using G
      rw[Bv, e];refine J ?_;by_cases F : (k==Bb&&env.scope.kind==.function&&env.kindOf n==some .cell) = true
      . simp only[Ib F, Bv, e]at h
        exact h
      . simp only[Ia F, Bv, e]at h
        exact h
theorem oS{env : Env} : ∀{names : List (Str×Ea)}{x : Str}, names.lookup x = some .free ->
    ((names.map fun(n, k) => if (k==Bb&&env.scope.kind==.function&&env.kindOf n==some .cell) then(n, DY) else(n, k)).lookup x = some .cell \/
     (names.map fun(n, k) => if (k==Bb&&env.scope.kind==.function&&env.kindOf n==some .cell) then(n, DY) else(n, k)).lookup x = some .free)
  | [], x, h => by simp at h
  | (n, k)::r, x, h => by
    have J := @oS env r x;rw[AF];by_cases G : x = n
    . subst G
      rw[Bv, beq_self_eq_true]at h;simp only at h;cases h;by_cases F : (Bb==Bb&&env.scope.kind==.function&&env.kindOf x==some .cell) = true
      . refine .inl ?_
        show Do x ((if (Bb==Bb&&env.scope.kind==.function&&env.kindOf x==some .cell) = true then(x, DY) else(x, Bb))::_) = _;rw[Ib F, Bv, beq_self_eq_true]
      . refine .inr ?_
        show Do x ((if (Bb==Bb&&env.scope.kind==.function&&env.kindOf x==some .cell) = true then(x, DY) else(x, Bb))::_) = _;rw[Ia F, Bv, beq_self_eq_true]
    . have e : (x==n) = false := by simpa using G
      rw[Bv, e]at h;have := J h;by_cases F : (k==Bb&&env.scope.kind==.function&&env.kindOf n==some .cell) = true
      . simp only[Ib F, Bv, e]
        exact this
      . simp only[Ia F, Bv, e]
        exact this
def blk(X:Cx)(N:List Str)(scope:CF)(cl:List (Str×Ad))(s:Ac)(H:Hp)(fp:List Ad)(df:List (Ad×Obj))(C:Ad):Cx where
 prog:=X.prog
 w:=X.w
 K:=X.K
 mg:=X.mg
 base:=X.base
 A:=X.A
 N:=N
 s₀:=s
 H₀:=H
 env:=compEnvC scope cl C X.env
 outer:=X.stack
 stack:=X.stack
 ex:=fp
 fn:=fun _=>false
 calm:=X.calm
 pn:=X.pn++df
 xe:=fun _ _=>False
def aHM(N:List Str)(src:List (Option Nat))(scope:CF)(oN:List Str):Bool:=
 (N.zip src).all fun p=>match p.2 with|none=>true|some j=>(oN[j]?==some p.1)&&(scope.names.lookup p.1==some .free)
structure aAm(N:List Str)(src:List (Option Nat))(scope osc:CF)(oN:List Str):Prop where
 kind:scope.kind=.function
 nocell:∀ y∈scope.names,y.2≠.cell
 names:∀ y∈scope.names,y.2=.local->scope.names.lookup y.1=some .local
 fr:∀ y∈scope.names,y.2=.free->osc.names.lookup y.1=some .cell\/osc.names.lookup y.1=some .free
 len:src.length=N.length
 srcs:aHM N src scope oN=true
def sub(src:List (Option Nat))(σ:St):St:=src.map fun o=>match o with|none=>none|some j=>(σ[j]?).getD none
theorem aFf{N:List Str}{src:List (Option Nat)}{scope:CF}{oN:List Str}(h:aHM N src scope oN=true){i j:Nat}{x:Str}(h1:N[i]?=some x)(h2:src[i]?=some (some j)):oN[j]?=some x/\scope.names.lookup x=some .free:=by
 have hm:(x,some j)∈N.zip src:=by
  refine AU (i:=i) ?_;rw[List.getElem?_zip_eq_some];exact⟨h1,h2⟩
 have:=C4.mp h _ hm;simp only[Cq,beq_iff_eq]at this;exact this
theorem aIr{src:List (Option Nat)}{σ:St}{i:Nat}{v:V}(h:(sub src σ)[i]?=some (some v)):∃ j,src[i]?=some (some j)/\σ[j]?=some (some v):=by
 unfold sub at h;rw[AB]at h;cases e:src[i]? with
 | none=>rw[e]at h;simp at h
 | some o=>
  rw[e]at h;cases o with
  | none=>simp at h
  | some j=>
   refine⟨j,rfl,?_⟩;cases F:σ[j]? with
   | none=>simp[F]at h
   | some G=>
    simp[F]at h;rw[h]
structure PTs(X:Cx)(ifs:List Ba)(t:TT):Prop where
 run:
  ∀(df:List (Ad×Obj)) (s:Ac) (σ:St) (H:Hp) (Q:Bool->Hp->Prop),Inv X df σ H s->t σ H Q->
   wpAny (model X.prog X.w) X.A (forIn ifs true fun c r=>if r=true then do let ok <- isTrue c X.env (eval c X.env);pure (Ct ok) else pure (Ct r)) (TP X df σ Q) X.xe s
instance{X:Cx}{ifs:List Ba}{t:TT}:CoeFun (PTs X ifs t) (fun _=>
 ∀(df:List (Ad×Obj)) (s:Ac) (σ:St) (H:Hp) (Q:Bool->Hp->Prop),Inv X df σ H s->t σ H Q->
  wpAny (model X.prog X.w) X.A (forIn ifs true fun c r=>if r=true then do let ok <- isTrue c X.env (eval c X.env);pure (Ct ok) else pure (Ct r)) (TP X df σ Q) X.xe s):=⟨fun h=>h.run⟩
theorem f7{X:Cx}:PTs X [] (fun _ H Q=>Q true H):=⟨fun _ _ _ H _ I h=>wpAny_tests_nil ⟨H,I,h⟩⟩
theorem lX{X:Cx}{c:Ba}{t:TT}(h:PT X c t):PTs X [c] t:=⟨fun df s σ H Q I q=>wpAny_tests_one (h df s σ H Q I q)⟩
theorem Inv.clos{N:List Str}{src:List (Option Nat)}{scope:CF}(B:aAm N src scope X.env.scope X.N)(I:Inv X df σ H s):∀ y∈scope.names,y.2=.free->∃ c,X.env.cells.lookup y.1=some c:=
 fun y F hf=>I.ok.has y.1 (B.fr y F hf)
theorem Inv.block{N:List Str}{src:List (Option Nat)}{scope:CF}{fp:List Ad}{Y:Ac}{C:Ad}{m:Str->Option Ab}(B:aAm N src scope X.env.scope X.N)(I:Inv X df σ H s)
  (hf:∀ b∈fp,lC X df H b) (ad:∀ b∈fp,b<s.heap.objs.size) (hC:s.heap.objs.size<=C) (O:Y.os=s.os) (hb:EJ Y.gens) (U:∀ b o,s.heap.get? b=some o->Y.heap.get? b=some o) (hn:Y.heap.Ns C m):
  Inv (blk X N scope (iM X.env scope.names []) s H fp df C) [] (sub src σ) H Y:=by
 have G:=I.clos B;have F:∀ x c,(iM X.env scope.names []).lookup x=some c->X.env.cells.lookup x=some c:=pY _ _ (fun x c e=>by simp at e);have ah:∀ b∈frs X.stack,b<s.heap.objs.size:=fun b hb=>by
  obtain⟨_,o,O,_⟩:=I.stack.mem hb;exact Ap O
 refine⟨⟨I.ok.mod,B.kind,I.ok.glob,I.ok.blt,hC,fun x y c e1 e2=>I.ok.inj x y c (F x c e1) (F y c e2),fun x hx=>?_,fun x c hx=>absurd hx Av,I.ok.hd,I.ok.frames,.inl rfl,fun b hb=>⟨?_,fun x c e=>?_⟩,fun b o e=>?_,AM I.ok.bsz I.sz,fun b o e hb=>?_,fun b hb hz=>?_,I.stack,I.stkFree⟩,
  O,hb,Un.kept U,⟨m,hn,fun i x v e1 e2 e3=>?_⟩,fun x c e=>?_,?_,fun x c e=>I.freeC x c (F x c e),fun p hp=>?_,I.hok.kept U,?_⟩
 .have ag:=tS (env:=X.env) B.nocell hx;exact pZ _ _ x G (.inr (Bl ag))
 .exact Ar (AE (ad b hb) hC)
 .exact(hf b hb).2.2.2.2.1 x c (F x c e)
 .exact I.bs b o e
 .rcases(hf b hb).2.2.2.1 with z|z
  .exact I.ok.noex b o e z
  .exact absurd (AE (Ap e) (AM I.ok.bsz z)) (BD _)
 .rcases An.mp (I.stkSub b hz)with e|z
  .exact(hf b hb).2.1 e
  .exact(hf b hb).2.2.1 z
 .obtain⟨j,ej,ev⟩:=aIr e2;obtain⟨oj,fj⟩:=aFf B.srcs e1 ej;have J:=B.fr _ (Bl fj) rfl;obtain⟨m0,hn0,hl0⟩:=id I.loc;obtain⟨u,ru,lk⟩:=hl0 j x v oj ev (.inr J);refine⟨u,ru,.inr ⟨oS fj,?_⟩⟩;rcases lk with⟨k,_⟩|⟨k,c,hc,hcell⟩
  .have k':X.env.scope.names.lookup x=some .local:=k;rcases J with z|z<;>(rw[k']at z;cases z)
  .obtain⟨c',hc'⟩:=pZ (env:=X.env) scope.names [] x G (.inr (Bl fj));have e:=F x c' hc';rw[hc]at e;cases e;obtain⟨o,O,hd⟩:=hcell;exact⟨c,hc',o,U _ _ O,hd⟩
 .obtain⟨v,o,O,hd⟩:=I.cell x c (F x c e);exact⟨v,o,U _ _ O,hd⟩
 .exact I.hok.fresh hC
 .have Z:p∈X.pn++df:=by
   rcases AK.mp hp with z|z
   .exact z
   .simp at z
  obtain⟨q1,q2,q3,q4,q5⟩:=I.pin p Z;refine⟨U _ _ q1,q2,Ar (AE (Ap q1) hC),fun z=>?_,q5⟩;rcases An.mp (I.stkSub _ z)with e|z
  .exact q3 e
  .exact q4 z
 .show(sub src σ).length=N.length;unfold sub;rw[Af];exact B.len
section
variable{R:Hm->Ac->Prop}
theorem aAn{J F G:Ba}{O:List Ba}{scope:CF}{pos:Pos}{it acc:Ab}{env:Env}(I:Nat->Ac->Prop)
  (U:∀ n s,I n s->wpAny (model prog w) A (pyNext it) (fun r s₁=>match r with
   | none=>R (.ok .next) s₁
   | some v=>wpAny (model prog w) A (letOwnedTupleGo F it v) (fun _ Y=>wpAny (model prog w) A (assign F env v) (fun _ s₂=>
     wpAny (model prog w) A (forIn O true fun c r=>if r=true then do let ok <- isTrue c env (eval c env);pure (Ct ok) else pure (Ct r)) (fun ok Z=>
      if ok=true then wpAny (model prog w) A (eval J env) (fun x s₄=>
       wpAny (model prog w) A (call (.builtin "list.append") [acc,x]) (fun _ s₅=>∃ m,m<n/\I m s₅) (fun _ _=>False) s₄) (fun _ _=>False) Z
      else∃ m,m<n/\I m Z) (fun _ _=>False) s₂) (fun _ _=>False) Y) (fun _ _=>False) s₁) (fun _ _=>False) s)
  (n:Nat) (h:I n s):
  codeAny (model prog w) A (.compLoop (.ListComp J [⟨F,G,O,0⟩] scope pos) 0 it acc env) R s:=by
 have nv:∀{α:Type} {t:Sem α} {Q:α->Ac->Prop} {E:Ab->Ac->Prop} {s:Ac},wpAny (model prog w) A t Q (fun _ _=>False) s->wpAny (model prog w) A t Q E s:=fun h=>BM h (fun _ _ x=>x) fun _ _ x=>x.elim;refine codeAny_loop rfl I (fun n s hI=>?_) n h;show wpAny _ A ((compTurn (.ListComp J [⟨F,G,O,0⟩] scope pos) 0 it acc env).onRaise (fun x=>do noteFrame x env;theTreesLotGoes x)) _ _ s;refine wpAny_noted ?_;rw[compTurn_list];refine Aa (E5 (Aa (nv (thn (U n s hI) (fun r s₁ h₁=>?_)))));cases r with
 | none=>exact Ah h₁
 | some v=>
  refine Aa (BM h₁ (fun _ Y ad=>?_) fun _ _ x=>x.elim);refine Aa (BM ad (fun _ s₂ h₂=>Aa (BM h₂ (fun ok Z h₃=>?_) fun _ _ h'=>h'.elim)) fun _ _ h'=>h'.elim);cases ok with
  | false=>exact Ah ⟨rfl,h₃⟩
  | true=>
   exact Aa (Aa (BM h₃ (fun x s₄ h₄=>Aa (BM h₄ (fun _ s₅ h₅=>Ah (Ah ⟨rfl,h₅⟩)) fun _ _ h'=>h'.elim)) fun _ _ h'=>h'.elim))
end
inductive aCN(J : It)(g : TG)(tt : TT)(te : TE)(σ₀ : St)(H₀ : Hp)(Q : VK) : Prop
  | mk (W : Nat -> Nat -> List V -> St -> Hp -> Prop) (q0 : (∃ m, W 0 m [] σ₀ H₀)) (q1 : ∀ i m ys σ H, W i m ys σ H -> ys.length <= sizeLine /\
    ((J.stop i H /\ ∀ D, H D = none -> Q (.ref D) (upd H D (.lst ys))) \/
     (J.go i H /\ ∃ N : List V -> St -> Hp -> Prop, (∀ zs σ' H', N zs σ' H' -> ∃ m', m'<m /\ W (i+1) m' zs σ' H') /\
       ∀ x H', J.yld i H x H' -> g x σ H' fun σ2 H2 => tt σ2 H2 fun b H3 => if b = true then te σ2 H3 fun v H4 => N (ys++[v]) σ2 H4 else N ys σ2 H3))) : aCN J g tt te σ₀ H₀ Q
def tT(J:It)(g:TG)(tt:TT)(te:TE)(σ₀:St)(H₀:Hp)(Q:VK):Prop:=aCN J g tt te σ₀ H₀ Q
theorem wX{tg aw ba:Ba}{az:List Ba}{scope:CF}{pos:Pos}{N:List Str}{src:List (Option Nat)}{g:TG}{tt:TT}{te:TE}{J:It}{fp:List Ad}{it:Ad}{tn:Nat->A9->Prop}{H2:Hp}{O:Ac}{Q:VK}{E:Ab->Ac->Prop}
  {RR:Ab->Ad->Hm->Ac->Prop} (B:aAm N src scope X.env.scope X.N) (hc:X.calm=true)
  (hb:∀ cl s H fp df C,PG (blk X N scope cl s H fp df C) tg g/\PTs (blk X N scope cl s H fp df C) az tt/\PE (blk X N scope cl s H fp df C) ba te)
  (I2:Inv X df σ H2 O) (T:aBG X.prog X.w X.K tg J fp it tn) (bp:tn 0 O.heap) (f2:∀ b∈fp,lC X df H2 b) (cw:tT J g tt te (sub src σ) H2 Q)
  (bP:∀ D C H' m s',Inv X df σ H' s'->s'.heap.Ns C m->lC X df H' C->D≠C->Q (.ref D) H'->RR (.ref D) C (.ok .next) s'):
  wpAny (model X.prog X.w) X.A (newList []) (fun acc s₃=>wpAny (model X.prog X.w) X.A (newFunctionEnv scope X.env.globals (iM X.env scope.names []) [] X.env.qual none .none (some X.env)) (fun au s₄=>
   codeAny (model X.prog X.w) X.A (.compStart (.ListComp ba [⟨tg,aw,az,0⟩] scope pos) 0 (.ref it) acc { au with scope:=relabel scope X.env }) (RR acc au.locals) s₄) E s₃) E O:=by
 refine BY (FJ B.nocell (by intro y hy;simp at hy) (fun h₁ ak Z=>?_) B.kind);dsimp only at ak Z ⊢;generalize aI:O.heap.push { cls:=.type "list",dict:=none,data:=.seq ([]:List Ab).toArray }=HH at ak Z ⊢;have aC:HH.objs.size=O.heap.objs.size+1:=by rw[<- aI,Co]
 have ai:O.heap.objs.size≠HH.objs.size:=by rw[aC];exact Ar (BR _)
 have al:O.heap.objs.size<=HH.objs.size:=by rw[aC];exact C9 _
 have ap:∀ b∈fp,b<O.heap.objs.size:=fun b hb=>by
  obtain⟨o,e,_⟩:=T.obj _ _ bp b hb;exact Ap e
 have bq:∀ b o,O.heap.get? b=some o->h₁.get? b=some o:=fun b o e=>
  Z.extBut b o (by rw[aC];exact Ar (BF (Ap e))) (Ai _ (aI▸Ai _ e))
 have bi:h₁.PlainList O.heap.objs.size #[]:=⟨_,Z.extBut _ _ ai (Ai _ (aI▸Aw _ rfl))⟩
 have br:tn 0 h₁:=T.keep _ _ _ bp fun b _ o e=>bq b o e;obtain⟨W,⟨m0,w0⟩,turn⟩:=cw;have bo:∀ b∈frs X.stack,b<O.heap.objs.size:=fun b hb=>by
  obtain⟨_,o,ho,_⟩:=I2.stack.mem hb;exact Ap ho
 generalize F:blk X N scope (iM X.env scope.names []) O H2 fp df HH.objs.size=G;have bu:=hb (iM X.env scope.names []) O H2 fp df HH.objs.size;rw[F]at bu;have eP:G.prog=X.prog:=by rw[<- F];rfl
 have eW:G.w=X.w:=by rw[<- F];rfl
 have eK:G.K=X.K:=by rw[<- F];rfl
 have eA:G.A=X.A:=by rw[<- F];rfl
 have eE:G.env=compEnvC scope (iM X.env scope.names []) HH.objs.size X.env:=by rw[<- F];rfl
 have eL:G.env.locals=HH.objs.size:=by rw[eE];rfl
 have eF:G.fs=frs X.stack:=by rw[<- F];rfl
 have eX:G.ex=fp:=by rw[<- F];rfl
 have eS:G.s₀=O:=by rw[<- F];rfl
 have eH:G.H₀=H2:=by rw[<- F];rfl
 have eC:G.calm=true:=by rw[<- F];exact hc
 have bE:G.pn=X.pn++df:=by rw[<- F];rfl
 have a0:G.xe=fun _ _=>False:=by rw[<- F];rfl
 have ad:∀ x c,G.env.cells.lookup x=some c->X.env.cells.lookup x=some c:=fun x c e=>by
  rw[eE]at e;exact pY scope.names [] (fun x c e=>by simp at e) x c e
 have ae:∀ x c,G.env.cells.lookup x=some c->c<O.heap.objs.size:=fun x c e=>by
  obtain⟨v,o,ho,_⟩:=I2.cell x c (ad x c e);exact Ap ho
 have ah:∀ p∈X.pn++df,p.1<O.heap.objs.size:=fun p Y=>Ap (I2.pin p Y).1;generalize hD:O.heap.objs.size=D at *;generalize cI:HH.objs.size=C at *;have ar:∀ s₃:Ac,s₃={ O with heap:=h₁,toks:=O.toks+([]:List (Str×Ab)).length }->
   codeAny (model X.prog X.w) X.A (.compLoop (.ListComp ba [⟨tg,aw,az,0⟩] scope pos) 0 (.ref it) (.ref D) (compEnvC scope (iM X.env scope.names []) C X.env)) (RR (.ref D) C) s₃:=by
  rintro s₃ rfl;have I3:Inv G [] (sub src σ) H2 { O with heap:=h₁,toks:=O.toks+([]:List (Str×Ab)).length }:=by
   rw[<- F];exact I2.block B f2 (by rw[hD];exact ap) (by rw[hD];exact al) rfl I2.bare bq ak
  have b2:H2 D=none:=I2.hok.fresh (DX hD);have cb:D∉G.fs:=fun z=>by rw[eF]at z;exact absurd (bo D z) (BD _)
  have ax:∀{U:St} {H':Hp} {s':Ac} {pl:List (Ad×Obj)} {its:List Ab} {n:Nat},Inv G pl U H' s'->H' D=none->s'.heap.get? D=some { cls:=.type "list",data:=.seq its.toArray n }->
    Inv G ((D,{ cls:=.type "list",data:=.seq its.toArray n })::pl) U H' s':=fun{U H' s' pl its n} I' hn hg=>
   I'.pins_of fun p Y=>by
    rcases An.mp Y with e|Y
    .subst e;exact⟨hg,hn,by rw[eL];exact ai,cb,fun v z=>by cases z⟩
    .exact I'.pin p (AH _ Y)
  obtain⟨n0,hg0⟩:=bi;have bR:=ax (its:=[]) I3 b2 hg0;have bc:∀{H':Hp} {pl:List (Ad×Obj)},(∀ p∈pl,p.1=D)->(∀ b∈fp,H' b=none)->∀ b∈fp,lC G pl H' b:=fun{H' pl} hpl hn b hb=>by
   refine⟨hn b hb,by rw[eL];exact Ar (AE (ap b hb) al),fun z=>?_,.inl (by rw[eX];exact hb),fun x c e=>(f2 b hb).2.2.2.2.1 x c (ad x c e),fun p Y=>?_⟩
   .rw[eF]at z;rcases An.mp (I2.stkSub b z)with e|z
    .exact(f2 b hb).2.1 e
    .exact(f2 b hb).2.2.1 z
   .rw[bE]at Y;rcases AK.mp Y with z|z
    .exact(f2 b hb).2.2.2.2.2 p z
    .rw[hpl p z];exact CG (ap b hb)
  refine aAn (fun n s'=>∃ i ys its nn U H',Inv G [(D,{ cls:=.type "list",data:=.seq its.toArray nn })] U H' s'/\tn i s'.heap/\(∀ b∈fp,H' b=none)/\bK ys its/\W i n ys U H') ?_ m0
   ⟨0,[],[],n0,sub src σ,H2,bR,br,fun b hb=>(f2 b hb).1,.nil,w0⟩
  rintro n s4 ⟨i,ys,its,nn,σ4,H4,I4,bj,bh,aq,w4⟩;obtain⟨hsz,hcase⟩:=turn i n ys σ4 H4 w4;have one:∀{o:Obj},∀ p∈[(D,o)],p.1=D:=fun{o} p Y=>by
   have:=Ax.mp Y;rw[this]
  rcases hcase with⟨stop,qn⟩|⟨go,Nx,hN,step⟩
  .have af:=T.done G eP eW eK eC i _ s4 σ4 H4 (fun _ _=>False) I4 (bc one bh) bj stop;rw[eA]at af;refine thn af fun r s5 ⟨hr,I5⟩=>?_;subst hr;have pd:=I5.pin _ (AH _ Am);have b1:Un (frs X.stack) fp H2 H4 O.heap s5.heap:=by
    have:=I5.base;rw[eF,eX,eS,eH]at this;exact this
   have bw:HOk X.prog X.w H4 s5.heap:=by
    have:=I5.hok;rw[eP,eW]at this;exact this
   have b6:s5.os=O.os:=by
    have:=I5.os;rw[eS]at this;exact this
   have J5:Inv X df σ H4 s5:=I2.call' b6 b1 bw I5.bare fun b hb=>⟨(f2 b hb).2.2.2.1,(f2 b hb).2.1,(f2 b hb).2.2.2.2.1,(f2 b hb).2.2.2.2.2⟩
   have fD:lC X df H4 D:=I2.fpOk (DX hD) pd.2.1;have J6:Inv X df σ (upd H4 D (.lst ys)) s5:=J5.track fD ⟨hsz,its,nn,aq,pd.1⟩;obtain⟨mm,nsC,_⟩:=I5.loc;rw[eL]at nsC;have b5:H4 C=none:=by
    have:=I5.free;rw[eL]at this;exact this
   have fC:lC X df (upd H4 D (.lst ys)) C:=I2.fpOk (by rw[hD];exact al) (by rw[aF (Cf ai)];exact b5);exact bP D C _ mm s5 J6 nsC fC ai (qn D pd.2.1)
  .have aj:=T.item G eP eW eK eC i _ s4 σ4 H4 (fun _ _=>False) I4 (bc one bh) bj go;rw[eA]at aj;refine thn aj fun r s5 ⟨u,hr,h5⟩=>?_;subst hr;refine thn h5 fun _ s6 ⟨x,H6,I6,r6,y6,aL,b4⟩=>?_;have ca:=I6.pinned (bc one b4) (T.obj _ _ aL);obtain⟨hg,ht,he⟩:=bu;have e1:=hg _ s6 σ4 H6 x u _ ca r6 (step x H6 y6);rw[eP,eW,eA,eE,a0]at e1;refine thn e1 fun _ s7 ⟨σ7,H7,I7,q7⟩=>?_;have e2:=ht _ s7 σ7 H7 _ I7 q7;rw[eP,eW,eA,eE,a0]at e2;refine thn e2 fun ok s8 ⟨H8,I8,q8⟩=>?_;have fin:∀{U:St} {H':Hp} {s':Ac} {aa:List Ab} {ag:Nat} {zs:List V},Inv G ([(D,{ cls:=.type "list",data:=.seq aa.toArray ag })]++nP fp s6.heap) U H' s'->bK zs aa->Nx zs U H'->
     ∃ m,m<n/\∃ i ys its nn U H',Inv G [(D,{ cls:=.type "list",data:=.seq its.toArray nn })] U H' s'/\tn i s'.heap/\(∀ b∈fp,H' b=none)/\bK ys its/\W i m ys U H':=fun{U H' s' aa ag zs} I' vs' n'=>by
    obtain⟨m',hm,w'⟩:=hN zs U H' n';refine⟨m',hm,i+1,zs,aa,ag,U,H',I'.unpinned,T.keep _ _ _ aL fun b hb o e=>(I'.pin (b,o) (AH _ (AH _ (kC hb e)))).1,fun b hb=>?_,vs',w'⟩;obtain⟨o,e,d⟩:=T.obj _ _ aL b hb;exact(I'.pin (b,o) (AH _ (AH _ (kC hb e)))).2.1
   cases ok with
   | false=>
    simp only[Da,if_false]at q8 ⊢;exact fin I8 aq q8
   | true=>
    simp only[if_true]at q8 ⊢;have e3:=he _ s8 σ7 H8 _ I8 q8;rw[eP,eW,eA,eE,a0]at e3;refine thn e3 fun v s9 ⟨y,H9,I9,r9,q9⟩=>?_;have pd:=I9.pin _ (AH _ (BN _ Am));have cq:=aq.length;refine wpAny_list_append_plain (hsz:=by simp only[AA];omega) (⟨nn,pd.1⟩:s9.heap.PlainList D its.toArray) fun h' ⟨ag,bV⟩ b3=>?_;have bM:Inv G (nP fp s6.heap) σ7 H9 s9:=I9.pins_of fun p Y=>I9.pin p (AH _ (AH _ Y));have b7:Inv G (nP fp s6.heap) σ7 H9 { s9 with heap:=h' }:=bM.turned (t':=s9.toks) (it:=D) (fun b o hb e=>(b3.2 b hb).trans e) pd.2.1 (by rw[eL];exact ai) (.inr (by rw[eS];exact DX hD))
     (fun x c e=>Ar (ae x c e)) fun p Y=>by
      rw[bE]at Y;rcases AK.mp Y with z|z
      .exact Ar (ah p z)
      .exact Ar (ap _ (wF z).1)
    have bx:h'.get? D=some { cls:=.type "list",data:=.seq (its++[v]).toArray ag }:=by
     rw[bV];simp
    exact fin (ax (s':={ s9 with heap:=h' }) b7 pd.2.1 bx) (aq.append (.cons r9 .nil)) q9
 exact codeAny_compStart_list (ar _ rfl) (T.self X.A 0 _ _ _ br (ar _ rfl))
def aHN(src:List (Option Nat))(wi:TI)(g:TG)(tt:TT)(te:TE):TE:=fun σ H Q=>wi σ H fun J H1=>tT J g tt te (sub src σ) H1 Q
theorem dR{tg F G:Ba}{O:List Ba}{scope osc:CF}{pos:Pos}{N oN:List Str}{src:List (Option Nat)}{Y:TI}{g:TG}{Z:TT}{te:TE}(B:aAm N src scope osc oN)(hi:PI X tg F Y)
  (hb:∀ cl s H fp df C,PG (blk X N scope cl s H fp df C) tg g/\PTs (blk X N scope cl s H fp df C) O Z/\PE (blk X N scope cl s H fp df C) G te)
  (hc:X.calm=true:=by rfl) (eo:X.env.scope=osc:=by rfl) (eN:X.N=oN:=by rfl)
  (hs:∀ x,foldedSetIterable F X.env x=pure x:=by intro _;rfl):PE X (.ListComp G [⟨tg,F,O,0⟩] scope pos) (aHN src Y g Z te):=by
 subst eo eN;constructor;intro df s σ H Q I h;rw[eval_ListComp];refine wpAny_comprehension_free (use:=none) (cl:=iM X.env scope.names []) rfl hs (oR (I.clos B)) B.kind B.names (thn (hi df s σ H _ I h) fun xv s1 h1=>thn h1 fun af s2 h2=>?_);obtain⟨it,fp,tn,J,H2,e,I2,T,st2,f2,cw⟩:=h2;subst e;refine wX B hc hb I2 T st2 f2 cw fun D C H' m s' J' U fC ad q=>?_;refine⟨m,U,fun h' sb=>⟨.ref D,H',?_,rfl,q⟩⟩;obtain⟨f0,f1,_,f3,f4,f5⟩:=fC;exact J'.turned (t':=s'.toks) (fun b o hb e=>(sb.2 b hb).trans e) f0 f1 f3 f4 f5
theorem tU{tg F O:Ba}{G:List Ba}{scope osc:CF}{pos ps Y:Pos}{y:Str}{i:Nat}{N oN:List Str}{src:List (Option Nat)}{wi:TI}{g:TG}{tt:TT}{te:TE}(B:aAm N src scope osc oN)(hN:X.N.Nodup)(hy:X.N[i]?=some y)(hi:PI X tg F wi)
  (hb:∀ cl s H fp df C,PG (blk X N scope cl s H fp df C) tg g/\PTs (blk X N scope cl s H fp df C) G tt/\PE (blk X N scope cl s H fp df C) O te)
  (U:X.env.scope.names.lookup y=some .local:=by rfl)
  (ad:swapsWith (.ListComp O [⟨tg,F,G,0⟩] scope pos) (some (.Name y Y)) ps.line X.env=pure true:=by rfl)
  (hc:X.calm=true:=by rfl) (eo:X.env.scope=osc:=by rfl) (eN:X.N=oN:=by rfl)
  (hs:∀ x,foldedSetIterable F X.env x=pure x:=by intro _;rfl):PS X (.Assign [.Name y Y] (.ListComp O [⟨tg,F,G,0⟩] scope pos) ps) (aId (aHN src wi g tt te) (aW i)):=by
 subst eo eN;constructor;intro df s σ H D I h;rw[exec_Assign_Name_used _ _ _ _ ad];refine Aa (E5 (Aa ?_));show wpAny _ _ (evalThenUse (.ListComp O [⟨tg,F,G,0⟩] scope pos) X.env (assign (.Name y Y) X.env)) _ _ s;have e:evalThenUse (.ListComp O [⟨tg,F,G,0⟩] scope pos) X.env (assign (.Name y Y) X.env)=(do
   let _ <- comprehension (.ListComp O [⟨tg,F,G,0⟩] scope pos) scope X.env (firstIterPos [⟨tg,F,G,0⟩] pos) (newList []) (firstAsync [⟨tg,F,G,0⟩]) (firstIter [⟨tg,F,G,0⟩] X.env) (some (assign (.Name y Y) X.env))):=rfl
 rw[e];refine Aa ?_;refine wpAny_comprehension_free (use:=some (assign (.Name y Y) X.env)) (cl:=iM X.env scope.names []) rfl hs (oR (I.clos B)) B.kind B.names (thn (hi df s σ H _ I h) fun xv s1 h1=>thn h1 fun an s2 h2=>?_);obtain⟨it,fp,tn,J,H2,e,I2,T,st2,f2,cw⟩:=h2;subst e;refine wX B hc hb I2 T st2 f2 cw fun D' C H' m s' J' Z fC al q=>?_;obtain⟨f0,f1,_,f3,f4,f5⟩:=fC;refine wpAny_assign_Name (wE J' hN hy (.inl U) (v:=.ref D') rfl (fun ag aa ⟨a,sb,ha⟩=>?_) (.inr U));have af:C≠a:=by
  rcases ha with rfl|ha
  .exact f1
  .exact fun z=>f4 y a ha z.symm
 refine⟨m,Z.sameBut sb af,fun h' ae=>Ah (Ah ⟨_,H',aa.turned (t':=ag.toks) (fun b o hb e=>(ae.2 b hb).trans e) f0 f1 f3 f4 f5,q⟩)⟩
inductive kZ(K:Ag)(xs:List V)(H:Hp)(Q:VK):Prop
 | mk (x:_) (n:_) (t:_) (b:_) (q0:xs=[x,.ty n]) (q1:lG K H x t) (q2:Ck K t (.type n)=some b) (q3:Q (.bl b) H):kZ K xs H Q
def v8(K:Ag):List V->Hp->VK->Prop:=fun xs H Q=>kZ K xs H Q
theorem jI:eJ X (.builtin "isinstance") (v8 X.K):=by
 intro df s σ H xs F Q I r h;obtain⟨x,n,t,b,rfl,ty,e,q⟩:=h;obtain⟨u,w',rfl,r1,r2⟩:=aCG r;cases r2;exact aD0 I r1 ty e fun tk=>⟨.bl b,H,I.tok _,rfl,q⟩
theorem aFg{x:V}{v:Ab}{b:Bool}(r:bQ x v):(v==.bool b)=decide (x=.bl b):=by
 cases x with
 | bl c=>
  cases r;cases b<;>cases c<;>rfl
 | int i=>obtain⟨t,rfl⟩:=r;simp
 | str i=>obtain⟨t,rfl⟩:=r;simp
 | byt i=>obtain⟨t,rfl⟩:=r;simp
 | flt i=>obtain⟨t,rfl⟩:=r;simp
 | non=>cases r;simp
 | ref a=>cases r;simp
 | ty a=>cases r;simp
theorem aBU{x:V}{v:Ab}{b:Bool}(r:bQ x v):plainIs v (.bool b)=true:=by
 cases x with
 | bl c=>cases r;rfl
 | int i=>obtain⟨t,rfl⟩:=r;rfl
 | str i=>obtain⟨t,rfl⟩:=r;rfl
 | byt i=>obtain⟨t,rfl⟩:=r;rfl
 | flt i=>obtain⟨t,rfl⟩:=r;rfl
 | non=>cases r;rfl
 | ref a=>cases r;rfl
 | ty a=>cases r;rfl
inductive tV(x:V)(y:V)(H:Hp)(Q:VK):Prop
 | mk (b:_) (q0:y=.bl b) (q1:Q (.bl (decide (x=.bl b))) H):tV x y H Q
def aFh:V->V->Hp->VK->Prop:=fun x y H Q=>tV x y H Q
theorem aIs:OpR X (compareOp .Is) aFh:=by
 intro df s σ H x y v u Q I F G h;obtain⟨b,rfl,q⟩:=h;cases G;exact wpAny_is_plain (aBU F) ⟨.bl _,H,I,by rw[aFg F];rfl,q⟩
def qR(i j:Int):Prop:=0<j/\j.natAbs.log2<9000
theorem qR.of{i j:Int}(h:0<j)(h2:j<2^512):qR i j:=by
 refine⟨h,?_⟩;have F:j.natAbs≠0:=by omega
 have:j.natAbs.log2<512:=(Nat.log2_lt F).mpr (by
  have e:((2:Int)^512)=((2^512:Nat):Int):=by decide
  rw[e]at h2;omega)
 omega
theorem lM:OpR X (binaryOp .FloorDiv) (rI qR fun i j=>.int (i/j)):=opI fun i j _ _ _ _ _ hc q=>by
 have h1:(0:Int)<j:=hc.1;refine floordiv_int (by omega) ?_ (AC (PyProof.noPylong_of_log2 hc.2));rw[Int.fdiv_eq_ediv_of_nonneg i (by omega)];exact q
def aJt(i j:Int):Prop:=i.natAbs<2^1000/\j.natAbs<2^1000
theorem aCO:OpR X (binaryOp .Mult) (rI aJt fun i j=>.int (i*j)):=opI fun _ _ _ _ _ _ _ hc q=>mul_int q (IntMulOk.of_bits (AM (intBits_le hc.1) (by decide)) (AM (intBits_le hc.2) (by decide)))
inductive tW(x:V)(lo:Option Int)(hi:Option Int)(H:Hp)(Q:VK):Prop
 | mk (z:_) (q0:x=.str z) (q1:z.length<=sizeLine) (q2:Q (.str (Dw z lo hi)) H):tW x lo hi H Q
def aFi:V->Option Int->Option Int->Hp->VK->Prop:=fun x lo hi H Q=>tW x lo hi H Q
theorem aFj:SlR X aFi:=by
 intro df s σ H x v vl Z lo hi sl Q I Y hs pl U h;obtain⟨z,rfl,hz,q⟩:=h;obtain⟨t,rfl⟩:=Y;refine⟨"str",_,F.slot_str_getitem.lookup,typeIs_str _ _ _,?_⟩;have fin:∀ O k,EP X df σ Q (.str (Dw z lo hi) O) { s with toks:=k }:=fun O k=>⟨.str _,H,I.tok _,⟨_,rfl⟩,q⟩
 obtain⟨o,ho,hc,hd⟩:=hs;cases pl with
 | none=>
  cases U with
  | none=>exact D1 (l:=none) (u:=none) (st:=none) ⟨o,ho,hc,hd⟩ rfl (Fn ⟨AM (E7 z _ _) hz,fin⟩)
  | int j G=>exact D1 (l:=none) (u:=some (j,G)) (st:=none) ⟨o,ho,hc,hd⟩ rfl (Fn ⟨AM (E7 z _ _) hz,fin⟩)
 | int i J=>
  cases U with
  | none=>exact D1 (l:=some (i,J)) (u:=none) (st:=none) ⟨o,ho,hc,hd⟩ rfl (Fn ⟨AM (E7 z _ _) hz,fin⟩)
  | int j G=>exact D1 (l:=some (i,J)) (u:=some (j,G)) (st:=none) ⟨o,ho,hc,hd⟩ rfl (Fn ⟨AM (E7 z _ _) hz,fin⟩)
theorem aCP:∀{ys:List Str}{F:List Ab},bK (ys.map V.str) F->StrsAre F ys
 | [],_,.nil=>.nil
 | y::ys,_,.cons ⟨t,rfl⟩ r=>.cons y t (aCP r)
inductive qS(K:Ag)(x:V)(xs:List V)(H:Hp)(Q:VK):Prop
 | mk (z:_) (p:_) (ys:_) (q0:x=.str z) (q1:xs=[.ref p]) (q2:SqL K H p (ys.map V.str)) (q3:(ys.map (·.length)).sum+ys.length*z.length<=16777216) (q4:Q (.str (Txt.join z ys)) H):qS K x xs H Q
def aD8(K:Ag):V->List V->Hp->VK->Prop:=fun x xs H Q=>qS K x xs H Q
theorem aHc:MtR X "str.join" (aD8 X.K):=by
 intro df s σ H x xs v G Q I F r h;obtain⟨z,p,ys,rfl,rfl,hx,hz,q⟩:=h;obtain⟨t,rfl⟩:=F;obtain⟨u,rfl,ru⟩:=eV r;cases ru;obtain⟨its,rv,pl,_⟩:=I.list hx;exact join_list pl.isList (by simpa using aCP rv) hz fun J k=>⟨.str _,H,I.tok _,⟨_,rfl⟩,q⟩
theorem tZ:∀{bs:List Bool}{F:List Ab},bK (bs.map V.bl) F->∀(i:Nat) v,F[i]?=some v->∃ b,bs[i]?=some b/\v=.bool b
 | [],_,.nil,i,v,e=>by simp at e
 | b::bs,_,.cons rfl r,0,v,e=>by simp at e;exact⟨b,rfl,e.symm⟩
 | b::bs,_,.cons rfl r,i+1,v,e=>by
  obtain⟨c,h1,h2⟩:=tZ r i v (by simpa using e);exact⟨c,by simpa using h1,h2⟩
theorem aBV(bs:List Bool):((B7 bs.length).all fun i=>(bs[i]?).getD true)=bs.all id:=by
 rw[CA,C4,C4];constructor
 .intro h b hb;obtain⟨i,hi,e⟩:=AR.mp hb;have:=h i (DS.mpr hi);rw[Ae hi]at this;simpa[e]using this
 .intro h i hi;have F:=DS.mp hi;rw[Ae F];exact h _ (A2 F)
theorem aBW(bs:List Bool):((B7 bs.length).any fun i=>(bs[i]?).getD false)=bs.any id:=by
 rw[CA,Dt,Dt];constructor
 .rintro⟨i,hi,e⟩;have F:=DS.mp hi;rw[Ae F]at e;exact⟨_,A2 F,e⟩
 .rintro⟨b,hb,e⟩;obtain⟨i,hi,e2⟩:=AR.mp hb;refine⟨i,DS.mpr hi,?_⟩;rw[Ae hi,e2];exact e
inductive oT(K:Ag)(xs:List V)(H:Hp)(Q:VK):Prop
 | mk (p:Ad) (bs:List Bool) (q0:xs=[.ref p]) (q1:SqL K H p (bs.map V.bl)) (q2:Q (.bl (bs.all id)) H):oT K xs H Q
def aBX(K:Ag):List V->Hp->VK->Prop:=fun xs H Q=>oT K xs H Q
theorem aAo(hc:X.calm=true):eJ X (.builtin "all") (aBX X.K):=by
 intro df s σ H xs Y Q I r h;obtain⟨p,bs,rfl,hx,q⟩:=h;obtain⟨u,rfl,ru⟩:=eV r;cases ru;obtain⟨its,rv,pl,_⟩:=I.list hx;have hl:=pl.isList;have F:its.length=bs.length:=by have:=rv.length;simpa using this.symm
 have G:p<s.heap.objs.size:=by obtain⟨_,e,_⟩:=hl;exact Ap e
 refine call_all_walk (EY hl ?_);refine⟨s.heap.objs.size,[s.heap.objs.size,p],[s.heap.objs.size],its.toArray.size,_,_,fun i=>(bs[i]?).getD true,rfl,Ha (A:=X.A.in1) (I.ok.hd hc) _ p (Ar G) its.toArray,
  ⟨⟨_,Aw _ rfl,rfl,rfl⟩,hl.push _⟩,fun i v s' Z E' O J=>?_,fun h' tk U=>?_⟩
 .obtain⟨b,e,rfl⟩:=tZ rv i v (by simpa using O);simp only[e,Option.getD_some]at J;exact BX J
 .rw[AA,F,aBV];exact⟨.bl _,H,I.kept fun b x e=>U b x (fun hm=>by rw[Ax.mp hm]at e;exact BD _ (Ap e)) (Ai _ e),rfl,q⟩
inductive oU(K:Ag)(xs:List V)(H:Hp)(Q:VK):Prop
 | mk (p:Ad) (bs:List Bool) (q0:xs=[.ref p]) (q1:SqL K H p (bs.map V.bl)) (q2:Q (.bl (bs.any id)) H):oU K xs H Q
def aBY(K:Ag):List V->Hp->VK->Prop:=fun xs H Q=>oU K xs H Q
theorem aFk(hc:X.calm=true):eJ X (.builtin "any") (aBY X.K):=by
 intro df s σ H xs Y Q I r h;obtain⟨p,bs,rfl,hx,q⟩:=h;obtain⟨u,rfl,ru⟩:=eV r;cases ru;obtain⟨its,rv,pl,_⟩:=I.list hx;have hl:=pl.isList;have F:its.length=bs.length:=by have:=rv.length;simpa using this.symm
 have G:p<s.heap.objs.size:=by obtain⟨_,e,_⟩:=hl;exact Ap e
 refine call_any_walk (EY hl ?_);refine⟨s.heap.objs.size,[s.heap.objs.size,p],[s.heap.objs.size],its.toArray.size,_,_,fun i=>(bs[i]?).getD false,rfl,Ha (A:=X.A.in1) (I.ok.hd hc) _ p (Ar G) its.toArray,
  ⟨⟨_,Aw _ rfl,rfl,rfl⟩,hl.push _⟩,fun i v s' Z E' O J=>?_,fun h' tk U=>?_⟩
 .obtain⟨b,e,rfl⟩:=tZ rv i v (by simpa using O);simp only[e,Option.getD_some]at J;exact BX J
 .rw[AA,F,aBW];exact⟨.bl _,H,I.kept fun b x e=>U b x (fun hm=>by rw[Ax.mp hm]at e;exact BD _ (Ap e)) (Ai _ e),rfl,q⟩
def rQ:List V->List V->Bool
 | [],[]=>true
 | x::xs,y::ys=>eqV x y&&rQ xs ys
 | _,_=>false
theorem t7:∀{xs ys:List V},xs.length≠ys.length->rQ xs ys=false
 | [],[],h=>absurd rfl h
 | [],_::_,_=>rfl
 | _::_,[],_=>rfl
 | x::xs,y::ys,h=>by
  show(eqV x y&&rQ xs ys)=false;rw[t7 (fun e=>h (by simp[e])),Bool.and_false]
theorem t8:∀{xs ys:List V},xs.length=ys.length->((B7 xs.length).all fun i=>eqV (xs[i]?.getD .non) (ys[i]?.getD .non))=rQ xs ys
 | [],[],_=>rfl
 | x::xs,y::ys,h=>by
  have F:=t8 (xs:=xs) (ys:=ys) (by simpa using h);rw[AQ,List.range_succ_eq_map,Gy,List.all_map];show(eqV x y&&_)=(eqV x y&&rQ xs ys)
  rw[<- F];rfl
theorem aAp{A:AI}{s:Ac}{xs ys:List V}{J ws:List Ab}(O:bK xs J)(U:bK ys ws)(f1:xs.all hV=true)(Y:ys.all hV=true)(j:Nat)(h1:j<J.toArray.size)(h2:j<ws.toArray.size):
  Hb A s J.toArray[j] ws.toArray[j] (eqV (xs[j]?.getD .non) (ys[j]?.getD .non)):=by
 have l1:=O.length;have Z:=U.length;have F:j<xs.length:=by simpa[l1]using h1
 have G:j<ys.length:=by simpa[Z]using h2
 obtain⟨u,eu,ru⟩:=O.get (Ae F);obtain⟨w',ew,rw'⟩:=U.get (Ae G);have e1:J.toArray[j]=u:=by
  rw[Ae (by simpa using h1)]at eu;simpa using eu
 have e2:ws.toArray[j]=w':=by
  rw[Ae (by simpa using h2)]at ew;simpa using ew
 rw[e1,e2,Ae F,Ae G];exact aE7 ru rw' (C4.mp f1 _ (A2 F)) (C4.mp Y _ (A2 G))
inductive t9(K:Ag)(x:V)(y:V)(H:Hp)(Q:VK):Prop
 | mk (p:_) (q:_) (xs:_) (ys:_) (q0:x=.ref p) (q1:y=.ref q) (q2:SqL K H p xs) (q3:SqL K H q ys) (q4:xs.all hV=true) (q5:ys.all hV=true) (q6:Q (.bl (rQ xs ys)) H):t9 K x y H Q
def aFl(K:Ag):V->V->Hp->VK->Prop:=fun x y H Q=>t9 K x y H Q
theorem aFm(hu:X.A.units<cLine):OpR X (compareOp .Eq) (aFl X.K):=by
 intro df s σ H x y v u Q I G F h;obtain⟨p,q,xs,ys,rfl,rfl,h1,h2,f1,f2,hq⟩:=h;cases G;cases F;obtain⟨us,r1,p1,_⟩:=I.list h1;obtain⟨ws,r2,p2,_⟩:=I.list h2;have J:=r1.length;have O:=r2.length;by_cases e:xs.length=ys.length
 .refine SeqAt.eq_listAt p1.isList p2.isList (by simp;omega) hu (aAp r1 r2 f1 f2) ?_;rw[AA,<- J,t8 e];exact⟨.bl _,H,I,rfl,hq⟩
 .refine SeqAt.eq_list_lengthsAt p1.isList p2.isList (by simp;omega) hu ?_;rw[t7 e]at hq;exact⟨.bl _,H,I,rfl,hq⟩
inductive uA(K:Ag)(x:V)(y:V)(H:Hp)(Q:VK):Prop
 | mk (p:_) (q:_) (xs:_) (ys:_) (q0:x=.ref p) (q1:y=.ref q) (q2:SqL K H p xs) (q3:SqL K H q ys) (q4:xs.all hV=true) (q5:ys.all hV=true) (q6:Q (.bl (!rQ xs ys)) H):uA K x y H Q
def aFn(K:Ag):V->V->Hp->VK->Prop:=fun x y H Q=>uA K x y H Q
theorem aBZ(hu:X.A.units<cLine):OpR X (compareOp .NotEq) (aFn X.K):=by
 intro df s σ H x y v u Q I G F h;obtain⟨p,q,xs,ys,rfl,rfl,h1,h2,f1,f2,hq⟩:=h;cases G;cases F;obtain⟨us,r1,p1,_⟩:=I.list h1;obtain⟨ws,r2,p2,_⟩:=I.list h2;have J:=r1.length;have O:=r2.length;by_cases e:xs.length=ys.length
 .refine SeqAt.RcNeAt.lists p1.isList p2.isList (by simp;omega) hu (aAp r1 r2 f1 f2) X.prog X.w _ _ ?_;rw[AA,<- J,t8 e];exact⟨.bl _,H,I,rfl,hq⟩
 .refine SeqAt.RcNeAt.lists_lengths p1.isList p2.isList (by simp;omega) hu X.prog X.w _ _ ?_;rw[t7 e]at hq;exact⟨.bl _,H,I,rfl,hq⟩
theorem aR{n:Nat}(h:n<=1000000):n<=sizeLine:=by
 have:sizeLine=16777216:=En;omega
theorem rX{J:It}{g:TG}{tt:TT}{te:TE}{σ₀:St}{H₀:Hp}{Q:VK}(n:Nat)(F:Nat->List V->St->Hp->Prop)(h0:F 0 [] σ₀ H₀)(hn:n<=sizeLine)(U:∀ i ys σ H,F i ys σ H->ys.length<=i)
  (Z:∀ i ys σ H,i<n->F i ys σ H->J.go i H) (O:∀ ys σ H,F n ys σ H->J.stop n H)
  (hs:∀ i ys σ H x H',i<n->F i ys σ H->J.yld i H x H'->g x σ H' fun Y H2=>tt Y H2 fun b H3=>if b=true then te Y H3 fun v H4=>F (i+1) (ys++[v]) Y H4 else F (i+1) ys Y H3)
  (hd:∀ ys σ H,F n ys σ H->∀ D,H D=none->Q (.ref D) (upd H D (.lst ys))):tT J g tt te σ₀ H₀ Q:=by
 refine⟨fun i m ys σ H=>m=n-i/\i<=n/\F i ys σ H,⟨n,by simp,AV _,h0⟩,?_⟩;rintro i m ys σ H ⟨rfl,hi,p⟩;refine⟨AM (U i ys σ H p) (AM hi hn),?_⟩;by_cases G:i<n
 .exact .inr ⟨Z i ys σ H G p,F (i+1),fun zs σ' H' p'=>⟨n-(i+1),by omega,rfl,G,p'⟩,fun x H' y=>hs i ys σ H x H' G p y⟩
 .have e:i=n:=by omega
  subst e;exact .inl ⟨O ys σ H p,hd ys σ H p⟩
theorem gP{lo:Int}{n:Nat}{g:TG}{U:TT}{te:TE}{Y:St}{H₀:Hp}{Q:VK}(F:Nat->List V->St->Hp->Prop)(Z:F 0 [] Y H₀)(hn:n<=sizeLine)(G:∀ i ys σ H,F i ys σ H->ys.length<=i)
  (hs:∀ i ys σ H,i<n->F i ys σ H->g (.int (lo+i)) σ H fun J H2=>U J H2 fun b O=>if b=true then te J O fun v H4=>F (i+1) (ys++[v]) J H4 else F (i+1) ys J O)
  (hd:∀ ys σ H,F n ys σ H->∀ D,H D=none->Q (.ref D) (upd H D (.lst ys))):tT (Itr lo n) g U te Y H₀ Q:=
 rX n F Z hn G (fun i _ _ _ h _=>h) (fun _ _ _ _=>Aj _) (fun i ys σ H v H' hi p y=>by
  obtain⟨e,rfl⟩:=y;subst e;exact hs i ys σ _ hi p) hd
theorem fW{K:Ag}{a:Ad}{xs:List V}{g:TG}{U:TT}{te:TE}{Y:St}{H₀:Hp}{Q:VK}(F:Nat->List V->St->Hp->Prop)(Z:F 0 [] Y H₀)(hn:xs.length<=sizeLine)(G:∀ i ys σ H,F i ys σ H->ys.length<=i)
  (hl:∀ i ys σ H,F i ys σ H->SqL K H a xs)
  (hs:∀ i x ys σ H,xs[i]?=some x->F i ys σ H->g x σ H fun J H2=>U J H2 fun b O=>if b=true then te J O fun v H4=>F (i+1) (ys++[v]) J H4 else F (i+1) ys J O)
  (hd:∀ ys σ H,F xs.length ys σ H->∀ D,H D=none->Q (.ref D) (upd H D (.lst ys))):tT (Itl K a) g U te Y H₀ Q:=
 rX xs.length F Z hn G (fun i ys σ H h p=>⟨xs,xs[i],hl i ys σ H p,by simp[h]⟩) (fun ys σ H p=>⟨xs,hl _ ys σ H p,Aj _⟩) (fun i ys σ H v H' hi p y=>by
  obtain⟨e,y⟩:=y;subst e;exact hs i v ys σ _ (y xs (hl i ys σ _ p)) p) hd
theorem aAq{K:Ag}{a:Ad}{xs:List V}{g:TG}{U:TT}{te:TE}{Y:St}{H₀:Hp}{Q:VK}(F:Nat->List V->St->Hp->Prop)(Z:F 0 [] Y H₀)(hn:xs.length<=sizeLine)(G:∀ i ys σ H,F i ys σ H->ys.length<=i)
  (hl:∀ i ys σ H,F i ys σ H->SqT K H a xs)
  (hs:∀ i x ys σ H,xs[i]?=some x->F i ys σ H->g x σ H fun J H2=>U J H2 fun b O=>if b=true then te J O fun v H4=>F (i+1) (ys++[v]) J H4 else F (i+1) ys J O)
  (hd:∀ ys σ H,F xs.length ys σ H->∀ D,H D=none->Q (.ref D) (upd H D (.lst ys))):tT (Itt K a) g U te Y H₀ Q:=
 rX xs.length F Z hn G (fun i ys σ H h p=>⟨xs,xs[i],hl i ys σ H p,by simp[h]⟩) (fun ys σ H p=>⟨xs,hl _ ys σ H p,Aj _⟩) (fun i ys σ H v H' hi p y=>by
  obtain⟨e,y⟩:=y;subst e;exact hs i v ys σ _ (y xs (hl i ys σ _ p)) p) hd
def aY(p:Ad)(H H':Hp):Prop:=∀ b o,H b=some o->b≠p->H' b=some o
theorem aY.refl(p:Ad)(H:Hp):aY p H H:=fun _ _ e _=>e
theorem aY.trans{p:Ad}{H H1 H2:Hp}(a:aY p H H1)(b:aY p H1 H2):aY p H H2:=fun c o e h=>b c o (a c o e h) h
theorem aY.same{p:Ad}{H H1 H2:Hp}(a:aY p H H1)(b:bU H1 H2):aY p H H2:=fun c o e h=>b c o (a c o e h)
theorem aY.upd{p:Ad}{o:HO}{H H1:Hp}(a:aY p H H1):aY p H (upd H1 p o):=fun c u e h=>by rw[aF h];exact a c u e h
theorem aH{p:Ad}{o:HO}{H:Hp}(h:H p=none):bU H (upd H p o):=fun c u e=>by rw[aF (aJ e h)];exact e
inductive aFp(t:TS)(D:c6)(σ:St)(H:Hp):Prop
 | mk (R:St->Hp->Prop) (q0:t { D with nx:=R } σ H) (q1:∀ σ' H',R σ' H'->D.nx σ' H'):aFp t D σ H
def aKn(t:TS):TS:=fun D σ H=>aFp t D σ H
theorem p3{st:Cd}{t:TS}(h:PS X st t):PS X st (aKn t):=by
 constructor;intro df s σ H D I q;obtain⟨R,q1,q2⟩:=q;refine thn (h df s σ H _ I q1) fun f s' z=>?_;cases f with
 | next=>obtain⟨σ',H',I',r⟩:=z;exact⟨σ',H',I',q2 _ _ r⟩
 | brk=>exact z
 | cont=>exact z
 | ret u=>exact z
inductive aCQ(t:TT)(σ:St)(H:Hp)(Q:(Bool->Hp->Prop)):Prop
 | mk (R:Bool->Hp->Prop) (q0:t σ H R) (q1:∀ b H',R b H'->Q b H'):aCQ t σ H Q
def aJu(t:TT):TT:=fun σ H Q=>aCQ t σ H Q
theorem aIt{e:Ba}{t:TT}(h:PT X e t):PT X e (aJu t):=by
 constructor;intro df s σ H Q I q;obtain⟨R,q1,q2⟩:=q;exact thn (h df s σ H _ I q1) fun b s' ⟨H',F,z⟩=>⟨H',F,q2 _ _ z⟩
theorem iS:∀ ns:List Int,(ns.map V.int).all hV=true
 | []=>rfl
 | _::r=>iS r
theorem p4:∀ xs ys:List Int,rQ (xs.map V.int) (ys.map V.int)=decide (xs=ys)
 | [],[]=>rfl
 | [],_::_=>by simp[rQ]
 | _::_,[]=>by simp[rQ]
 | x::xs,y::ys=>by
  show(eqV (.int x) (.int y)&&rQ (xs.map V.int) (ys.map V.int))=_;rw[p4 xs ys];show((x==y)&&decide (xs=ys))=_;by_cases h:x=y
  .subst h;simp
  .simp[h]
theorem aIu{K:Ag}{T U:String}{b:Bool}(hn:(Bq T==Bq U)=false)(hm:PySem.W.kitMeta U=true)(hs:(PySem.fastBuiltinMro T).map (·.contains (Bq U))=some b):Ck K (.type T) (.type U)=some b:=by
 unfold Ck;rw[Ia (by rw[hn];exact Av)];show(if PySem.W.kitMeta U=true then PySem.W.subIn K (Bq T) (Bq U) else none)=_;rw[Ib hm];exact hs
theorem uB{K:Ag}{T:String}:Ck K (.type T) (.type T)=some true:=by
 unfold Ck;rw[Ib (by rw[beq_self_eq_true])]
theorem yR{K:Ag}:Ck K (.type "int") (.type "bool")=some false:=aIu (by decide) (by decide) (by decide)
theorem yS{xs:List V}{i:Int}(G:0<=i)(h1:i<xs.length):∃ v,v∈xs/\atI xs i=some v:=by
 have F:i.toNat<xs.length:=by omega
 refine⟨xs[i.toNat],A2 F,?_⟩;have e:=f6 (xs:=xs) (j:=i.toNat) (v:=xs[i.toNat]) (Ae F);rw[Fx G]at e;exact e
def aFq:Ba->Bool
 | .Starred ..=>false
 | _=>true
theorem aD9{e:Ba}{es:List Ba}{env:Env}(h:aFq e=true):starEach (e::es) env=(false,eval e env)::starEach es env:=by
 cases e<;>first|rfl|cases h
theorem aD{X:Cx}{e:Ba}{es:List Ba}{te:TE}{t:TA}(ha:PE X e te)(F:PA X es t)(hs:aFq e=true:=by rfl):PA X (e::es) (aAf te t):=jD ha F (aD9 hs)
inductive oV(K:Ag)(xs:List V)(H:Hp)(Q:VK):Prop
 | mk (p:Ad) (ns:List Int) (q0:xs=[.ref p]) (q1:SqL K H p (ns.map V.int)) (q2:Q (.int ns.sum) H):oV K xs H Q
def aB0(K:Ag):List V->Hp->VK->Prop:=fun xs H Q=>oV K xs H Q
theorem aFr(hc:X.calm=true):eJ X (.builtin "sum") (aB0 X.K):=by
 intro df s σ H xs U Q I r h;obtain⟨p,ns,rfl,hx,q⟩:=h;obtain⟨u,rfl,ru⟩:=eV r;cases ru;obtain⟨its,rv,pl,_⟩:=I.list hx;have hi:Ec its ns:=tG rv;have hl:=pl.isList;obtain⟨xs,hx'⟩:=hi.allInts.items;have F:s.heap.IsList p (intItems xs):=hx'▸hl;refine sum_intListG (I.ok.hd hc) F fun h' tk Y G=>?_;have O:ns=xs.toList.map (·.1):=by
  rw[<- nums_intItems,<- hx'];exact(show numsOf its.toArray.toList=ns from hi.numsOf).symm
 have J:preSum (numAt xs) xs.size=ns.sum:=by
  rw[preSum_eq,Bj (by simp),O]
 rw[J];exact⟨.int ns.sum,H,I.kept G,⟨_,rfl⟩,q⟩
theorem kG:∀{F:List Ab}{ns:List Int},Ec F ns->bK (ns.map V.int) F
 | _,_,.nil=>.nil
 | _,_,.cons i t r=>.cons ⟨t,rfl⟩ (kG r)
inductive k6(K:Ag)(xs:List V)(H:Hp)(Q:VK):Prop
 | mk (p:Ad) (ns:List Int) (q0:xs=[.ref p]) (q1:SqL K H p (ns.map V.int)) (q2:ns.length<64) (q3:∀(l:Ad) (ms:List Int),H l=none->ms.Perm ns->ms.Pairwise (·<=·)->Q (.ref l) (upd H l (.lst (ms.map V.int)))):k6 K xs H Q
def v9(K:Ag):List V->Hp->VK->Prop:=fun xs H Q=>k6 K xs H Q
theorem aAr:eJ X (.builtin "sorted") (v9 X.K):=by
 intro df s σ H xs us Q I r h;obtain⟨p,ns,rfl,hx,h64,q⟩:=h;obtain⟨u,rfl,ru⟩:=eV r;cases ru;obtain⟨its,rv,pl,_⟩:=I.list hx;have hi:Ec its ns:=tG rv;have F:=rv.length;rw[Af]at F;refine sorted_ints pl.isList hi (by omega) fun out G U J hs=>?_;have O:∀ b o,s.heap.get? b=some o->(sortedAll s.heap its out).get? b=some o:=fun b o e=>sortedAll_old e;obtain⟨e,he⟩:=sortedAll_at s.heap its out;have hn:H (s.heap.objs.size+1)=none:=I.hok.fresh (C9 _);have Y:=J.length_eq;have Z:bK (G.map V.int) out.toList:=kG U;refine⟨.ref (s.heap.objs.size+1),_,I.laid (t':=s.toks) (o:=.lst (G.map V.int)) O (C9 _) ⟨aR (by rw[Af];omega),out.toList,e,Z,by rw[he]<;>rfl⟩,rfl,q _ G hn J hs⟩
theorem Inv.turnedL{df:List (Ad×Obj)}{σ:St}{H:Hp}{s:Ac}{h':A9}{t':Nat}{fp:List Ad}(I:Inv X df σ H s)(k:∀ b o,b∉fp->s.heap.get? b=some o->h'.get? b=some o)(hf:∀ b∈fp,lC X df H b):
  Inv X df σ H { s with heap:=h',toks:=t' }:=by
 have F:∀ b u,H b=some u->b∉fp:=fun b u e z=>by rw[(hf b z).1]at e;cases e
 refine I.step (g':=s.gens) (d':=s.drawn) (ch:=fp) (fun b hb=>?_) (fun b o _ _ hc e _=>k b o hc e) (fun b o _ _ hc e _=>⟨o.slots,k b o hc e⟩) (fun _ _ _ _ n=>n)
  (fun b o hc e=>⟨o,k b o hc e⟩) (fun _ _ e=>e) (fun _ _ _ e=>e) (fun b ps e=>⟨#[],by rw[e];simp⟩) (fun m hm=>?_) (fun b u e=>?_) I.bare
 .obtain⟨_,h1,_,h3,h4,h5⟩:=hf b hb;exact⟨h3,h1,h4,h5⟩
 .obtain⟨o,es,ep,ho,r⟩:=hm;exact⟨o,es,ep,k _ o (fun z=>(hf _ z).2.1 rfl) ho,r⟩
 .refine(I.hok b u e).stay (fun c v hc q=>k c v ?_ q) (fun _ q=>q) fun _ _ q=>q;rcases hc with z|z
  .rw[z];exact F b u e
  .exact F c _ z
def Itz(a b : Ad) : It :=
  ⟨fun i H => ∃ xs ys x y, H a = some (.lst xs) /\ H b = some (.lst ys) /\ xs[i]? = some x /\ ys[i]? = some y,
   fun i H v H' => ∃ t x y, v = .ref t /\ H t = none /\ H' = upd H t (.tup [x, y]) /\ (∀ xs, H a = some (.lst xs) -> xs[i]? = some x) /\ ∀ ys, H b = some (.lst ys) -> ys[i]? = some y,
   fun i H => ∃ xs ys, H a = some (.lst xs) /\ H b = some (.lst ys) /\ (xs.length <= i \/ ys.length <= i)⟩
structure ZA(z TI TO i1 i2:Ad):Prop where
 a1:TI≠z
 a2:TO≠z
 a3:i1≠z
 a4:i2≠z
 a5:TI≠TO
 a6:TI≠i1
 a7:TI≠i2
 a8:TO≠i1
 a9:TO≠i2
 a10:i1≠i2
theorem aFs{P:Aq}{w:AL}{K:Ag}{es:List Ba}{Z:Nat}{tp:Pos}(a b z TI TO i1 i2:Ad)(F:ZA z TI TO i1 i2):
  aBG P w K (.Tuple es Z tp) (Itz a b) [z,TI,TO,i1,i2] z (fun i h=>IsZip h z TI TO .none/\IsPair h TI (.ref i1) (.ref i2)/\(∃ u v,IsPair h TO u v)/\h.IsListIter i1 a i/\h.IsListIter i2 b i) where
 mem:=by simp
 obj:=fun i h st c hc=>by
  obtain⟨hz,hTI,⟨u,v,hTO⟩,⟨o1,e1,_,d1⟩,⟨o2,e2,_,d2⟩⟩:=st;simp only[An,AO,or_false]at hc;rcases hc with rfl|rfl|rfl|rfl|rfl
  .exact⟨_,hz,fun v q=>by cases q⟩
  .exact⟨_,hTI,fun v q=>by cases q⟩
  .exact⟨_,hTO,fun v q=>by cases q⟩
  .exact⟨_,e1,fun v q=>by rw[d1]at q;cases q⟩
  .exact⟨_,e2,fun v q=>by rw[d2]at q;cases q⟩
 keep:=fun i h h' st k=>by
  obtain⟨hz,hTI,⟨u,v,hTO⟩,h1,h2⟩:=st;exact⟨k z (by simp) _ hz,k TI (by simp) _ hTI,⟨u,v,k TO (by simp) _ hTO⟩,h1.at fun o e=>k i1 (by simp) o e,h2.at fun o e=>k i2 (by simp) o e⟩
 item:=by
  intro X U hw hK hc i df s σ H E I hf st hg;subst U hw hK;obtain⟨xs,ys,x,y,hxa,hyb,hx,hy⟩:=hg;obtain⟨us,r1,p1,z1⟩:=I.list (aO hxa);obtain⟨ws,r2,p2,z2⟩:=I.list (aO hyb);obtain⟨u,hu,ru⟩:=r1.get hx;obtain⟨v,hv,rv⟩:=r2.get hy;obtain⟨hz,hTI,⟨u0,v0,hTO⟩,h1,h2⟩:=st;have na:∀ c∈[z,TI,TO,i1,i2],a≠c/\b≠c:=fun c hc=>⟨aJ hxa (hf c hc).1,aJ hyb (hf c hc).1⟩
  have D:ZipApart z TI TO i1 i2 a b:=⟨F.a1,F.a2,F.a3,F.a4,F.a5,F.a6,F.a7,F.a8,F.a9,F.a10,(na z (by simp)).1,(na TO (by simp)).1,(na i1 (by simp)).1,(na i2 (by simp)).1,(na z (by simp)).2,(na TO (by simp)).2,(na i1 (by simp)).2,(na i2 (by simp)).2⟩
  refine wpAny_pyNext_zip_item D hz hTI hTO h1 h2 p1.isList p2.isList (x:=u) (y:=v) (by simpa using hu) (by simpa using hv) fun h' q1 q2 q3 q4 q5 q6 O=>⟨_,rfl,?_⟩
  refine wpAny_letOwnedTupleGo_zip q1 fun G Y J=>?_;have lt:∀{c o},s.heap.get? c=some o->s.heap.objs.size≠c:=fun e=>CG (Ap e);have Z:∀ c o,c∉[z,TI,TO,i1,i2]->s.heap.get? c=some o->G.get? c=some o:=fun c o hc e=>by
   simp only[An,AO,or_false,not_or]at hc;exact J.extBut _ _ hc.1 (O c o hc.1 hc.2.2.1 hc.2.2.2.1 hc.2.2.2.2 e)
  have I1:Inv X df σ H { s with heap:=G,toks:=s.toks }:=I.turnedL Z hf;have nT:H s.heap.objs.size=none:=I.hok.fresh (Aj _);have af:G.get? s.heap.objs.size=some { cls:=.type "tuple",data:=.seq #[u,v] }:=J.extBut _ _ (lt hz) q5;have I2:Inv X df σ (upd H s.heap.objs.size (.tup [x,y])) { s with heap:=G,toks:=s.toks }:=by
   refine I1.track (I.fpOk (Aj _) nT) ⟨aR (show 2<=1000000 by decide),[u,v],.cons ru (.cons rv .nil),_,af,⟨rfl,_,rfl⟩,rfl⟩
  refine⟨.ref s.heap.objs.size,_,I2,rfl,⟨_,x,y,rfl,nT,rfl,fun ao e=>?_,fun ap e=>?_⟩,?_,fun c hc=>?_⟩
  .rw[hxa]at e;cases e;exact hx
  .rw[hyb]at e;cases e;exact hy
  .exact⟨Y,J.extBut _ _ F.a1 (O _ _ F.a1 F.a5 F.a6 F.a7 hTI),⟨u,v,J.extBut _ _ F.a2 q2⟩,q3.at fun o e=>J.extBut _ _ F.a3 e,q4.at fun o e=>J.extBut _ _ F.a4 e⟩
  .have ad:c≠s.heap.objs.size:=by
    simp only[An,AO,or_false]at hc;rcases hc with rfl|rfl|rfl|rfl|rfl
    .exact(lt hz).symm
    .exact(lt hTI).symm
    .exact(lt hTO).symm
    .obtain⟨_,e,_⟩:=h1;exact(lt e).symm
    .obtain⟨_,e,_⟩:=h2;exact(lt e).symm
   rw[aF ad];exact(hf c hc).1
 done:=by
  intro X U hw hK hc i df s σ H E I hf st hg;subst U hw hK;obtain⟨xs,ys,hxa,hyb,hend⟩:=hg;obtain⟨us,r1,p1,z1⟩:=I.list (aO hxa);obtain⟨ws,r2,p2,z2⟩:=I.list (aO hyb);have l1:=r1.length;have l2:=r2.length;obtain⟨hz,hTI,⟨u0,v0,hTO⟩,h1,h2⟩:=st;have na:∀ c∈[z,TI,TO,i1,i2],a≠c/\b≠c:=fun c hc=>⟨aJ hxa (hf c hc).1,aJ hyb (hf c hc).1⟩
  have D:ZipApart z TI TO i1 i2 a b:=⟨F.a1,F.a2,F.a3,F.a4,F.a5,F.a6,F.a7,F.a8,F.a9,F.a10,(na z (by simp)).1,(na TO (by simp)).1,(na i1 (by simp)).1,(na i2 (by simp)).1,(na z (by simp)).2,(na TO (by simp)).2,(na i1 (by simp)).2,(na i2 (by simp)).2⟩
  refine wpAny_pyNext_zip_end (I.ok.hd hc) D hz hTI hTO h1 h2 p1.isList p2.isList ?_ fun h' O=>⟨rfl,I.turnedL (t':=s.toks) (fun c o hc e=>?_) hf⟩
  .rcases hend with q|q
   .exact .inl (EX (by simp;omega))
   .exact .inr (EX (by simp;omega))
  .simp only[An,AO,or_false,not_or]at hc;exact O c o hc.1 hc.2.2.1 hc.2.2.2.1 hc.2.2.2.2 e
 self:=fun _ _ _ _ _ st h=>wpAny_pyIter_zip st.1 h
theorem za(n:Nat):ZA (n+4) (n+2) (n+3) n (n+1):=⟨Ar (by omega),Ar (by omega),Ar (by omega),Ar (by omega),Ar (by omega),CG (by omega),CG (by omega),CG (by omega),CG (by omega),Ar (by omega)⟩
def aKo(ta:TA):TI:=fun σ H R=>ta σ H fun vs H1=>∃ a b xs ys,vs=[.ref a,.ref b]/\H1 a=some (.lst xs)/\H1 b=some (.lst ys)/\R (Itz a b) H1
theorem aIv{x y:Ba}{ta:TA}{p pos:Pos}{es:List Ba}{kk:Nat}{tp:Pos}(hg:Gl X "zip")(hm:X.mg "zip"=none)(ha:PA X [x,y] ta)(hs:starEach [x,y] X.env=[(false,eval x X.env),(false,eval y X.env)]:=by rfl)(J:starEach [y] X.env=[(false,eval y X.env)]:=by rfl):
  PI X (.Tuple es kk tp) (.Call (.Name "zip" p) [x,y] [] pos) (aKo ta):=by
 constructor;intro df s σ H R I h;refine Call_ (nL I hg hm boot_zip (C7 (thn (ha pos df s σ H _ I h) fun Z F ⟨vs,H1,G,Y,U⟩=>?_) (by rw[hs,J]) (by rw[J];rfl)));obtain⟨a,b,xs,ys,e,hxa,hyb,q⟩:=U;subst e;obtain⟨u,v,rfl,ru,rv⟩:=aCG Y;cases ru;cases rv;obtain⟨Z,Y,p1,z1⟩:=G.list (aO hxa);obtain⟨ws,r2,p2,z2⟩:=G.list (aO hyb);refine call_zip_2 p1.isList p2.isList fun h' U q2 q3 q4 q5 q6 q7=>?_;refine wpAny_pyIter_zip U ?_;refine⟨_,[F.heap.objs.size+4,F.heap.objs.size+2,F.heap.objs.size+3,F.heap.objs.size,F.heap.objs.size+1],_,_,H1,rfl,G.kept (t':=F.toks) q7,aFs a b (F.heap.objs.size+4) (F.heap.objs.size+2) (F.heap.objs.size+3) F.heap.objs.size (F.heap.objs.size+1) (za _),⟨U,q2,⟨_,_,q3⟩,q4,q5⟩,fun c hc=>?_,q⟩;have O:F.heap.objs.size<=c:=by
  simp only[An,AO,or_false]at hc;rcases hc with rfl|rfl|rfl|rfl|rfl
  .exact D9 _ 4
  .exact D9 _ 2
  .exact D9 _ 3
  .exact Aj _
  .exact D9 _ 1
 exact G.fpOk O (G.hok.fresh O)
inductive aAs(K:Ag)(x:V)(y:V)(H:Hp)(Q:VK):Prop
 | mk (a:_) (b:_) (ys:_) (q0:x=.ref a) (q1:y=.ref b) (q2:SqT K H a []) (q3:SqT K H b ys) (q4:Q (.ref b) H):aAs K x y H Q
def aIw(K:Ag):R2:=fun x y H Q=>aAs K x y H Q
theorem aFt:OpR X (binaryOp .Add) (aIw X.K):=by
 intro df s σ H x y v u Q I G F h;obtain⟨a,b,ys,rfl,rfl,ha,hb,q⟩:=h;cases G;cases F;obtain⟨its,r1,p1,_⟩:=I.tuple ha;obtain⟨its2,r2,p2,_⟩:=I.tuple hb;cases r1;obtain⟨⟨cls,dd,data,sl⟩,ho,hc,n,hd⟩:=id p1;obtain⟨⟨cls2,dd2,data2,sl2⟩,ho2,hc2,n2,hd2⟩:=id p2;simp only at hc hd hc2 hd2;subst hc hd hc2 hd2;exact Hl ⟨_,ho,rfl⟩ ⟨_,ho2,rfl⟩ Gu G9 EL EE (Ex _ _)
   (tuple_addW0 a b _ _ n n2 dd dd2 sl sl2 (by simp)) ⟨ho,ho2,⟨.ref b,H,I,rfl,q⟩⟩
section
variable{st:Ba}{ts:TE}{p2:Pos}
end
mutual
inductive RdV(m:Bool)(H:Hp):V->CY->Prop
 | non:RdV m H .non .none
 | bl (b:Bool):RdV m H (.bl b) (.bool b)
 | int (i:Int):RdV m H (.int i) (.int i)
 | str (z:Str) (h:z.length<=1000):RdV m H (.str z) (.str z)
 | lst {a:Ad} {xs:List V} {ds:List CY} (hm:m=true) (e:H a=some (.lst xs)) (hl:xs.length<=1000) (r:uC m H xs ds):RdV m H (.ref a) (.list ds)
 | tup {a:Ad} {xs:List V} {ds:List CY} (e:H a=some (.tup xs)) (hl:xs.length<=1000) (r:uC m H xs ds):RdV m H (.ref a) (.tuple ds)
 | dct {a:Ad} (hm:m=false) (e:H a=some (.dK [])):RdV m H (.ref a) (.dict [])
inductive uC(m:Bool)(H:Hp):List V->List CY->Prop
 | nil:uC m H [] []
 | cons {x:V} {d:CY} {xs:List V} {ds:List CY} (a:RdV m H x d) (r:uC m H xs ds):uC m H (x::xs) (d::ds)
end
mutual
theorem RdV.reads{df:List (Ad×Obj)}{σ:St}{m:Bool}{H:Hp}{s:Ac}(I:Inv X df σ H s):∀{x:V}{d:CY}{v:Ab},RdV m H x d->bQ x v->∃ as,Reads s.heap v d as/\(m=true->d.hasDict=false)/\(m=false->¬ sysModules∈as)
 | _,_,_,.non,r=>by cases r;exact⟨[],.none,fun _=>rfl,fun _=>by simp⟩
 | _,_,_,.bl b,r=>by cases r;exact⟨[],.bool b,fun _=>rfl,fun _=>by simp⟩
 | _,_,_,.int i,r=>by obtain⟨t,rfl⟩:=r;exact⟨[],.int i t,fun _=>rfl,fun _=>by simp⟩
 | _,_,_,.str z _,r=>by obtain⟨t,rfl⟩:=r;exact⟨[],.str z t,fun _=>rfl,fun _=>by simp⟩
 | _,_,_,.lst hm e _ rs,r=>by
  cases r;obtain⟨_,its,n,rv,eo⟩:bZ X.prog X.w H s.heap _ (.lst _):=I.hok _ _ e;obtain⟨as,ra,h1,h2⟩:=uC.reads I rs rv;exact⟨_,.list eo rfl rfl (by simpa using ra),fun _=>h1 hm,fun z=>by rw[hm]at z;cases z⟩
 | _,_,_,.tup e _ rs,r=>by
  cases r;obtain⟨_,its,rv,pt⟩:bZ X.prog X.w H s.heap _ (.tup _):=I.hok _ _ e;obtain⟨as,ra,h1,h2⟩:=uC.reads I rs rv;obtain⟨o,eo,⟨hc,n,hd⟩,_⟩:=pt;exact⟨as,.tuple eo hc hd (by simpa using ra),h1,h2⟩
 | _,_,_,.dct hm e,r=>by
  cases r;obtain⟨_,hs,vs,kv,o,es,ep,eo,hx,hd,hk,hp,_⟩:bZ X.prog X.w H s.heap _ (.dK []):=I.hok _ _ e;cases kv;have F:es.toList=[]:=by
   cases h:es.toList with
   | nil=>rfl
   | cons y r=>rw[h]at hp;cases hp
  refine⟨_,Reads.dict (kvs:=[]) (as:=[]) (bs:=[]) eo hx.1 hd (by rw[F];exact .nil) (by rw[F];exact .nil),(fun z=>by rw[hm]at z;cases z),fun _=>?_⟩;intro z;simp at z;rw[z]at hs;simp at hs
theorem uC.reads{df:List (Ad×Obj)}{σ:St}{m:Bool}{H:Hp}{s:Ac}(I:Inv X df σ H s):∀{xs:List V}{ds:List CY}{vs:List Ab},uC m H xs ds->bK xs vs->∃ as,ReadsAll s.heap vs ds as/\(m=true->PyData.hasDictAll ds=false)/\(m=false->¬ sysModules∈as)
 | _,_,_,.nil,.nil=>⟨[],.nil,fun _=>rfl,fun _=>by simp⟩
 | _,_,_,.cons a r,.cons G F=>by
  obtain⟨as,h1,h2,h3⟩:=RdV.reads I a G;obtain⟨bs,g1,g2,g3⟩:=uC.reads I r F;refine⟨as++bs,.cons h1 g1,fun z=>?_,fun z w=>?_⟩
  .unfold PyData.hasDictAll;rw[h2 z,g2 z];rfl
  .rcases AK.mp w with w|w
   .exact h3 z w
   .exact g3 z w
end
theorem oW{t sl:Ad}{items:Array Ab}{O J:Ab}{lo hi:Option Int}{Q:Ab->Ac->Prop}(ht:E4 s.heap t items)(hs:s.heap.IsSliceOf sl O J .none)(pl:Fl O lo)(U:Fl J hi)
  (hw:HT.sIx items.size 0 lo=0/\HT.sIx items.size items.size hi=items.size) (h:Q (.ref t) s):wpAny (model prog w) A (getItem (.ref t) (.ref sl)) Q E s:=by
 obtain⟨os,hos,hcs,hds⟩:=id hs;have G:s.TypeIs (.ref sl) "slice":=⟨os,hos,hcs⟩
 unfold getItem
 try with_reducible refine By ?_
 first|refine Aa (Ah ?_)|skip
 refine Aa (wpAny_sequenceKey ht.typeIs (by decide) ?_);refine Aa (CC (name:=BJ "__getitem__") ht.typeIs BQ
  (Cn BQ ht.typeIs entry_tuple_getitem ?_ (args_tuple_getitem _ _)))
 show wpAny _ _ (Builtin.Tuple.tupleItemsOf (.ref t) >>= _) _ _ s;refine Aa (tupleItemsOf_ ht ?_);refine Aa (DI G ?_);rw[Ib (by decide)];refine Aa (HT.sliceApplied_gen hs pl U ?_);have F:(((HT.sIx items.size 0 lo:Nat):Int)==0&&(1:Int)==1&&(HT.sIx items.size items.size hi-HT.sIx items.size 0 lo)==items.size)=true:=by
  rw[hw.1,hw.2];simp
 show wpAny _ _ (if (((HT.sIx items.size 0 lo:Nat):Int)==0&&(1:Int)==1&&(HT.sIx items.size items.size hi-HT.sIx items.size 0 lo)==items.size)=true then _ else _) _ _ s;rw[Ib F];obtain⟨⟨cls,dd,data,sl'⟩,ho,hc,n,hd⟩:=id ht;simp only at hc hd;subst hc hd
 wp_walk
 exact⟨_,rfl,Ah h⟩
inductive aFu(K:Ag)(x:V)(lo:Option Int)(hi:Option Int)(H:Hp)(Q:VK):Prop
 | mk (a:_) (xs:_) (q0:x=.ref a) (q1:H a=some (.tup xs)) (q2:∀ r H',bU H H'->H' r=some (.tup (jA xs lo hi))->Q (.ref r) H'):aFu K x lo hi H Q
def aKp(K:Ag):V->Option Int->Option Int->Hp->VK->Prop:=fun x lo hi H Q=>aFu K x lo hi H Q
theorem rY:SlR X (aKp X.K):=by
 intro df s σ H x v Y O lo hi sl Q I J hs pl G h;obtain⟨a,xs,rfl,hx,q⟩:=h;by_cases hw:HT.sIx xs.length 0 lo=0/\HT.sIx xs.length xs.length hi=xs.length
 .cases J;obtain⟨its,r,ht,hz⟩:=I.tuple (bJ hx);have F:its.toArray.size=xs.length:=by rw[AA];exact r.length.symm
  refine⟨"tuple",_,BQ.lookup,ht.typeIs,oW ht hs pl G (by rw[F];exact hw) ⟨.ref a,H,I,rfl,q a H (bU.refl H) ?_⟩⟩;have e:jA xs lo hi=xs:=by
   unfold jA;rw[hw.1,hw.2,Cv,Dz,Bg]
  rw[e];exact hx
 .exact aIm df s σ H _ v Y O lo hi sl Q I J hs pl G ⟨a,xs,rfl,bJ hx,hw,fun p U=>q p _ (aH U) aA⟩
inductive aCR(x:V)(y:V)(H:Hp)(Q:VK):Prop
 | mk (a:_) (b:_) (xs:_) (ys:_) (q0:x=.ref a) (q1:y=.ref b) (q2:H a=some (.tup xs)) (q3:H b=some (.tup ys)) (q4:xs.length+ys.length<=1000000) (q5:∀ r H',bU H H'->H' r=some (.tup (xs++ys))->Q (.ref r) H'):aCR x y H Q
def aJv:R2:=fun x y H Q=>aCR x y H Q
theorem aHd:OpR X (binaryOp .Add) aJv:=by
 intro df s σ H x y v u Q I J F h;obtain⟨a,b,xs,ys,rfl,rfl,ha,hb,hz,q⟩:=h;by_cases G:xs=[]
 .subst G;exact aFt df s σ H _ _ v u Q I J F ⟨a,b,ys,rfl,rfl,bJ ha,bJ hb,q b H (bU.refl H) hb⟩
 .refine aG3 df s σ H _ _ v u Q I J F ⟨a,b,xs,ys,rfl,rfl,bJ ha,bJ hb,G,aR hz,fun h1=>?_,fun h1 p O=>q p _ (aH O) aA⟩;subst h1;exact q a H (bU.refl H) (by rw[Bp];exact ha)
theorem aIx{α:Type}(xs:List V)(n:Nat):jA xs none (some (n:Int))=xs.take n:=by
 unfold jA;rw[HT.sIx_none,HT.sIx_nat,Cv,Dz];by_cases h:n<=xs.length
 .rw[Nat.min_eq_left h]
 .rw[Nat.min_eq_right (by omega),Bg,Bj (by omega)]
theorem oX{α:Type}(xs:List V)(n:Nat):jA xs (some (n:Int)) none=xs.drop n:=by
 unfold jA;rw[HT.sIx_none,HT.sIx_nat];by_cases h:n<=xs.length
 .rw[Nat.min_eq_left h];exact Bj (by rw[BP];exact Aj _)
 .rw[Nat.min_eq_right (by omega),DV (Aj _),DV (by omega),Gx]
open PySem PySem.Spec PyProof.Rows PySem.W
def aKq{α:Type}(n:Nat)(P:α->Prop):KasT α->Prop
 | .ret a=>P a
 | .ask i j k=>i<n/\j<n/\∀ b,aKq n P (k b)
def Pm(n:Nat)(p:Array Nat):Prop:=p.Perm (B7 n).toArray
section
variable{n:Nat}(hn:0<n)
include hn
end
theorem p6{x:Ad}{its:Array Ab}{Q:Array Ab->Ac->Prop}(F:E4 s.heap x its)(h:Q its s):wpAny (model prog w) A (DD (AD x)) Q E s:=by
 obtain⟨⟨cls,dd,data,sl⟩,ho,hc,n,hd⟩:=id F;simp only at hc hd;subst hc hd;unfold DD
 wp_walk
 exact h
inductive aFv(h:A9)(v:Ab):Prop
 | mk (t:_) (a:_) (b:_) (c:_) (u1:_) (u2:_) (u3:_) (q0:v=.ref t) (q1:E4 h t #[.int a u1,.int b u2,.str c u3]):aFv h v
def aKN(h:A9)(v:Ab):Prop:=aFv h v
theorem uD{α β:Type}{f:α->Sem β}{R:α->β->Prop}:∀(l:List α) {Q:List β->Ac->Prop},(∀ v∈l,∃ r,R v r/\∀ O:β->Ac->Prop,O r s->wpAny (model prog w) A (f v) O E s)->(∀ rs:List β,rs.length=l.length->(∀ r∈rs,∃ v∈l,R v r)->Q rs s)->wpAny (model prog w) A (List.mapM f l) Q E s
 | [],Q,_,q=>by
  rw[List.mapM_nil];exact Ah (q [] rfl fun r G=>by simp at G)
 | a::l,Q,h,q=>by
  rw[List.mapM_cons];obtain⟨r,G,hw⟩:=h a Am;refine Aa (hw _ (Aa (uD l (fun v J=>h v (Al _ J)) fun rs hl hrs=>Ah (q (r::rs) (by rw[AQ,AQ,hl]) fun z F=>?_))));rcases An.mp F with rfl|F
  .exact⟨a,Am,G⟩
  .obtain⟨v,J,hR⟩:=hrs z F;exact⟨v,Al _ J,hR⟩
theorem aJw{a kS:Ad}{st:Bn}{keys:Array Ab}{e e1:Nat}{P:Gw->Ac->Prop}(ha:s.heap.get? a=some (seqObj "list" #[] e1))(O:s.heap.get? kS=some (seqObj "list" keys e))(J:a≠kS)(G:keys.size<=sizeLine)(U:(arrOf st).size<=sizeLine)(hf:failedOf st=none)
  (h:P (Fin.done (HC CW)) { s with heap:=(s.heap.update kS (Bh fun _=>#[])).update a (Bh fun _=>(arrOf st).map (·.2)) }):wpAny (model prog w) A (ksk_tail a false e1 (.ref kS) st) P E s:=by
 unfold ksk_tail;refine Aa (DQ O rfl ?_ G (AV _));refine Aa (wpAny_letGo ?_);have F:(s.heap.update kS (Bh fun _=>#[])).get? a=some (seqObj "list" #[] e1):=by
  rw[BS _ _ _ _ J];exact ha
 refine Aa (FM F rfl ?_);refine Aa (DQ F rfl ?_ (AV _) (by show((arrOf st).map (·.2)).size<=_;rw[Array.size_map];omega))
 rw[hf];refine Bf (by simp) ?_;exact Ah h
theorem wY:∀{out its:List Ab},out.Perm its->∀{xs:List V},bK xs its->∃ ys:List V,ys.Perm xs/\bK ys out:=by
 intro out its U
 induction U with
 | nil=>intro xs r;exact⟨xs,.refl _,r⟩
 | cons a _ Z=>
  intro xs r;cases r with
  | cons O G=>
   obtain⟨ys,h1,h2⟩:=Z G;exact⟨_::ys,h1.cons _,.cons O h2⟩
 | swap a b l=>
  intro xs r;cases r with
  | cons O G=>
   cases G with
   | cons Y r4=>exact⟨_::_::_,.swap _ _ _,.cons Y (.cons O r4)⟩
 | trans _ _ J F=>
  intro xs r;obtain⟨ys,h1,h2⟩:=F r;obtain⟨zs,h3,h4⟩:=J h2;exact⟨zs,h3.trans h1,h4⟩
inductive aFw(H:Hp)(v:Ab):Prop
 | mk (t:_) (a:_) (b:_) (c:_) (q0:v=.ref t) (q1:H t=some (.tup [.int a,.int b,.str c])):aFw H v
def aKO(H:Hp)(v:Ab):Prop:=aFw H v
section
variable{ta:TA}
end
open PySem.SeqAt
open PySem.AutoSeq1 (wpAny_loadPart')
open PySem.MeetsSeq PySem.MeetsSeq2 PySem.MeetsSeq3
inductive aHO(X:Cx)(k:Nat)(ps:List Str)(f:Ad)(sp:Sp):Prop
 | mk (fd:A4) (q0:cA X.prog X.w X.K X.mg X.base CX0 k f fd ps sp) (q1:AJ X.K (.ref f)=true) (q2:dA X.K fd ps []):aHO X k ps f sp
def FnV(X:Cx)(k:Nat)(ps:List Str)(f:Ad)(sp:Sp):Prop:=aHO X k ps f sp
def aIy(X:Cx)(k:Nat)(ps:List Str)(tv:TE)(t:TA):TE:=fun σ H Q=>tv σ H fun v H1=>∃(f:Ad) (sp:Sp),v=.ref f/\FnV X k ps f sp/\t σ H1 fun vs H2=>sp vs H2 Q E0
theorem aFx{X:Cx}{k:Nat}{ps:List Str}{x:Str}{p pos:Pos}{e:Ba}{es:List Ba}{tv:TE}{t:TA}(hv:PE X (.Name x p) tv)(U:cF k X.A)(ha:PA X (e::es) t)
  (he:starEach (e::es) X.env=(false,eval e X.env)::starEach es X.env:=by rfl) (G:(backTo pos (starEach es X.env)).any (·.1)=false:=by rfl):
  PE X (.Call (.Name x p) (e::es) [] pos) (aIy X k ps tv t):=by
 constructor;intro df s σ H Q I h;refine Cw (thn (hv df s σ H _ I h) fun u s1 ⟨y,H1,O,ry,f,sp,Y,⟨fd,F,Z,hb⟩,h2⟩=>?_);subst Y;cases ry;refine Eh (h₀:=X.base) O.ok.mod.kin Z (thn (ha pos df s1 σ H1 _ O h2) fun us s2 ⟨vs,H2,J,r,q⟩=>⟨J.kIn,?_⟩) he G;exact aEX F U hb .nil dP J r (by rw[Bp];exact q)
def aJx(fo:List (Key×V))(ty:TE):TE:=fun σ H Q=>ty σ H fun y H2=>∃ k v,y=kV k/\c9 fo k=some v/\Q v H2
theorem aHe{X:Cx}{i:Ba}{x:Str}{ty:TE}{a:Ad}{vs:List (Key×Ab)}{fo:List (Key×V)}{p pos:Pos}(hd:∀ h:A9,X.K.In h->h.DictOf (cK X.prog X.w) a vs)(rel:KV fo vs)(hg:Gl X x)(hm:X.mg x=some (.ref a))(hi:PE X i ty)(hs:aIo i)(G:(x==("__debug__":Str))=false:=by decide):
  PE X (.Subscript (.Name x p) i pos) (aJx fo ty):=by
 constructor;intro df s σ H Q I h;have Z:PE X (.Name x p) (tC (.ref a)):=eG hg hm rfl G;refine aCM PySem.F.slot_dict_getitem.lookup hs (thn (Z df s σ H (fun v H1=>v=.ref a/\ty σ H1 fun y H2=>∃ k v,y=kV k/\c9 fo k=some v/\Q v H2) I ⟨rfl,h⟩) fun u s1 ⟨x,H1,I1,rx,ex,q1⟩=>thn (hi df s1 σ H1 _ I1 q1) fun iv Y ⟨y,H2,J,ry,k,v,U,l,q2⟩=>?_);subst ex U;obtain rfl:u=AD a:=rx;have O:=hd Y.heap J.kIn;refine⟨?_,?_⟩
 .obtain⟨o,es,ep,e,hx,_⟩:=O;exact⟨o,e,hx.1⟩
 .obtain⟨w',hw,rw'⟩:=oG.some_of (v:=v) (o:=valueAt vs k) (by rw[<- l];exact rel.val k);exact wpAny_getItem_of (tM ry) O.mapOf hw ⟨v,H2,J.tok _,rw',q2⟩
section
variable{Q:Ab->Ac->Prop}{b:Bool}
end
def aFy(w:AL)(es:Array (Int×Ab))(t:CB):Prop:=t.led=!w.params.followText "set-order"/\(es.size=0\/t.plain=false)
def aKP(prog:Aq)(w:AL)(h:A9)(a:Ad)(S:Str->Bool)(n:Nat):Prop:=
 ∃ o es ep t,h.get? a=some o/\o.ExactSet/\o.data=.set es ep t/\Ho (PySem.strKind prog w) es.toList/\(∀ k,S k=true↔∃ e∈es.toList,(PySem.strKind prog w).is k e.2=true)
  /\es.size<scanBound/\t.fits es.size=true/\es.size=n/\aFy w es t
theorem aJy{prog:Aq}{w:AL}{A:AI}{E:Ab->Ac->Prop}{s:Ac}(a:Ab){Q₁:Ab->Ac->Prop}
  (h:Q₁ (.ref s.heap.objs.size) { s with heap:=s.heap.push { cls:=.type "set",dict:=none,data:=.set #[] 0 (.fresh 0 0 (!w.params.followText "set-order")) } }):
  codeAny (model prog w) A (.call (.builtin "set.__new__") ⟨[.type "set",a],[]⟩) (wants Q₁ E) s:=by
 apply codeAny_of_tree;show wpAny (model prog w) A.in1 (checkBuiltinCall "set.__new__" ⟨[.type "set",a],[]⟩ >>= fun _=>again (.builtin "set.__new__" ⟨[.type "set",a],[]⟩)) _ _ s;apply Aa;refine EZ (F.newCall_set_1 a) (Ah ⟨F1 F.plain_set_new _,?_⟩);apply Dl F.entry_set_new;rw[Dj F.plain_set_new];unfold Builtin.«set.__new__» Builtin.Frozenset.newClass;have G:=sub_set_self;obtain⟨hp,gs,dr,tk,os⟩:=s;dsimp only
 wp_walk
 apply DK;apply Ah;dsimp only;simp only[newObj];apply Aa;apply wpAny_alloc;exact Ah (Ah h)
theorem lN{α:Type}:∀(l:List α) (j:Nat) (y:α),l[j]?=some y->(y::l.eraseIdx j).Perm l
 | [],j,y,h=>by simp at h
 | x::r,0,y,h=>by
  simp at h;subst h;simp
 | x::r,j+1,y,h=>by
  simp at h;rw[List.eraseIdx_cons_succ];exact(List.Perm.swap x y _).trans ((lN r j y h).cons x)
theorem aHf{M:E2}{A:AI}{Q:Nat->Ac->Prop}{E:Ab->Ac->Prop}{s:Ac}{src:Source}{n:Nat}(hn:n≠0)(h:∀ i d,i<n->Q i { s with drawn:=d }):wpAny M A (choose src n) Q E s:=
 fun _ _ _=>⟨hn,h _ _ (Nat.mod_lt _ (Nat.pos_of_ne_zero hn))⟩
theorem aB1{α:Type}{M:E2}{A:AI}{E:Ab->Ac->Prop}:∀(n:Nat) (xs:List α) (s:Ac) (Q:List α->Ac->Prop),xs.length=n->(∀ ys d,ys.Perm xs->Q ys { s with drawn:=d })->wpAny M A (drawOrder n xs) Q E s:=by
 intro n
 induction n with
 | zero=>
  intro xs s Q hl h;obtain rfl:xs=[]:=List.eq_nil_of_length_eq_zero hl;exact Ah (h [] s.drawn (EV _))
 | succ n G=>
  intro xs s Q hl h;cases xs with
  | nil=>simp at hl
  | cons x r=>
   unfold drawOrder;refine Aa (aHf (by simp) fun i d hi=>?_);obtain⟨y,hy⟩:∃ y,(x::r)[i]?=some y:=⟨_,Ae hi⟩
   rw[hy];dsimp only;refine Aa (G _ _ _ (by rw[Er hi];simp at hl ⊢;exact hl) fun ys J F=>Ah (h _ _ ((F.cons y).trans (lN _ i y hy))))
theorem cX:Slot "set_iterator" "__next__" "set_iterator.__next__":=
 .of (owner:="set_iterator") (n:="__next__") (by rw[typeLookup_type,builtinLookup_eq_fast];kernel_rfl) (by decide) (by decide) (by decide) (by first|exact .inl (by decide)|exact .inr (by decide)) (by rw[isSubtype_type];kernel_rfl)
theorem oY:Slot "set_iterator" "__iter__" "set_iterator.__iter__":=
 .of (owner:="set_iterator") (n:="__iter__") (by rw[typeLookup_type,builtinLookup_eq_fast];kernel_rfl) (by decide) (by decide) (by decide) (by first|exact .inl (by decide)|exact .inr (by decide)) (by rw[isSubtype_type];kernel_rfl)
theorem g8:entryFor table "set_iterator.__next__"=some Builtin.«set_iterator.__next__»:=entryFor_of_tree (by kernel_rfl)
theorem wA:entryFor table "set_iterator.__iter__"=some Builtin.«dict_keyiterator.__iter__»:=entryFor_alias (id':="dict_keyiterator.__iter__") (by kernel_rfl) rfl (by decide) (by kernel_rfl)
theorem rR:entryFor table "set.__iter__"=some Builtin.«frozenset.__iter__»:=entryFor_alias (id':="frozenset.__iter__") (by kernel_rfl) rfl (by decide) (by kernel_rfl)
theorem aAt:Manifest.owners.lookup (String.ofList ("set_iterator".toList.reverse).reverse)=some Manifest.sig_set_iterator:=by kernel_rfl
theorem iQ(a:Ab):argsOk "set_iterator.__next__" ⟨[a],[]⟩:=by
 unfold argsOk;rw[signature?_of (id:="set_iterator.__next__") (n:="__next__".toList.reverse) (o:="set_iterator".toList.reverse) (by kernel_rfl) aAt]
 kernel_rfl
theorem yT(a:Ab):argsOk "set_iterator.__iter__" ⟨[a],[]⟩:=by
 unfold argsOk;rw[signature?_of (id:="set_iterator.__iter__") (n:="__iter__".toList.reverse) (o:="set_iterator".toList.reverse) (by kernel_rfl) aAt]
 kernel_rfl
def i0(first:Ab)(i:Nat)(S:Ad)(n ep:Nat):Obj:={ cls:=.type "set_iterator",dict:=none,data:=.fields #[first,.int i 0,.ref S,.int n 0,.int ep 0],slots:=#[] }
section
variable{I S T:Ad}{i m ep:Nat}{o ot:Obj}{t:CB}{gb:Array Ab}{x:Ab}
theorem uE{M:E2}{B:AI}{F:Ab->Ac->Prop}{Q:Fin->Ac->Prop}{s:Ac}(hh:B.handled=none)(h:∀(e:Ab) (h':A9),(∀ b u,s.heap.get? b=some u->h'.get? b=some u)->Gq { s with heap:=h' } e "StopIteration"->F e { s with heap:=h' }):
  wpAny M B (newExc (.type "StopIteration") [] >>= fun e=>raiseNew e) Q F s:=by
 refine Aa ?_;simp only[newExc,newTuple];apply Aa;refine BY ?_ (by size_fits);apply Aa (m:=firstArgMember _ _);refine EZ (a:=CW) (by first|rfl|(simp only[firstArgMember];rfl)) ?_;refine BY (h:=?_) (by size_fits);simp only[raiseNew];refine Aa (wpAny_handled ?_);rw[hh];refine Aa (Ah (wpAny_throw (h (.ref _) _ (fun b u e=>Ai _ (Ai _ e)) ⟨_,Aw _ rfl,rfl⟩)))
theorem aEa(G:s.heap.get? I=some (i0 (.ref T) i S es.size ep))(hS:s.heap.get? S=some o)(hd:o.data=.set es ep t)(hf:t.fits es.size=true)(Z:s.heap.get? T=some ot)(J:ot.data=.seq gb m){p:Nat}{tk:Tok}{hs:Int}(O:gb[i]?=some (.int p tk))(U:es[p]?=some (hs,x)){Q:Option Ab->Ac->Prop}
  (Y:∀ h',h'.get? I=some (i0 (.ref T) (i+1) S es.size ep)->Dv I s.heap h'->Q (some x) { s with heap:=h' }):wpAny (model prog w) A (pyNext (.ref I)) Q E s:=by
 have F:s.TypeIs (.ref I) "set_iterator":=⟨_,G,rfl⟩
 unfold pyNext;apply Aa;apply Dn;refine CC (name:=BJ "__next__") F cX (Cn cX F g8 ?_ (iQ _));unfold Builtin.«set_iterator.__next__»;refine Aa (Ah ?_);refine Aa (FK G rfl ?_);dsimp only;refine Aa (DO hS hd hf ?_);rw[Ia (show¬ ((((es.size:Nat):Int) != ((es.size:Nat):Int))=true) by simp)];refine Aa (wpAny_seqItems Z J ?_);dsimp only;rw[show((i:Nat):Int).toNat=i from BV i,O];dsimp only;unfold setNextDrawn;refine Aa (Aa (Dr hS hd hf ?_));dsimp only;rw[Ia (show¬ ((ep != ((ep:Nat):Int).toNat)=true) by simp)];rw[show((p:Nat):Int).toNat=p from BV p,U];refine Ah ?_;refine Aa (D7 G rfl (by simp[i0]) (Ah ⟨x,rfl,Ah (Y _ ?_ (Ci ..))⟩));rw[Cp _ G (D6 (CJ rfl _))];rfl
theorem aFz(hh:A.handled=none)(G:s.heap.get? I=some (i0 (.ref T) i S es.size ep))(hS:s.heap.get? S=some o)(hd:o.data=.set es ep t)(hf:t.fits es.size=true)(Z:s.heap.get? T=some ot)(J:ot.data=.seq gb m)(Y:gb[i]?=none){Q:Option Ab->Ac->Prop}
  (U:∀ h',(∀ b u,b≠I->s.heap.get? b=some u->h'.get? b=some u)->Q none { s with heap:=h' }):wpAny (model prog w) A (pyNext (.ref I)) Q E s:=by
 have F:s.TypeIs (.ref I) "set_iterator":=⟨_,G,rfl⟩
 unfold pyNext;apply Aa;apply Dn;refine CC (name:=BJ "__next__") F cX (Cn cX F g8 ?_ (iQ _));unfold Builtin.«set_iterator.__next__»;refine Aa (Ah ?_);refine Aa (FK G rfl ?_);dsimp only;refine Aa (DO hS hd hf ?_);rw[Ia (show¬ ((((es.size:Nat):Int) != ((es.size:Nat):Int))=true) by simp)];refine Aa (wpAny_seqItems Z J ?_);dsimp only;rw[show((i:Nat):Int).toNat=i from BV i,Y];dsimp only;refine Aa (D7 G rfl (by simp[i0]) ?_);have O:=Cp (Obj.mapFields (·.setIfInBounds 0 (rawInt 0))) G (D6 (CJ rfl _))
 refine Aa (D7 O (CJ rfl _) (by simp[i0]) ?_);refine uE (show A.in1.handled=none from hh) fun e h' k hE=>?_;refine Aa (DJ (T:="StopIteration") (b:=true) hE isSubtype_stop ?_);refine Ah (U h' fun b u nb hb=>k b u ?_);exact(Ci _ I _).extBut b u nb ((Ci _ I _).extBut b u nb hb)
theorem aEb{sl nx:Nat}(J:s.heap.get? I=some (i0 (rawInt sl) i S es.size ep))(hS:s.heap.get? S=some o)(hd:o.data=.set es ep t)(hf:t.fits es.size=true)
  (hN:∀(B:AI) (Y:Ab->Ac->Prop) (O:Option (Ab×Nat)->Ac->Prop),O (some (x,nx)) s->wpAny (model prog w) B (setNext S sl i ep) O Y s) {Q:Option Ab->Ac->Prop}
  (U:∀ h',h'.get? I=some (i0 (rawInt nx) (i+1) S es.size ep)->Dv I s.heap h'->Q (some x) { s with heap:=h' }):wpAny (model prog w) A (pyNext (.ref I)) Q E s:=by
 have F:s.TypeIs (.ref I) "set_iterator":=⟨_,J,rfl⟩
 unfold pyNext;apply Aa;apply Dn;refine CC (name:=BJ "__next__") F cX (Cn cX F g8 ?_ (iQ _));unfold Builtin.«set_iterator.__next__»;refine Aa (Ah ?_);refine Aa (FK J rfl ?_);dsimp only;refine Aa (DO hS hd hf ?_);rw[Ia (show¬ ((((es.size:Nat):Int) != ((es.size:Nat):Int))=true) by simp)];dsimp only[rawInt];refine Aa ?_;rw[show((i:Nat):Int).toNat=i from BV i,show((sl:Nat):Int).toNat=sl from BV sl,show((ep:Nat):Int).toNat=ep from BV ep];refine hN _ _ _ ?_;dsimp only;refine Aa (D7 J rfl (by simp[i0]) ?_);have G:=Cp (Obj.mapFields (·.setIfInBounds 0 (rawInt nx))) J (D6 (CJ rfl _))
 refine Aa (D7 G (CJ rfl _) (by simp[i0]) (Ah ⟨x,rfl,Ah (U _ ?_ ((Ci ..).trans (Ci ..)))⟩));exact(Cp _ G (D6 (CJ (CJ rfl _) _))).trans rfl
theorem aFA{sl:Nat}(hh:A.handled=none)(G:s.heap.get? I=some (i0 (rawInt sl) i S es.size ep))(hS:s.heap.get? S=some o)(hd:o.data=.set es ep t)(hf:t.fits es.size=true)
  (hN:∀(B:AI) (U:Ab->Ac->Prop) (J:Option (Ab×Nat)->Ac->Prop),J none s->wpAny (model prog w) B (setNext S sl i ep) J U s) {Q:Option Ab->Ac->Prop}
  (O:∀ h',(∀ b u,b≠I->s.heap.get? b=some u->h'.get? b=some u)->Q none { s with heap:=h' }):wpAny (model prog w) A (pyNext (.ref I)) Q E s:=by
 have F:s.TypeIs (.ref I) "set_iterator":=⟨_,G,rfl⟩
 unfold pyNext;apply Aa;apply Dn;refine CC (name:=BJ "__next__") F cX (Cn cX F g8 ?_ (iQ _));unfold Builtin.«set_iterator.__next__»;refine Aa (Ah ?_);refine Aa (FK G rfl ?_);dsimp only;refine Aa (DO hS hd hf ?_);rw[Ia (show¬ ((((es.size:Nat):Int) != ((es.size:Nat):Int))=true) by simp)];dsimp only[rawInt];refine Aa ?_;rw[show((i:Nat):Int).toNat=i from BV i,show((sl:Nat):Int).toNat=sl from BV sl,show((ep:Nat):Int).toNat=ep from BV ep];refine hN _ _ _ ?_;dsimp only;refine Aa (D7 G rfl (by simp[i0]) ?_);refine uE (show A.in1.handled=none from hh) fun e h' k Y=>?_;refine Aa (DJ (T:="StopIteration") (b:=true) Y isSubtype_stop ?_);refine Ah (O h' fun b u nb hb=>k b u ?_);exact(Ci _ I _).extBut b u nb hb
theorem aCS{first:Ab}(G:s.heap.get? I=some (i0 first i S es.size ep)){Q:Ab->Ac->Prop}(h:Q (.ref I) s):wpAny (model prog w) A (pyIter (.ref I)) Q E s:=by
 have F:s.TypeIs (.ref I) "set_iterator":=⟨_,G,rfl⟩
 refine wpAny_pyIter_slot F oY (Cn oY F wA ?_ (yT _));exact Ah ⟨_,rfl,"set_iterator",_,F,cX.lookup,h⟩
end
theorem wZ{α:Type}(next:Nat->Nat):∀(F k:Nat) (left:List α) (out:Array α),left.length=F->(pickOrder.go next F k left out).toList.Perm (out.toList++left)
 | 0,k,[],out,_=>by
  unfold pickOrder.go;rw[Bp]
 | F+1,k,x::r,out,hl=>by
  unfold pickOrder.go;have hi:next k%(x::r).length<(x::r).length:=Nat.mod_lt _ (by simp)
  obtain⟨y,hy⟩:∃ y,(x::r)[next k%(x::r).length]?=some y:=⟨_,Ae hi⟩
  rw[hy];dsimp only;refine(wZ next F (k+1) _ _ (by rw[Er hi];simp at hl ⊢;exact hl)).trans ?_;rw[Bi,AW];exact BB _ (lN _ _ y hy)
theorem uF{α:Type}(next:Nat->Nat)(xs:Array α):(pickOrder next xs).toList.Perm xs.toList:=by
 unfold pickOrder;have h:=wZ next xs.size 0 xs.toList #[] (by simp)
 simpa using h
section
variable{I S T:Ad}{m ep:Nat}{o ot:Obj}{t:CB}{gb:Array Ab}
theorem aIz(hh:A.handled=none)(hS:S≠I)(Z:T≠I)(hd:o.data=.set es ep t)(hf:t.fits es.size=true)(F:ot.data=.seq gb m)(U:∀ i,i<gb.size->∃(p:Nat) (tk:Tok) (z:Int×Ab),gb[i]?=some (.int p tk)/\es[p]?=some z):
  Walks prog w A I [I,S,T] [I] gb.size (fun i v=>∃(p:Nat) (tk:Tok) (z:Int),gb[i]?=some (.int p tk)/\es[p]?=some (z,v)) (fun i h=>h.get? I=some (i0 (.ref T) i S es.size ep)/\h.get? S=some o/\h.get? T=some ot) where
 sub:=fun b hb=>by simp at hb;simp[hb]
 frame:=fun _ _ _ st J=>⟨J I (by simp) _ st.1,J S (by simp) _ st.2.1,J T (by simp) _ st.2.2⟩
 item:=fun i s Q E hi st G=>by
  obtain⟨p,tk,⟨z,v⟩,h1,h2⟩:=U i hi;refine aEa st.1 st.2.1 hd hf st.2.2 F h1 h2 fun h' Y O=>?_;exact G v h' s.toks ⟨p,tk,z,h1,h2⟩ ⟨Y,O.extBut S _ hS st.2.1,O.extBut T _ Z st.2.2⟩ fun b u nb e=>O.extBut b u (by simpa using nb) e
 done:=fun s Q E st G=>aFz hh st.1 st.2.1 hd hf st.2.2 F (by simp) fun h' k=>G h' s.toks fun b u nb e=>k b u (by simpa using nb) e
 self:=fun i s Q E st G=>aCS st.1 G
theorem aIA(hh:A.handled=none)(hS:S≠I)(hd:o.data=.set es ep t)(hf:t.fits es.size=true)(sl:Nat->Nat)(ord:List Ab)
  (hN:∀(i:Nat) (s:Ac),s.heap.get? S=some o->i<=ord.length->∀(B:AI) (J:Ab->Ac->Prop) (F:Option (Ab×Nat)->Ac->Prop),F ((ord[i]?).map fun v=>(v,sl (i+1))) s->wpAny (model prog w) B (setNext S (sl i) i ep) F J s):
  Walks prog w A I [I,S] [I] ord.length (fun i v=>ord[i]?=some v) (fun i h=>h.get? I=some (i0 (rawInt (sl i)) i S es.size ep)/\h.get? S=some o) where
 sub:=fun b hb=>by simp at hb;simp[hb]
 frame:=fun _ _ _ st O=>⟨O I (by simp) _ st.1,O S (by simp) _ st.2⟩
 item:=fun i s Q E hi st G=>by
  obtain⟨v,hv⟩:∃ v,ord[i]?=some v:=⟨_,Ae hi⟩
  refine aEb (x:=v) (nx:=sl (i+1)) st.1 st.2 hd hf (fun B J F q=>hN i s st.2 (Bd hi) B J F (by rw[hv];exact q)) fun h' Y U=>?_;exact G v h' s.toks hv ⟨Y,U.extBut S _ hS st.2⟩ fun b u nb e=>U.extBut b u (by simpa using nb) e
 done:=fun s Q E st G=>aFA hh st.1 st.2 hd hf (fun B J F q=>hN _ s st.2 (Aj _) B J F (by rw[BI (Aj _)];exact q)) fun h' k=>G h' s.toks fun b u nb e=>k b u (by simpa using nb) e
 self:=fun i s Q E st G=>aCS st.1 G
structure aKr(prog:Aq)(w:AL)(A:AI)(S:Ad)(el:List Ab)(s s2:Ac)(I:Ad):Prop where
 w:∃(fp:List Ad) (P:Nat->Ab->Prop) (St:Nat->A9->Prop),Walks prog w A I fp [I] el.length P St/\St 0 s2.heap/\I∈fp/\(∀ b∈fp,b<s2.heap.objs.size/\(b=S\/s.heap.objs.size<=b))/\∀ acc,ItemsOf P acc el.length->acc.toList.Perm el
 keep:∀ b u,s.heap.get? b=some u->s2.heap.get? b=some u
 new:s.heap.objs.size<=I
 gens:s2.gens=s.gens
 os:s2.os=s.os
 toks:s2.toks=s.toks
theorem aFB{ord:List Ab}{acc:Array Ab}(h:ItemsOf (fun i v=>ord[i]?=some v) acc ord.length):acc.toList=ord:=by
 obtain⟨hl,h⟩:=h;apply FS;intro j;by_cases F:j<acc.size
 .have:=h j acc[j] (by simp[F]);rw[this];simp[F]
 .rw[BI (by simpa using F),BI (by omega)]
end
section
variable{S:Ad}{ep:Nat}{o:Obj}{t:CB}
theorem aAu{ys:List Nat}{n:Nat}(J:ys.Perm (B7 n))(hn:n=es.size):∀ i,i<(ys.map fun(i:Nat)=>rawInt i).toArray.size->∃(p:Nat) (tk:Tok) (z:Int×Ab),(ys.map fun(i:Nat)=>rawInt i).toArray[i]?=some (.int p tk)/\es[p]?=some z:=by
 intro i hi;have F:i<ys.length:=by simpa using hi
 have hm:ys[i]∈B7 n:=J.mem_iff.mp (A2 F);have G:ys[i]<es.size:=by rw[<- hn];exact DS.mp hm
 exact⟨ys[i],0,es[ys[i]],by simp[F,rawInt],by simp[G]⟩
theorem yU{ys:List Nat}{n:Nat}(U:ys.Perm (B7 n))(hn:n=es.size){acc:Array Ab}(h:ItemsOf (fun i v=>∃(p:Nat) (tk:Tok) (z:Int),(ys.map fun(i:Nat)=>rawInt i).toArray[i]?=some (.int p tk)/\es[p]?=some (z,v)) acc ys.length):acc.toList.Perm (es.toList.map (·.2)):=by
 have e:acc.toList=ys.map fun p=>(es.toList.getD p (0,.none)).2:=by
  apply FS;intro j;by_cases G:j<ys.length
  .have F:j<acc.size:=by rw[h.1];exact G
   obtain⟨p,tk,z,h1,h2⟩:=h.2 j acc[j] (by simp[F]);simp[G,rawInt]at h1;obtain⟨h1,_⟩:=h1;have J:ys[j]=p:=by exact_mod_cast h1
   rw[AB,Ae G,J];have O:es.toList[p]?=some (z,acc[j]):=by simpa using h2
   simp[List.getD,h2,O,F]
  .rw[BI (by have:=h.1;simp;omega),BI (by simpa using G)]
 rw[e];refine(U.map _).trans (List.Perm.of_eq ?_);apply FS;intro j;rw[AB,AB];by_cases G:j<n
 .rw[List.getElem?_range G];have F:j<es.size:=by omega
  simp[List.getD,F]
 .rw[BI (by simpa using G),BI (by simp;omega)];rfl
end
section
variable{S:Ad}{ep:Nat}{o:Obj}{t:CB}
end
theorem oZ{α:Type}[DecidableEq α]:∀(L M:List α),L.Nodup->(∀ x∈L,x∈M)->M.length=L.length->M.Perm L
 | [],M,_,_,hl=>by
  have:M=[]:=List.eq_nil_of_length_eq_zero hl;rw[this]
 | x::r,M,hn,hm,hl=>by
  obtain⟨hx,hr⟩:=Bo.mp hn;have F:=hm x (by simp);have J:=oZ r (M.erase x) hr (fun y G=>(List.mem_erase_of_ne (show y≠x from fun z=>hx (by rw[<- z];exact G))).mpr (hm y (by simp[G]))) (by rw[List.length_erase_of_mem F,hl];simp);exact(List.perm_cons_erase F).trans (J.cons x)
section
variable{S:Ad}
end
theorem Inv.laidD{a:Ad}{o:HO}{t':Nat}{d':Hy}(I:Inv X df σ H s)(k:∀ b u,s.heap.get? b=some u->h'.get? b=some u)(F:s.heap.objs.size<=a)(new:bZ X.prog X.w (upd H a o) h' a o):
  Inv X df σ (upd H a o) { s with heap:=h',drawn:=d',toks:=t' }:=by
 have u:Un (frs X.stack) [] H (upd H a o) s.heap h':=Un.laid k F (I.hok.fresh F);exact I.call (g':=s.gens) (d':=d') u (I.hok.laid k F new) I.bare (fun _ z=>nomatch z)
def aKs{α:Type}(o:Nat->Nat->Bool):KasT α->α
 | .ret a=>a
 | .ask i j k=>aKs o (k (o i j))
abbrev P3:=Str×Str×Int
inductive aCT(h:A9)(v:Ab)(x:P3):Prop
 | mk (t:_) (u1:_) (u2:_) (u3:_) (q0:v=.ref t) (q1:E4 h t #[.str x.1 u1,.str x.2.1 u2,.int x.2.2 u3]):aCT h v x
def aKF(h:A9)(v:Ab)(x:P3):Prop:=aCT h v x
theorem aCU{a b:Int}{t u:Tok}{Q:Bool->Ac->Prop}(h:Q (decide (a<b)) s):wpAny (model prog w) A (oneLt' false (BH a t) (BH b u)) Q E s:=by
 rw[oneLt'_eq];show wpAny _ _ (compareOp .Lt (BH a t) (BH b u) >>= _) _ _ _;apply Aa;refine lt_int ?_
 wp_walk
 exact h
inductive aCV(H:Hp)(v:V)(x:P3):Prop
 | mk (t:_) (q0:v=.ref t) (q1:H t=some (.tup [.str x.1,.str x.2.1,.int x.2.2])):aCV H v x
def aKG(H:Hp)(v:V)(x:P3):Prop:=aCV H v x
section
variable{n:Nat}{π:Nat->Nat}
abbrev Kp(π:Nat->Nat)(p:Array Nat)(j:Nat):Nat:=π (p.getD j 0)
abbrev ord(π:Nat->Nat):Nat->Nat->Bool:=fun i j=>decide (π i<π j)
variable(hn:0<n)(hπ:∀ i j,i<n->j<n->π i=π j->i=j)
include hn hπ
def KF(π:Nat->Nat)(p:Array Nat)(k:Nat):Prop:=∀ j,1<=j->j<k->Kp π p j<Kp π p (j-1)
omit hn hπ in
omit hn hπ in
end
abbrev K3:=Int×Int×Str
abbrev k0:K3:=(0,0,"")
inductive aFC(h:A9)(v:Ab)(k:K3):Prop
 | mk (t:_) (u1:_) (u2:_) (u3:_) (q0:v=.ref t) (q1:E4 h t #[.int k.1 u1,.int k.2.1 u2,.str k.2.2 u3]):aFC h v k
def aKQ(h:A9)(v:Ab)(k:K3):Prop:=aFC h v k
inductive aCW(H:Hp)(v:Ab)(k:K3):Prop
 | mk (t:_) (q0:v=.ref t) (q1:H t=some (.tup [.int k.1,.int k.2.1,.str k.2.2])):aCW H v k
def aJz(H:Hp)(v:Ab)(k:K3):Prop:=aCW H v k
structure KsX(KR:V->K3->Prop)(H:Hp)(xd:List V)(ks:List Ab)(kk:List K3):Prop where
 len:ks.length=xd.length/\kk.length=xd.length
 key:∀ i,i<xd.length->aJz H (ks.getD i .none) (kk.getD i k0)
 kr:∀ i,i<xd.length->KR (xd.getD i .non) (kk.getD i k0)
section
variable{a:Ad}{fo:List (Key×V)}{k:Key}{u r:Ab}
end
section
variable{o f:Ba}{td ty tx:TE}
end
def aAv(v d:Ad):HO:=.ext fun h=>h.IsValuesView v d
section
variable{o:Ba}{td:TE}
end
section
variable{v d:Ad}{vs:List (Key×Ab)}
end
section
variable{ta:TA}
end
inductive Fm:V->Str->Prop
 | str (z:Str) (h:z.length<=sizeLine):Fm (.str z) z
 | int (i:Int) (h:i.natAbs.log2<1920):Fm (.int i) (toString i)
abbrev TJ:=Str->St->Hp->VK->Prop
structure PJ(X:Cx)(es:List Ba)(t:TJ):Prop where
 run:∀(df:List (Ad×Obj)) (s:Ac) (σ:St) (H:Hp) (Q:VK) (acc:Str),Inv X df σ H s->t acc σ H Q->wpAny (model X.prog X.w) X.A (joinParts acc (evalEach es X.env)) (EP X df σ Q) X.xe s
inductive J0(acc:Str)(σ:St)(H:Hp)(Q:VK):Prop
 | mk (h:acc.length<=sizeLine) (q:Q (.str acc) H):J0 acc σ H Q
inductive JC(z:Str)(t:TJ)(acc:Str)(σ:St)(H:Hp)(Q:VK):Prop
 | mk (h:(acc++z).length<=sizeLine) (q:t (acc++z) σ H Q):JC z t acc σ H Q
inductive JF(t:TJ)(acc:Str)(σ:St)(x:V)(H:Hp)(Q:VK):Prop
 | mk (z:Str) (f:Fm x z) (h:(acc++z).length<=sizeLine) (q:t (acc++z) σ H Q):JF t acc σ x H Q
section
variable{es:List Ba}{t:TJ}
end
open PySem PySem.Spec PyProof.Rows PySem.Builtin PySem.Builtin.Str
inductive aHg(x:V)(xs:List V)(H:Hp)(Q:VK):Prop
 | mk (z y:PySem.Str) (h0:x=.str z) (h1:xs=[.str y]) (hy:(y.length==0)=false) (hz:z.length+2<=sizeLine) (q:∀ L,H L=none->Q (.ref L) (upd H L (.lst ((Txt.split z y).map V.str)))):aHg x xs H Q
open PySem PySem.Spec PyProof.Rows PySem.NumText
inductive aJA(xs:List V)(H:Hp)(Q:VK):Prop
 | mk (x:V) (z:Str) (h0:xs=[x]) (f:Fm x z) (q:Q (.str z) H):aJA xs H Q
inductive aJB(xs:List V)(H:Hp)(Q:VK):Prop
 | mk (z:Str) (n:Int) (h0:xs=[.str z]) (hn:PySem.intText? z=some n) (hl:z.length<=640) (q:Q (.int n) H):aJB xs H Q
section
variable{K:Type}[DecidableEq K]{knd:HeapKind prog w K}
end
open PySem PySem.SetTable
inductive aFD(t:CB):Probe->Nat->Prop
 | here {p:Probe} {n:Nat}:t.slot p.j=.empty->aFD t p n
 | step {p:Probe} {n:Nat}:aFD t (t.advance p) n->aFD t p (n+1)
def aKH(t:CB)(i perturb:Nat):Probe:={ j:=i,more:=runEnd t.mask i-i,i:=i,perturb:=perturb,dummy:=none }
def orb(m:Nat):Nat->Nat->Nat
 | 0,i=>i
 | k+1,i=>orb m k ((i*5+1)%m)
structure aJC(t:CB)(n:Nat):Prop where
 size:t.place.size=n
 nod:t.dummies=#[]
 mask:(t.mask=7/\n<=4)\/(t.mask=31/\n<=18)
inductive aFE(owner:Array (Option Nat)):Nat->Nat->Nat->Prop
 | here {i p n:Nat}:(owner.getD i (some 0)).isNone=true->aFE owner i p (n+1)
 | step {i p n:Nat}:aFE owner (SetTable.leap 31 i p).1 (SetTable.leap 31 i p).2 n->aFE owner i p (n+1)
structure aKR(owner:Array (Option Nat))(k:Nat):Prop where
 size:owner.size=32
 perm:((B7 32).filterMap fun j=>owner.getD j none).Perm (B7 k)
inductive aHP(prog:Aq)(w:AL)(h:A9)(ks:List (List Str))(v:Ab):Prop
 | mk (b:_) (k:_) (q0:v=.ref b) (q1:IsTupleKey (strKind prog w) h k b) (q2:k∈ks):aHP prog w h ks v
def ElT(prog:Aq)(w:AL)(h:A9)(ks:List (List Str))(v:Ab):Prop:=aHP prog w h ks v
structure aKS(prog:Aq)(w:AL)(h:A9)(a:Ad)(rs:List Ad)(ks:List (List Str))(o:Obj)(es:Array (Int×Ab))(ep:Nat)(t:CB):Prop where
 at_:h.get? a=some o
 ex:o.ExactSet
 data:o.data=.set es ep t
 perm:(es.toList.map (·.2)).Perm (rs.map AD)
 els:∀ e∈es.toList,ElT prog w h ks e.2
 tab:aJC t es.size
 led:aFy w es t
abbrev P2:=Str×Str
def aKt(x y:P2):Bool:=if x.1==y.1 then(if x.2==y.2 then false else decide (x.2.cps.toList<y.2.cps.toList)) else decide (x.1.cps.toList<y.1.cps.toList)
inductive aCX(h:A9)(v:Ab)(x:P2):Prop
 | mk (t:_) (u1:_) (u2:_) (q0:v=.ref t) (q1:E4 h t #[.str x.1 u1,.str x.2 u2]):aCX h v x
def aKI(h:A9)(v:Ab)(x:P2):Prop:=aCX h v x
def aKJ(R:List P2):Prop:=R.Pairwise fun a b=>aKt a b=true
def aFF(H:Hp)(r:Ad):P2:=match H r with
 | some (.tup [.str x,.str y])=>(x,y)
 | _=>("","")
def Pairs(H:Hp)(rs:List Ad):Prop:=∀ r∈rs,H r=some (.tup [.str (aFF H r).1,.str (aFF H r).2])
section
variable{h:A9}{a:Ad}
end
theorem rZ:∀{rs:List Ad}{its:List Ab},bK (rs.map V.ref) its->its=rs.map AD
 | [],_,.nil=>rfl
 | r::rs,_,.cons e q=>by
  rw[rZ q];cases e;rfl
theorem w5:∀(rs:List Ad),bK (rs.map V.ref) (rs.map AD)
 | []=>.nil
 | r::rs=>.cons rfl (w5 rs)
section
variable{d I:Ad}{od:Obj}{es:Array DictEntry}{ep i:Nat}
end
section
variable{st:Ba}{ts:TE}{p2:Pos}
end
structure Fly(P:Aq)(w:AL)(outer:List Env)(H H':Hp)(s:Ac)(x:Ad)(C:Ab)(s':Ac):Prop where
 os:s'.os=s.os
 bare:EJ s'.gens
 ex:∃(B:A9) (a0:Ab),GX B outer x C a0 s'.heap/\HOk P w H' B/\(∀ b o,s.heap.get? b=some o->H b=none->b∉frs outer->B.get? b=some o)/\∀ b o,s.heap.get? b=some o->b∉frs outer->∃ o',B.get? b=some o'
 frf:∀ b∈frs outer,H b=none
 slot:∀ b o,s.heap.get? b=some o->H b=none->b∈frs outer->∃ sl,s'.heap.get? b=some { o with slots:=sl }
 free:∀ b o,s.heap.get? b=some o->H b=none->H' b=none
 tups:∀ b xs,H b=some (.tup xs)->H' b=some (.tup xs)
 frzs:∀ b o u,H b=some (.frz o u)->H' b=some (.frz o u)
 tbls:∀ b ps,H b=some (.tbl ps)->∃ more,H' b=some (.tbl (ps++more))
def CXr(P:Aq)(w:AL):CXT:=fun outer H s E e s'=>∃(x:Ad) (C:Ab) (H':Hp),e=.ref x/\Fly P w outer H H' s x C s'/\E C none H'
theorem Fly.un{P:Aq}{w:AL}{outer:List Env}{H H':Hp}{s s':Ac}{x:Ad}{C:Ab}(h:Fly P w outer H H' s x C s'):Un (frs outer) [] H H' s.heap s'.heap:=by
 obtain⟨B,a0,fl,hok,hk,ht⟩:=h.ex;refine⟨fun b o e n hf _=>fl.1 b o (hk b o e n hf),fun b o e n hf _=>h.slot b o e n hf,fun b o e n _=>h.free b o e n,fun b o e _=>?_,h.tups,h.frzs,h.tbls⟩;by_cases hm:b∈frs outer
 .obtain⟨sl,e1⟩:=h.slot b o e (h.frf b hm) hm;exact⟨_,e1⟩
 .obtain⟨o1,e1⟩:=ht b o e hm;exact⟨o1,fl.1 b o1 e1⟩
theorem Fly.hok{P:Aq}{w:AL}{outer:List Env}{H H':Hp}{s s':Ac}{x:Ad}{C:Ab}(h:Fly P w outer H H' s x C s'):HOk P w H' s'.heap:=by
 obtain⟨B,a0,fl,hok,hk,ht⟩:=h.ex;exact hok.kept fl.1
section
variable{N:List Str}{E:XK}
theorem aFG{df:List (Ad×Obj)}{σ:St}{H1:Hp}{F:Ac}{h':A9}{e C:Ad}{args:List Ab}(I:Inv (iH (CXr P w) P w K mg base N qual scope f cd A outer s H E) df σ H1 F)
  (hx:Heap.MadeExcOf F.heap h' e (.ref C) args) (hE:E (.ref C) none H1):(iH (CXr P w) P w K mg base N qual scope f cd A outer s H E).xe (.ref e) { F with heap:=h' }:=by
 have aa:∀ env∈(envOfC qual scope s.heap.objs.size f cd::outer),∀ b,env.frame=some b->b∈frs (envOfC qual scope s.heap.objs.size f cd::outer):=fun env J b hb=>A8.mpr ⟨env,J,hb⟩;have O:F.heap.FunFrames base (envOfC qual scope s.heap.objs.size f cd::outer):=I.stack;have Y:∀ b∈frs (envOfC qual scope s.heap.objs.size f cd::outer),H1 b=none:=I.stkFree;show wpAny _ _ (leaving _ _) _ _ _;refine wpAny_leaves_madeW (base:=hideAll F.heap (frs (envOfC qual scope s.heap.objs.size f cd::outer))) (h:=F.heap) (L:=s.heap.objs.size) I.ok.frames rfl (fun b o q=>of_hideAll _ q) (funFrames_hide O aa) hx fun Z t x1 x2 x3 x4=>?_;have hL:∀ b,b∈frs (envOfC qual scope s.heap.objs.size f cd::outer)->b=s.heap.objs.size\/b∈frs outer:=fun b hb=>by
  obtain⟨env,J,hf⟩:=A8.mp hb;rcases An.mp J with rfl|J
  .exact .inl (Bt.inj hf).symm
  .exact .inr (A8.mpr ⟨env,J,hf⟩)
 have G:∀ b o,s.heap.get? b=some o->H b=none->b∉frs outer->(hideAll F.heap (frs (envOfC qual scope s.heap.objs.size f cd::outer))).get? b=some o:=fun b o q n U=>
  Hw _ (I.base.keep b o q n U (by simp[iH])) fun hm=>by
   rcases hL b hm with z|z
   .rw[z]at q;exact absurd (Ap q) (BD _)
   .exact U z
 have slot:∀ b o,s.heap.get? b=some o->H b=none->b∈frs outer->∃ sl,Z.get? b=some { o with slots:=sl }:=fun b o q n hf=>by
  obtain⟨sl,e1⟩:=I.base.slot b o q n hf (by simp[iH]);have hm:b∈frs (envOfC qual scope s.heap.objs.size f cd::outer):=by
   obtain⟨env,J,hf⟩:=A8.mp hf;exact A8.mpr ⟨env,.tail _ J,hf⟩
  obtain⟨_,o2,e2,hd⟩:=O.mem hm;rw[e1]at e2;cases e2;obtain⟨sl2,e3⟩:=x4 b _ (hx.keeps b _ e1) hd;exact⟨sl2,e3⟩
 refine⟨e,.ref C,H1,rfl,⟨I.os,I.bare,⟨_,_,x1,fun a o q=>(I.hok a o q).stay (fun b u hb e=>Hw _ e fun hm=>?_) (fun _ q=>q) fun _ _ q=>q,G,fun b o q U=>?_⟩,I.ok.frf,slot,fun b o q n=>I.base.free b o q n (by simp[iH]),I.base.tups,I.base.frzs,I.base.tbls⟩,hE⟩
 .have hn:=Y b hm;rcases hb with rfl|hb
  .rw[q]at hn;cases hn
  .rw[hb]at hn;cases hn
 .obtain⟨o1,e1⟩:=I.base.there b o q (by simp[iH]);refine⟨o1,Hw _ e1 fun hm=>?_⟩;rcases hL b hm with z|z
  .rw[z]at q;exact absurd (Ap q) (BD _)
  .exact U z
theorem aAw{E':XK}(hE:∀ C dx H',E' C dx H'->E C dx H'):lH (CXr P w) (iH (CXr P w) P w K mg base N qual scope f cd A outer s H E) E':=by
 rintro df σ H1 s1 e s2 I ⟨x,C,H2,rfl,F,Y⟩;have U:s1.heap.FunFrames base (envOfC qual scope s.heap.objs.size f cd::outer):=I.stack;have af:∀ b∈frs (envOfC qual scope s.heap.objs.size f cd::outer),H1 b=none:=I.stkFree;obtain⟨B,a0,fl,hokB,hkB,htB⟩:=F.ex;have fl:GX B (envOfC qual scope s.heap.objs.size f cd::outer) x C a0 s2.heap:=fl;show wpAny _ _ (leaving _ _) _ _ _;refine wpAny_leaves_onW (base:=B) (L:=s.heap.objs.size) I.ok.frames rfl fl fun Z y1 y2=>?_;have hL:∀ b,b∈frs (envOfC qual scope s.heap.objs.size f cd::outer)->b=s.heap.objs.size\/b∈frs outer:=fun b hb=>by
  obtain⟨env,J,hf⟩:=A8.mp hb;rcases An.mp J with rfl|J
  .exact .inl (Bt.inj hf).symm
  .exact .inr (A8.mpr ⟨env,J,hf⟩)
 have up:∀ b,b∈frs outer->b∈frs (envOfC qual scope s.heap.objs.size f cd::outer):=fun b hf=>by
  obtain⟨env,J,hf⟩:=A8.mp hf;exact A8.mpr ⟨env,.tail _ J,hf⟩
 have nox:∀ b:Ad,b∉(iH (CXr P w) P w K mg base N qual scope f cd A outer s H E).ex:=fun b=>by simp[iH]
 have G:∀ b o,s1.heap.get? b=some o->H1 b=none->b∈frs (envOfC qual scope s.heap.objs.size f cd::outer)->∃ sl,Z.get? b=some { o with slots:=sl }:=fun b o q n hm=>by
  obtain⟨sl,e1⟩:=F.slot b o q n hm;obtain⟨_,o2,e2,hd⟩:=U.mem hm;rw[q]at e2;cases e2;obtain⟨sl2,e3⟩:=y2 b _ e1 hd;exact⟨sl2,e3⟩
 refine⟨x,C,H2,rfl,⟨F.os.trans I.os,F.bare,⟨B,a0,y1,hokB,fun b o q n O=>hkB b o (I.base.keep b o q n O (nox b)) (I.base.free b o q n (nox b)) fun hm=>?_,fun b o q O=>?_⟩,I.ok.frf,fun b o q n hf=>?_,fun b o q n=>?_,fun b xs q=>F.tups b xs (I.base.tups b xs q),fun b o u q=>F.frzs b o u (I.base.frzs b o u q),fun b ps q=>?_⟩,hE _ _ _ Y⟩
 .rcases hL b hm with z|z
  .rw[z]at q;exact absurd (Ap q) (BD _)
  .exact O z
 .obtain⟨o1,e1⟩:=I.base.there b o q (nox b);refine htB b o1 e1 fun hm=>?_;rcases hL b hm with z|z
  .rw[z]at q;exact absurd (Ap q) (BD _)
  .exact O z
 .obtain⟨sl,e1⟩:=I.base.slot b o q n hf (nox b);obtain⟨sl2,e2⟩:=G b _ e1 (I.base.free b o q n (nox b)) (up b hf);exact⟨sl2,e2⟩
 .obtain⟨o1,e1⟩:=I.base.there b o q (nox b);exact F.free b o1 e1 (I.base.free b o q n (nox b))
 .obtain⟨m1,e1⟩:=I.base.tbls b ps q;obtain⟨m2,e2⟩:=F.tbls b _ e1;exact⟨m1++m2,by rw[<- Fz];exact e2⟩
end
structure aCY(h:A9)(C:Ad)(bmB:List Ab)(newId:String)(tl:List Ab)(N':Ad)(nm q:Str)(bs:List Ab)(hdct:Bool)(sn:List Str)(sub:List Ab)(ab:Bool)(col:Option Bool)(dd:Option Ad)(k0 k1 k2 k3 k5:Option Ab)(mN:Str->Option Ab):Prop where
 ob:h.get? C=some (excClassObj nm q C N' bs tl hdct sn sub ab col dd k0 k1 k2 k3 k5 newId)
 ns:h.Ns N' mN
 ni:mN "__init__"=none
 tl:OwnTail h bmB tl
theorem aCY.keeps{h h':A9}{C:Ad}{G:List Ab}{F:String}{tl:List Ab}{J:Ad}{nm q:Str}{bs:List Ab}{hdct:Bool}{sn:List Str}{sub:List Ab}{ab:Bool}{col:Option Bool}{dd:Option Ad}{k0 k1 k2 k3 k5:Option Ab}{mN:Str->Option Ab}
  (x:aCY h C G F tl J nm q bs hdct sn sub ab col dd k0 k1 k2 k3 k5 mN) (k:∀ b o,h.get? b=some o->h'.get? b=some o):aCY h' C G F tl J nm q bs hdct sn sub ab col dd k0 k1 k2 k3 k5 mN:=⟨k _ _ x.ob,x.ns.keeps k,x.ni,x.tl.keeps k⟩
theorem aIB{K:Ag}{h:A9}{C:Ad}{O:List Ab}{F:String}(X:K.In h)(J:excIn K C O F=true):
  ∃ tl N' nm q bs hdct sn sub ab col dd k0 k1 k2 k3 k5 mN,aCY h C O F tl N' nm q bs hdct sn sub ab col dd k0 k1 k2 k3 k5 mN:=by
 unfold excIn at J;split at J
 .rename_i d1 cl G lk;split at J
  .rename_i c1 ai j0 j1 j2 j3 U j5 Z es;simp only[Cq,beq_iff_eq,Bool.not_eq_true']at J;obtain⟨⟨⟨⟨⟨z1,z2⟩,z3⟩,z4⟩,z5⟩,z6⟩:=J;subst z1 z2;have Y:G=#[j0,j1,j2,j3,some (.builtin U),j5]:=Array.toList_inj.mp es;cases cl;simp only at Z z3 z5 z6;subst Z z3 Y;exact⟨_,_,_,_,_,_,_,_,_,_,_,_,_,_,_,_,_,X _ _ lk,.of_isNs (isNs_of_in X z5),nsMap_none_of_in X z5 z6,tail_of_in X z4⟩
  .cases J
 .cases J
section
variable{N:List Str}{E:XK}
theorem aFH{x:Str}{C:Ad}{B F G:String}{O:List Ab}{np fq pos:Pos}{U:Ba}{es:List Ba}{t:TA}(FB:ExcBaseFacts B F G O)(hg:Gl (iH (CXr P w) P w K mg base N qual scope f cd A outer s H E) x)(hm:mg x=some (.ref C))(hq:excIn K C O F=true)(ha:PA (iH (CXr P w) P w K mg base N qual scope f cd A outer s H E) (U::es) t)
  (he:starEach (U::es) (iH (CXr P w) P w K mg base N qual scope f cd A outer s H E).env=(false,eval U (iH (CXr P w) P w K mg base N qual scope f cd A outer s H E).env)::starEach es (iH (CXr P w) P w K mg base N qual scope f cd A outer s H E).env:=by rfl)
  (Y:(backTo fq (starEach es (iH (CXr P w) P w K mg base N qual scope f cd A outer s H E).env)).any (·.1)=false:=by rfl) (hd:(x==("__debug__":Str))=false:=by decide):
  PS (iH (CXr P w) P w K mg base N qual scope f cd A outer s H E) (.Raise (some (.Call (.Name x np) (U::es) [] fq)) none pos) (fun D σ H1=>t σ H1 fun vs H2=>vs.length<=sizeLine/\E (.ref C) none H2):=by
 constructor;intro df s1 σ H1 D I h;obtain⟨tl,N',nm,q,bs,hdct,sn,sub,ab,col,dd,k0,k1,k2,k3,k5,mN,hO⟩:=aIB (C:=C) I.ok.mod.kin hq;have o1:=hO.keeps I.bk;refine wpAny_Raise_call_subT (C:=C) (nm:=nm) (q:=q) (N:=N') (bs:=bs) (bm:=tl) (hdct:=hdct) (sn:=sn) (sub:=sub) (ab:=ab) (col:=col) (dd:=dd) (k0:=k0) (k1:=k1) (k2:=k2) (k3:=k3) (k5:=k5)
  FB (mN:=mN) (o1.tl.hasType FB.hasBase) (I.ok.hd rfl) ?_ o1.ni ?_
 .rw[he];show(false||(backTo fq (starEach es (iH (CXr P w) P w K mg base N qual scope f cd A outer s H E).env)).any (·.1))=false
  rw[Y];rfl
 .refine BM ((eG (v:=.ref C) hg hm rfl hd).run df s1 σ H1 (fun v H'=>v=.ref C/\H'=H1) I ⟨rfl,rfl⟩) (fun u s2 hu=>?_) fun _ _ y=>y;obtain⟨v,H2,I2,rv,rfl,rfl⟩:=hu;cases rv;refine⟨rfl,?_⟩;have J:=ha fq df s2 σ H2 _ I2 h;rw[he]at J ⊢;refine Calls.evalArgs_plain (BM J (fun us s3 hu=>?_) fun _ _ y=>y);obtain⟨vs,H3,I3,r3,hl,hE⟩:=hu;have Z:=hO.keeps I3.bk;exact⟨rfl,by rw[<- r3.length];exact hl,Z.ob,Z.ns,Z.tl,fun h' e hx=>aFG I3 hx hE⟩
theorem Fun.okR{x qual:Str}{st:Cd}{f:Ad}{fd:A4}{N ps:List Str}{k:Nat}{sp:Sp}(F:Fun K x qual st f fd)(S:bG N ps (aM st))(len:∀ vs H Q E,sp vs H Q E->vs.length=ps.length)
  (J:∀(G:Ab) (A:AI) (outer:List Env) (s:Ac) (H:Hp) (vs:List V) (Q:VK) (E:XK),cF k (A.deeper (envOfC qual (aM st) s.heap.objs.size f G))->sp vs H Q E->
   ∃ t,PSs (iH (CXr P w) P w K mg base N qual (aM st) f G A outer s H E) (dQ st) t/\t { nx:=fun _ H'=>Q .non H',rt:=Q } (start N vs) H):cA P w K mg base (CXr P w) (k+1) f fd ps sp:=by
 obtain⟨oc,od,kV,doc,pm,an,G,ct,osl,rfl,lk,hcd⟩:=F.ex;exact aEZ lk hcd S len fun A outer s H vs Q E U O=>J G A outer s H vs Q E U O
end
theorem Fly.lands{P:Aq}{w:AL}{M:E2}{A:AI}{env:Env}{outer:List Env}{L:Ad}{base:A9}{H H':Hp}{s J:Ac}{x:Ad}{C:Ab}{Q E:Ab->Ac->Prop}{R:Ac->Prop}(F:Fly P w (env::outer) H H' s x C J)
  (Y:s.heap.FunFrames base (env::outer)) (U:A.frames=some (env::outer)) (hf:env.frame=some L) (k:∀ O,Fly P w (env::outer) H H' s x C { J with heap:=O }->R { J with heap:=O }):
  wpAny M A (noteFrame (.ref x) env) (fun _ s3=>wpAny M A (setFlight (.ref x) none) (fun _ s4=>R s4) E s3) E J:=by
 obtain⟨B,a0,fl,hokB,hkB,htB⟩:=F.ex;refine wpAny_looks_onW U hf fl fun h4 G u4=>?_;refine wpAny_landsW (s:={ J with heap:=h4 }) G fun O Z u5=>k O ?_;refine⟨F.os,F.bare,⟨B,a0,Z,hokB,hkB,htB⟩,F.frf,fun b o q n hm=>?_,F.free,F.tups,F.frzs,F.tbls⟩;obtain⟨sl,e1⟩:=F.slot b o q n hm;obtain⟨_,o2,e2,hd⟩:=Y.mem hm;rw[q]at e2;cases e2;obtain⟨sl2,e3⟩:=(u4.trans u5) b _ e1 hd;exact⟨sl2,e3⟩
theorem Inv.caught{X:Cx}{df:List (Ad×Obj)}{σ:St}{H H':Hp}{s s':Ac}{x:Ad}{C:Ab}(I:Inv X df σ H s)(F:Fly X.prog X.w X.stack H H' s x C s'):Inv X df σ H' s':=
 I.call' (ch:=[]) F.os F.un F.hok F.bare (fun b z=>absurd z (by simp))
theorem Fly.obj{P:Aq}{w:AL}{outer:List Env}{H H':Hp}{s s':Ac}{x:Ad}{C:Ab}(F:Fly P w outer H H' s x C s'):∃ ob vs,s'.heap.get? x=some ob/\ob.cls=C/\ob.data=.fields vs:=by
 obtain⟨B,a0,fl,_⟩:=F.ex;obtain⟨_,_,_,oe,vs,_,_,_,he,hc,hd,_⟩:=fl;exact⟨oe,vs,he,hc.1,hd⟩
def aHh:Bool->AY->Array AY->Nat->Nat->Nat->StateT Bn Sem (Option Nat):=sortPriv% PySem.Builtin.gallop
def aFI:Array AY->Array AY->StateT Bn Sem (Array AY):=sortPriv% PySem.Builtin.mergeLo
def aFJ:Array AY->Array AY->StateT Bn Sem (Array AY):=sortPriv% PySem.Builtin.mergeHi
section
variable{κ:Cs}{it:Array AY}
def p7(prog:Aq)(w:AL)(A:AI)(s:Ac)(κ:Cs)(it:Array AY):Prop:=
 ∀ x y,x∈it.toList->y∈it.toList->∀ C:Bool->Ac->Prop,(∀ b,C b s)->wpAny (model prog w) A (keyLt' κ x.1 y.1) C (fun _ _=>False) s
theorem d7{arr:Array AY}{i:Nat}{p:AY}{st:Bn}{Q:AY->Bn->Prop}(hi:arr[i]?=some p)(h:Q p st):wpS (model prog w) A E s (elem' arr i) Q st:=by
 rw[elem'_eq,hi];exact AG h
variable(hc:p7 prog w A s κ it)
include hc
end
theorem pr3{α β γ:Type}{P:α×β×γ->Prop}(h:∀ a b c,P (a,b,c)):∀ x,P x:=fun⟨a,b,c⟩=>h a b c
def Pl(a b out:Array AY)(ia ib:Nat):Prop:=(out.toList++(a.toList.drop ia++b.toList.drop ib)).Perm (a.toList++b.toList)
section
variable{a b out:Array AY}{ia ib k:Nat}
theorem jZ{c:Array AY}{i:Nat}{p:AY}(e:c[i]?=some p):c.toList.drop i=p::c.toList.drop (i+1):=by
 have F:c.toList[i]?=some p:=by rw[AS];exact e
 obtain⟨h1,h2⟩:=Ak.mp F;rw[<- h2];exact EB h1
theorem cP{c:Array AY}{i j:Nat}:(c.extract i j).toList=(c.toList.drop i).take (j-i):=by simp
theorem jJ{c:Array AY}{i:Nat}:(c.extract i c.size).toList=c.toList.drop i:=by
 rw[cP,Bj];simp
theorem Pl.pushA{p:AY}(h:Pl a b out ia ib)(e:a[ia]?=some p):Pl a b (out.push p) (ia+1) ib:=by
 unfold Pl at h ⊢;rw[jZ e]at h;rw[Bi,AW];exact h
theorem Pl.pushB{p:AY}(h:Pl a b out ia ib)(e:b[ib]?=some p):Pl a b (out.push p) ia (ib+1):=by
 unfold Pl at h ⊢;rw[jZ e]at h;rw[Bi,AW];exact(BB _ (List.perm_middle (l₁:=a.toList.drop ia) (a:=p)).symm).trans h
theorem Pl.runA(h:Pl a b out ia ib):Pl a b (out++a.extract ia (ia+k)) (ia+k) ib:=by
 unfold Pl at h ⊢;rw[Au,cP,C8,AW,<- AW (Hq _ _),<- Et,CK];exact h
theorem Pl.runB(h:Pl a b out ia ib):Pl a b (out++b.extract ib (ib+k)) ia (ib+k):=by
 unfold Pl at h ⊢;refine Du ?_ h;rw[Au,cP,C8,AW];refine BB _ ?_;refine(Ek _ _ _).trans (BB _ ?_);rw[<- Et,CK]
theorem Pl.fin(h:Pl a b out ia ib):(out++a.extract ia a.size++b.extract ib b.size).Perm (a++b):=by
 rw[A7,Au,Au,Au,jJ,jJ,AW];exact h
theorem Pl.fin2(h:Pl a b out ia ib):(out++b.extract ib b.size++a.extract ia a.size).Perm (a++b):=by
 rw[A7,Au,Au,Au,jJ,jJ,AW];exact(BB _ CL).trans h
end
theorem aS{M:E2}{A:AI}{E:Ab->Ac->Prop}{s:Ac}{σ α:Type}{c:Prop}[Decidable c]{G F:StateT σ Sem α}{Q:α->σ->Prop}{st:σ}(h1:c->wpS M A E s G Q st)(h2:¬ c->wpS M A E s F Q st):wpS M A E s (if c then G else F) Q st:=by
 split
 .exact h1 ‹_›
 .exact h2 ‹_›
structure Sg(st st':Bn):Prop where
 kind:kindOf st'=kindOf st
 arr:arrOf st'=arrOf st
 pend:pendingOf st'=pendingOf st
 fail:failedOf st'=failedOf st
theorem Sg.refl(st:Bn):Sg st st:=⟨rfl,rfl,rfl,rfl⟩
theorem iE{i j:Nat}(h:¬ (i==j)=true):i≠j:=fun z=>h (by rw[z];exact beq_self_eq_true _)
structure GL(a b:Array AY)(x:Nat)(out:Array AY)(ia ib:Nat):Prop where
 pl:Pl a b out ia ib
 la:ia+1<a.size
 lb:ib<b.size
 on:x<=ia+ib
section
variable{κ:Cs}{it:Array AY}(hc:p7 prog w A s κ it)
include hc
end
def Ph(a b out:Array AY)(na nb:Nat):Prop:=(out.toList++(a.toList.take na++b.toList.take nb)).Perm (a.toList++b.toList)
section
variable{a b out:Array AY}{na nb k:Nat}
theorem lY{c:Array AY}{i:Nat}{p:AY}(h:1<=i)(e:c[i-1]?=some p):c.toList.take i=c.toList.take (i-1)++[p]:=by
 obtain⟨j,rfl⟩:∃ j,i=j+1:=⟨i-1,by omega⟩
 rw[Nat.add_sub_cancel]at e ⊢;rw[List.take_succ,AS,e];rfl
theorem o0{c:Array AY}{i j:Nat}(h:i<=j):c.toList.take j=c.toList.take i++(c.extract i j).toList:=by
 rw[cP];obtain⟨d,rfl⟩:∃ d,j=i+d:=⟨j-i,by omega⟩
 rw[C8];exact List.take_add
theorem Ph.pushA{p:AY}(h:Ph a b out na nb)(h1:1<=na)(e:a[na-1]?=some p):Ph a b (out.push p) (na-1) nb:=by
 unfold Ph at h ⊢;refine Du ?_ h;rw[lY h1 e,Bi,AW,AW];exact BB _ (Ek _ _ _)
theorem Ph.pushB{p:AY}(h:Ph a b out na nb)(h1:1<=nb)(e:b[nb-1]?=some p):Ph a b (out.push p) na (nb-1):=by
 unfold Ph at h ⊢;refine Du ?_ h;rw[lY h1 e,Bi,AW,<- AW (Hq na _)];exact BB _ CL
theorem Ph.runA(h:Ph a b out na nb)(h1:k<=na):Ph a b (out++(a.extract k na).reverse) k nb:=by
 unfold Ph at h ⊢;refine Du ?_ h;rw[o0 h1,Au,Cj,AW,AW];exact BB _ ((C3 _ (EF _)).trans (Ek _ _ _))
theorem Ph.runB(h:Ph a b out na nb)(h1:k<=nb):Ph a b (out++(b.extract k nb).reverse) na k:=by
 unfold Ph at h ⊢;refine Du ?_ h;rw[o0 h1,Au,Cj,AW,<- AW (Hq na _)];exact BB _ ((C3 _ (EF _)).trans CL)
theorem Ph.fin(h:Ph a b out na nb):(a.extract 0 na++b.extract 0 nb++out.reverse).Perm (a++b):=by
 rw[A7,Au,Au,Au,cP,cP,Cj];exact(CL.trans (C3 _ (EF _))).trans h
theorem Ph.fin2(h:Ph a b out na nb):(b.extract 0 nb++a.extract 0 na++out.reverse).Perm (a++b):=by
 rw[A7,Au,Au,Au,cP,cP,Cj];exact((CL.trans (C3 _ (EF _))).trans (BB _ CL)).trans h
end
structure GH(a b:Array AY)(x:Nat)(out:Array AY)(na nb:Nat):Prop where
 pl:Ph a b out na nb
 la:1<=na
 lb:2<=nb
 ua:na<=a.size
 ub:nb<=b.size
 on:x+na+nb<=a.size+b.size
section
variable{κ:Cs}{it:Array AY}(hc:p7 prog w A s κ it)
include hc
end
structure Sm(st st':Bn):Prop where
 kind:kindOf st'=kindOf st
 arr:(arrOf st').Perm (arrOf st)
 pend:pendingOf st'=pendingOf st
 fail:failedOf st'=failedOf st
theorem Sm.refl(st:Bn):Sm st st:=⟨rfl,Dq _,rfl,rfl⟩
theorem Sm.trans{st G F:Bn}(a:Sm st G)(b:Sm G F):Sm st F:=⟨b.1.trans a.1,b.2.trans a.2,b.3.trans a.3,b.4.trans a.4⟩
theorem Sm.rev(st:Bn)(i j k:Nat):Sm st (setArr st (mirror (arrOf st) i j k)):=⟨rfl,mirror_perm _ _ _ _,rfl,rfl⟩
theorem Sm.bub(st:Bn)(i j:Nat):Sm st (setArr st (bubble (arrOf st) i j)):=⟨rfl,bubble_perm _ _ _,rfl,rfl⟩
structure GS(κ:Cs)(it:Array AY)(st:Bn):Prop where
 kind:kindOf st=κ
 perm:(arrOf st).Perm it
 fail:failedOf st=none
theorem GS.on{κ:Cs}{it:Array AY}{st F:Bn}(g:GS κ it st)(m:Sm st F):GS κ it F:=⟨m.1.trans g.1,m.2.trans g.2,m.4.trans g.3⟩
section
variable{κ:Cs}{it:Array AY}
theorem GS.get{st:Bn}(g:GS κ it st){i:Nat}(hi:i<it.size):∃ p,(arrOf st)[i]?=some p/\p∈it.toList:=by
 have F:i<(arrOf st).size:=by rw[g.perm.size_eq];exact hi
 exact⟨_,A3 F,(A7.mp g.perm).mem_iff.mp (by simp)⟩
variable(hc:p7 prog w A s κ it)
include hc
end
def aJD:List (Nat×Nat×Nat)->Nat->Nat->Prop
 | [],a,b=>a=b
 | r::l,a,b=>r.1=a/\1<=r.2.1/\aJD l (a+r.2.1) b
theorem yV:∀(l:List AY) (j k:Nat) (c:Array AY),((l.zipIdx j).foldl (fun a q=>a.setIfInBounds (k+q.2) q.1) c).toList=c.toList.take (k+j)++(l++c.toList.drop (k+j+l.length))\/c.size<k+j+l.length
 | [],j,k,c=>.inl (by simp)
 | p::l,j,k,c=>by
  by_cases F:c.size<k+j+(p::l).length
  .exact .inr F
  .refine .inl ?_;rw[List.zipIdx_cons,B1];have hl:k+j<c.toList.length:=by simp at F ⊢;omega
   rcases yV l (j+1) k (c.setIfInBounds (k+j) p)with e|e
   .rw[e,Array.toList_setIfInBounds];have G:(c.toList.set (k+j) p).take (k+(j+1))=c.toList.take (k+j)++[p]:=by
     rw[<- GQ,List.take_succ,DU hl,List.take_set_of_le (Aj _)];rfl
    have J:(c.toList.set (k+j) p).drop (k+(j+1)+l.length)=c.toList.drop (k+j+(p::l).length):=by
     rw[List.drop_set_of_lt (by omega),AQ];congr 1;omega
    rw[G,J,AW];rfl
   .exfalso;simp at e F;omega
theorem aFK{c x:Array AY}{sa n:Nat}(F:x.toList.Perm ((c.toList.drop sa).take n))(J:sa+n<=c.size):(x.toList.zipIdx.foldl (fun a q=>a.setIfInBounds (sa+q.2) q.1) c).Perm c:=by
 have hl:x.toList.length=n:=by
  rw[F.length_eq];simp;omega
 rcases yV x.toList 0 sa c with e|e
 .rw[A7,e];rw[Ep,hl];have G:c.toList=c.toList.take sa++((c.toList.drop sa).take n++c.toList.drop (sa+n)):=by
   rw[<- Et,CK,CK]
  refine Du (BB _ (C3 _ F)) ?_;rw[<- G]
 .rw[hl]at e;omega
section
variable{κ:Cs}{it:Array AY}
theorem aHi{M:E2}{σ:Type}{a:σ}{Q:PUnit->σ->Prop}{st:σ}(h:Q ⟨⟩ a):wpS M A E s (set a:StateT σ Sem PUnit) Q st:=by
 unfold wpS;rw[StateT.run_set];exact Ah ⟨rfl,h⟩
variable(hc:p7 prog w A s κ it)
include hc
end
section
variable{κ:Cs}{it:Array AY}
structure SR(κ:Cs)(it:Array AY)(lo:Nat)(st:Bn):Prop where
 gs:GS κ it st
 le:lo<=it.size
 sg:aJD (pendingOf st).toList 0 lo
variable(hc:p7 prog w A s κ it)
include hc
end
section
variable{κ:Cs}{it:Array AY}{rk:AY->Nat}
def uG(prog:Aq)(w:AL)(A:AI)(s:Ac)(κ:Cs)(it:Array AY)(rk:AY->Nat):Prop:=
 ∀ x y,x∈it.toList->y∈it.toList->∀ C:Bool->Ac->Prop,C (decide (rk x<rk y)) s->wpAny (model prog w) A (keyLt' κ x.1 y.1) C (fun _ _=>False) s
variable(hc:uG prog w A s κ it rk)
include hc
theorem pA{x y:AY}{st:Bn}{Q:Option Bool->Bn->Prop}(J:kindOf st=κ)(F:x∈it.toList)(G:y∈it.toList)(h:Q (some (decide (rk x<rk y))) st):wpS (model prog w) A E s (lt' x y) Q st:=by
 rw[lt'_eq];refine Az (EC ?_);rw[J];refine Az (FH (Dn (BM (hc x y F G (fun b s'=>s'=s/\b=decide (rk x<rk y)) ⟨rfl,rfl⟩) (fun b s' e=>⟨e.1,?_⟩) fun _ _ e=>e.elim)));rw[e.2];exact AG h
theorem fX{left:Bool}{key:AY}{arr:Array AY}{base n F t:Nat}{st:Bn}{Q:Option Nat->Bn->Prop}(ht:t=if left=true then rk key else rk key+1)(am:key∈it.toList)(ai:∀ i,i<n->∃ p,arr[base+i]?=some p/\p∈it.toList)
  (mono:∀ i j p q,i<=j->j<n->arr[base+i]?=some p->arr[base+j]?=some q->rk p<=rk q) (hh:F<n) (hk:kindOf st=κ)
  (h:∀ k,k<=n->(∀ i p,i<k->arr[base+i]?=some p->rk p<t)->(∀ i p,k<=i->i<n->arr[base+i]?=some p->t<=rk p)->Q (some k) st):wpS (model prog w) A E s (aHh left key arr base n F) Q st:=by
 obtain⟨f,hf⟩:∃ f:Nat->Nat,∀ i p,arr[base+i]?=some p->f i=rk p:=⟨fun i=>(arr[base+i]?).elim 0 rk,fun i p e=>by dsimp only;rw[e];rfl⟩
 have fm:∀ i j,i<=j->j<n->f i<=f j:=fun i j h1 h2=>by
  obtain⟨p,e1,_⟩:=ai i (by omega);obtain⟨q,e2,_⟩:=ai j h2;rw[hf _ _ e1,hf _ _ e2];exact mono i j p q h1 h2 e1 e2
 have h:∀ k,k<=n->(∀ i,i<k->f i<t)->(∀ i,k<=i->i<n->t<=f i)->Q (some k) st:=fun k hk h1 h2=>h k hk (fun i p hi e=>by rw[<- hf _ _ e];exact h1 i hi) (fun i p hi hn e=>by rw[<- hf _ _ e];exact h2 i hi hn);have aj:∀(i:Nat) (Q':Option Bool->Bn->Prop),i<n->(Q' (some (decide (f i<t))) st)->wpS (model prog w) A E s (do
   let x <- elem' arr (base+i)
   if left=true then lt' x key else do
    let r <- lt' key x
    pure (r.map fun b=>!b)) Q' st:=fun i Q' hi q=>by
  obtain⟨p,e,hp⟩:=ai i hi;refine Az (d7 e ?_);rw[hf _ _ e]at q;split
  .rename_i hl;rw[Ib hl]at ht;subst ht;exact pA hc hk hp am q
  .rename_i hl;rw[Ia hl]at ht;subst ht;refine Az (pA hc hk am hp (AG ?_));have e2:(some (decide (rk key<rk p))).map (fun b=>!b)=some (decide (rk p<rk key+1)):=by
    by_cases z:rk key<rk p
    .rw[Ic z,Ie (by omega)];rfl
    .rw[Ie z,Ic (by omega)];rfl
   rw[e2];exact q
 refine Az (aj F _ hh ?_);dsimp only;refine aS (fun c0=>?_) fun c0=>?_
 .have c0:=Ig c0;refine Az (CP (BO (I:=fun x c G=>G=st/\c.1=none/\c.2.1<c.2.2/\x+1<=c.2.2/\F+c.2.1<n/\f (F+c.2.1)<t) (Q:=fun c G=>G=st/\c.1=none/\c.2.1<c.2.2/\F+c.2.1<n/\f (F+c.2.1)<t/\(n-F<=c.2.2\/t<=f (F+c.2.2))) ?_ (fun c G z=>?_) ⟨rfl,rfl,by dsimp only;omega,by dsimp only;omega,by dsimp only;omega,by dsimp only;exact c0⟩) ?_)
  .rintro x ⟨r,lo,U⟩ G _ _ ⟨rfl,z,z1,z2,z3,z4⟩;cases z;dsimp only at z1 z2 z3 z4 ⊢;refine aS (fun c1=>AG ⟨rfl,rfl,z1,z3,z4,.inl c1⟩) fun c1=>?_;refine Az (aj _ _ (by omega) ?_);dsimp only;refine aS (fun Y=>AG ⟨rfl,rfl,z1,z3,z4,.inr ?_⟩) fun Y=>AG ⟨rfl,rfl,by dsimp only;omega,by dsimp only;omega,by dsimp only;omega,?_⟩
   .by_cases Z:f (F+U)<t
    .rw[Ic Z]at Y;cases Y
    .dsimp only;omega
   .by_cases Z:f (F+U)<t
    .exact Z
    .rw[Ie Z]at Y;exact absurd rfl Y
  .obtain⟨z0,z,z1,z2,z3,z4⟩:=z;exact⟨z0,z,z1,z3,z4,.inl (by omega)⟩
  .rintro⟨r,lo,U⟩ G ⟨rfl,z,z1,z3,z4,z5⟩;cases z;dsimp only at z1 z3 z4 z5 ⊢;refine Az (CP (BO (I:=fun x c J=>J=G/\c.1=none/\c.2.2<=n/\c.2.1<=c.2.2/\c.2.2-c.2.1+x<=n/\(∀ i,i<c.2.1->f i<t)/\(∀ i,c.2.2<=i->i<n->t<=f i)) (Q:=fun c J=>J=G/\c.1=none/\c.2.2<=n/\(∀ i,i<c.2.2->f i<t)/\(∀ i,c.2.2<=i->i<n->t<=f i)) ?_ (fun c G z=>?_) ⟨rfl,rfl,by dsimp only;omega,by dsimp only;omega,by dsimp only;omega,?_,?_⟩) ?_)
   .rintro x ⟨r,lo,hi⟩ J _ _ ⟨rfl,z,y1,y2,y3,y4,y5⟩;cases z;dsimp only at y1 y2 y3 y4 y5 ⊢;refine aS (fun c1=>AG ⟨rfl,rfl,y1,fun i O=>y4 i (by dsimp only at O;omega),y5⟩) fun c1=>?_;refine Az (aj _ _ (by omega) ?_);dsimp only;refine aS (fun Y=>AG ⟨rfl,rfl,y1,by dsimp only;omega,by dsimp only;omega,fun i O=>?_,y5⟩) fun Y=>AG ⟨rfl,rfl,by dsimp only;omega,by dsimp only;omega,by dsimp only;omega,y4,fun i O hn=>?_⟩
    .have Z:=Ig Y;dsimp only at O;have:=fm i (lo+(hi-lo)/2) (by omega) (by omega);omega
    .dsimp only at O;have:=fm (lo+(hi-lo)/2) i (by omega) hn;have Z:¬ f (lo+(hi-lo)/2)<t:=fun Z=>Y (Ic Z);omega
   .obtain⟨x0,z,y1,y2,y3,y4,y5⟩:=z;exact⟨x0,z,y1,fun i O=>y4 i (by omega),y5⟩
   .dsimp only;intro i O;have:=fm i (F+lo) (by omega) z3;omega
   .dsimp only;intro i O hn;rcases z5 with z5|z5
    .omega
    .have:=fm (F+U) i (by omega) hn;omega
   .rintro⟨r,lo,hi⟩ J ⟨rfl,z,y1,y4,y5⟩;cases z;exact AG (h _ y1 y4 y5)
 .have c0:t<=f F:=by
   by_cases Z:f F<t
   .exact absurd (Ic Z) c0
   .omega
  refine Az (CP (BO (I:=fun x c G=>G=st/\c.1=none/\c.2.1<c.2.2/\x+1<=c.2.2/\c.2.1<=F/\t<=f (F-c.2.1)) (Q:=fun c G=>G=st/\c.1=none/\c.2.1<c.2.2/\c.2.1<=F/\t<=f (F-c.2.1)/\(F+1<=c.2.2\/f (F-c.2.2)<t)) ?_ (fun c G z=>?_) ⟨rfl,rfl,by dsimp only;omega,by dsimp only;omega,by dsimp only;omega,by dsimp only;exact c0⟩) ?_)
  .rintro x ⟨r,lo,U⟩ G _ _ ⟨rfl,z,z1,z2,z3,z4⟩;cases z;dsimp only at z1 z2 z3 z4 ⊢;refine aS (fun c1=>AG ⟨rfl,rfl,z1,z3,z4,.inl c1⟩) fun c1=>?_;refine Az (aj _ _ (by omega) ?_);dsimp only;refine aS (fun Y=>AG ⟨rfl,rfl,z1,z3,z4,.inr (Ig Y)⟩) fun Y=>AG ⟨rfl,rfl,by dsimp only;omega,by dsimp only;omega,by dsimp only;omega,?_⟩;by_cases Z:f (F-U)<t
   .exact absurd (Ic Z) Y
   .dsimp only;omega
  .obtain⟨z0,z,z1,z2,z3,z4⟩:=z;exact⟨z0,z,z1,z3,z4,.inl (by omega)⟩
  .rintro⟨r,lo,U⟩ G ⟨rfl,z,z1,z3,z4,z5⟩;cases z;dsimp only at z1 z3 z4 z5 ⊢;refine Az (CP (BO (I:=fun x c J=>J=G/\c.1=none/\c.2.2<=n/\c.2.1<=c.2.2/\c.2.2-c.2.1+x<=n/\(∀ i,i<c.2.1->f i<t)/\(∀ i,c.2.2<=i->i<n->t<=f i)) (Q:=fun c J=>J=G/\c.1=none/\c.2.2<=n/\(∀ i,i<c.2.2->f i<t)/\(∀ i,c.2.2<=i->i<n->t<=f i)) ?_ (fun c G z=>?_) ⟨rfl,rfl,by dsimp only;omega,by dsimp only;omega,by dsimp only;omega,?_,?_⟩) ?_)
   .rintro x ⟨r,lo,hi⟩ J _ _ ⟨rfl,z,y1,y2,y3,y4,y5⟩;cases z;dsimp only at y1 y2 y3 y4 y5 ⊢;refine aS (fun c1=>AG ⟨rfl,rfl,y1,fun i O=>y4 i (by dsimp only at O;omega),y5⟩) fun c1=>?_;refine Az (aj _ _ (by omega) ?_);dsimp only;refine aS (fun Y=>AG ⟨rfl,rfl,y1,by dsimp only;omega,by dsimp only;omega,fun i O=>?_,y5⟩) fun Y=>AG ⟨rfl,rfl,by dsimp only;omega,by dsimp only;omega,by dsimp only;omega,y4,fun i O hn=>?_⟩
    .have Z:=Ig Y;dsimp only at O;have:=fm i (lo+(hi-lo)/2) (by omega) (by omega);omega
    .dsimp only at O;have:=fm (lo+(hi-lo)/2) i (by omega) hn;have Z:¬ f (lo+(hi-lo)/2)<t:=fun Z=>Y (Ic Z);omega
   .obtain⟨x0,z,y1,y2,y3,y4,y5⟩:=z;exact⟨x0,z,y1,fun i O=>y4 i (by omega),y5⟩
   .dsimp only;intro i O;rcases z5 with z5|z5
    .omega
    .have:=fm i (F-U) (by omega) (by omega);omega
   .dsimp only;intro i O hn;have:=fm (F-lo) i (by omega) hn;omega
   .rintro⟨r,lo,hi⟩ J ⟨rfl,z,y1,y4,y5⟩;cases z;exact AG (h _ y1 y4 y5)
end
def UpL(rk:AY->Nat)(l:List AY):Prop:=l.Pairwise fun x y=>rk x<=rk y
section
variable{rk:AY->Nat}{c:Array AY}
theorem lO(h:UpL rk c.toList){i j:Nat}{p q:AY}(hi:i<=j)(e1:c[i]?=some p)(F:c[j]?=some q):rk p<=rk q:=by
 rw[<- AS]at e1 F;obtain⟨h1,rfl⟩:=Ak.mp e1;obtain⟨h2,rfl⟩:=Ak.mp F;rcases B4 i j with hl|hl
 .exact Bc.mp h i j h1 h2 hl
 .have:i=j:=by omega
  subst this;exact Aj _
theorem iR{i:Nat}{y:AY}(h:y∈c.toList.drop i):∃ j,i<=j/\j<c.size/\c[j]?=some y:=by
 obtain⟨n,hn,e⟩:=AR.mp h;rw[FR]at e;rw[BP,AN]at hn;refine⟨i+n,by omega,by omega,?_⟩;rw[<- AS,<- e];exact Ae _
theorem d8{i j:Nat}{y:AY}(h:y∈(c.extract i j).toList):∃ m,i<=m/\m<j/\c[m]?=some y:=by
 rw[cP]at h;obtain⟨n,hn,e⟩:=AR.mp h;rw[Dg,FR]at e;rw[Bm,BP,AN]at hn;refine⟨i+n,by omega,by omega,?_⟩;rw[<- AS,<- e];exact Ae _
theorem sE(h:UpL rk c.toList){i:Nat}{p:AY}(e:c[i]?=some p):∀ y∈c.toList.drop i,rk p<=rk y:=fun y F=>by
 obtain⟨j,h1,_,h3⟩:=iR F;exact lO h h1 e h3
theorem kJ(h:UpL rk c.toList)(i:Nat):UpL rk (c.toList.drop i):=DH (List.drop_sublist _ _) h
theorem fJ{o l:List AY}:UpL rk (o++l)↔UpL rk o/\UpL rk l/\∀ x∈o,∀ y∈l,rk x<=rk y:=Ee
theorem sF{o R A' B:List AY}(u:UpL rk o)(oa:∀ x∈o,∀ y∈R++A',rk x<=rk y)(ob:∀ x∈o,∀ y∈B,rk x<=rk y)(ua:UpL rk (R++A'))(J:∀ x∈R,∀ y∈B,rk x<=rk y):
  UpL rk (o++R)/\(∀ x∈o++R,∀ y∈A',rk x<=rk y)/\∀ x∈o++R,∀ y∈B,rk x<=rk y:=by
 obtain⟨u1,u2,u3⟩:=fJ.mp ua;refine⟨fJ.mpr ⟨u,u1,fun x F y G=>oa x F y (BN _ G)⟩,fun x F y G=>?_,fun x F y G=>?_⟩
 .rcases AK.mp F with F|F
  .exact oa x F y (AH _ G)
  .exact u3 x F y G
 .rcases AK.mp F with F|F
  .exact ob x F y G
  .exact J x F y G
end
structure PlR(rk:AY->Nat)(a b out:Array AY)(ia ib:Nat):Prop where
 pl:Pl a b out ia ib
 up:UpL rk out.toList
 oa:∀ x∈out.toList,∀ y∈a.toList.drop ia,rk x<=rk y
 ob:∀ x∈out.toList,∀ y∈b.toList.drop ib,rk x<=rk y
structure Gd(rk:AY->Nat)(a b r:Array AY):Prop where
 pm:r.Perm (a++b)
 up:UpL rk r.toList
section
variable{rk:AY->Nat}{a b out:Array AY}{ia ib k:Nat}
theorem aCZ{c:Array AY}:c.toList.drop ia=(c.extract ia (ia+k)).toList++c.toList.drop (ia+k):=by
 rw[cP,C8,<- Et,CK]
theorem PlR.pushA{p:AY}(h:PlR rk a b out ia ib)(ua:UpL rk a.toList)(e:a[ia]?=some p)(G:∀ y∈b.toList.drop ib,rk p<=rk y):PlR rk a b (out.push p) (ia+1) ib:=by
 obtain⟨h1,h2,h3,h4⟩:=h;have F:=kJ ua ia;rw[jZ e]at h3 F;obtain⟨s1,s2,s3⟩:=sF (R:=[p]) h2 h3 h4 F (fun x J=>by rw[Ax.mp J];exact G);exact⟨h1.pushA e,by rw[Bi];exact s1,by rw[Bi];exact s2,by rw[Bi];exact s3⟩
theorem PlR.pushB{p:AY}(h:PlR rk a b out ia ib)(ub:UpL rk b.toList)(e:b[ib]?=some p)(G:∀ y∈a.toList.drop ia,rk p<=rk y):PlR rk a b (out.push p) ia (ib+1):=by
 obtain⟨h1,h2,h3,h4⟩:=h;have F:=kJ ub ib;rw[jZ e]at h4 F;obtain⟨s1,s2,s3⟩:=sF (R:=[p]) h2 h4 h3 F (fun x J=>by rw[Ax.mp J];exact G);exact⟨h1.pushB e,by rw[Bi];exact s1,by rw[Bi];exact s3,by rw[Bi];exact s2⟩
theorem PlR.runA(h:PlR rk a b out ia ib)(ua:UpL rk a.toList)(G:∀ x∈(a.extract ia (ia+k)).toList,∀ y∈b.toList.drop ib,rk x<=rk y):PlR rk a b (out++a.extract ia (ia+k)) (ia+k) ib:=by
 obtain⟨h1,h2,h3,h4⟩:=h;have F:=kJ ua ia;rw[aCZ (k:=k)]at h3 F;obtain⟨s1,s2,s3⟩:=sF h2 h3 h4 F G;exact⟨h1.runA,by rw[Au];exact s1,by rw[Au];exact s2,by rw[Au];exact s3⟩
theorem PlR.runB(h:PlR rk a b out ia ib)(ub:UpL rk b.toList)(G:∀ x∈(b.extract ib (ib+k)).toList,∀ y∈a.toList.drop ia,rk x<=rk y):PlR rk a b (out++b.extract ib (ib+k)) ia (ib+k):=by
 obtain⟨h1,h2,h3,h4⟩:=h;have F:=kJ ub ib;rw[aCZ (k:=k)]at h4 F;obtain⟨s1,s2,s3⟩:=sF h2 h4 h3 F G;exact⟨h1.runB,by rw[Au];exact s1,by rw[Au];exact s3,by rw[Au];exact s2⟩
theorem PlR.fin(h:PlR rk a b out ia ib)(ua:UpL rk a.toList)(ub:UpL rk b.toList)(F:ia=a.size\/ib=b.size):Gd rk a b (out++a.extract ia a.size++b.extract ib b.size):=by
 refine⟨h.pl.fin,?_⟩;rw[Au,Au,jJ,jJ];rcases F with rfl|rfl
 .rw[E3 (by simp),Bp];exact fJ.mpr ⟨h.up,kJ ub _,h.ob⟩
 .rw[E3 (l:=b.toList) (by simp),Bp];exact fJ.mpr ⟨h.up,kJ ua _,h.oa⟩
theorem PlR.fin2(h:PlR rk a b out ia ib)(ub:UpL rk b.toList)(hl:∀ x∈b.toList,∀ y,a[a.size-1]?=some y->rk x<=rk y)(O:ia+1=a.size):Gd rk a b (out++b.extract ib b.size++a.extract ia a.size):=by
 refine⟨h.pl.fin2,?_⟩;rw[Au,Au,jJ,jJ];have e:a[ia]?=some a[ia]:=A3 (by omega);have J:a.toList.drop ia=[a[ia]]:=by
  rw[jZ e,E3 (by simp;omega)]
 have oa:=h.oa;rw[J]at oa ⊢;refine fJ.mpr ⟨fJ.mpr ⟨h.up,kJ ub _,h.ob⟩,ER _ _,fun x F y G=>?_⟩;rcases AK.mp F with F|F
 .exact oa x F y G
 .rw[Ax.mp G];exact hl x (Eg F) _ (by rw[show a.size-1=ia by omega];exact e)
theorem PlR.start{p:AY}(ua:UpL rk a.toList)(ub:UpL rk b.toList)(e:b[0]?=some p)(J:∀ y,a[0]?=some y->rk p<=rk y):PlR rk a b #[p] 0 1:=by
 have h:PlR rk a b #[] 0 0:=⟨EV _,BZ,fun x F=>(nomatch F),fun x F=>(nomatch F)⟩
 refine h.pushB ub e fun y O=>?_;obtain⟨j,_,hj,e2⟩:=iR O;have G:a[0]?=some a[0]:=A3 (by omega);exact AM (J _ G) (lO ua (AV j) G e2)
end
structure GLR(rk:AY->Nat)(a b:Array AY)(x:Nat)(out:Array AY)(ia ib:Nat):Prop where
 pl:PlR rk a b out ia ib
 la:ia+1<a.size
 lb:ib<b.size
 on:x<=ia+ib
section
variable{κ:Cs}{it:Array AY}{rk:AY->Nat}(hc:uG prog w A s κ it rk)
include hc
theorem yX{a b:Array AY}{st:Bn}{Q:Array AY->Bn->Prop}(ha:1<=a.size)(hb:1<=b.size)(iA:∀ p∈a.toList,p∈it.toList)(iB:∀ p∈b.toList,p∈it.toList)(hk:kindOf st=κ)
  (ua:UpL rk a.toList) (ub:UpL rk b.toList) (h0:∀ x y,b[0]?=some x->a[0]?=some y->rk x<=rk y) (hl:∀ x∈b.toList,∀ y,a[a.size-1]?=some y->rk x<=rk y)
  (h:∀ out F,Gd rk a b out->Sg st F->Q out F):wpS (model prog w) A E s (aFI a b) Q st:=by
 have gA:∀ i,i<a.size->∃ p,a[i]?=some p/\p∈it.toList:=fun i hi=>⟨_,A3 hi,iA _ (by simp)⟩
 have gB:∀ i,i<b.size->∃ p,b[i]?=some p/\p∈it.toList:=fun i hi=>⟨_,A3 hi,iB _ (by simp)⟩
 refine Az (FH (C6 ⟨rfl,?_⟩));obtain⟨p0,e0,_⟩:=gB 0 hb;have hS:=PlR.start ua ub e0 fun y=>h0 _ y e0;refine Az (d7 e0 ?_);refine aS (fun c=>AG (h _ _ (hS.fin ua ub (.inr (eq_of_beq c))) (Sg.refl _))) fun n1=>?_;have bg:1≠b.size:=fun z=>n1 (by rw[<- z];rfl);refine aS (fun c=>AG (h _ _ (hS.fin2 ub hl (eq_of_beq c)) (Sg.refl _))) fun n2=>?_;have ba:1≠a.size:=fun z=>n2 (by rw[<- z];rfl);refine Az (EC ?_);dsimp only;have Y:∀(i:Nat) (Q':AY->Bn->Prop) (F:Bn),i<a.size->(∀ p,a[i]?=some p->p∈it.toList->Q' p F)->wpS (model prog w) A E s (elem' a i) Q' F:=fun i Q' F hi q=>by
  obtain⟨p,e,hp⟩:=gA i hi;exact d7 e (q p e hp)
 have U:∀(i:Nat) (Q':AY->Bn->Prop) (F:Bn),i<b.size->(∀ p,b[i]?=some p->p∈it.toList->Q' p F)->wpS (model prog w) A E s (elem' b i) Q' F:=fun i Q' F hi q=>by
  obtain⟨p,e,hp⟩:=gB i hi;exact d7 e (q p e hp)
 refine Az (CP (BO (I:=fun x c F=>c.1=none/\GLR rk a b x c.2.1 c.2.2.1 c.2.2.2.1/\Sg st F) (Q:=fun c F=>∃ r,c.1=some r/\Gd rk a b r/\Sg st F) ?_ (fun c F z=>?_) ⟨rfl,⟨hS,by dsimp only;omega,by dsimp only;omega,by dsimp only;omega⟩,Sg.refl _⟩) ?_)
 .refine fun x=>pr3 fun r out=>pr3 fun ia ib mg F _ hx=>?_;rintro⟨z,g,sg⟩;cases z;dsimp only at g ⊢;refine Az (CP (BO (I:=fun y c F=>c.1=none/\GLR rk a b (x+y) c.2.1 c.2.2.1 c.2.2.2.1/\Sg st F) (Q:=fun c F=>Sg st F/\((∃ r,c.1=some r/\Gd rk a b r)\/(c.1=none/\GLR rk a b (x+1) c.2.1 c.2.2.1 c.2.2.2.1))) ?_ (fun c F z=>?_) ⟨rfl,g,sg⟩) ?_)
  .refine fun y=>pr3 fun r out=>pr3 fun ia ib=>Prod.rec fun ac bc F _ J=>?_;rintro⟨z,g,sg⟩;cases z;obtain⟨hP,h1,h2,h3⟩:=g;dsimp only at hP h1 h2 h3 ⊢;refine Az (U _ _ _ h2 fun p ep hp=>Az (Y _ _ _ (by omega) fun q eq hq=>Az (pA hc (sg.kind.trans hk) hp hq ?_)));dsimp only;refine aS (fun Z=>?_) fun Z=>?_
   .have Z:=Ig Z;refine Az (U _ _ _ h2 fun p' O _=>?_);obtain rfl:p=p':=Bt.inj (ep.symm.trans O);have G:=hP.pushB ub ep fun y J=>AM (Bd Z) (sE ua eq y J);refine aS (fun c=>AG ⟨sg,.inl ⟨_,rfl,G.fin ua ub (.inr (eq_of_beq c))⟩⟩) fun n=>?_;have n':ib+1≠b.size:=fun z=>n (by rw[z];exact beq_self_eq_true _);exact aS (fun _=>AG ⟨sg,.inr ⟨rfl,G,h1,by dsimp only;omega,by dsimp only;omega⟩⟩) fun _=>AG ⟨rfl,⟨G,h1,by dsimp only;omega,by dsimp only;omega⟩,sg⟩
   .have Z:rk q<=rk p:=CI fun z=>Z (Ic z);refine Az (Y _ _ _ (by omega) fun p' O _=>?_);obtain rfl:q=p':=Bt.inj (eq.symm.trans O);have G:=hP.pushA ua eq fun y J=>AM Z (sE ub ep y J);refine aS (fun c=>AG ⟨sg,.inl ⟨_,rfl,G.fin2 ub hl (eq_of_beq c)⟩⟩) fun n=>?_;have n':ia+1+1≠a.size:=fun z=>n (by rw[z];exact beq_self_eq_true _);exact aS (fun _=>AG ⟨sg,.inr ⟨rfl,G,by dsimp only;omega,h2,by dsimp only;omega⟩⟩) fun _=>AG ⟨rfl,⟨G,by dsimp only;omega,h2,by dsimp only;omega⟩,sg⟩
  .obtain⟨z1,⟨hP,h1,h2,h3⟩,sg⟩:=z;exact⟨sg,.inr ⟨z1,hP,h1,h2,by omega⟩⟩
  .rintro⟨r,out,ia,ib,ac,bc⟩ F ⟨sg,⟨r',z,hr⟩|⟨z,g⟩⟩
   .cases z;exact AG ⟨_,rfl,hr,sg⟩
   .cases z;dsimp only at g ⊢;refine Az (FH (C6 ⟨rfl,?_⟩));refine Az (CP (BO (I:=fun y c F=>c.1=none/\GLR rk a b (x+1) c.2.1 c.2.2.1 c.2.2.2.1/\Sg st F) (Q:=fun c F=>Sg st F/\((∃ r,c.1=some r/\Gd rk a b r)\/(c.1=none/\GLR rk a b (x+1) c.2.1 c.2.2.1 c.2.2.2.1))) ?_ (fun c F z=>⟨z.2.2,.inr ⟨z.1,z.2.1⟩⟩) ⟨rfl,g,sg⟩) ?_)
    .refine fun y=>pr3 fun r out=>pr3 fun ia ib=>pr3 fun mg ac bc F _ J=>?_;rintro⟨z,g,sg⟩;cases z;obtain⟨hP,h1,h2,h3⟩:=g;dsimp only at hP h1 h2 h3 ⊢;refine aS (fun _=>Az (CQ ?_)) fun _=>Az (CQ ?_)
     all_goals
      refine Az (U _ _ _ h2 fun p ep hp=>Az (fX hc (t:=rk p+1) rfl hp (fun i hi=>gA _ (by omega)) (fun i j p q hi hj e1 e2=>lO ua (by omega) e1 e2) (by omega) (sg.kind.trans hk) fun k bn au ar=>?_));dsimp only;have ra:∀ x∈(a.extract ia (ia+k)).toList,∀ y∈b.toList.drop ib,rk x<=rk y:=fun x hx y J=>by
       obtain⟨m,m1,m2,m3⟩:=d8 hx;have:=au (m-ia) x (by omega) (by rw[Ca m1];exact m3);exact AM (F0 this) (sE ub ep y J)
      have rb:∀ y∈a.toList.drop (ia+k),rk p<=rk y:=fun y J=>by
       obtain⟨m,m1,m2,m3⟩:=iR J;exact Bd (ar (m-ia) y (by omega) (by omega) (by rw[Ca (by omega)];exact m3))
      refine aS (fun kp=>aS (fun c=>AG ⟨⟨sg.1,sg.2,sg.3,sg.4⟩,.inl ⟨_,rfl,(hP.runA ua ra).fin2 ub hl (eq_of_beq c)⟩⟩) fun na=>aS (fun c=>AG ⟨⟨sg.1,sg.2,sg.3,sg.4⟩,.inl ⟨_,rfl,(hP.runA ua ra).fin ua ub (.inl (eq_of_beq c))⟩⟩) fun nb=>?_) fun kz=>?_
      all_goals
       first|(have e1:=iE na;have e2:=iE nb;have ah:=hP.runA ua ra;have aw:ia+k+1<a.size:=by omega)|(have ah:=hP;have aw:=h1;rw[show k=0 by omega,Ep]at rb)
       refine Az (U _ _ _ h2 fun p' O _=>?_);obtain rfl:p=p':=Bt.inj (ep.symm.trans O);have G:=ah.pushB ub ep rb;refine aS (fun c=>AG ⟨⟨sg.1,sg.2,sg.3,sg.4⟩,.inl ⟨_,rfl,G.fin ua ub (.inr (eq_of_beq c))⟩⟩) fun n=>?_;have n':=iE n;refine Az (Y _ _ _ (by omega) fun q eq hq=>Az (fX hc (t:=rk q) rfl hq (fun i hi=>gB _ (by omega)) (fun i j p q hi hj e1 e2=>lO ub (by omega) e1 e2) (by omega) (sg.kind.trans hk) fun k2 bi az aq=>?_));dsimp only;have hR:=G.runB (k:=k2) ub fun x hx y J=>by
        obtain⟨m,m1,m2,m3⟩:=d8 hx;have:=az (m-(ib+1)) x (by omega) (by rw[Ca m1];exact m3);exact AM (Bd this) (sE ua eq y J)
       have rd:∀ y∈b.toList.drop (ib+1+k2),rk q<=rk y:=fun y J=>by
        obtain⟨m,m1,m2,m3⟩:=iR J;exact aq (m-(ib+1)) y (by omega) (by omega) (by rw[Ca (by omega)];exact m3)
       refine aS (fun bo=>aS (fun c=>AG ⟨⟨sg.1,sg.2,sg.3,sg.4⟩,.inl ⟨_,rfl,hR.fin ua ub (.inr (eq_of_beq c))⟩⟩) fun nc=>?_) fun bd=>?_
       all_goals
        first|(have e3:=iE nc;have ai:=hR)|(have ai:=G;rw[show k2=0 by omega,Ep]at rd)
        refine Az (Y _ _ _ (by omega) fun q' am _=>?_);obtain rfl:q=q':=Bt.inj (eq.symm.trans am);have ae:=ai.pushA ua eq rd;refine aS (fun c=>AG ⟨⟨sg.1,sg.2,sg.3,sg.4⟩,.inl ⟨_,rfl,ae.fin2 ub hl (eq_of_beq c)⟩⟩) fun nd=>?_;have e4:=iE nd;exact aS (fun _=>AG ⟨⟨sg.1,sg.2,sg.3,sg.4⟩,.inr ⟨rfl,ae,by dsimp only;omega,by dsimp only;omega,by dsimp only;omega⟩⟩) fun _=>AG ⟨rfl,⟨ae,by dsimp only;omega,by dsimp only;omega,by dsimp only;omega⟩,sg.1,sg.2,sg.3,sg.4⟩
    .rintro⟨r,out,ia,ib,mg,ac,bc⟩ F ⟨sg,⟨r',z,hr⟩|⟨z,g⟩⟩
     .cases z;exact AG ⟨_,rfl,hr,sg⟩
     .cases z;exact Az (CQ (AG ⟨rfl,g,sg.1,sg.2,sg.3,sg.4⟩))
 .obtain⟨z1,⟨hP,h1,h2,h3⟩,sg⟩:=z;exfalso;omega
 .rintro⟨r,out,ia,ib,mg⟩ F ⟨r',z,hr,sg⟩;cases z;exact AG (h _ _ hr sg)
end
section
variable{rk:AY->Nat}{c:Array AY}
theorem f8{i:Nat}{y:AY}(h:y∈c.toList.take i):∃ j,j<i/\j<c.size/\c[j]?=some y:=by
 obtain⟨n,hn,e⟩:=AR.mp h;rw[Dg]at e;rw[Bm,AN]at hn;refine⟨n,by omega,by omega,?_⟩;rw[<- AS,<- e];exact Ae _
theorem sG(h:UpL rk c.toList){i:Nat}{p:AY}(e:c[i-1]?=some p):∀ y∈c.toList.take i,rk y<=rk p:=fun y F=>by
 obtain⟨j,h1,_,h3⟩:=f8 F;exact lO h (by omega) h3 e
theorem jK(h:UpL rk c.toList)(i:Nat):UpL rk (c.toList.take i):=DH (FQ _ _) h
theorem sH{o R A' B:List AY}(u:UpL rk o)(oa:∀ x∈o,∀ y∈A'++R,rk y<=rk x)(ob:∀ x∈o,∀ y∈B,rk y<=rk x)(ua:UpL rk (A'++R))(J:∀ x∈R,∀ y∈B,rk y<=rk x):
  UpL rk (R++o)/\(∀ x∈R++o,∀ y∈A',rk y<=rk x)/\∀ x∈R++o,∀ y∈B,rk y<=rk x:=by
 obtain⟨u1,u2,u3⟩:=fJ.mp ua;refine⟨fJ.mpr ⟨u2,u,fun x F y G=>oa y G x (AH _ F)⟩,fun x F y G=>?_,fun x F y G=>?_⟩
 .rcases AK.mp F with F|F
  .exact u3 y G x F
  .exact oa x F y (BN _ G)
 .rcases AK.mp F with F|F
  .exact J x F y G
  .exact ob x F y G
end
structure PhR(rk:AY->Nat)(a b out:Array AY)(na nb:Nat):Prop where
 pl:Ph a b out na nb
 up:UpL rk out.toList.reverse
 oa:∀ x∈out.toList.reverse,∀ y∈a.toList.take na,rk y<=rk x
 ob:∀ x∈out.toList.reverse,∀ y∈b.toList.take nb,rk y<=rk x
section
variable{rk:AY->Nat}{a b out:Array AY}{na nb k:Nat}
theorem PhR.pushA{p:AY}(h:PhR rk a b out na nb)(ua:UpL rk a.toList)(h1:1<=na)(e:a[na-1]?=some p)(J:∀ y∈b.toList.take nb,rk y<=rk p):PhR rk a b (out.push p) (na-1) nb:=by
 obtain⟨g1,g2,g3,g4⟩:=h;have G:=jK ua na;rw[lY h1 e]at g3 G;obtain⟨s1,s2,s3⟩:=sH (R:=[p]) g2 g3 g4 G (fun x O=>by rw[Ax.mp O];exact J);have F:(out.push p).toList.reverse=[p]++out.toList.reverse:=by rw[Bi,DA];rfl
 exact⟨g1.pushA h1 e,by rw[F];exact s1,by rw[F];exact s2,by rw[F];exact s3⟩
theorem PhR.pushB{p:AY}(h:PhR rk a b out na nb)(ub:UpL rk b.toList)(h1:1<=nb)(e:b[nb-1]?=some p)(J:∀ y∈a.toList.take na,rk y<=rk p):PhR rk a b (out.push p) na (nb-1):=by
 obtain⟨g1,g2,g3,g4⟩:=h;have G:=jK ub nb;rw[lY h1 e]at g4 G;obtain⟨s1,s2,s3⟩:=sH (R:=[p]) g2 g4 g3 G (fun x O=>by rw[Ax.mp O];exact J);have F:(out.push p).toList.reverse=[p]++out.toList.reverse:=by rw[Bi,DA];rfl
 exact⟨g1.pushB h1 e,by rw[F];exact s1,by rw[F];exact s3,by rw[F];exact s2⟩
theorem PhR.runA(h:PhR rk a b out na nb)(ua:UpL rk a.toList)(h1:k<=na)(J:∀ x∈(a.extract k na).toList,∀ y∈b.toList.take nb,rk y<=rk x):PhR rk a b (out++(a.extract k na).reverse) k nb:=by
 obtain⟨g1,g2,g3,g4⟩:=h;have G:=jK ua na;rw[o0 h1]at g3 G;obtain⟨s1,s2,s3⟩:=sH g2 g3 g4 G J;have F:(out++(a.extract k na).reverse).toList.reverse=(a.extract k na).toList++out.toList.reverse:=by rw[Au,Cj,DA,Fg]
 exact⟨g1.runA h1,by rw[F];exact s1,by rw[F];exact s2,by rw[F];exact s3⟩
theorem PhR.runB(h:PhR rk a b out na nb)(ub:UpL rk b.toList)(h1:k<=nb)(J:∀ x∈(b.extract k nb).toList,∀ y∈a.toList.take na,rk y<=rk x):PhR rk a b (out++(b.extract k nb).reverse) na k:=by
 obtain⟨g1,g2,g3,g4⟩:=h;have G:=jK ub nb;rw[o0 h1]at g4 G;obtain⟨s1,s2,s3⟩:=sH g2 g4 g3 G J;have F:(out++(b.extract k nb).reverse).toList.reverse=(b.extract k nb).toList++out.toList.reverse:=by rw[Au,Cj,DA,Fg]
 exact⟨g1.runB h1,by rw[F];exact s1,by rw[F];exact s3,by rw[F];exact s2⟩
theorem PhR.fin(h:PhR rk a b out na nb)(ua:UpL rk a.toList)(ub:UpL rk b.toList)(J:na=0\/nb=0):Gd rk a b (a.extract 0 na++b.extract 0 nb++out.reverse):=by
 refine⟨h.pl.fin,?_⟩;rw[Au,Au,cP,cP,Cj,Dz,Dz,Cv,Cv];rcases J with rfl|rfl
 .exact fJ.mpr ⟨jK ub _,h.up,fun x F y G=>h.ob y G x F⟩
 .rw[List.take_zero,Bp];exact fJ.mpr ⟨jK ua _,h.up,fun x F y G=>h.oa y G x F⟩
theorem PhR.fin2(h:PhR rk a b out na nb)(ua:UpL rk a.toList)(ub:UpL rk b.toList)(O:∀ x y,b[0]?=some x->a[0]?=some y->rk x<=rk y)(U:nb=1):Gd rk a b (b.extract 0 nb++a.extract 0 na++out.reverse):=by
 refine⟨h.pl.fin2,?_⟩;rw[Au,Au,cP,cP,Cj,Dz,Dz,Cv,Cv];refine fJ.mpr ⟨fJ.mpr ⟨jK ub _,jK ua _,fun x F y G=>?_⟩,h.up,fun x F y G=>?_⟩
 .obtain⟨i,i1,_,i3⟩:=f8 F;obtain⟨j,j1,j2,j3⟩:=f8 G;have J:a[0]?=some a[0]:=A3 (by omega);rw[show i=0 by omega]at i3;exact AM (O _ _ i3 J) (lO ua (AV j) J j3)
 .rcases AK.mp F with F|F
  .exact h.ob y G x F
  .exact h.oa y G x F
theorem PhR.start{p:AY}(h:1<=a.size)(ua:UpL rk a.toList)(e:a[a.size-1]?=some p)(hl:∀ x∈b.toList,rk x<=rk p):PhR rk a b #[p] (a.size-1) b.size:=by
 have F:Ph a b #[] a.size b.size:=by
  unfold Ph;rw[Bj (by simp),Bj (by simp)];exact EV _
 have F:PhR rk a b #[] a.size b.size:=⟨F,BZ,fun x G=>(nomatch G),fun x G=>(nomatch G)⟩
 exact F.pushA ua h e fun y J=>hl y (Ef J)
end
structure GHR(rk:AY->Nat)(a b:Array AY)(x:Nat)(out:Array AY)(na nb:Nat):Prop where
 pl:PhR rk a b out na nb
 la:1<=na
 lb:2<=nb
 ua:na<=a.size
 ub:nb<=b.size
 on:x+na+nb<=a.size+b.size
section
variable{κ:Cs}{it:Array AY}{rk:AY->Nat}(hc:uG prog w A s κ it rk)
include hc
theorem yY{a b:Array AY}{st:Bn}{Q:Array AY->Bn->Prop}(ha:1<=a.size)(hb:1<=b.size)(iA:∀ p∈a.toList,p∈it.toList)(iB:∀ p∈b.toList,p∈it.toList)(hk:kindOf st=κ)
  (ua:UpL rk a.toList) (ub:UpL rk b.toList) (h0:∀ x y,b[0]?=some x->a[0]?=some y->rk x<=rk y) (hl:∀ x∈b.toList,∀ y,a[a.size-1]?=some y->rk x<=rk y)
  (h:∀ out F,Gd rk a b out->Sg st F->Q out F):wpS (model prog w) A E s (aFJ a b) Q st:=by
 have gA:∀ i,i<a.size->∃ p,a[i]?=some p/\p∈it.toList:=fun i hi=>⟨_,A3 hi,iA _ (by simp)⟩
 have gB:∀ i,i<b.size->∃ p,b[i]?=some p/\p∈it.toList:=fun i hi=>⟨_,A3 hi,iB _ (by simp)⟩
 refine Az (FH (C6 ⟨rfl,?_⟩));obtain⟨p0,e0,_⟩:=gA (a.size-1) (by omega);have hS:=PhR.start (b:=b) ha ua e0 fun x hx=>hl x hx _ e0;refine Az (d7 e0 ?_);refine aS (fun c=>AG (h _ _ (hS.fin ua ub (.inl (eq_of_beq c))) (Sg.refl _))) fun n1=>?_;have bj:=iE n1;refine aS (fun c=>AG (h _ _ (hS.fin2 ua ub h0 (eq_of_beq c)) (Sg.refl _))) fun n2=>?_;have bd:=iE n2;refine Az (EC ?_);dsimp only;have Y:∀(i:Nat) (Q':AY->Bn->Prop) (F:Bn),i<a.size->(∀ p,a[i]?=some p->p∈it.toList->Q' p F)->wpS (model prog w) A E s (elem' a i) Q' F:=fun i Q' F hi q=>by
  obtain⟨p,e,hp⟩:=gA i hi;exact d7 e (q p e hp)
 have U:∀(i:Nat) (Q':AY->Bn->Prop) (F:Bn),i<b.size->(∀ p,b[i]?=some p->p∈it.toList->Q' p F)->wpS (model prog w) A E s (elem' b i) Q' F:=fun i Q' F hi q=>by
  obtain⟨p,e,hp⟩:=gB i hi;exact d7 e (q p e hp)
 refine Az (CP (BO (I:=fun x c F=>c.1=none/\GHR rk a b x c.2.2.2.1 c.2.1 c.2.2.1/\Sg st F) (Q:=fun c F=>∃ r,c.1=some r/\Gd rk a b r/\Sg st F) ?_ (fun c F z=>?_) ⟨rfl,⟨hS,by dsimp only;omega,by dsimp only;omega,by dsimp only;omega,by dsimp only;omega,by dsimp only;omega⟩,Sg.refl _⟩) ?_)
 .refine fun x=>pr3 fun r na=>pr3 fun nb out mg F _ hx=>?_;rintro⟨z,g,sg⟩;cases z;dsimp only at g ⊢;refine Az (CP (BO (I:=fun y c F=>c.1=none/\GHR rk a b (x+y) c.2.2.2.1 c.2.1 c.2.2.1/\Sg st F) (Q:=fun c F=>Sg st F/\((∃ r,c.1=some r/\Gd rk a b r)\/(c.1=none/\GHR rk a b (x+1) c.2.2.2.1 c.2.1 c.2.2.1))) ?_ (fun c F z=>?_) ⟨rfl,g,sg⟩) ?_)
  .refine fun y=>pr3 fun r na=>pr3 fun nb out=>Prod.rec fun ac bc F _ J=>?_;rintro⟨z,g,sg⟩;cases z;obtain⟨hP,h1,h2,h3,h4,h5⟩:=g;dsimp only at hP h1 h2 h3 h4 h5 ⊢;refine Az (U _ _ _ (by omega) fun p ep hp=>Az (Y _ _ _ (by omega) fun q eq hq=>Az (pA hc (sg.kind.trans hk) hp hq ?_)));dsimp only;refine aS (fun Z=>?_) fun Z=>?_
   .have Z:=Ig Z;refine Az (Y _ _ _ (by omega) fun p' O _=>?_);obtain rfl:q=p':=Bt.inj (eq.symm.trans O);have G:=hP.pushA ua h1 eq fun y J=>AM (sG ub ep y J) (Bd Z);refine aS (fun c=>AG ⟨sg,.inl ⟨_,rfl,G.fin ua ub (.inl (eq_of_beq c))⟩⟩) fun n=>?_;have n':=iE n;exact aS (fun _=>AG ⟨sg,.inr ⟨rfl,G,by dsimp only;omega,h2,by dsimp only;omega,h4,by dsimp only;omega⟩⟩) fun _=>AG ⟨rfl,⟨G,by dsimp only;omega,h2,by dsimp only;omega,h4,by dsimp only;omega⟩,sg⟩
   .have Z:rk q<=rk p:=CI fun z=>Z (Ic z);refine Az (U _ _ _ (by omega) fun p' O _=>?_);obtain rfl:p=p':=Bt.inj (ep.symm.trans O);have G:=hP.pushB ub (by omega) ep fun y J=>AM (sG ua eq y J) Z;refine aS (fun c=>AG ⟨sg,.inl ⟨_,rfl,G.fin2 ua ub h0 (eq_of_beq c)⟩⟩) fun n=>?_;have n':=iE n;exact aS (fun _=>AG ⟨sg,.inr ⟨rfl,G,h1,by dsimp only;omega,h3,by dsimp only;omega,by dsimp only;omega⟩⟩) fun _=>AG ⟨rfl,⟨G,h1,by dsimp only;omega,h3,by dsimp only;omega,by dsimp only;omega⟩,sg⟩
  .obtain⟨z1,⟨hP,h1,h2,h3,h4,h5⟩,sg⟩:=z;exact⟨sg,.inr ⟨z1,hP,h1,h2,h3,h4,by omega⟩⟩
  .rintro⟨r,na,nb,out,ac,bc⟩ F ⟨sg,⟨r',z,hr⟩|⟨z,g⟩⟩
   .cases z;exact AG ⟨_,rfl,hr,sg⟩
   .cases z;dsimp only at g ⊢;refine Az (FH (C6 ⟨rfl,?_⟩));refine Az (CP (BO (I:=fun y c F=>c.1=none/\GHR rk a b (x+1) c.2.2.2.1 c.2.1 c.2.2.1/\Sg st F) (Q:=fun c F=>Sg st F/\((∃ r,c.1=some r/\Gd rk a b r)\/(c.1=none/\GHR rk a b (x+1) c.2.2.2.1 c.2.1 c.2.2.1))) ?_ (fun c F z=>⟨z.2.2,.inr ⟨z.1,z.2.1⟩⟩) ⟨rfl,g,sg⟩) ?_)
    .refine fun y=>pr3 fun r na=>pr3 fun nb out=>pr3 fun mg ac bc F _ J=>?_;rintro⟨z,g,sg⟩;cases z;obtain⟨hP,h1,h2,h3,h4,h5⟩:=g;dsimp only at hP h1 h2 h3 h4 h5 ⊢;refine aS (fun _=>Az (CQ ?_)) fun _=>Az (CQ ?_)
     all_goals
      refine Az (U _ _ _ (by omega) fun p ep hp=>Az (fX hc (t:=rk p+1) rfl hp (fun i hi=>gA _ (by omega)) (fun i j p q hi hj e1 e2=>lO ua (by omega) e1 e2) (by omega) (sg.kind.trans hk) fun k aI ay aw=>?_));dsimp only;have ai:=hP.runA ua aI fun x hx y J=>by
       obtain⟨m,m1,m2,m3⟩:=d8 hx;exact AM (sG ub ep y J) (Bd (aw m x m1 m2 (by rw[Eo];exact m3)))
      have rb:∀ y∈a.toList.take k,rk y<=rk p:=fun y J=>by
       obtain⟨m,m1,m2,m3⟩:=f8 J;exact F0 (ay m y m1 (by rw[Eo];exact m3))
      refine aS (fun kp=>aS (fun c=>AG ⟨⟨sg.1,sg.2,sg.3,sg.4⟩,.inl ⟨_,rfl,ai.fin ua ub (.inl (eq_of_beq c))⟩⟩) fun na=>?_) fun kz=>?_
      all_goals
       first|(have e1:=iE na;have ak:=ai;have am:1<=k:=by omega)|(have ak:=hP;have am:=h1;rw[show k=na by omega]at rb)
       refine Az (U _ _ _ (by omega) fun p' O _=>?_);obtain rfl:p=p':=Bt.inj (ep.symm.trans O);have G:=ak.pushB ub (by omega) ep rb;refine aS (fun c=>AG ⟨⟨sg.1,sg.2,sg.3,sg.4⟩,.inl ⟨_,rfl,G.fin2 ua ub h0 (eq_of_beq c)⟩⟩) fun n=>?_;have n':=iE n;refine Az (Y _ _ _ (by omega) fun q eq hq=>Az (fX hc (t:=rk q) rfl hq (fun i hi=>gB _ (by omega)) (fun i j p q hi hj e1 e2=>lO ub (by omega) e1 e2) (by omega) (sg.kind.trans hk) fun k2 aC aL av=>?_));dsimp only;have aa:=G.runB ub aC fun x hx y J=>by
        obtain⟨m,m1,m2,m3⟩:=d8 hx;exact AM (sG ua eq y J) (av m x m1 m2 (by rw[Eo];exact m3))
       have rd:∀ y∈b.toList.take k2,rk y<=rk q:=fun y J=>by
        obtain⟨m,m1,m2,m3⟩:=f8 J;exact Bd (aL m y m1 (by rw[Eo];exact m3))
       refine aS (fun bp=>aS (fun c=>AG ⟨⟨sg.1,sg.2,sg.3,sg.4⟩,.inl ⟨_,rfl,aa.fin2 ua ub h0 (eq_of_beq c)⟩⟩) fun nc=>aS (fun c=>AG ⟨⟨sg.1,sg.2,sg.3,sg.4⟩,.inl ⟨_,rfl,aa.fin ua ub (.inr (eq_of_beq c))⟩⟩) fun nd=>?_) fun bf=>?_
       all_goals
        first|(have e3:=iE nc;have bh:=iE nd;have al:=aa)|(have al:=G;rw[show k2=nb-1 by omega]at rd)
        refine Az (Y _ _ _ (by omega) fun q' ap _=>?_);obtain rfl:q=q':=Bt.inj (eq.symm.trans ap);have af:=al.pushA ua am eq rd;refine aS (fun c=>AG ⟨⟨sg.1,sg.2,sg.3,sg.4⟩,.inl ⟨_,rfl,af.fin ua ub (.inl (eq_of_beq c))⟩⟩) fun nd=>?_;have e4:=iE nd;exact aS (fun _=>AG ⟨⟨sg.1,sg.2,sg.3,sg.4⟩,.inr ⟨rfl,af,by dsimp only;omega,by dsimp only;omega,by dsimp only;omega,by dsimp only;omega,by dsimp only;omega⟩⟩) fun _=>AG ⟨rfl,⟨af,by dsimp only;omega,by dsimp only;omega,by dsimp only;omega,by dsimp only;omega,by dsimp only;omega⟩,sg.1,sg.2,sg.3,sg.4⟩
    .rintro⟨r,na,nb,out,mg,ac,bc⟩ F ⟨sg,⟨r',z,hr⟩|⟨z,g⟩⟩
     .cases z;exact AG ⟨_,rfl,hr,sg⟩
     .cases z;exact Az (CQ (AG ⟨rfl,g,sg.1,sg.2,sg.3,sg.4⟩))
 .obtain⟨z1,⟨hP,h1,h2,h3,h4,h5⟩,sg⟩:=z;exfalso;omega
 .rintro⟨r,na,nb,out,mg⟩ F ⟨r',z,hr,sg⟩;cases z;exact AG (h _ _ hr sg)
end
def Rn(rk:AY->Nat)(c:Array AY)(i:Nat):Nat:=(c[i]?).elim 0 rk
def AsF(g:Nat->Nat)(lo hi:Nat):Prop:=∀ i j,lo<=i->i<=j->j<hi->g i<=g j
section
variable{g g':Nat->Nat}{lo n k l:Nat}{rk:AY->Nat}{c:Array AY}
theorem AsF.step(h:AsF g lo (lo+n))(h1:1<=n)(F:g (lo+n-1)<=g (lo+n)):AsF g lo (lo+n+1):=fun i j a b d=>by
 have h1:=h i j a b;have h2:=h i (lo+n-1) a;by_cases z:j=lo+n
 .subst z;by_cases y:i=lo+n
  .subst y;exact Aj _
  .omega
 .omega
theorem AsF.one:AsF g lo (lo+1):=fun i j a b d=>by
 have:i=j:=by omega
 subst this;exact Aj _
theorem AsF.insert(h:AsF g lo (lo+k))(hl:l<=k)(h1:∀ i,i<l->g (lo+i)<=g (lo+k))(h2:∀ i,l<=i->i<k->g (lo+k)<g (lo+i))
  (F:∀ i,g' i=if i=lo+l then g (lo+k) else if lo+l<i/\i<=lo+k then g (i-1) else g i):AsF g' lo (lo+k+1):=fun i j a b d=>by
 have a1:=h i j a b;have a2:=h (i-1) (j-1);have a3:=h i (j-1) a;have a4:=h1 (i-lo);have a5:=h2 (j-1-lo);rw[Ca a]at a4;have e:lo<j->lo+(j-1-lo)=j-1:=fun _=>by omega
 rw[F i,F j];by_cases z:lo<j
 .rw[e z]at a5
  repeat' split
  all_goals omega
 .repeat' split
  all_goals first|omega|(have:i=j:=by omega;subst this;exact Aj _)
theorem Rn.at{i:Nat}{p:AY}(e:c[i]?=some p):Rn rk c i=rk p:=by unfold Rn;rw[e];rfl
theorem p8{i j:Nat}(F:j<=c.size)(k:Nat):Rn rk (mirror c i j ((j-i)/2)) k=if i<=k/\k<j then Rn rk c (i+j-1-k) else Rn rk c k:=by
 unfold Rn;rw[getElem?_mirror_all F];split<;>rfl
theorem kK{i j v:Nat}(F:j<=c.size)(h:∀ m,i<=m->m<j->Rn rk c m=v):Rn rk (mirror c i j ((j-i)/2))=Rn rk c:=by
 funext k;rw[p8 F];split
 .rename_i z;rw[h (i+j-1-k) (by omega) (by omega),h k z.1 z.2]
 .rfl
end
structure SmG(lo:Nat)(st st':Bn):Prop where
 sm:Sm st st'
 low:∀ i,i<lo->(arrOf st')[i]?=(arrOf st)[i]?
theorem SmG.refl{lo:Nat}(st:Bn):SmG lo st st:=⟨Sm.refl _,fun _ _=>rfl⟩
theorem SmG.trans{lo:Nat}{st G F:Bn}(a:SmG lo st G)(b:SmG lo G F):SmG lo st F:=⟨a.1.trans b.1,fun i hi=>(b.2 i hi).trans (a.2 i hi)⟩
theorem SmG.rev{lo:Nat}(st:Bn){i j:Nat}(hi:lo<=i)(F:j<=(arrOf st).size):SmG lo st (setArr st (mirror (arrOf st) i j ((j-i)/2))):=
 ⟨Sm.rev _ _ _ _,fun k G=>by
  show(mirror (arrOf st) i j ((j-i)/2))[k]?=_;rw[getElem?_mirror_all F,Ia (by omega)]⟩
section
variable{κ:Cs}{it:Array AY}{rk:AY->Nat}
theorem lP{st:Bn}{i j:Nat}{Q:Unit->Bn->Prop}(h:Q () (setArr st (mirror (arrOf st) i j ((j-i)/2)))):wpS (model prog w) A E s (reverseSlice' i j) Q st:=by
 rw[reverseSlice'_eq];exact CQ h
variable(hc:uG prog w A s κ it rk)
include hc
theorem j4{st:Bn}{i j:Nat}{Q:Option Bool->Bn->Prop}(g:GS κ it st)(hi:i<it.size)(F:j<it.size)(h:Q (some (decide (Rn rk (arrOf st) i<Rn rk (arrOf st) j))) st):wpS (model prog w) A E s (ltAt' i j) Q st:=by
 obtain⟨p,e1,hp⟩:=g.get hi;obtain⟨q,e2,hq⟩:=g.get F;rw[ltAt'_eq];rw[Rn.at e1,Rn.at e2]at h;exact Az (EC (Az (d7 e1 (Az (d7 e2 (pA hc g.kind hp hq h))))))
theorem aB2{lo O : Nat}{st : Bn}{Q : Option Nat -> Bn -> Prop}(g : GS κ it st)(h1 : 1 <= O)(hz : lo+O <= it.size)(h : ∀ n F, 1 <= n -> n <= O -> SmG lo st F -> AsF (Rn rk (arrOf F)) lo (lo+n) -> Q (some n) F) : wpS (model prog w) A E s (countRun' lo O) Q st := by
  have ae : ∀(n0 : Nat) (U : Bn) (Q' : Option (Option Nat)×Nat -> Bn -> Prop), GS κ it U -> 1 <= n0 -> n0 <= O -> AsF (Rn rk (arrOf U)) lo (lo+n0) -> (∀ n, n0 <= n -> n <= O -> AsF (Rn rk (arrOf U)) lo (lo+n) -> (n = O \/ Rn rk (arrOf U) (lo+n)<Rn rk (arrOf U) (lo+n-1)) -> Q' (none, n) U) -> wpS (model prog w) A E s (forIn [n0:O] (none, n0) fun _ c => do
      let r <- ltAt' (lo+c.2) (lo+c.2-1)
      match r with
      | some b => if b = true then pure (ForInStep.done (none, c.2)) else pure (Ct (none, c.2+1))
      | _ => pure (ForInStep.done (some none, c.2))) Q' U := fun n0 U Q' g0 be ag as q => by
    refine CP (BO (I := fun x c F => F = U /\ c = (none, x) /\ AsF (Rn rk (arrOf U)) lo (lo+x)) (Q := fun c F => F = U /\ ∃ n, c = (none, n) /\ n0 <= n /\ n <= O /\ AsF (Rn rk (arrOf U)) lo (lo+n) /\ (n = O \/ Rn rk (arrOf U) (lo+n)<Rn rk (arrOf U) (lo+n-1))) ?_ (fun c F z => ?_) ⟨rfl, rfl, as⟩) fun c F z => ?_
    . rintro x c F ar ax ⟨rfl, rfl, as⟩
      refine Az (j4 hc g0 (by dsimp only;omega) (by dsimp only;omega) ?_);dsimp only;refine aS (fun cw => AG ⟨rfl, _, rfl, ar, by omega, as, .inr (Ig cw)⟩) fun cw => AG ⟨rfl, rfl, as.step (by omega) ?_⟩;exact CI fun z => cw (Ic z)
    . obtain⟨z1, z2, z3⟩ := z
      rw[D8 ag]at z2 z3;exact⟨z1, _, z2, ag, Aj _, z3, .inl rfl⟩
    . obtain⟨rfl, n, rfl, z1, z2, z3, z4⟩ := z
      exact q n z1 z2 z3 z4
  have ba : (arrOf st).size = it.size := g.perm.size_eq;rw[countRun'_eq];refine Az (ae 1 st _ g (Aj _) h1 AsF.one fun n ag au as aq => ?_);dsimp only;refine aS (fun _ => AG (h n st ag au (SmG.refl _) as)) fun ne => ?_;have aI := iE ne;have aw : Rn rk (arrOf st) (lo+n)<Rn rk (arrOf st) (lo+n-1) := aq.resolve_left aI;generalize hG : Rn rk (arrOf st) = G at as aw;refine aS (fun c1 => Az (j4 hc g (by omega) (by omega) (aS (fun _ => AG (h n st ag au (SmG.refl _) (by rw[hG];exact as))) fun c2 => Az (lP ?_)))) fun c1 => ?_
  all_goals
    first
    | (have c2 : G (lo+n-1) <= G lo := by
        rw[hG]at c2;exact CI fun z => c2 (Ic z)
       have eq : ∀ i, lo <= i -> i<lo+n -> G i = G lo := fun i a b => by
        have := as lo i (Aj _) a b;have := as i (lo+n-1) a (by omega) (by omega);omega
       have m1 : SmG lo st (setArr st (mirror (arrOf st) lo (lo+n) ((lo+n-lo)/2))) := SmG.rev st (Aj _) (by omega);have ak : Rn rk (arrOf (setArr st (mirror (arrOf st) lo (lo+n) ((lo+n-lo)/2)))) = G := (kK (by omega) (v := G lo) fun m a b => by rw[hG];exact eq m a b).trans hG;generalize setArr st (mirror (arrOf st) lo (lo+n) ((lo+n-lo)/2)) = bf at m1 ak ⊢)
    | (have eq : ∀ i, lo <= i -> i<lo+n -> G i = G lo := fun i a b => by rw[show i = lo by omega]
       have m1 := SmG.refl (lo := lo) st;have ak := hG)
    refine Az (FH (C6 ⟨rfl, ?_⟩));refine Az (CP (BO (I := fun x c F => c.1 = none /\ c.2.1 = x /\ SmG lo st F /\ Rn rk (arrOf F) = G /\ (∀ i j, lo <= i -> i <= j -> j<lo+x -> G j <= G i) /\ c.2.2+1 <= x /\ ∀ i, lo+x <= i+(c.2.2+1) -> i<lo+x -> G i = G (lo+x-1)) (Q := fun c F => c.1 = none /\ 1 <= c.2.1 /\ c.2.1 <= O /\ SmG lo st F /\ Rn rk (arrOf F) = G /\ (∀ i j, lo <= i -> i <= j -> j<lo+c.2.1 -> G j <= G i) /\ c.2.2+1 <= c.2.1 /\ ∀ i, lo+c.2.1 <= i+(c.2.2+1) -> i<lo+c.2.1 -> G i = G (lo+c.2.1-1)) ?_ (fun c F z => ?_) ⟨rfl, rfl, m1, ak, fun i j a b d => ?_, by dsimp only;omega, fun i a b => ?_⟩) ?_)
    . rintro x ⟨r, J, q⟩ F ar ax ⟨z1, z2, m2, Z, hd, hq, he⟩
      dsimp only at z1 z2 hq he ⊢;subst z1 z2;refine Az (j4 hc (g.on m2.1) (by omega) (by omega) ?_);rw[Z];dsimp only;have new : G (lo+J) <= G (lo+J-1) -> ∀ i j, lo <= i -> i <= j -> j<lo+(J+1) -> G j <= G i := fun hg i j a b d => by
        have h1 := hd i j a b;have h2 := hd i (lo+J-1) a;by_cases z : j = lo+J
        . subst z
          by_cases y : i = lo+J
          . subst y;exact Aj _
          . omega
        . omega
      refine aS (fun cw => ?_) fun cw => ?_
      . have cw := Ig cw
        have last : ∀ i, lo+(J+1) <= i+(0+1) -> i<lo+(J+1) -> G i = G (lo+(J+1)-1) := fun i a b => by rw[show i = lo+(J+1)-1 by omega]
        refine aS (fun _ => Az (lP (AG ⟨rfl, rfl, m2.trans (SmG.rev F (by omega) ?_), ?_, new (Bd cw), by dsimp only;omega, last⟩))) fun _ => AG ⟨rfl, rfl, m2, Z, new (Bd cw), by dsimp only;omega, last⟩
        . rw[(g.on m2.1).perm.size_eq];omega
        . refine(kK ?_ (v := G (lo+J-1)) fun m a b => ?_).trans Z
          . rw[(g.on m2.1).perm.size_eq];omega
          . rw[Z];exact he m (by omega) b
      . have cw : G (lo+J-1) <= G (lo+J) := CI fun z => cw (Ic z)
        refine Az (j4 hc (g.on m2.1) (by omega) (by omega) ?_);rw[Z];dsimp only;refine aS (fun _ => AG ⟨rfl, by dsimp only;omega, by dsimp only;omega, m2, Z, hd, hq, he⟩) fun cv => AG ⟨rfl, rfl, m2, Z, ?_, by dsimp only;omega, fun i a b => ?_⟩
        all_goals
          have cv : G (lo+J) <= G (lo+J-1) := CI fun z => cv (Ic z)
        . exact new cv
        . dsimp only at a b
          rw[show lo+(J+1)-1 = lo+J by omega];by_cases z : i = lo+J
          . rw[z]
          . have := he i (by omega) (by omega)
            omega
    . obtain⟨z1, z2, z3, z4, z5, z6, z7⟩ := z
      rw[D8 (by omega)]at z2 z5 z6 z7;subst z2;exact⟨z1, by omega, Aj _, z3, z4, z5, z6, z7⟩
    . have e1 := eq i a
      have e2 := eq j (by omega);by_cases z : j = lo+n
      . subst z
        by_cases y : i = lo+n
        . subst y;exact Aj _
        . have := eq (lo+n-1) (by omega) (by omega)
          omega
      . omega
    . rw[show i = lo+(n+1)-1 by dsimp only at a;omega]
    . rintro⟨r, J, q⟩ F ⟨z1, z2, z3, m2, Z, hd, hq, he⟩
      dsimp only at z1 z2 z3 hd hq he ⊢;subst z1;have bd := (g.on m2.1).perm.size_eq;have fin : ∀ Y : Bn, SmG lo st Y -> Rn rk (arrOf Y) = G -> SmG lo st (setArr Y (mirror (arrOf Y) lo (lo+J) ((lo+J-lo)/2))) /\ AsF (Rn rk (arrOf (setArr Y (mirror (arrOf Y) lo (lo+J) ((lo+J-lo)/2))))) lo (lo+J) := fun Y k2 e2 => by
        have bc : (arrOf Y).size = it.size := (g.on k2.1).perm.size_eq;refine⟨k2.trans (SmG.rev Y (Aj _) (by omega)), fun i j a b d => ?_⟩;show Rn rk (mirror (arrOf Y) lo (lo+J) ((lo+J-lo)/2)) i <= Rn rk (mirror (arrOf Y) lo (lo+J) ((lo+J-lo)/2)) j;rw[p8 (by omega), p8 (by omega), Ib (by omega), Ib (by omega), e2];exact hd _ _ (by omega) (by omega) (by omega)
      refine aS (fun _ => Az (lP (Az (lP ?_)))) fun _ => Az (lP ?_)
      . obtain⟨k1, k2⟩ := fin (setArr F (mirror (arrOf F) (lo+J-(q+1)) (lo+J) ((lo+J-(lo+J-(q+1)))/2))) (m2.trans (SmG.rev F (by omega) (by omega))) ((kK (by omega) (v := G (lo+J-1)) fun m a b => by rw[Z];exact he m (by omega) b).trans Z)
        exact Az (ae J _ _ (g.on k1.1) z2 z3 k2 fun al a1 a2 a3 _ => AG (h al _ (by omega) a2 k1 a3))
      . obtain⟨k1, k2⟩ := fin F m2 Z
        exact Az (ae J _ _ (g.on k1.1) z2 z3 k2 fun al a1 a2 a3 _ => AG (h al _ (by omega) a2 k1 a3))
theorem aAx{lo n ok:Nat}{st:Bn}{Q:Bool->Bn->Prop}(g:GS κ it st)(h1:1<=ok)(h2:ok<=n)(hz:lo+n<=it.size)(as:AsF (Rn rk (arrOf st)) lo (lo+ok))(h:∀ F,SmG lo st F->AsF (Rn rk (arrOf F)) lo (lo+n)->Q true F):wpS (model prog w) A E s (binarySort' lo n ok) Q st:=by
 rw[binarySort'_eq];refine Az (CP (BO (I:=fun x c F=>c.1=none/\SmG lo st F/\AsF (Rn rk (arrOf F)) lo (lo+x)) (Q:=fun c F=>c.1=none/\SmG lo st F/\AsF (Rn rk (arrOf F)) lo (lo+n)) ?_ (fun c F z=>?_) ⟨rfl,SmG.refl _,by rw[Nat.max_eq_left h1];exact as⟩) ?_)
 .rintro k ⟨r,u⟩ F af ae ⟨J,m,as⟩;dsimp only at J ⊢;subst J;have sz:(arrOf F).size=it.size:=(g.on m.1).perm.size_eq;refine Az (CP (BO (I:=fun x c G=>c.1=none/\c.2.1<=c.2.2/\c.2.2<=k/\c.2.2+x<=c.2.1+k/\(∀ i,i<c.2.1->Rn rk (arrOf F) (lo+i)<=Rn rk (arrOf F) (lo+k))/\(∀ i,c.2.2<=i->i<k->Rn rk (arrOf F) (lo+k)<Rn rk (arrOf F) (lo+i))/\G=F) (Q:=fun c G=>c.1=none/\c.2.1<=k/\(∀ i,i<c.2.1->Rn rk (arrOf F) (lo+i)<=Rn rk (arrOf F) (lo+k))/\(∀ i,c.2.1<=i->i<k->Rn rk (arrOf F) (lo+k)<Rn rk (arrOf F) (lo+i))/\G=F) ?_ (fun c F z=>?_) ⟨rfl,AV _,Aj _,by dsimp only;omega,fun i hi=>by dsimp only at hi;omega,fun i a b=>by dsimp only at a;omega,rfl⟩) ?_)
  .rintro x ⟨r,l,q⟩ G _ hx ⟨J,Z,z3,z4,U,O,rfl⟩;dsimp only at J Z z3 z4 U O ⊢;subst J;refine aS (fun c=>AG ⟨rfl,by dsimp only;omega,U,fun i a b=>O i (by dsimp only at a;omega) b,rfl⟩) fun ag=>?_;refine Az (j4 hc (g.on m.1) (by omega) (by omega) ?_);dsimp only;refine aS (fun Y=>AG ⟨rfl,by dsimp only;omega,by dsimp only;omega,by dsimp only;omega,U,fun i a b=>?_,rfl⟩) fun Y=>AG ⟨rfl,by dsimp only;omega,by dsimp only;omega,by dsimp only;omega,fun i a=>?_,O,rfl⟩
   .have Y:=Ig Y;dsimp only at a;exact AE Y (as _ _ (by omega) (by omega) (by omega))
   .have Y:Rn rk (arrOf G) (lo+(l+q)/2)<=Rn rk (arrOf G) (lo+k):=CI fun z=>Y (Ic z);dsimp only at a;exact AM (as _ _ (by omega) (by omega) (by omega)) Y
  .obtain⟨J,Z,z3,z4,U,O,z7⟩:=z;exact⟨J,by omega,U,fun i a b=>O i (by omega) b,z7⟩
  .rintro⟨r,l,q⟩ G ⟨J,Z,U,O,rfl⟩;dsimp only at J Z U O ⊢;subst J;refine Az ?_;rw[moveDown'_eq];have hb:=fun i=>getElem?_bubble (xs:=arrOf G) (src:=lo+k) (by omega) (lo+k-(lo+l)) (by omega) i;refine CQ (AG ⟨rfl,m.trans ⟨Sm.bub _ _ _,fun i hi=>?_⟩,?_⟩)
   .show(bubble (arrOf G) (lo+k) (lo+k-(lo+l)))[i]?=_;rw[hb,Ia (by omega),Ia (by omega)]
   .refine AsF.insert (g:=Rn rk (arrOf G)) (l:=l) (k:=k) as Z U O fun i=>?_;show Rn rk (bubble (arrOf G) (lo+k) (lo+k-(lo+l))) i=_;unfold Rn;rw[hb,show lo+k-(lo+k-(lo+l))=lo+l by omega]
    repeat' split
    all_goals rfl
 .obtain⟨J,Z,z3⟩:=z;rw[D8 (by omega)]at z3;exact⟨J,Z,z3⟩
 .rintro⟨r,u⟩ F ⟨J,m,as⟩;dsimp only at J ⊢;subst J;exact AG (h F m as)
end
def c7(g:Nat->Nat):List (Nat×Nat×Nat)->Nat->Nat->Prop
 | [],a,b=>a=b
 | r::l,a,b=>r.1=a/\1<=r.2.1/\AsF g a (a+r.2.1)/\c7 g l (a+r.2.1) b
section
variable{g g':Nat->Nat}
theorem AsF.congr{lo hi:Nat}(e:∀ i,lo<=i->i<hi->g' i=g i)(h:AsF g lo hi):AsF g' lo hi:=fun i j a b d=>by
 rw[e i a (by omega),e j (by omega) d];exact h i j a b d
theorem AsF.join{lo F hi:Nat}(h1:AsF g lo F)(h2:AsF g F hi)(hm:lo<F)(G:g (F-1)<=g F):AsF g lo hi:=fun i j a b d=>by
 have a1:=h1 i j a b;have a2:=h2 i j;have a3:=h1 i (F-1) a;have a4:=h2 F j (Aj _);omega
theorem c7.le:∀{l:List (Nat×Nat×Nat)}{a b:Nat},c7 g l a b->a<=b
 | [],a,b,h=>DX h
 | r::l,a,b,h=>by have:=c7.le h.2.2.2;omega
theorem c7.congr:∀{l:List (Nat×Nat×Nat)}{a b:Nat},(∀ i,a<=i->i<b->g' i=g i)->c7 g l a b->c7 g' l a b
 | [],a,b,e,h=>h
 | r::l,a,b,e,h=>by
  have:=c7.le h.2.2.2;exact⟨h.1,h.2.1,h.2.2.1.congr fun i x y=>e i x (by omega),c7.congr (fun i x y=>e i (by omega) y) h.2.2.2⟩
theorem c7.long:∀{l:List (Nat×Nat×Nat)}{a b:Nat},c7 g l a b->a+l.length<=b
 | [],a,b,h=>DX h
 | r::l,a,b,h=>by
  have:=c7.long h.2.2.2;have:=h.2.1;rw[AQ];omega
theorem c7.snoc{n x:Nat}(hn:1<=n):∀{l:List (Nat×Nat×Nat)}{a b:Nat},AsF g b (b+n)->c7 g l a b->c7 g (l++[(b,n,x)]) a (b+n)
 | [],a,b,s,h=>by
  obtain rfl:a=b:=h;exact⟨rfl,hn,s,rfl⟩
 | r::l,a,b,s,h=>⟨h.1,h.2.1,h.2.2.1,c7.snoc hn s h.2.2.2⟩
theorem c7.mod{f:Nat×Nat×Nat->Nat×Nat×Nat}(hf:∀ r,(f r).1=r.1/\(f r).2.1=r.2.1):∀{l:List (Nat×Nat×Nat)}{a b:Nat} (i:Nat),c7 g l a b->c7 g (l.modify i f) a b
 | [],a,b,i,h=>by rw[List.modify_nil];exact h
 | r::l,a,b,0,h=>by
  rw[List.modify_zero_cons];exact⟨(hf r).1.trans h.1,by rw[(hf r).2];exact h.2.1,by rw[(hf r).2];exact h.2.2.1,by rw[(hf r).2];exact h.2.2.2⟩
 | r::l,a,b,i+1,h=>by
  rw[List.modify_succ_cons];exact⟨h.1,h.2.1,h.2.2.1,c7.mod hf i h.2.2.2⟩
theorem c7.two{sa na pw G nb pv:Nat}:∀{l:List (Nat×Nat×Nat)}{a b:Nat} (i:Nat),c7 g l a b->l[i]?=some (sa,na,pw)->l[i+1]?=some (G,nb,pv)->
  sa+na=G/\1<=na/\1<=nb/\G+nb<=b/\a<=sa/\AsF g sa G/\AsF g G (G+nb)/\∀ g':Nat->Nat,(∀ i,i<sa->g' i=g i)->(∀ i,G+nb<=i->i<b->g' i=g i)->AsF g' sa (G+nb)->c7 g' ((l.set i (sa,na+nb,pw)).eraseIdx (i+1)) a b
 | [],a,b,i,h,e1,F=>by simp at e1
 | [r],a,b,0,h,e1,F=>by simp at F
 | r::J::l,a,b,0,h,e1,F=>by
  simp at e1 F;subst e1 F;obtain⟨h1,h2,h3,h4,h5,h6,h7⟩:=h;dsimp only at h1 h2 h3 h4 h5 h6 h7;subst h1;have:=h7.le;subst h4;refine⟨rfl,h2,h5,by omega,Aj _,h3,h6,fun g' e1 F s=>⟨rfl,by dsimp only;omega,?_,?_⟩⟩
  .dsimp only;rw[<- GQ];exact s
  .dsimp only;rw[<- GQ];exact h7.congr F
 | r::l,a,b,i+1,h,e1,F=>by
  obtain⟨x1,x2,x3,x4,x5,x6,x7,x8⟩:=c7.two i h.2.2.2 (by simpa using e1) (by simpa using F);exact⟨x1,x2,x3,x4,by omega,x6,x7,fun g' e1 F s=>⟨h.1,h.2.1,h.2.2.1.congr fun j a b=>e1 j (by omega),x8 g' e1 F s⟩⟩
end
section
variable{rk:AY->Nat}{c c':Array AY}
theorem aIC{m:Nat}{o:List AY}(F:m+o.length<=c.size)(e:c'.toList=c.toList.take m++(o++c.toList.drop (m+o.length))):
  (∀ i,i<m->Rn rk c' i=Rn rk c i)/\(∀ i,m<=i->(h:i-m<o.length)->Rn rk c' i=rk o[i-m])/\∀ i,m+o.length<=i->Rn rk c' i=Rn rk c i:=by
 have hl:(c.toList.take m).length=m:=by rw[Bm,AN];omega
 refine⟨fun i hi=>?_,fun i hi hn=>?_,fun i hi=>?_⟩<;>unfold Rn<;>rw[<- AS,e]
 .rw[B6 (by omega),Es,Ib hi,AS]
 .rw[BL (by omega),hl,B6 hn,Ae hn];rfl
 .rw[BL (by omega),hl,BL (by omega),DN,AS];congr 2;omega
theorem aB3{lo hi:Nat}(h:AsF (Rn rk c) lo hi)(U:hi<=c.size):UpL rk (c.extract lo hi).toList:=by
 refine Bc.mpr fun i j G F O=>?_;have hs:(c.extract lo hi).toList.length=hi-lo:=by rw[AN,Fy];omega
 have J:∀ m,(hm:m<(c.extract lo hi).toList.length)->rk (c.extract lo hi).toList[m]=Rn rk c (lo+m):=fun m hm=>by
  have e:c[lo+m]?=some (c.extract lo hi).toList[m]:=by
   rw[<- Ae hm];rw[cP,Es,Ib (by omega),DN,AS]
  rw[Rn.at e]
 rw[J i G,J j F];exact h _ _ (by omega) (by omega) (by omega)
end
section
variable{κ:Cs}{it:Array AY}{rk:AY->Nat}(hc:uG prog w A s κ it rk)
include hc
theorem pB{i lo:Nat}{st:Bn}{Q:Bool->Bn->Prop}(g:GS κ it st)(hs:c7 (Rn rk (arrOf st)) (pendingOf st).toList 0 lo)(bo:lo<=it.size)(hi:i+1<(pendingOf st).size)
  (h:∀ F,GS κ it F->c7 (Rn rk (arrOf F)) (pendingOf F).toList 0 lo->(∀ i,lo<=i->Rn rk (arrOf F) i=Rn rk (arrOf st) i)->(pendingOf F).size+1=(pendingOf st).size->Q true F):
  wpS (model prog w) A E s (mergeAt' i) Q st:=by
 obtain⟨⟨sa,na,pw⟩,ea⟩:∃ r,(pendingOf st)[i]?=some r:=⟨_,A3 (by omega)⟩
 obtain⟨⟨sb,nb,pv⟩,eb⟩:∃ r,(pendingOf st)[i+1]?=some r:=⟨_,A3 hi⟩
 have ax:(pendingOf st).toList[i]?=some (sa,na,pw):=by rw[AS];exact ea
 have aw:(pendingOf st).toList[i+1]?=some (sb,nb,pv):=by rw[AS];exact eb
 obtain⟨x1,x2,x3,x4,x0,s1,s2,x5⟩:=c7.two i hs ax aw;have am:(((pendingOf st).setIfInBounds i (sa,na+nb,pw)).eraseIdxIfInBounds (i+1)).toList=((pendingOf st).toList.set i (sa,na+nb,pw)).eraseIdx (i+1):=by simp
 have aq:(((pendingOf st).setIfInBounds i (sa,na+nb,pw)).eraseIdxIfInBounds (i+1)).size+1=(pendingOf st).size:=by
  rw[<- AN,am,Er (by rw[Gf,AN];exact hi),Gf,AN];omega
 have hz:(arrOf st).size=it.size:=g.perm.size_eq;refine Az (EC ?_);rw[ea,eb];dsimp only;refine Az (aHi ?_);have U:∀ j,j<it.size->∃ p,(arrOf st)[j]?=some p/\p∈it.toList:=fun j hj=>g.get hj;have fin:∀(F:Bn),Sg (setPending st (((pendingOf st).setIfInBounds i (sa,na+nb,pw)).eraseIdxIfInBounds (i+1))) F->∀ c:Array AY,c.Perm (arrOf st)->(∀ i,i<sa->Rn rk c i=Rn rk (arrOf st) i)->(∀ i,sb+nb<=i->Rn rk c i=Rn rk (arrOf st) i)->AsF (Rn rk c) sa (sb+nb)->Q true (setArr F c):=fun F sg c hp k1 G k3=>
  h _ ⟨sg.kind.trans g.kind,hp.trans g.perm,sg.fail.trans g.fail⟩ (by show c7 (Rn rk c) (pendingOf F).toList 0 lo;rw[sg.pend];show c7 (Rn rk c) (((pendingOf st).setIfInBounds i (sa,na+nb,pw)).eraseIdxIfInBounds (i+1)).toList 0 lo;rw[am];exact x5 _ k1 (fun i a _=>G i a) k3) (fun i hi=>G i (by omega)) (by show(pendingOf F).size+1=_;rw[sg.pend];exact aq)
 have O:Rn rk (arrOf st) (sb-1)<=Rn rk (arrOf st) sb->Q true (setPending st (((pendingOf st).setIfInBounds i (sa,na+nb,pw)).eraseIdxIfInBounds (i+1))):=fun k=>fin _ (Sg.refl _) _ (Dq _) (fun _ _=>rfl) (fun _ _=>rfl) (s1.join s2 (by omega) k);obtain⟨p1,e1,i1⟩:=U sb (by omega);refine Az (d7 e1 (Az (fX hc (t:=rk p1+1) rfl i1 (fun j hj=>U _ (by omega)) (fun i j p q a b e1 e2=>by rw[<- Rn.at (rk:=rk) e1,<- Rn.at (rk:=rk) e2];exact s1 _ _ (by omega) (by omega) (by omega)) (by omega) g.kind fun k hk av au=>?_)));dsimp only;have q1:∀ j,sa<=j->j<sa+k->Rn rk (arrOf st) j<=Rn rk (arrOf st) sb:=fun j a b=>by
  obtain⟨p,e,_⟩:=U j (by omega);rw[Rn.at e,Rn.at e1];exact F0 (av (j-sa) p (by omega) (by rw[Ca a];exact e))
 have q2:∀ j,sa+k<=j->j<sb->Rn rk (arrOf st) sb<Rn rk (arrOf st) j:=fun j a b=>by
  obtain⟨p,e,_⟩:=U j (by omega);rw[Rn.at e,Rn.at e1];exact au (j-sa) p (by omega) (by omega) (by rw[Ca (by omega)];exact e)
 refine aS (fun c=>AG (O (q1 _ (by omega) (by have:=eq_of_beq c;omega)))) fun n0=>?_;have br:=iE n0;obtain⟨p2,e2,i2⟩:=U (sa+k+(na-k)-1) (by omega);have aj:(arrOf st)[sb-1]?=some p2:=by rw[show sb-1=sa+k+(na-k)-1 by omega];exact e2
 refine Az (d7 e2 (Az (fX hc (t:=rk p2) rfl i2 (fun j hj=>U _ (by omega)) (fun i j p q a b e1 e2=>by rw[<- Rn.at (rk:=rk) e1,<- Rn.at (rk:=rk) e2];exact s2 _ _ (by omega) (by omega) (by omega)) (by omega) g.kind fun G bq ay ar=>?_)));dsimp only;have q3:∀ j,sb<=j->j<sb+G->Rn rk (arrOf st) j<Rn rk (arrOf st) (sb-1):=fun j a b=>by
  obtain⟨p,e,_⟩:=U j (by omega);rw[Rn.at e,Rn.at aj];exact ay (j-sb) p (by omega) (by rw[Ca a];exact e)
 have q4:∀ j,sb+G<=j->j<sb+nb->Rn rk (arrOf st) (sb-1)<=Rn rk (arrOf st) j:=fun j a b=>by
  obtain⟨p,e,_⟩:=U j (by omega);rw[Rn.at e,Rn.at aj];exact ar (j-sb) p (by omega) (by omega) (by rw[Ca (by omega)];exact e)
 refine aS (fun c=>AG (O (q4 _ (by have:=eq_of_beq c;omega) (by omega)))) fun n1=>?_;have bp:=iE n1;have ah:∀ q∈((arrOf st).extract (sa+k) sb).toList,q∈it.toList:=fun q hq=>by
  rw[cP]at hq;exact(A7.mp g.perm).mem_iff.mp (Eg (Ef hq))
 have ai:∀ q∈((arrOf st).extract sb (sb+G)).toList,q∈it.toList:=fun q hq=>by
  rw[cP]at hq;exact(A7.mp g.perm).mem_iff.mp (Eg (Ef hq))
 have sX:((arrOf st).extract (sa+k) sb).size=sb-(sa+k):=by rw[Fy];omega
 have sY:((arrOf st).extract sb (sb+G)).size=G:=by rw[Fy];omega
 have af:1<=((arrOf st).extract (sa+k) sb).size:=by rw[sX];omega
 have ak:1<=((arrOf st).extract sb (sb+G)).size:=by rw[sY];omega
 have uX:UpL rk ((arrOf st).extract (sa+k) sb).toList:=aB3 (fun i j a b d=>s1 i j (by omega) b d) (by omega);have uY:UpL rk ((arrOf st).extract sb (sb+G)).toList:=aB3 (fun i j a b d=>s2 i j a b (by omega)) (by omega);have gX:∀ j,j<sb-(sa+k)->((arrOf st).extract (sa+k) sb)[j]?=(arrOf st)[sa+k+j]?:=fun j hj=>by
  rw[<- AS,cP,Es,Ib hj,DN,AS]
 have gY:∀ j,j<G->((arrOf st).extract sb (sb+G))[j]?=(arrOf st)[sb+j]?:=fun j hj=>by
  rw[<- AS,cP,Es,Ib (by omega),DN,AS]
 have h0:∀ x y,((arrOf st).extract sb (sb+G))[0]?=some x->((arrOf st).extract (sa+k) sb)[0]?=some y->rk x<=rk y:=fun x y ex ey=>by
  rw[gY 0 (by omega),Ep]at ex;rw[gX 0 (by omega),Ep]at ey;rw[<- Rn.at (rk:=rk) ex,<- Rn.at (rk:=rk) ey];exact Bd (q2 _ (Aj _) (by omega))
 have hl:∀ x∈((arrOf st).extract sb (sb+G)).toList,∀ y,((arrOf st).extract (sa+k) sb)[((arrOf st).extract (sa+k) sb).size-1]?=some y->rk x<=rk y:=fun x hx y ey=>by
  obtain⟨m,m1,m2,m3⟩:=d8 hx;rw[sX,gX _ (by omega),show sa+k+(sb-(sa+k)-1)=sb-1 by omega]at ey;rw[<- Rn.at (rk:=rk) m3,<- Rn.at (rk:=rk) ey];exact Bd (q3 _ m1 m2)
 have fin2:∀(out:Array AY) (F:Bn),Gd rk ((arrOf st).extract (sa+k) sb) ((arrOf st).extract sb (sb+G)) out->Sg (setPending st (((pendingOf st).setIfInBounds i (sa,na+nb,pw)).eraseIdxIfInBounds (i+1))) F->
   Q (failedOf (setArr F (out.toList.zipIdx.foldl (fun a q=>a.setIfInBounds (sa+k+q.2) q.1) (arrOf F)))).isNone (setArr F (out.toList.zipIdx.foldl (fun a q=>a.setIfInBounds (sa+k+q.2) q.1) (arrOf F))):=fun out F Y sg=>by
  have hf:(failedOf (setArr F (out.toList.zipIdx.foldl (fun a q=>a.setIfInBounds (sa+k+q.2) q.1) (arrOf F)))).isNone=true:=by
   show(failedOf F).isNone=true;rw[sg.fail.trans g.fail];rfl
  rw[hf];have bb:out.toList.length=sb+G-(sa+k):=by
   rw[AN,Y.pm.size_eq,Array.size_append,sX,sY];omega
  have be:(arrOf F).size=it.size:=by rw[sg.arr];exact hz
  obtain⟨r1,r2,r3⟩:=aIC (rk:=rk) (c:=arrOf st) (m:=sa+k) (o:=out.toList) (c':=out.toList.zipIdx.foldl (fun a q=>a.setIfInBounds (sa+k+q.2) q.1) (arrOf F)) (by omega) (by
   rcases yV out.toList 0 (sa+k) (arrOf F)with e|e
   .rw[Ep]at e;rw[e,sg.arr]
   .omega)
  have ag:∀ j,sa+k<=j->j<sb+G->∃ m,sa+k<=m/\m<sb+G/\Rn rk (out.toList.zipIdx.foldl (fun a q=>a.setIfInBounds (sa+k+q.2) q.1) (arrOf F)) j=Rn rk (arrOf st) m:=fun j a b=>by
   rw[r2 j a (by omega)];have hm:out.toList[j-(sa+k)]'(by omega)∈out.toList:=A2 _;have hm:=(A7.mp Y.pm).mem_iff.mp hm;rw[Au]at hm;rcases AK.mp hm with hm|hm
   .obtain⟨m,m1,m2,m3⟩:=d8 hm;exact⟨m,m1,by omega,(Rn.at m3).symm⟩
   .obtain⟨m,m1,m2,m3⟩:=d8 hm;exact⟨m,by omega,m2,(Rn.at m3).symm⟩
  refine fin F sg _ ?_ (fun i hi=>r1 i (by omega)) (fun i hi=>r3 i (by omega)) fun i j a b d=>?_
  .rw[sg.arr];refine aFK (n:=na-k+G) ?_ (by show _<=(arrOf st).size;omega);refine(A7.mp Y.pm).trans ?_;rw[Au,cP,cP];have e3:(arrOf st).toList.drop sb=((arrOf st).toList.drop (sa+k)).drop (na-k):=by
    rw[Et];congr 1;omega
   rw[e3,show sb-(sa+k)=na-k by omega,C8,<- List.take_add]
  .by_cases c1:j<sa+k
   .rw[r1 i (by omega),r1 j c1];exact s1 i j a b (by omega)
   .by_cases c2:sb+G<=i
    .rw[r3 i (by omega),r3 j (by omega)];exact s2 i j (by omega) b d
    .have Z:∀ m,sa+k<=m->m<sb+G->∀ i,sa<=i->i<sa+k->Rn rk (arrOf st) i<=Rn rk (arrOf st) m:=fun m a b i c d=>by
      by_cases z:m<sb
      .exact s1 i m c (by omega) z
      .exact AM (q1 i c d) (s2 sb m (Aj _) (by omega) (by omega))
     have J:∀ m,sa+k<=m->m<sb+G->∀ i,sb+G<=i->i<sb+nb->Rn rk (arrOf st) m<=Rn rk (arrOf st) i:=fun m a b i c d=>by
      by_cases z:m<sb
      .exact AM (s1 m (sb-1) (by omega) (by omega) (by omega)) (q4 i c d)
      .exact s2 m i (by omega) (by omega) d
     by_cases c3:i<sa+k
     .rw[r1 i c3];by_cases c4:j<sb+G
      .obtain⟨m,m1,m2,m3⟩:=ag j (by omega) c4;rw[m3];exact Z m m1 m2 i a c3
      .rw[r3 j (by omega)];exact AM (Z (sa+k) (Aj _) (by omega) i a c3) (J (sa+k) (Aj _) (by omega) j (by omega) d)
     .by_cases c4:j<sb+G
      .rw[r2 i (by omega) (by omega),r2 j (by omega) (by omega)];rcases B4 i j with z|z
       .exact Bc.mp Y.up _ _ _ _ (by omega)
       .have:i=j:=by omega
        subst this;exact Aj _
      .obtain⟨m,m1,m2,m3⟩:=ag i (by omega) (by omega);rw[m3,r3 j (by omega)];exact J m m1 m2 j (by omega) d
 refine aS (fun _=>Az (yX hc af ak ah ai g.kind uX uY h0 hl fun out F Y sg=>?_)) fun _=>Az (yY hc af ak ah ai g.kind uX uY h0 hl fun out F Y sg=>?_)
 .exact Az (CQ (Az (EC (AG (fin2 out F Y sg)))))
 .exact Az (CQ (Az (EC (AG (fin2 out F Y sg)))))
end
section
variable{κ:Cs}{it:Array AY}{rk:AY->Nat}
structure SRR(rk:AY->Nat)(κ:Cs)(it:Array AY)(lo:Nat)(st:Bn):Prop where
 gs:GS κ it st
 le:lo<=it.size
 sg:c7 (Rn rk (arrOf st)) (pendingOf st).toList 0 lo
variable(hc:uG prog w A s κ it rk)
include hc
theorem aEc{st:Bn}{Q:Unit->Bn->Prop}(g:GS κ it st)(hp:pendingOf st=#[])(h:∀ F,(arrOf F).Perm it->UpL rk (arrOf F).toList->failedOf F=none->Q () F):wpS (model prog w) A E s sortRuns' Q st:=by
 rw[sortRuns'_eq];refine Az (EC ?_);dsimp only;have hz:(arrOf st).size=it.size:=g.perm.size_eq;rw[hz];generalize minRun' it.size it.size 0=mr;refine Az (CP (BO (I:=fun x c F=>c.1=none/\SRR rk κ it c.2 F/\x<=c.2) (Q:=fun c F=>c.1=none/\SRR rk κ it it.size F) ?_ (fun c F z=>?_) ⟨rfl,⟨g,AV _,?_⟩,Aj _⟩) ?_)
 .rintro x ⟨r,lo⟩ F _ _ ⟨J,⟨g',G,hs⟩,hx⟩;dsimp only at J G hs hx ⊢;subst J;refine aS (fun c=>AG ⟨rfl,g',Aj _,by rw[show it.size=lo by omega];exact hs⟩) fun hl=>?_;refine Az (aB2 hc g' (by omega) (by omega) fun n aL al aC m1 as=>?_);dsimp only;refine aS (fun hm=>Az (FH (C6 ⟨rfl,Az (aAx hc (g'.on m1.1) al (by omega) (by omega) as fun am m2 ak=>aS (fun z=>nomatch z) fun _=>?_)⟩))) fun hm=>?_
  all_goals
   first|(have mm:=m1.trans m2;have ez:1<=min (it.size-lo) mr/\lo+min (it.size-lo) mr<=it.size:=(by omega);have ad:=ak)|(have mm:=m1;have ez:1<=n/\lo+n<=it.size:=(by omega);have ad:=as)
   have gg:=g'.on mm.1;have U:=hs.congr (g':=Rn rk (arrOf _)) fun i _ hi=>by unfold Rn;rw[mm.low i hi]
   rw[<- mm.sm.pend]at U;refine Az (EC ?_);split
   .rename_i s1 n1 _ ao;refine Az (CP (BO (I:=fun x c F=>c.1=none/\SRR rk κ it lo F/\AsF (Rn rk (arrOf F)) lo (lo+_)) (Q:=fun c F=>c.1=none/\SRR rk κ it lo F/\AsF (Rn rk (arrOf F)) lo (lo+_)) ?_ (fun c F z=>z) ⟨rfl,⟨gg,G,U⟩,ad⟩) ?_)
    .rintro x ⟨r,u⟩ Z _ _ ⟨J,⟨g3,_,Y⟩,O⟩;dsimp only at J ⊢;subst J;refine Az (EC ?_);split
     .rename_i a1 a2 aj aa;refine aS (fun _=>AG ⟨rfl,⟨g3,G,Y⟩,O⟩) fun _=>?_;have h2:(pendingOf Z).size>1:=by
       by_cases h2:(pendingOf Z).size>1
       .exact h2
       .rw[Ia h2]at aa;cases aa
      refine Az (pB hc g3 Y G (by omega) fun ax g4 ap k4 _=>?_);exact aS (fun z=>nomatch z) fun _=>AG ⟨rfl,⟨g4,G,ap⟩,O.congr fun i a _=>k4 i a⟩
     .exact AG ⟨rfl,⟨g3,G,Y⟩,O⟩
    .rintro⟨r,u⟩ Z ⟨J,⟨g3,_,Y⟩,O⟩;dsimp only at J ⊢;subst J;refine Az (CQ (Az (CQ (AG ⟨rfl,⟨⟨g3.kind,g3.perm,g3.fail⟩,ez.2,?_⟩,by omega⟩))));show c7 (Rn rk (arrOf Z)) (((pendingOf Z).modify _ _).push _).toList 0 _;rw[Bi,Array.toList_modify];refine c7.snoc ez.1 O (c7.mod ?_ _ Y);exact fun _=>⟨rfl,rfl⟩
   .refine Az (CQ (AG ⟨rfl,⟨⟨gg.kind,gg.perm,gg.fail⟩,ez.2,?_⟩,by omega⟩));show c7 (Rn rk (arrOf _)) ((pendingOf _).push _).toList 0 _;rw[Bi];exact U.snoc ez.1 ad
 .obtain⟨J,⟨g',G,hs⟩,hx⟩:=z;rw[D8 (AV _)]at hx;exact⟨J,g',Aj _,by rw[show it.size=c.2 by omega];exact hs⟩
 .show c7 _ (pendingOf st).toList 0 0;rw[hp];rfl
 .rintro⟨r,lo⟩ F ⟨J,g',G,hs⟩;dsimp only at J ⊢;subst J;refine Az (CP (BO (I:=fun x c F=>c.1=none/\SRR rk κ it it.size F/\(pendingOf F).size+x<=it.size) (Q:=fun c F=>c.1=none/\SRR rk κ it it.size F/\(pendingOf F).size<=1) ?_ (fun c F z=>?_) ⟨rfl,⟨g',G,hs⟩,?_⟩) ?_)
  .rintro x ⟨r,u⟩ F _ _ ⟨J,⟨g',G,hs⟩,hx⟩;dsimp only at J ⊢;subst J;refine Az (EC ?_);refine aS (fun c=>AG ⟨rfl,⟨g',G,hs⟩,c⟩) fun h2=>?_;have ay:¬ (pendingOf F).size<=1:=h2;have hi:∀ b:Bool,(if b=true then(pendingOf F).size-2-1 else(pendingOf F).size-2)+1<(pendingOf F).size:=fun b=>by
    cases b<;>simp<;>omega
   refine Az (pB hc g' hs G (hi _) fun am g2 U _ az=>?_);exact AG ⟨rfl,⟨g2,G,U⟩,by omega⟩
  .obtain⟨J,z2,z3⟩:=z;rw[D8 (AV _)]at z3;exact⟨J,z2,by omega⟩
  .have:=hs.long;rw[AN]at this;omega
  .rintro⟨r,u⟩ F ⟨J,⟨g',G,hs⟩,h1⟩;dsimp only at J ⊢;subst J;refine AG (h _ g'.perm ?_ g'.fail);have sz:(arrOf F).size=it.size:=g'.perm.size_eq;have hw:AsF (Rn rk (arrOf F)) 0 it.size:=by
    rw[<- AN]at h1;generalize (pendingOf F).toList=l at hs h1
    match l,hs,h1 with
    | [],hs,_=>
     have hs:0=it.size:=hs;intro i j a b d;omega
    | [r],hs,_=>
     obtain⟨_,_,a,b⟩:=hs;rw[show it.size=0+r.2.1 from(show 0+r.2.1=it.size from b).symm];exact a
   have:=aB3 (c:=arrOf F) hw (by omega);rw[<- sz,cP,Cv,Dz,Bj (by simp)]at this;exact this
theorem aC0{Q:Unit×Bn->Ac->Prop}(h:∀ st:Bn,(arrOf st).Perm it->UpL rk (arrOf st).toList->failedOf st=none->Q ((),st) s):wpAny (model prog w) A (sortRuns'.run (Ge κ it #[] 7 none)) Q E s:=by
 refine BM (aEc (E:=E) hc (st:=Ge κ it #[] 7 none) (Q:=fun u st=>Q (u,st) s) ⟨rfl,Dq _,rfl⟩ rfl h) (fun r s' z=>?_) fun _ _ z=>z;obtain⟨rfl,q⟩:=z;exact q
end
def f9(c:Ad)(qual:Str):HO:=.ext fun h=>h.CodeRec (.ref c) qual
def gH(f:Ad)(qual:Str)(params:CZ)(body:Ba)(scope:CF)(cl:List (Str×Ad))(c:Ad):HO:=.ext fun h=>∃ pm ctv,h.get? f=some (GU "<lambda>" qual params body scope cl pm c ctv)
theorem aC1{P:Aq}{w:AL}{H:Hp}{h:A9}{c:Ad}{qual:Str}(e:h.CodeRec (.ref c) qual):bZ P w H h c (f9 c qual):=by
 obtain⟨c',o,vs,t,e1,e2,e3,e4⟩:=id e;cases e1;exact⟨e,⟨o,e2⟩,fun h1 h2 x k=>by
  obtain⟨c',o,vs,t,e1,e2,e3,e4⟩:=x;cases e1;exact⟨c,o,vs,t,rfl,k o e2,e3,e4⟩⟩
theorem yZ{P:Aq}{w:AL}{H:Hp}{h:A9}{f c:Ad}{qual:Str}{F:CZ}{J:Ba}{scope:CF}{cl:List (Str×Ad)}{pm G:Ab}(e:h.get? f=some (GU "<lambda>" qual F J scope cl pm c G)):bZ P w H h f (gH f qual F J scope cl c):=
 ⟨⟨pm,G,e⟩,⟨_,e⟩,fun h1 h2 x k=>by
  obtain⟨pm,G,e⟩:=x;exact⟨pm,G,k _ e⟩⟩
structure lA(T:Ad)(pos:Pos)(qual:Str)(H:Hp):Prop where
 ex:∃ ps,H T=some (.tbl ps)/\Hg ps.toList/\(codeAmong pos ps.toList=none\/∃ c,codeAmong pos ps.toList=some (.ref c)/\H c=some (f9 c qual))
theorem lA.same{T:Ad}{pos:Pos}{qual:Str}{H H':Hp}(g:lA T pos qual H)(s:bU H H'):lA T pos qual H':=by
 obtain⟨ps,h1,h2,F⟩:=g.ex;refine⟨ps,s _ _ h1,h2,?_⟩;rcases F with F|⟨c,F,G⟩
 .exact .inl F
 .exact .inr ⟨c,F,s _ _ G⟩
def dW(T:Ad)(H H':Hp):Prop:=∀ b o,b≠T->H b=some o->H' b=some o
theorem bU.butT{T:Ad}{H H':Hp}(s:bU H H'):dW T H H':=fun b o _ e=>s b o e
theorem dW.trans{T:Ad}{H H1 H2:Hp}(a:dW T H H1)(b:dW T H1 H2):dW T H H2:=fun c o n h=>b c o n (a c o n h)
theorem Inv.table{T:Ad}{ps more:Array Ab}{h':A9}{t':Nat}(I:Inv X df σ H s)(G:H T=some (.tbl ps))(k:∀ b o,b≠T->s.heap.get? b=some o->h'.get? b=some o)(e:h'.get? T=some (tabObj (ps++more))):
  Inv X df σ (upd H T (.tbl (ps++more))) { s with heap:=h',toks:=t' }:=by
 have F:∀ b u,H b=some u->(∀ ps,u≠.tbl ps)->b≠T:=fun b u q n z=>by
  subst z;rw[G]at q;cases q;exact n _ rfl
 refine I.un ⟨fun b o q n _ _=>?_,fun b o q n _ _=>?_,fun b o q n _=>?_,fun b o q _=>?_,fun b xs q=>?_,fun b o u q=>?_,fun b J q=>?_⟩ fun b u q=>?_
 .exact k b o (fun z=>by subst z;rw[G]at n;cases n) q
 .exact⟨o.slots,k b o (fun z=>by subst z;rw[G]at n;cases n) q⟩
 .rw[aF (fun z=>by subst z;rw[G]at n;cases n)];exact n
 .by_cases hb:b=T
  .subst hb;exact⟨_,e⟩
  .exact⟨o,k b o hb q⟩
 .rw[aF (F b _ q fun _ z=>nomatch z)];exact q
 .rw[aF (F b _ q fun _ z=>nomatch z)];exact q
 .by_cases hb:b=T
  .subst hb;rw[G]at q;cases q;exact⟨more,aA⟩
  .exact⟨#[],by rw[aF hb,q];simp⟩
 .by_cases hb:b=T
  .subst hb;rw[aA]at q;cases q;exact e
  .rw[aF hb]at q;refine(I.hok b u q).stay (fun c v hc r=>k c v ?_ r) (fun c r=>?_) fun c xs r=>?_
   .rcases hc with rfl|hc
    .exact hb
    .exact F c _ hc fun _ z=>nomatch z
   .rw[aF (F c _ r fun _ z=>nomatch z)];exact r
   .rw[aF (F c _ r fun _ z=>nomatch z)];exact r
def aJE(T:Ad)(pos:Pos)(qual:Str)(params:CZ)(body:Ba)(scope:CF)(cl:List (Str×Ad)):TE:=fun _ H Q=>lA T pos qual H/\
 ∀ f c H',dW T H H'->lA T pos qual H'->H' c=some (f9 c qual)->H' f=some (gH f qual params body scope cl c)->Q (.ref f) H'
inductive aFL(mg:Str->Option Ab)(base:A9):Prop
 | mk (bm:_) (o:_) (q0:mg "__builtins__"=some (.ref bm)) (q1:bm≠builtinsNs) (q2:bm≠mainGlobals) (q3:base.get? bm=some o) (q4:o.cls=.type "module") (q5:o.dict=some builtinsNs) (q6:o.data=.plain):aFL mg base
def p9(mg:Str->Option Ab)(base:A9):Prop:=aFL mg base
theorem aID{c T:Ad}{F:CZ}{G:Ba}{scope:CF}{pos:Pos}{cl:List (Str×Ad)}(J:X.env.code=.ref c)(hC:codeHdIn X.K c T=true)(hB:p9 X.mg X.base)(aa:closureFor scope X.env=pure cl:=by rfl)(ai:defaultsOf F X.env=([],[]):=by rfl):
  PE X (.Lambda F G scope pos) (aJE T pos (X.env.qual++"<lambda>") F G scope cl):=by
 constructor;intro df s σ H Q I h;obtain⟨g,q⟩:=h;obtain⟨ps,hT,ht,hor⟩:=g.ex;have gT:s.heap.get? T=some (tabObj ps):=I.hok T _ hT;have ag:∀ b o,X.base.get? b=some o->b≠T:=fun b o e z=>by
  have:=(I.bs b o e).2;rw[z,hT]at this;cases this
 obtain⟨bm,ob,b1,b2,b3,b4,b5,b6,b7⟩:=hB;have aj:s.heap.Ns mainGlobals X.mg:=by
  obtain⟨o,es,ep,e,r⟩:=I.mod.glob;exact⟨o,es,ep,I.bk _ _ e,r⟩
 have ar:mainGlobals≠T:=by
  obtain⟨o,es,ep,e,r⟩:=I.mod.glob;exact ag _ _ e
 have af:s.heap.BuiltinsAt X.mg T:=⟨bm,ob,b1,b2,b3,ag _ _ b4,I.bk _ _ b4,b5,b6,b7⟩
 refine kla_eval ai ?_;rcases hor with ae|⟨c',hf,ap⟩
 .refine kla_makeFunction (mg:=X.mg) aa I.ok.glob aj J (FN I.kIn hC) gT ht ae ar af fun c' Y h' tk hx U Z ah ak=>?_;have I1:=I.table (t':=tk) (more:=#[rawInt pos.line,rawInt pos.col,.ref c']) hT (fun b o n e=>hx b o n e) ak;have nT:∀ b,s.heap.objs.size<=b->b≠T:=fun b hb z=>absurd (Ap gT) (E8.mpr (z▸hb));have ad:=nT c' U;have aq:upd H T (.tbl (ps++#[rawInt pos.line,rawInt pos.col,.ref c'])) c'=none:=by
   rw[aF ad];exact I.hok.fresh U
  have I2:=I1.track (ob:=f9 c' (X.env.qual++"<lambda>")) (I.fpOk U aq) (aC1 ah);have O:s.heap.objs.size<=h'.objs.size:=by omega
  have al:=nT _ O;have I3:=I2.laid (a:=h'.objs.size) (o:=gH h'.objs.size (X.env.qual++"<lambda>") F G scope cl c') (t':=tk) (h':=h'.push (GU "<lambda>" (X.env.qual++"<lambda>") F G scope cl ((X.mg "__name__").getD .none) c' Y)) (fun b u e=>Ai _ e) (Aj _) (yZ (Aw _ rfl));refine⟨.ref _,_,I3,rfl,q _ c' _ (fun b o n e=>?_) ⟨ps++#[rawInt pos.line,rawInt pos.col,.ref c'],?_,?_,.inr ⟨c',?_,?_⟩⟩ ?_ aA⟩
  .rw[aF (Ar (AE (I.hok.lt e) O)),aF (Ar (AE (I.hok.lt e) U)),aF n];exact e
  .rw[aF al.symm,aF ad.symm];exact aA
  .rw[Au];exact TriplesOk_snoc _ _ _ _ ht
  .rw[Au];exact codeAmong_snoc _ ht ae
  .rw[aF (Ar Z)];exact aA
  .rw[aF (Ar Z)];exact aA
 .refine kla_makeFunctionHit (mg:=X.mg) aa I.ok.glob aj J (FN I.kIn hC) gT ht hf af fun Y h' tk hk O=>?_;have I1:=I.kept (h':=h') (t':=tk) hk;have I3:=I1.laid (a:=h'.objs.size) (o:=gH h'.objs.size (X.env.qual++"<lambda>") F G scope cl c') (t':=tk) (h':=h'.push (GU "<lambda>" (X.env.qual++"<lambda>") F G scope cl ((X.mg "__name__").getD .none) c' Y)) (fun b u e=>Ai _ e) (Aj _) (yZ (Aw _ rfl));have hs:bU H (upd H h'.objs.size (gH h'.objs.size (X.env.qual++"<lambda>") F G scope cl c')):=fun b o e=>by
   rw[aF (Ar (AE (I.hok.lt e) O))];exact e
  exact⟨.ref _,_,I3,rfl,q _ c' _ hs.butT (g.same hs) (hs _ _ ap) aA⟩
def aAy(X:Cx)(N:List Str)(qual:Str)(scope:CF)(f:Ad)(cd:Ab)(cl:List (Str×Ad))(A:AI)(s:Ac)(H:Hp):Cx where
 prog:=X.prog
 w:=X.w
 K:=X.K
 mg:=X.mg
 base:=X.base
 A:=A.deeper (envX qual scope s.heap.objs.size f cd cl)
 N:=N
 s₀:=s
 H₀:=H
 env:=envX qual scope s.heap.objs.size f cd cl
 outer:=X.stack
 stack:=envX qual scope s.heap.objs.size f cd cl::X.stack
 ex:=[]
 calm:=true
 fn:=fun _=>false
 pn:=[]
 xe:=fun _ _=>False
structure uH(ps fs:List Str)(sc:CF):Prop where
 kind:sc.kind=.function
 co:sc.isCoroutine=false
 gen:sc.isGenerator=false
 nd:ps.Nodup
 par:∀ x∈ps,sc.names.lookup x=some .local
 fr:∀ x∈fs,sc.names.lookup x=some .free
 nocell:∀ y∈sc.names,y.2≠.cell
theorem Paired.at{α β:Type}{R:α->β->Prop}:∀{as:List α}{bs:List β}{i:Nat}{a:α}{b:β},AZ R as bs->as[i]?=some a->bs[i]?=some b->R a b
 | _,_,_,_,_,.nil,e,_=>by simp at e
 | _,_,0,_,_,.cons r _,e1,F=>by simp at e1 F;subst e1 F;exact r
 | _,_,i+1,_,_,.cons _ t,e1,F=>Paired.at (i:=i) t (by simpa using e1) (by simpa using F)
def aC2(X:Cx)(σ:St)(fs:List Str)(zs:List V):Prop:=AZ (fun(x:Str) (v:V)=>∃ i:Nat,X.N[i]?=some x/\σ[i]?=some (some v)/\X.env.kindOf x=some .cell) fs zs
theorem aFM{ps fs:List Str}{f c:Ad}{qual:Str}{F:CZ}{G:Ba}{scope:CF}{cl:List (Str×Ad)}{A:AI}{us:List Ab}{vs zs:List V}{Q:VK}{k:Nat}{te:TE}
  (I:Inv X df σ H s) (hA:A.frames=some X.stack) (hr:cF (k+1) A) (S:uH ps fs scope) (U:∀ x b,cl.lookup x=some b->X.env.cells.lookup x=some b) (hhas:∀ x,scope.names.lookup x=some .free->∃ b,cl.lookup x=some b)
  (hf:H f=some (gH f qual F G scope cl c)) (hc:H c=some (f9 c qual)) (hb:∀(pm aj ai:Ab),bindArgs (kla_fn "<lambda>" qual F G scope cl pm aj ai) ⟨us,[]⟩=pure (ps.zip us)) (r:bK vs us) (hl:vs.length=ps.length) (ht:aC2 X σ fs zs)
  (ag:PE (aAy X (ps++fs) qual scope f (.ref c) cl A s H) G te) (hq:te (vs.map some++zs.map some) H Q):codeAny (model X.prog X.w) A (.call (.ref f) ⟨us,[]⟩) (CR CX0 X.stack X.prog X.w H s Q E0) s:=by
 obtain⟨⟨pm,ai,ho⟩,_,_⟩:bZ X.prog X.w H s.heap f (gH f qual F G scope cl c):=I.hok _ _ hf;obtain⟨hrec,_,_⟩:bZ X.prog X.w H s.heap c (f9 c qual):=I.hok _ _ hc;have lu:us.length=ps.length:=by rw[<- r.length];exact hl
 have Z:∀ y∈ps.zip us,scope.names.lookup y.1=some .local:=fun⟨n,v⟩ hy=>S.par n (E9 hy).1;refine kla_callFunE hr.depth ho rfl S.co S.gen rfl hrec ?_;rw[hb];refine Ah (FJ S.nocell Z (fun h₁ an am=>?_) S.kind);have Y:∀ b o,s.heap.get? b=some o->h₁.get? b=some o:=fun b o e=>am.extBut b o (Ar (Ap e)) (Ai _ e);refine⟨I.nolimit.keeps Y,?_⟩;show codeAny _ _ (.expr G (envX qual scope s.heap.objs.size f (.ref c) cl)) _ _;have e0:=I.env0;have ae:∀ b:Ad,b∉(aAy X (ps++fs) qual scope f (.ref c) cl A s H).ex:=fun b z=>absurd (show b∈([]:List Ad) from z) (by simp);have J:Inv (aAy X (ps++fs) qual scope f (.ref c) cl A s H) [] (vs.map some++zs.map some) H { s with heap:=h₁,toks:=s.toks+(ps.zip us).length }:=by
  refine⟨⟨e0.mod,S.kind,rfl,rfl,Aj _,fun y z b h1 h2=>?_,fun y hy=>?_,fun y b z _=>absurd z (by simp[aAy]),fun _=>hr.hd,Fd hA,.inr ⟨rfl,rfl⟩,fun b z=>absurd z (ae b),e0.bs,e0.bsz,fun b _ _=>ae b,fun b z=>absurd z (ae b),e0.funs,e0.frf⟩,
   rfl,e0.bare,Un.kept Y,⟨_,an,fun i y v h1 h2 h3=>?_⟩,fun y b h=>?_,e0.hok.fresh (Aj _),fun y b h=>?_,fun p hp=>absurd (show p∈([]:List (Ad×Obj)) from hp) (by simp),e0.hok.kept Y,?_⟩
  .exact I.ok.inj y z b (U y b h1) (U z b h2)
  .rcases hy with hy|hy
   .exact absurd rfl (S.nocell _ (Bl (show scope.names.lookup y=some .cell from hy)))
   .exact hhas y hy
  .have O:(ps++fs)[i]?=some y:=h1;by_cases hi:i<ps.length
   .rw[B6 hi]at O;have hv:vs[i]?=some v:=by
     rw[B6 (by simpa[hl]using hi),AB]at h2;cases e:vs[i]? with
     | none=>rw[e]at h2;cases h2
     | some a=>rw[e]at h2;cases h2;rfl
    obtain⟨u,hu,rv⟩:=r.get hv;refine⟨u,rv,.inl ⟨S.par y (AU O),?_⟩⟩;have e1:=pW (kindOf:=fun x=>scope.names.lookup x) (m:=fun _=>none) S.nd O hu (S.par y (AU O));have e2:∀(l:List (Str×Ab)) (m:Str->Option Ab) (x:Str),(∀ q∈l,scope.names.lookup q.1=some .local)->bindL (fun x=>scope.names.lookup x) l m x=(l.reverse.lookup x).or (m x):=by
     intro l
     induction l with
     | nil=>intro m x _;rfl
     | cons q l ih=>
      intro m x hl;obtain⟨n,v⟩:=q;unfold bindL;rw[Ib (hl (n,v) Am),ih _ _ fun q hq=>hl q (Al _ hq),List.reverse_cons,List.lookup_append,Option.or_assoc];congr 1;rw[Bv,List.lookup_nil];by_cases hx:x=n
      .subst hx;simp
      .have ao:(x==n)=false:=by simpa using hx
       simp[hx,ao]
    rw[e2 _ _ _ Z,Option.or_none]at e1;exact e1
   .rw[BL (by omega)]at O;rw[BL (by rw[Af,hl];omega),Af,hl,AB]at h2;have hz:zs[i-ps.length]?=some v:=by
     cases e:zs[i-ps.length]? with
     | none=>rw[e]at h2;cases h2
     | some a=>rw[e]at h2;cases h2;rfl
    obtain⟨j,a1,a2,a3⟩:=Paired.at ht O hz;obtain⟨m,_,lk⟩:=I.loc;obtain⟨u,ru,lo⟩:=lk j y v a1 a2 (.inr (.inl a3));rcases lo with⟨a4,_⟩|⟨_,b,a4,a5⟩
    .rw[a3]at a4;cases a4
    .have ah:=S.fr y (AU O);obtain⟨b',hb'⟩:=hhas y ah;have:=U y b' hb';rw[a4]at this;cases this;obtain⟨o,ho',hd⟩:=a5;exact⟨u,ru,.inr ⟨.inr ah,b,hb',o,Y _ _ ho',hd⟩⟩
  .obtain⟨v,o,ho',hd⟩:=I.cell y b (U y b h);exact⟨v,o,Y _ _ ho',hd⟩
  .exact I.freeC y b (U y b h)
  .show _=(ps++fs).length;rw[Ay,Ay,Af,Af,hl,ht.length]
 refine kla_codeExpr (BM (ag [] _ _ H Q J hq) (fun u s' hu=>?_) fun e s' z=>z.elim);obtain⟨v,H',J',rv,q⟩:=hu;exact⟨v,H',J'.os,J'.bare,J'.base,J'.hok,rv,q⟩
inductive aC3(h:A9)(v:Ab):Prop
 | mk (t:_) (a:_) (b:_) (u1:_) (u2:_) (q0:v=.ref t) (q1:E4 h t #[.int a u1,.int b u2]):aC3 h v
def aHQ(h:A9)(v:Ab):Prop:=aC3 h v
theorem aFN{ks:List Ab}{Q:Cs->Ac->Prop}(hk:∀ v∈ks,aHQ s.heap v)(h:∀ b,Q (tuples' b) s):wpAny (model prog w) A (keyKind' ks.toArray) Q E s:=by
 rw[keyKind'_eq,Array.mapM_eq_mapM_toList];refine Aa ?_;rw[<- bind_pure_comp];refine Aa (uD (R:=fun _ r=>∃ a u,r=some (BH a u)) ks (fun v G=>?_) fun rs hl hrs=>Ah ?_)
 .obtain⟨t,a,b,u1,u2,rfl,ht⟩:=hk v G;refine⟨some (.int a u1),⟨a,u1,rfl⟩,fun U q=>?_⟩;rw[kas_first_eq];refine Aa (DI ht.typeIs ?_);refine Bf (by decide) ?_;refine Aa (p6 ht ?_);exact Ah q
 .have F:(rs.toArray.all fun x=>x.isSome)=true:=by
   rw[List.all_toArray,C4];intro r Y;obtain⟨v,_,a,u,rfl⟩:=hrs r Y;rfl
  refine DE (by rw[F];rfl) ?_;refine Aa (C6 ?_);rw[oneTypeOnly'_eq,Array.mapM_eq_mapM_toList]
  iterate 2 refine Aa ?_
  rw[<- bind_pure_comp];refine Aa (uD (R:=fun _ r=>r=Bq "int") _ (fun v G=>?_) fun ts Z aa=>Ah ?_)
  .have J:some v∈rs:=by simpa using G
   obtain⟨_,_,a,u,e⟩:=hrs _ J;cases e;exact⟨_,rfl,fun U q=>DI (typeIs_int s a u) q⟩
  .cases O:ts.toArray[0]? with
   | none=>exact Ah (Ah (h _))
   | some t=>exact Ah (Ah (h _))
inductive aC4(H:Hp)(v:Ab):Prop
 | mk (t:_) (a:_) (b:_) (q0:v=.ref t) (q1:H t=some (.tup [.int a,.int b])):aC4 H v
def aKK(H:Hp)(v:Ab):Prop:=aC4 H v
theorem dW.seq{K:Ag}{T:Ad}{H H':Hp}{a:Ad}{xs:List V}{ps:Array Ab}(e:dW T H H')(F:H T=some (.tbl ps))(h:SqL K H a xs):SqL K H' a xs:=by
 rcases h with(h|⟨o,h⟩)|h
 .exact .inl (.inl (e _ _ (fun z=>by rw[z,F]at h;cases h) h))
 .exact .inl (.inr ⟨o,e _ _ (fun z=>by rw[z,F]at h;cases h) h⟩)
 .exact .inr h
section
variable{ta:TA}
end
theorem Fun.okC{P:Aq}{w:AL}{K:Ag}{mg:Str->Option Ab}{base:A9}{x qual:Str}{st:Cd}{f:Ad}{fd:A4}{N ps:List Str}{k:Nat}{sp:Sp}(F:Fun K x qual st f fd)(S:bG N ps (aM st))(len:∀ vs H Q E,sp vs H Q E->vs.length=ps.length)
  (J:∀(G:Ab) (A:AI) (outer:List Env) (s:Ac) (H:Hp) (vs:List V) (Q:VK) (E:XK),fd.code=G->cF k (A.deeper (envOfC qual (aM st) s.heap.objs.size f G))->sp vs H Q E->
   ∃ t,PSs (iH CX0 P w K mg base N qual (aM st) f G A outer s H E).nox (dQ st) t/\t { nx:=fun _ H'=>Q .non H',rt:=Q } (start N vs) H):cA P w K mg base CX0 (k+1) f fd ps sp:=by
 obtain⟨oc,od,kV,doc,pm,an,G,ct,osl,rfl,lk,hcd⟩:=F.ex;refine aEZ lk hcd S len fun A outer s H vs Q E U O=>?_;obtain⟨t,h,q⟩:=J G A outer s H vs Q E rfl U O;exact⟨t,h.nox,q⟩
theorem lA.start{T:Ad}{pos:Pos}{qual:Str}{H:Hp}(h:H T=some (.tbl #[])):lA T pos qual H:=⟨#[],h,trivial,.inl rfl⟩
theorem aEd{P:Aq}{w:AL}{K:Ag}{mg mb:Str->Option Ab}{k:Nat}{fa a:Ad}{fd:A4}{x:Str}{sp:Sp}{G:Ac}{vs:List Ab}{ns:List Int}{Ts:List Ad}
  (KX:K.In G.heap) (ah:G.heap.Ns mainGlobals mg) (hb:G.heap.Ns builtinsNs mb) (al:∀ x:Str,x≠"__name__"->mb x=bootBuiltins x) (ad:G.heap.NoLimit) (hg:G.gens=#[]) (hB:p9 mg G.heap)
  (hT:∀ T∈Ts,G.heap.get? T=some (tabObj #[])/\K.lookup T=none/\isCodeTable G.heap T)
  (ha:G.heap.get? a=some { cls:=.type "list",data:=.seq vs.toArray }) (hi:Ec vs ns) (hl:ns.length<=sizeLine) (hr:cF k callerA)
  (F:∀ base:A9,K.In base->base.Ns mainGlobals mg->p9 mg base->cA P w K mg base CX0 k fa fd [x] sp) (aa:∀(s:Ac) (u:Ab),Gn s fd ⟨[u],[]⟩ [(x,u)])
  (am:∀ H:Hp,(∀ T∈Ts,H T=some (.tbl #[]))->SqL K H a (ns.map V.int)->sp [.ref a] H (fun v _=>v=.bl true) fun _ _ _=>False):
  codeAny (model P w) callerA (.call (.ref fa) ⟨[.ref a],[]⟩) (fun r s'=>r=.ok (.ret (.bool true))/\OldK G.heap s'.heap/\s'.os=G.os/\EJ s'.gens) G:=by
 have rv:=wU hi;have ag:=hi.length;have aT:∀ T∈Ts,T≠a:=fun T h z=>by
  have:=(hT T h).1;rw[z,ha]at this;cases this
 have Z:∀ H:Hp,(∀ T∈Ts,H T=some (.tbl #[]))->SqL K H a (ns.map V.int)->HOk P w H G.heap->(∀ b,H b≠none->b∈Ts\/(b=a/\K.lookup a=none/\H a=some (.frz { cls:=.type "list",data:=.seq vs.toArray } (.lst (ns.map V.int)))))->
   codeAny (model P w) callerA (.call (.ref fa) ⟨[.ref a],[]⟩) (fun r s'=>r=.ok (.ret (.bool true))/\OldK G.heap s'.heap/\s'.os=G.os/\EJ s'.gens) G:=by
  intro H hO hS hok hA;have free:∀{b:Ad} {o:Obj},G.heap.get? b=some o->(∀ xs n,o.data≠.seq xs n)->(∀ vs,o.data≠.fields vs)->H b=none:=fun{b o} e d1 d2=>by
   cases q:H b with
   | none=>rfl
   | some u=>
    rcases hA b (by rw[q];simp)with z|⟨z,_,_⟩
    .rw[(hT b z).1]at e;cases e;exact absurd rfl (d2 _)
    .rw[z,ha]at e;cases e;exact absurd rfl (d1 _ _)
  have U:∀{b:Ad} {m:Str->Option Ab},G.heap.Ns b m->(yD G.heap H).Ns b m:=fun{b m} ⟨o,es,ep,e,d,r⟩=>⟨o,es,ep,sQ e (free e (fun _ _ z=>by rw[d]at z;cases z) fun _ z=>by rw[d]at z;cases z),d,r⟩
  have ae:K.In (yD G.heap H):=fun b o e=>sQ (KX b o e) (by
   cases q:H b with
   | none=>rfl
   | some u=>
    rcases hA b (by rw[q];simp)with z|⟨z,z2,_⟩
    .rw[(hT b z).2.1]at e;cases e
    .rw[z,z2]at e;cases e)
  have aj:p9 mg (yD G.heap H):=by
   obtain⟨bm,o,b1,b2,b3,b4,b5,b6,b7⟩:=hB;exact⟨bm,o,b1,b2,b3,sQ b4 (free b4 (fun _ _ z=>by rw[b7]at z;cases z) fun _ z=>by rw[b7]at z;cases z),b5,b6,b7⟩
  have hM:Mod K mg (yD G.heap H):=⟨ae,U ah,⟨mb,U hb,al⟩,let ⟨mc,h1,h2⟩:=ad;⟨mc,U h1,h2⟩⟩
  have e0:tE P w K mg (yD G.heap H) callerA [] G H:=⟨rfl,hM,fun b o e=>aGR e,DX (aDU _ _),trivial,fun b hb=>absurd (show b∈([]:List Ad) from hb) (by simp),hok,.of_eq hg⟩
  refine C2 ((F _ ae (U ah) aj).run callerA [] G H ⟨[.ref a],[]⟩ [.ref a] [.ref a] _ _ hr e0 (aa G (.ref a)) (.cons rfl .nil) (am H hO hS)) fun r s' h=>?_;cases r with
  | error e=>exact Bw h
  | ok fl=>
   cases fl with
   | next=>exact Bw h
   | brk=>exact Bw h
   | cont=>exact Bw h
   | ret u=>
    obtain⟨v,H',os,bare,un,hok',r',q⟩:=h;have q':v=.bl true:=q;subst q';obtain rfl:u=Gh true:=r';refine⟨rfl,⟨fun b o e=>?_,fun b o e=>un.there b o e (by simp)⟩,os,bare⟩;cases q:H b with
    | none=>exact .inl (un.keep b o e q (by intro z;exact absurd (show b∈([]:List Ad) from z) (by simp)) (by simp))
    | some u=>
     rcases hA b (by rw[q];simp)with z|⟨z,_,z2⟩
     .obtain⟨e1,_,e3⟩:=hT b z;rw[e1]at e;cases e;obtain⟨more,e4⟩:=un.tbls b _ (hO b z);exact .inr (.inl ⟨e3,rfl,#[],more,rfl,hok' b _ e4⟩)
     .subst z;have z3:=un.frzs _ _ _ z2;obtain⟨e1,_⟩:=hok _ _ z2;obtain⟨e2,_⟩:=hok' _ _ z3;rw[e]at e1;cases e1;exact .inl e2
 have O:∀(H:Hp) T,T∈Ts->bZ P w H G.heap T (.tbl #[]):=fun H T h=>(hT T h).1;cases hk:K.lookup a with
 | some o=>
  have e:=KX a o hk;rw[ha]at e;cases e;refine Z (fun b=>if b∈Ts then some (.tbl #[]) else none) (fun T h=>Ib h) (.inr ⟨_,vs.toArray,_,hk,rfl,rfl,rfl,by rw[AA,ag];exact hl,by simpa using rv⟩) (fun b u z=>?_) fun b z=>?_
  .by_cases hb:b∈Ts
   .have Y:=(Ib hb).symm.trans z;cases Y;exact O _ b hb
   .have Y:=(Ia hb).symm.trans z;cases Y
  .by_cases hb:b∈Ts
   .exact .inl hb
   .exact absurd (Ia hb) z
 | none=>
  have ak:∀ T∈Ts,(if T=a then some (HO.frz { cls:=.type "list",data:=.seq vs.toArray } (.lst (ns.map V.int))) else if T∈Ts then some (.tbl #[]) else none)=some (.tbl #[]):=fun T h=>by
   rw[Ia (aT T h),Ib h]
  refine Z (fun b=>if b=a then some (.frz { cls:=.type "list",data:=.seq vs.toArray } (.lst (ns.map V.int))) else if b∈Ts then some (.tbl #[]) else none) ak (.inl (.inr ⟨{ cls:=.type "list",data:=.seq vs.toArray },Ib rfl⟩)) (fun b u z=>?_) fun b z=>?_
  .by_cases hb:b=a
   .have Y:=(Ib hb).symm.trans z;cases Y;subst hb;exact⟨ha,by rw[Af];exact hl,vs,_,rv,ha⟩
   .have z1:=(Ia hb).symm.trans z;by_cases J:b∈Ts
    .have Y:=(Ib J).symm.trans z1;cases Y;exact O _ b J
    .have Y:=(Ia J).symm.trans z1;cases Y
  .by_cases hb:b=a
   .exact .inr ⟨hb,hk,Ib rfl⟩
   .by_cases J:b∈Ts
    .exact .inl J
    .exact absurd ((Ia hb).trans (Ia J)) z
theorem walk_ofT{l:FX}{n k:Nat}{q:Aq}{O:List Str}{XP:(Str->Option Ab)->A9->Prop}{YP:AL->A9->Prop}{d:DefRec}{K:Params->Ag}{sp:AL->Sp}{x:Str}{cts:List (Ad×Ad)}
  (hn:l.most=some n) (af:n<=sizeLine) (ad:d.params.defaults=[]) (hr:cF k callerA)
  (hY:∀(w:AL) (h:A9),YP w h->(K w.params).In h/\∀ T∈cts.map (·.2),h.get? T=some (tabObj #[]))
  (hC:∀(w:AL),∀ p∈cts,codeHdIn (K w.params) p.1 p.2=true/\(K w.params).lookup p.2=none)
  (F:∀(w:AL) (mg:Str->Option Ab) (fa:Ad) (h:A9),(K w.params).In h->h.Ns mainGlobals mg->mg d.name=some (.ref fa)->
   ∃ fd:A4,(∀(s:Ac) (u:Ab),Gn s fd ⟨[u],[]⟩ [(x,u)])/\
    ∀ base:A9,(K w.params).In base->base.Ns mainGlobals mg->p9 mg base->cA l.prog w (K w.params) mg base CX0 k fa fd [x] (sp w))
  (ag:∀(w:AL) (H:Hp) (a:Ad) (ns:List Int),ns.length<=n->(∀ T∈cts.map (·.2),H T=some (.tbl #[]))->SqL (K w.params) H a (ns.map V.int)->sp w [.ref a] H (fun v _=>v=.bl true) fun _ _ _=>False):
  PySem.W.WalkO q O XP YP l.row.toRowW d [] (fun f vs=>Hc f vs):=by
 refine Att.attach_call hn ad fun w s₀ s₁ mg mb fa o pm cd ap a vs ns G Y ho hd aj ae Z U J hg=>?_;obtain⟨KX,TX⟩:=hY w _ Y;obtain⟨fd,hb,hF⟩:=F w mg fa _ KX G.T.g ae;have hB:p9 mg s₁.heap:=by
  obtain⟨bm,ob,b1,b2,b3,b4,b5,b6⟩:=G.T.bmain;refine⟨bm,ob,b1,b2,fun z=>?_,b3,b4,b5,b6⟩;obtain⟨o',es,ep,e,r⟩:=G.T.g;rw[z,e]at b3;cases b3;rw[r.1]at b6;cases b6
 refine aEd KX G.T.g G.T.b G.T.builtins G.T.nolimit hg hB (Ts:=cts.map (·.2)) (fun T h=>?_) Z U (AM J af) hr hF hb fun H hO hS=>ag w H a ns J hO hS
 obtain⟨p,hp,rfl⟩:=BA.mp h;obtain⟨h1,h2⟩:=hC w p hp;exact⟨TX _ h,h2,((FN KX h1).tab (TX _ h)).isCodeTable⟩
section
variable{tg:Ba}
end
inductive aB4(H:Hp):V->Prop
 | str (z:Str):aB4 H (.str z)
 | non:aB4 H .non
 | int (i:Int):aB4 H (.int i)
 | bl (b:Bool):aB4 H (.bl b)
 | lst {a:Ad} {xs:List V} (e:H a=some (.lst xs)):aB4 H (.ref a)
 | tup {a:Ad} {xs:List V} (e:H a=some (.tup xs)):aB4 H (.ref a)
inductive Thg(H:Hp):V->Option (List V)->Prop
 | lst {a:Ad} {xs:List V} (e:H a=some (.lst xs)) (h:∀ v∈xs,aB4 H v):Thg H (.ref a) (some xs)
 | tup {a:Ad} {xs:List V} (e:H a=some (.tup xs)):Thg H (.ref a) none
 | dct {a:Ad} {fo:List (Key×V)} (e:H a=some (.dK fo)):Thg H (.ref a) none
 | non:Thg H .non none
 | str (z:Str):Thg H (.str z) none
 | bl (b:Bool):Thg H (.bl b) none
inductive RpV(H:Hp):V->Str->Prop
 | non:RpV H .non "None"
 | bl (b:Bool):RpV H (.bl b) (if b then "True" else "False")
 | str (z:Str) (h:(reprText z).length<=sizeLine):RpV H (.str z) (reprText z)
 | ref {a:Ad} {m:Bool} {d:CY} (r:RdV m H (.ref a) d) (h1:d.showable=true) (h2:d.depth<=20) (h3:d.shown.length<=sizeLine):RpV H (.ref a) d.shown
def OkS:Nat->CY->Prop
 | 0,d=>(∃ z,d=.str z)\/∃ i,d=.int i
 | n+1,d=>(∃ z,d=.str z)\/(∃ i,d=.int i)\/∃ ds,d=.tuple ds/\∀ e∈ds,OkS n e
open Classical in
open Classical in
open Classical in
inductive aJF(X:Cx)(df:List (Ad×Obj))(σ:St)(E':XK)(x:Ab)(s':Ac):Prop
 | mk (H1:_) (s1:_) (q0:Inv X df σ H1 s1) (q1:CXr X.prog X.w X.stack H1 s1 E' x s'):aJF X df σ E' x s'
def XP(X:Cx)(df:List (Ad×Obj))(σ:St)(E':XK)(x:Ab)(s':Ac):Prop:=aJF X df σ E' x s'
structure PX(X:Cx)(e:Ba)(te:XK->TE):Prop where
 run:∀(E':XK) (df:List (Ad×Obj)) (s:Ac) (σ:St) (H:Hp) (Q:VK),Inv X df σ H s->te E' σ H Q->wpAny (model X.prog X.w) X.A (eval e X.env) (EP X df σ Q) (XP X df σ E') s
structure PXs(X:Cx)(b:List Cd)(tb:XK->TS):Prop where
 run:∀(E':XK) (df:List (Ad×Obj)) (s:Ac) (σ:St) (H:Hp) (D:c6),Inv X df σ H s->tb E' D σ H->wpAny (model X.prog X.w) X.A (execs b X.env) (SP X df D) (XP X df σ E') s
section
variable{k:Nat}{fd:A4}{ps:List Str}{sp:Sp}{x:Str}{p:Pos}{es:List Ba}{t:TA}{te:XK->TE}
theorem aFO(G:PX X e te)(hs:swapsWith e none pos.line X.env=pure false:=by rfl):PXs X [.Expr e pos] (fun F D σ H=>te F σ H fun _ H1=>D.nx σ H1):=by
 constructor;intro F df s σ H D I h;exact Gr (wpAny_Expr_any (thn (G.run F df s σ H _ I h) fun v U ⟨x,H1,O,Y,J⟩=>DR ⟨σ,H1,O,J⟩) I.quiet hs)
end
abbrev Cx.hand(X:Cx)(v:Ab):Cx:={ X with A:=X.A.mark (some v),calm:=false,xe:=fun _ _=>False }
section
variable{v:Ab}
theorem Inv.hand(I:Inv X df σ H s)(v:Ab):Inv (X.hand v) df σ H s:=
 have ok:=I.ok
 ⟨⟨ok.mod,ok.kind,ok.glob,ok.blt,ok.above,ok.inj,ok.has,ok.cab,(fun z=>by cases z),ok.frames,ok.stk,ok.exf,ok.bs,ok.bsz,ok.noex,ok.exfs,ok.funs,ok.frf⟩,I.os,I.bare,I.base,I.loc,I.cell,I.free,I.freeC,I.pin,I.hok,I.len⟩
theorem Inv.unhand(I:Inv (X.hand v) df σ H s)(ok:X.Ok):Inv X df σ H s:=⟨ok,I.os,I.bare,I.base,I.loc,I.cell,I.free,I.freeC,I.pin,I.hok,I.len⟩
theorem lZ{M:E2}{A:AI}{E:Ab->Ac->Prop}{i:Nat}{x:Str}{pos:Pos}{Q:Unit->Ac->Prop}(I:Inv X df σ H s)(hN:X.N.Nodup)(hi:X.N[i]?=some x)(hk:X.env.scope.names.lookup x=some .local)
  (h:∀ s',Inv X df (σ.set i none) H s'->Q () s'):wpAny M A (do bindName X.env x .none;unbindBehindTheSuite X.env x pos) Q E s:=by
 obtain⟨m,hn,hl⟩:=id I.loc;have G:(X.env.scope.kind==.class||(X.env.scope.kind==.module&&X.env.locals != X.env.globals))=false:=by rw[I.ok.kind];rfl
 have U:i<σ.length:=by rw[I.len];exact(Ak.mp hi).1
 have cne:=I.cne;refine wpAny_nameGoes_keeps hk hn G fun h' v Y hs=>?_;obtain⟨oL,_,_,hoL,_⟩:=id hn;refine h _ ⟨I.ok,I.os,I.bare,⟨fun b o e n hb J=>?_,fun b o e n hb J=>?_,I.base.free,fun b o e J=>?_,I.base.tups,I.base.frzs,I.base.tbls⟩,⟨_,Y,fun j y v' F O e3=>?_⟩,fun y c e=>?_,I.free,I.freeC,fun p hp=>?_,fun b ob e=>?_,by simpa using I.len⟩
 .exact(hs.2 b (Ar (AE (Ap e) I.ok.above))).trans (I.base.keep b o e n hb J)
 .obtain⟨sl,F⟩:=I.base.slot b o e n hb J;exact⟨sl,(hs.2 b (Ar (AE (Ap e) I.ok.above))).trans F⟩
 .obtain⟨o',F⟩:=I.base.there b o e J;exact⟨o',(hs.2 b (Ar (AE (Ap e) I.ok.above))).trans F⟩
 .by_cases Z:j=i
  .subst Z;rw[DU U]at O;cases O
  .rw[Fi (Cf Z)]at O;obtain⟨u',r',q⟩:=hl j y v' F O e3;refine⟨u',r',?_⟩;rcases q with⟨k,e⟩|⟨k,c,e,z⟩
   .refine .inl ⟨k,?_⟩;have:y≠x:=fun e=>Z (sR hN F (e▸hi));simp[this,e]
   .exact .inr ⟨k,c,e,z.sameBut hs (cne y c e)⟩
 .obtain⟨w',z⟩:=I.cell y c e;exact⟨w',z.sameBut hs (cne y c e)⟩
 .obtain⟨e,n,ne,nf,d⟩:=I.pin p hp;exact⟨(hs.2 p.1 ne).trans e,n,ne,nf,d⟩
 .refine(I.hok b ob e).stay (fun c w' hc q=>(hs.2 c ?_).trans q) (fun _ q=>q) fun _ _ q=>q;rintro rfl;rcases hc with rfl|hc
  .rw[I.free]at e;cases e
  .rw[I.free]at hc;cases hc
end
def m5(y:Ad)(C:Ab):HO:=.ext fun h=>∃ ob vs,h.get? y=some ob/\ob.cls=C/\ob.data=.fields vs
theorem Fly.again{P:Aq}{w:AL}{M:E2}{A:AI}{env:Env}{outer:List Env}{base:A9}{H H':Hp}{s G:Ac}{x:Ad}{C:Ab}{E:Ab->Ac->Prop}{R:Ac->Prop}(F:Fly P w (env::outer) H H' s x C G)
  (U:s.heap.FunFrames base (env::outer)) (k:∀ J,Fly P w (env::outer) H H' s x C { G with heap:=J }->R { G with heap:=J }):
  wpAny M A (setFlight (.ref x) none) (fun _ Y=>R Y) E G:=by
 obtain⟨B,a0,fl,hokB,hkB,htB⟩:=F.ex;refine lands_againW fl fun J O Z=>k J ?_;refine⟨F.os,F.bare,⟨B,a0,O,hokB,hkB,htB⟩,F.frf,fun b o q n hm=>?_,F.free,F.tups,F.frzs,F.tbls⟩;obtain⟨sl,e1⟩:=F.slot b o q n hm;obtain⟨_,o2,e2,hd⟩:=U.mem hm;rw[q]at e2;cases e2;obtain⟨sl2,e3⟩:=Z b _ e1 hd;exact⟨sl2,e3⟩
theorem aB5{P:Aq}{w:AL}{H:Hp}{h:A9}{a:Ad}{o:HO}(x:bZ P w H h a o):∃ ob,h.get? a=some ob:=by
 cases o with
 | lst xs=>obtain⟨_,_,_,_,e⟩:=x;exact⟨_,e⟩
 | tup xs=>obtain⟨_,_,_,_,e,_⟩:=x;exact⟨_,e⟩
 | dK fo=>obtain⟨_,_,_,_,o,_,_,e,_⟩:=x;exact⟨_,e⟩
 | dT fo=>obtain⟨_,_,_,_,o,_,_,e,_⟩:=x;exact⟨_,e⟩
 | set S n=>obtain⟨o,_,_,_,e,_⟩:=x;exact⟨_,e⟩
 | ins C dx fs=>obtain⟨_,_,_,e,_⟩:=x;exact⟨_,e⟩
 | own y=>exact x
 | xd fs=>obtain⟨_,⟨_,_,_,e,_⟩,_⟩:=x;exact⟨_,e⟩
 | rng lo hi=>obtain⟨_,_,_,e⟩:=x;exact⟨_,e⟩
 | frz ob u=>exact⟨_,x.1⟩
 | tbl ps=>exact⟨_,x⟩
 | met f y=>exact⟨_,x⟩
 | ext φ=>exact x.2.1
theorem Fly.track{X:Cx}{df:List (Ad×Obj)}{σ:St}{H H':Hp}{s s':Ac}{x:Ad}{C:Ab}(I:Inv X df σ H s)(ad:X.stack=X.env::X.outer)(aa:X.env.frame=some X.env.locals)(ae:X.ex=[])(F:Fly X.prog X.w X.stack H H' s x C s'):
  H' x=none/\Inv X df σ (upd H' x (m5 x C)) s':=by
 have G:=I.caught F;obtain⟨ob,vs,ho,hc,hd⟩:=F.obj;obtain⟨B,a0,fl,hokB,hkB,htB⟩:=F.ex;have hB:B.get? x=none:=fl.2.1;have hn:H' x=none:=by
  cases q:H' x with
  | none=>rfl
  | some o=>
   obtain⟨o',e⟩:=aB5 (hokB x o q);rw[hB]at e;cases e
 have O:∀ b∈frs X.stack,b≠x:=fun b hb z=>by
  obtain⟨_,o,e,h⟩:=fl.2.2.1.mem hb;rw[z,ho]at e;cases e;exact h vs hd
 have Y:X.env.locals∈frs X.stack:=by rw[ad];exact A8.mpr ⟨_,Am,aa⟩
 have U:∀ b o,s.heap.get? b=some o->b≠x:=fun b o e z=>by
  by_cases hb:b∈frs X.stack
  .exact O b hb z
  .obtain⟨o',e'⟩:=htB b o e hb;rw[z,hB]at e';cases e'
 have J:∀ b o,X.s₀.heap.get? b=some o->b≠x:=fun b o e=>by
  obtain⟨o',e'⟩:=I.base.there b o e (by rw[ae];simp);exact U b o' e'
 have Z:∀ b u,H' b=some u->b≠x:=fun b u e=>aJ e hn;refine⟨hn,⟨G.ok,G.os,G.bare,⟨G.base.keep,G.base.slot,fun b o e n hx=>?_,G.base.there,fun b xs e=>?_,fun b o u e=>?_,fun b ps e=>?_⟩,G.loc,G.cell,?_,fun y c e=>?_,fun p hp=>?_,fun b o e=>?_,G.len⟩⟩
 .rw[aF (J b o e)];exact G.base.free b o e n hx
 .have q:=G.base.tups b xs e;rw[aF (Z b _ q)];exact q
 .have q:=G.base.frzs b o u e;rw[aF (Z b _ q)];exact q
 .obtain⟨more,q⟩:=G.base.tbls b ps e;exact⟨more,by rw[aF (Z b _ q)];exact q⟩
 .rw[aF (O _ Y)];exact G.free
 .obtain⟨v,o,e2,h2⟩:=G.cell y c e;rw[aF fun z=>by rw[z,ho]at e2;cases e2;rw[hd]at h2;cases h2];exact G.freeC y c e
 .obtain⟨e,n,ne,nf,d⟩:=G.pin p hp;refine⟨e,?_,ne,nf,d⟩;rw[aF (U _ _ (I.pin p hp).1)];exact n
 .by_cases hb:b=x
  .subst hb;rw[aA]at e;cases e;exact⟨⟨ob,vs,ho,hc,hd⟩,⟨ob,ho⟩,fun h1 h2 ⟨o1,v1,e1,c1,d1⟩ k=>⟨o1,v1,k _ e1,c1,d1⟩⟩
  .rw[aF hb]at e;exact(G.hok b o e).stay (fun c v _ q=>q) (fun c q=>by rw[aF (Z c _ q)];exact q) fun c xs q=>by rw[aF (Z c _ q)];exact q
def unE(ie:Nat)(D:c6):c6:={ nx:=fun σ H=>D.nx (σ.set ie none) H,rt:=D.rt,bk:=fun σ H=>D.bk (σ.set ie none) H,ct:=fun σ H=>D.ct (σ.set ie none) H }
theorem aFP{X:Cx}{U:List Cd}{tb:XK->TS}{ie:Nat}{dn n:Str}{C0:Ad}{b₀:Cd}{G:List Cd}{th:TS}{np Y pos:Pos}
  (J:X.stack=X.env::X.outer) (aa:X.env.frame=some X.env.locals) (aj:X.ex=[]) (hb:PXs X U tb) (hg:Gl X dn) (hm:X.mg dn=some (.ref C0)) (hN:X.N.Nodup) (O:X.N[ie]?=some n) (hn:X.env.scope.names.lookup n=some .local)
  (hh:∀ v,PSs (X.hand v) (b₀::G) th) (hd:(dn==("__debug__":Str))=false:=by decide):
  PS X (.Try U [.ExceptHandler (some (.Name dn np)) (some n) (b₀::G) Y] [] [] pos) (fun D σ H=>tb (fun C _ H'=>exmOne X.K C (.ref C0)=some true/\∀ y,H' y=none->th (unE ie D) (σ.set ie (some (.ref y))) (upd H' y (m5 y C))) D σ H):=by
 constructor;intro df s σ H D I h;refine wpAny_Try_except (BM (hb.run _ df s σ H D I h) (fun f s1 r=>?_) fun e s1 z=>?_)
 .cases f with
  | next=>exact DR r
  | _=>exact r
 .obtain⟨H1,s0,I1,x,C,H',rfl,F,hx,hy⟩:=z;have ad:s0.heap.FunFrames X.base (X.env::X.outer):=J▸I1.stack;have F':Fly X.prog X.w (X.env::X.outer) H1 H' s0 x C s1:=J▸F;refine F'.lands (Q:=X.xe) (R:=fun s4=>wpAny (model X.prog X.w) X.A (handleBy (.ref x) X.env [.ExceptHandler (some (.Name dn np)) (some n) (b₀::G) Y]) _ _ s4) ad (J▸I1.ok.frames) aa fun h5 F5=>?_;have I5:=I1.caught (s':={ s1 with heap:=h5 }) (by rw[J];exact F5);refine wpAny_handleBy_cons (codeAny_handlers_test ?_) (by intro q;cases q);refine oH (X:=X.hand (.ref x)) (I5.hand _) hg hm ?_ hd;obtain⟨ob,vs,ho,hc,hd5⟩:=F5.obj;have LT:Looks (model X.prog X.w) h5 (typeOf (.ref x)) C:=by
   rw[<- hc];unfold typeOf;exact(Hx ho).andThen .now
  refine(exm_one (M:=model X.prog X.w) I5.kIn LT hx).at ?_;refine codeAny_handlers_suite_as ?_;refine F5.again (R:=fun s4=>_) ad fun h6 F6=>?_;obtain⟨hnx,I6⟩:=Fly.track (s':={ s1 with heap:=h6 }) I1 J aa aj (by rw[J];exact F6);refine jT (X:=X.hand (.ref x)) (I6.hand _) hN O (.inl hn) (v:=.ref x) rfl (fun s7 I7=>?_) (.inr hn);refine BM ((hh (.ref x)).run df s7 _ _ (unE ie D) I7 (hy x hnx)) (fun f s8 r=>?_) fun _ _ z=>Bw z;cases f with
  | next=>
   obtain⟨σ',H'',I8,q⟩:=r;exact lZ (I8.unhand I.ok) hN O hn fun s9 Z=>⟨_,_,Z,q⟩
  | brk=>
   obtain⟨σ',H'',I8,q⟩:=r;exact lZ (I8.unhand I.ok) hN O hn fun s9 Z=>⟨_,_,Z,q⟩
  | cont=>
   obtain⟨σ',H'',I8,q⟩:=r;exact lZ (I8.unhand I.ok) hN O hn fun s9 Z=>⟨_,_,Z,q⟩
  | ret u=>
   obtain⟨v,σ',H'',I8,rr,q⟩:=r;exact lZ (I8.unhand I.ok) hN O hn fun s9 Z=>⟨v,_,_,Z,rr,q⟩
open PySem PySem.Spec PyProof.Rows PySem.W Builtin Builtin.ObjectAttr PySem.Calls Builtin.Getset_descriptor
structure y7(K:Ag)(D:Ad):Prop where
 ga:findIn K (.ref D) "__getattribute__"=some (some (.builtin "BaseException.__getattribute__"))
 gn:findIn K (.ref D) "__getattr__"=some none
 mb:mroIn K D (.type "BaseException")=some true
 hd:hasDictIn K D=true
 ha:findIn K (.ref D) "__class__"=some (some (.builtin "object.__class__"))
 hm:mroIn K D (.type "object")=some true
 hn:specialIn K (.builtin "object.__class__") "__get__"=some (some (.builtin "getset_descriptor.__get__"))
 ht:takesIn K (.builtin "object.__class__")=some true
def uI(y:Ad)(C:Ab)(h:A9):Prop:=∃ ob vs,h.get? y=some ob/\ob.cls=C/\ob.data=.fields vs
theorem uI.ty{y:Ad}{C:Ab}{h:A9}{M:E2}(x:uI y C h):Looks M h (typeOf (.ref y)) C:=by
 obtain⟨ob,vs,ho,hc,_⟩:=x;rw[<- hc];unfold typeOf;exact(Hx ho).andThen .now
theorem aFQ{K:Ag}{M:E2}{h:A9}{D y:Ad}(k:y7 K D)(X:K.In h):Looks M h (Builtin.ObjectAttr.find (.ref y) (.ref D) "__class__") (.bind (.builtin "getset_descriptor.__get__") (.builtin "object.__class__")):=by
 have a1:=Hi (M:=M) X k.ha;have a2:Looks M h (Builtin.ObjectAttr.getOf (some (.builtin "object.__class__"))) (some (.builtin "getset_descriptor.__get__")):=looks_specialIn X k.hn;have a3:=looks_takesIn (M:=M) X k.ht;exact a1.andThen (a2.andThen (Looks.andThen (a:=some (.builtin "getset_descriptor.__get__",.builtin "object.__class__")) (a3.andThen .now) (Looks.tag .now)))
theorem aHj{prog:Aq}{w:AL}{A:AI}{s:Ac}{K:Ag}{D y:Ad}{F:Ab}{R:Hm->Ac->Prop}(k:y7 K D)(X:K.In s.heap)(p:uI y (.ref D) s.heap)(q:R (.ok (.ret (.ref D))) s):
  codeAny (model prog w) A (.call (.builtin "getset_descriptor.__get__") ⟨[.builtin "object.__class__",.ref y,F],[]⟩) R s:=by
 obtain⟨hp,g,d,t,os⟩:=s;have G:=p.ty (M:=model prog w);have J:=Hu (M:=model prog w) X k.hm;refine FO KF.slot_gs.plain KF.entry_gs (KF.slot_gs.check _ _ _ _ _ _ _ _ KF.type_class (KF.args_gs _ _ _) (?_));unfold Builtin.«getset_descriptor.__get__» descrGet;rw[dga_obj];refine Aa (Ah ?_);unfold descrGetter descrCheckInstance descrNameAndClass isInstance;simp only[KF.owner_class]
 repeat lk
 refine⟨Code.quiet_builtin _ (by decide),Dl KF.entry_class (?_)⟩;unfold Builtin.«object.__class__» shownTypeOf
 repeat lk
 exact q
theorem aEe{prog:Aq}{w:AL}{A:AI}{E:Ab->Ac->Prop}{F:A9}{g:Array Gm}{d:Hy}{t:Nat}{os:OsState}{K:Ag}{D y:Ad}{tk:Tok}{Q:Fin->Ac->Prop}(k:y7 K D)(X:K.In F)(p:uI y (.ref D) F)(q:Q (.done (.ret (.ref D))) ⟨F,g,d,t,os⟩):
  wpAny (model prog w) A (Builtin.«object.__getattribute__» ⟨[.ref y,.str "__class__" tk],[]⟩) Q E ⟨F,g,d,t,os⟩:=by
 have b0:=p.ty (M:=model prog w);have G:=aFQ (M:=model prog w) (y:=y) k X;unfold Builtin.«object.__getattribute__»;refine Aa (Ah (Aa (Ah (Aa (b0.at (Aa (G.at ?_)))))));show wpAny _ _ (holding [.builtin "object.__class__"] (call (.builtin "getset_descriptor.__get__") [.builtin "object.__class__",.ref y,.ref D]) >>= ret) _ _ _;exact Aa (By (DF (aHj (s:=⟨F,g,d,t,os⟩) k X p (Ah q))))
theorem aEf{M:E2}{A:AI}{E:Ab->Ac->Prop}{J:A9}{g:Array Gm}{d:Hy}{t:Nat}{os:OsState}{K:Ag}{D y:Ad}{G:Ab}{Q:Unit->Ac->Prop}(k:y7 K D)(X:K.In J)(p:uI y (.ref D) J)(q:Q () ⟨J,g,d,t,os⟩):
  wpAny M A (checkBuiltinCall "BaseException.__getattribute__" ⟨[.ref y,G],[]⟩) Q E ⟨J,g,d,t,os⟩:=by
 have b0:=p.ty (M:=M);have U:=Hu (M:=M) X k.mb;have Y:builtinKind "BaseException.__getattribute__"=some .slot:=by decide
 have O:splitId "BaseException.__getattribute__"=some ("BaseException","__getattribute__"):=by decide
 have Z:=F.args_bexc_ga (.ref y) G;simp only[checkBuiltinCall,Y,O];refine Aa (Aa (b0.at (U.at ?_)))
 repeat wp_step
 exact q
theorem aEg{prog:Aq}{w:AL}{A:AI}{E:Ab->Ac->Prop}{s:Ac}{K:Ag}{D y:Ad}{Q:Option Ab->Ac->Prop}(k:y7 K D)(X:K.In s.heap)(p:uI y (.ref D) s.heap)(q:Q (some (.ref D)) { s with toks:=s.toks+1 }):
  wpAny (model prog w) A (getAttr? (.ref y) "__class__") Q E s:=by
 obtain⟨hp,g,d,t,os⟩:=s;have b0:=p.ty (M:=model prog w);have J:=Hi (M:=model prog w) X k.ga;have O:=Hi (M:=model prog w) X k.gn;have Y:=Hu (M:=model prog w) X k.mb;have U:=F.excAttr_ValueError.ga.bind (.ref y);unfold getAttr? getAttrBy? getAttrBy;refine Aa (wpAny_mkText (Aa (Dn (By (Aa (b0.at (Aa (J.at ?_))))))));show wpAny _ _ (if (onTheHeap (.ref D)&&Fp "BaseException.__getattribute__"==Fp "object.__getattribute__")=true then _ else getAttrByItsOwn _ _ _ _ _ _) _ _ _;have G:(Fp "BaseException.__getattribute__"==Fp "object.__getattribute__")=false:=by decide
 rw[Ia (by rw[G,Bool.and_false];exact Av)];unfold getAttrByItsOwn hookBefore;refine Aa ?_;show wpAny _ _ (typeLookup (.ref D) "__getattr__") _ _ _;refine O.at ?_;refine Aa (Dn (By ?_));show wpAny _ _ (boundAndCalled _ _ _) _ _ _;unfold boundAndCalled;rw[U];refine Aa (Ah ?_);refine DF (FO F.excAttr_ValueError.ga.plain F.entry_bexc_ga (aEf k X p (aEe k X p ?_)));exact Ah (Ah q)
theorem aAz{K:Ag}{y D:Ad}(k:y7 K D):KitX K (.ref y) (.ref D) (uI y (.ref D)):=by
 have hc:∃ o cd,K.lookup D=some o/\o.data=.cls cd:=by
  obtain⟨cdD,hcD,_⟩:=any_some k.hd;unfold clsIn at hcD;split at hcD
  .rename_i c' Z G Y F;exact⟨_,G,F,rfl⟩
  .cases hcD
 obtain⟨o,cd,F,hd⟩:=hc;refine⟨fun M h _ p=>p.ty,fun M h X _ A Q E s kp q=>?_,fun h O dd U n sl X J=>Di.mpr fun q=>?_,fun X p q=>aEg k X p q⟩
 .have e:=kp _ _ (X _ _ F);obtain⟨oc,od,oda,osl⟩:=o;dsimp only at hd;subst hd;unfold isType loadHead;exact Aa (wpAny_loadPart e (Ah q))
 .have e:D=O:=AD.inj (beq_iff_eq.mp q);subst e;have z:=(X _ _ F).symm.trans J;cases z;cases hd
inductive j6(K:Ag)(xs:List V)(H:Hp)(Q:VK):Prop
 | mk (y D:Ad) (v:V) (c:Ab) (b:Bool) (q0:xs=[.ref y,v]) (q1:(∀ u,bQ v u->u=c)) (q2:H y=some (m5 y (.ref D))) (q3:y7 K D) (q4:kitOne K (.ref D) c=some b) (q5:Q (.bl b) H):j6 K xs H Q
def uJ(K:Ag):List V->Hp->VK->Prop:=fun xs H Q=>j6 K xs H Q
theorem pC:eJ X (.builtin "isinstance") (uJ X.K):=by
 intro df s σ H xs J Q I r h;obtain⟨y,D,v,c,b,rfl,hv,hy,k,e,q⟩:=h;cases r with
 | cons G r=>
 cases r with
 | cons F r=>
 cases r;cases(show _=AD y from G);cases hv _ F;obtain⟨p,_⟩:bZ X.prog X.w H s.heap y (m5 y (.ref D)):=I.hok _ _ hy;exact kia_one (aAz k) I.kIn p e (fun z=>nomatch z) fun tk=>⟨.bl b,H,I.tok tk,rfl,q⟩
inductive jL(K:Ag)(xs:List V)(H:Hp)(Q:VK):Prop
 | mk (y D tp:Ad) (cs:List Ad) (b:Bool) (q0:xs=[.ref y,.ref tp]) (q1:H tp=some (.tup (cs.map V.ref))) (q2:H y=some (m5 y (.ref D))) (q3:y7 K D) (q4:kitAny K (.ref D) (cs.map AD)=some b) (q5:Q (.bl b) H):jL K xs H Q
def rS(K:Ag):List V->Hp->VK->Prop:=fun xs H Q=>jL K xs H Q
theorem m6:eJ X (.builtin "isinstance") (rS X.K):=by
 intro df s σ H xs J Q I r h;obtain⟨y,D,tp,cs,b,rfl,ht,hy,k,e,q⟩:=h;cases r with
 | cons G r=>
 cases r with
 | cons F r=>
 cases r;cases(show _=AD y from G);cases(show _=AD tp from F);obtain⟨p,_⟩:bZ X.prog X.w H s.heap y (m5 y (.ref D)):=I.hok _ _ hy;obtain⟨_,its,rv,hT⟩:bZ X.prog X.w H s.heap tp (.tup (cs.map V.ref)):=I.hok _ _ ht;obtain⟨⟨cls,dd,data,sl⟩,ho,hc,n,hd⟩:=hT.tup;simp only at hc hd;subst hc hd;obtain rfl:=rZ rv;exact kia_tup (aAz k) I.kIn p ho e (fun z=>nomatch z) fun tk=>⟨.bl b,H,I.tok tk,rfl,q⟩
def jR(H:Hp)(L:List (Ad×Obj)):Hp:=fun b=>match L.lookup b with
 | some o=>some (.frz o (.own 0))
 | none=>H b
def eZ(H:Hp)(L:List (Ad×Obj)):Hp:=fun b=>match L.lookup b with
 | some _=>none
 | none=>H b
section
variable{L:List (Ad×Obj)}{b:Ad}{o:Obj}
theorem jM(e:L.lookup b=some o):jR H L b=some (.frz o (.own 0)):=by unfold jR;rw[e]
theorem cT(e:L.lookup b=none):jR H L b=H b:=by unfold jR;rw[e]
theorem dX(e:L.lookup b=some o):eZ H L b=none:=by unfold eZ;rw[e]
theorem bY(e:L.lookup b=none):eZ H L b=H b:=by unfold eZ;rw[e]
variable{h:A9}{fs:List Ad}
theorem y8(ok:HOk P w H h)(G:∀ b o,L.lookup b=some o->h.get? b=some o/\H b=none):HOk P w (jR H L) h:=fun b u e=>by
 have st:∀ c v,H c=some v->jR H L c=some v:=fun c v q=>by
  cases F:L.lookup c with
  | none=>rw[cT F];exact q
  | some o=>rw[(G c o F).2]at q;cases q
 cases F:L.lookup b with
 | none=>
  rw[cT F]at e;exact(ok b u e).stay (fun _ _ _ q=>q) (fun c q=>st c _ q) fun c xs q=>st c _ q
 | some o=>
  rw[jM F]at e;cases e;exact⟨(G b o F).1,_,(G b o F).1⟩
theorem w6(ok:HOk P w H h)(hf:∀ b o,L.lookup b=some o->H b=some (.frz o (.own 0))):HOk P w (eZ H L) h:=fun b u e=>by
 have st:∀ c v,(∀ o u,v≠.frz o u)->H c=some v->eZ H L c=some v:=fun c v n q=>by
  cases F:L.lookup c with
  | none=>rw[bY F];exact q
  | some o=>rw[hf c o F]at q;cases q;exact absurd rfl (n _ _)
 cases F:L.lookup b with
 | none=>
  rw[bY F]at e;exact(ok b u e).stay (fun _ _ _ q=>q) (fun c q=>st c _ (fun _ _ z=>nomatch z) q) fun c xs q=>st c _ (fun _ _ z=>nomatch z) q
 | some o=>rw[dX F]at e;cases e
theorem aFR(u:Un fs [] (jR H L) H' h h')(ok:HOk P w H' h')(hn:∀ b o,L.lookup b=some o->h.get? b=some o/\H b=none/\b∉fs):Un fs [] H (eZ H' L) h h'/\HOk P w (eZ H' L) h':=by
 have hf:∀ b o,L.lookup b=some o->H' b=some (.frz o (.own 0)):=fun b o e=>u.frzs b o _ (jM e);have out:∀ b v,H b=some v->L.lookup b=none:=fun b v q=>by
  cases F:L.lookup b with
  | none=>rfl
  | some o=>rw[(hn b o F).2.1]at q;cases q
 have G:∀ b v,(∀ o u,v≠.frz o u)->H' b=some v->L.lookup b=none:=fun b v n q=>by
  cases F:L.lookup b with
  | none=>rfl
  | some o=>rw[hf b o F]at q;cases q;exact absurd rfl (n _ _)
 refine⟨⟨fun b o q n nb x=>?_,fun b o q n nb x=>?_,fun b o q n x=>?_,fun b o q x=>?_,fun b xs q=>?_,fun b o v q=>?_,fun b ps q=>?_⟩,w6 ok hf⟩
 .cases F:L.lookup b with
  | none=>exact u.keep b o q (by rw[cT F];exact n) nb x
  | some o'=>
   have:=(hn b o' F).1;rw[q]at this;cases this;exact(ok b _ (hf b o F)).1
 .cases F:L.lookup b with
  | none=>exact u.slot b o q (by rw[cT F];exact n) nb x
  | some o'=>exact absurd nb (hn b o' F).2.2
 .cases F:L.lookup b with
  | none=>rw[bY F];exact u.free b o q (by rw[cT F];exact n) x
  | some o'=>exact dX F
 .exact u.there b o q x
 .have F:=out b _ q;rw[bY F];exact u.tups b xs (by rw[cT F];exact q)
 .have F:=out b _ q;rw[bY F];exact u.frzs b o v (by rw[cT F];exact q)
 .have F:=out b _ q;obtain⟨more,z⟩:=u.tbls b ps (by rw[cT F];exact q);exact⟨more,by rw[bY F];exact z⟩
theorem aFS(u:Un fs [] (eZ H L) H' h h')(ok:HOk P w H' h')(hf:∀ b o,L.lookup b=some o->h.get? b=some o/\H b=some (.frz o (.own 0))/\b∉fs):Un fs [] H (jR H' L) h h'/\HOk P w (jR H' L) h':=by
 have keep:∀ b o,L.lookup b=some o->h'.get? b=some o/\H' b=none:=fun b o e=>⟨u.keep b o (hf b o e).1 (dX e) (hf b o e).2.2 (by simp),u.free b o (hf b o e).1 (dX e) (by simp)⟩
 have out:∀ b v,H b=v->(∀ o u,v≠some (.frz o u))->L.lookup b=none:=fun b v q n=>by
  cases F:L.lookup b with
  | none=>rfl
  | some o=>rw[(hf b o F).2.1]at q;exact absurd q.symm (n _ _)
 refine⟨⟨fun b o q n nb x=>?_,fun b o q n nb x=>?_,fun b o q n x=>?_,fun b o q x=>u.there b o q x,fun b xs q=>?_,fun b o v q=>?_,fun b ps q=>?_⟩,y8 ok keep⟩
 .have F:=out b _ n (fun _ _ z=>nomatch z);exact u.keep b o q (by rw[bY F];exact n) nb x
 .have F:=out b _ n (fun _ _ z=>nomatch z);exact u.slot b o q (by rw[bY F];exact n) nb x
 .have F:=out b _ n (fun _ _ z=>nomatch z);rw[cT F];exact u.free b o q (by rw[bY F];exact n) x
 .have F:=out b _ q (fun _ _ z=>nomatch z);rw[cT F];exact u.tups b xs (by rw[bY F];exact q)
 .cases F:L.lookup b with
  | none=>rw[cT F];exact u.frzs b o v (by rw[bY F];exact q)
  | some o'=>
   have:=(hf b o' F).2.1;rw[q]at this;cases this;exact jM F
 .have F:=out b _ q (fun _ _ z=>nomatch z);obtain⟨more,z⟩:=u.tbls b ps (by rw[bY F];exact q);exact⟨more,by rw[cT F];exact z⟩
theorem Fly.refrz{outer:List Env}{s s':Ac}{x:Ad}{C:Ab}(F:Fly P w outer (eZ H L) H' s x C s')(hf:∀ b o,L.lookup b=some o->s.heap.get? b=some o/\H b=some (.frz o (.own 0))/\b∉frs outer)(frf:∀ b∈frs outer,H b=none):Fly P w outer H (jR H' L) s x C s':=by
 obtain⟨B,a0,fl,hokB,hkB,htB⟩:=F.ex;have keep:∀ b o,L.lookup b=some o->B.get? b=some o/\H' b=none:=fun b o e=>⟨hkB b o (hf b o e).1 (dX e) (hf b o e).2.2,F.free b o (hf b o e).1 (dX e)⟩
 have out:∀ b v,H b=v->(∀ o u,v≠some (.frz o u))->L.lookup b=none:=fun b v q n=>by
  cases G:L.lookup b with
  | none=>rfl
  | some o=>rw[(hf b o G).2.1]at q;exact absurd q.symm (n _ _)
 refine⟨F.os,F.bare,⟨B,a0,fl,y8 hokB keep,fun b o q n nb=>?_,htB⟩,frf,fun b o q n nb=>?_,fun b o q n=>?_,fun b xs q=>?_,fun b o v q=>?_,fun b ps q=>?_⟩
 .have G:=out b _ n (fun _ _ z=>nomatch z);exact hkB b o q (by rw[bY G];exact n) nb
 .have G:=out b _ n (fun _ _ z=>nomatch z);exact F.slot b o q (by rw[bY G];exact n) nb
 .have G:=out b _ n (fun _ _ z=>nomatch z);rw[cT G];exact F.free b o q (by rw[bY G];exact n)
 .have G:=out b _ q (fun _ _ z=>nomatch z);rw[cT G];exact F.tups b xs (by rw[bY G];exact q)
 .cases G:L.lookup b with
  | none=>rw[cT G];exact F.frzs b o v (by rw[bY G];exact q)
  | some o'=>
   have:=(hf b o' G).2.1;rw[q]at this;cases this;exact jM G
 .have G:=out b _ q (fun _ _ z=>nomatch z);obtain⟨more,z⟩:=F.tbls b ps (by rw[bY G];exact q);exact⟨more,by rw[cT G];exact z⟩
end
def cxL(P:Aq)(w:AL)(K:Ag)(mg:Str->Option Ab)(base:A9)(N:List Str)(qual:Str)(scope:CF)(f:Ad)(cd:Ab)(cl:List (Str×Ad))(A:AI)(outer:List Env)(s:Ac)(H:Hp)(E:XK):Cx where
 prog:=P
 w:=w
 K:=K
 mg:=mg
 base:=base
 A:=A.deeper (envX qual scope s.heap.objs.size f cd cl)
 N:=N
 s₀:=s
 H₀:=H
 env:=envX qual scope s.heap.objs.size f cd cl
 outer:=outer
 stack:=envX qual scope s.heap.objs.size f cd cl::outer
 ex:=[]
 calm:=true
 fn:=fun _=>false
 pn:=[]
 xe:=fun e s'=>wpAny (model P w) (A.deeper (envX qual scope s.heap.objs.size f cd cl)) (leaving (envX qual scope s.heap.objs.size f cd cl) e) (fun _ s''=>CXr P w outer H s E e s'') (fun e' s''=>CXr P w outer H s E e' s'') s'
section
variable{N:List Str}{E:XK}
theorem aAA{cl:List (Str×Ad)}{E':XK}(hE:∀ C dx H',E' C dx H'->E C dx H'):lH (CXr P w) (cxL P w K mg base N qual scope f cd cl A outer s H E) E':=by
 rintro df σ H1 s1 e s2 I ⟨x,C,H2,rfl,F,Y⟩;have U:s1.heap.FunFrames base (envX qual scope s.heap.objs.size f cd cl::outer):=I.stack;have af:∀ b∈frs (envX qual scope s.heap.objs.size f cd cl::outer),H1 b=none:=I.stkFree;obtain⟨B,a0,fl,hokB,hkB,htB⟩:=F.ex;have fl:GX B (envX qual scope s.heap.objs.size f cd cl::outer) x C a0 s2.heap:=fl;show wpAny _ _ (leaving _ _) _ _ _;refine wpAny_leaves_onW (base:=B) (L:=s.heap.objs.size) I.ok.frames rfl fl fun Z y1 y2=>?_;have hL:∀ b,b∈frs (envX qual scope s.heap.objs.size f cd cl::outer)->b=s.heap.objs.size\/b∈frs outer:=fun b hb=>by
  obtain⟨env,J,hf⟩:=A8.mp hb;rcases An.mp J with rfl|J
  .exact .inl (Bt.inj hf).symm
  .exact .inr (A8.mpr ⟨env,J,hf⟩)
 have up:∀ b,b∈frs outer->b∈frs (envX qual scope s.heap.objs.size f cd cl::outer):=fun b hf=>by
  obtain⟨env,J,hf⟩:=A8.mp hf;exact A8.mpr ⟨env,.tail _ J,hf⟩
 have nox:∀ b:Ad,b∉(cxL P w K mg base N qual scope f cd cl A outer s H E).ex:=fun b=>by simp[cxL]
 have G:∀ b o,s1.heap.get? b=some o->H1 b=none->b∈frs (envX qual scope s.heap.objs.size f cd cl::outer)->∃ sl,Z.get? b=some { o with slots:=sl }:=fun b o q n hm=>by
  obtain⟨sl,e1⟩:=F.slot b o q n hm;obtain⟨_,o2,e2,hd⟩:=U.mem hm;rw[q]at e2;cases e2;obtain⟨sl2,e3⟩:=y2 b _ e1 hd;exact⟨sl2,e3⟩
 refine⟨x,C,H2,rfl,⟨F.os.trans I.os,F.bare,⟨B,a0,y1,hokB,fun b o q n O=>hkB b o (I.base.keep b o q n O (nox b)) (I.base.free b o q n (nox b)) fun hm=>?_,fun b o q O=>?_⟩,I.ok.frf,fun b o q n hf=>?_,fun b o q n=>?_,fun b xs q=>F.tups b xs (I.base.tups b xs q),fun b o u q=>F.frzs b o u (I.base.frzs b o u q),fun b ps q=>?_⟩,hE _ _ _ Y⟩
 .rcases hL b hm with z|z
  .rw[z]at q;exact absurd (Ap q) (BD _)
  .exact O z
 .obtain⟨o1,e1⟩:=I.base.there b o q (nox b);refine htB b o1 e1 fun hm=>?_;rcases hL b hm with z|z
  .rw[z]at q;exact absurd (Ap q) (BD _)
  .exact O z
 .obtain⟨sl,e1⟩:=I.base.slot b o q n hf (nox b);obtain⟨sl2,e2⟩:=G b _ e1 (I.base.free b o q n (nox b)) (up b hf);exact⟨sl2,e2⟩
 .obtain⟨o1,e1⟩:=I.base.there b o q (nox b);exact F.free b o1 e1 (I.base.free b o q n (nox b))
 .obtain⟨m1,e1⟩:=I.base.tbls b ps q;obtain⟨m2,e2⟩:=F.tbls b _ e1;exact⟨m1++m2,by rw[<- Fz];exact e2⟩
structure aFT(cl:List (Str×Ad))(L:List (Ad×Obj))(fs:List Str)(zs:List V):Prop where
 pr:AZ (fun(x:Str) (v:V)=>∃ b o u,cl.lookup x=some b/\L.lookup b=some o/\o.data=.cell (some u)/\bQ v u) fs zs
 all:∀ x b,cl.lookup x=some b->∃ o u,L.lookup b=some o/\o.data=.cell u
 inj:∀ x y b,cl.lookup x=some b->cl.lookup y=some b->x=y
theorem aC5{fs:List Str}{c:Ad}{G:CZ}{O:Ba}{cl:List (Str×Ad)}{L:List (Ad×Obj)}{zs:List V}{Q:VK}{k:Nat}{te:TE}
  (U:tE P w K mg base A outer s H) (hr:cF (k+1) A) (S:uH [] fs scope) (hhas:∀ x,scope.names.lookup x=some .free->∃ b,cl.lookup x=some b)
  (hf:H f=some (gH f qual G O scope cl c)) (hc:H c=some (f9 c qual)) (hb:∀(pm am al:Ab),bindArgs (kla_fn "<lambda>" qual G O scope cl pm am al) ⟨[],[]⟩=pure [])
  (tk:aFT cl L fs zs) (hL:∀ b o,L.lookup b=some o->H b=some (.frz o (.own 0))) (an:∀ b o,L.lookup b=some o->b∉frs outer)
  (af:∀ s,PE (cxL P w K mg base fs qual scope f (.ref c) cl A outer s (eZ H L) (fun C dx H'=>(∀ b o,L.lookup b=some o->H' b=none)->E C dx (jR H' L))) O te) (hq:te (zs.map some) (eZ H L) (fun v H'=>(∀ b o,L.lookup b=some o->H' b=none)->Q v (jR H' L))):
  codeAny (model P w) A (.call (.ref f) ⟨[],[]⟩) (CR (CXr P w) outer P w H s Q E) s:=by
 obtain⟨⟨pm,al,ho⟩,_,_⟩:bZ P w H s.heap f (gH f qual G O scope cl c):=U.hok _ _ hf;obtain⟨hrec,_,_⟩:bZ P w H s.heap c (f9 c qual):=U.hok _ _ hc;have hg:∀ b o,L.lookup b=some o->s.heap.get? b=some o/\H b=some (.frz o (.own 0))/\b∉frs outer:=fun b o e=>⟨(U.hok _ _ (hL b o e)).1,hL b o e,an b o e⟩
 have aj:=w6 U.hok hL;have e1:tE P w K mg base A outer s (eZ H L):=⟨U.frames,U.mod,fun b o q=>⟨(U.bs b o q).1,by
  cases el:L.lookup b with
  | none=>rw[bY el];exact(U.bs b o q).2
  | some o'=>exact dX el⟩,U.bsz,U.funs,fun b hb=>by
  cases el:L.lookup b with
  | none=>rw[bY el];exact U.frf b hb
  | some o'=>exact dX el,aj,U.bare⟩
 refine kla_callFunE hr.depth ho rfl S.co S.gen rfl hrec ?_;rw[hb];refine Ah (FJ S.nocell (fun y hy=>nomatch hy) (fun h₁ ap ao=>?_) S.kind);have Z:∀ b o,s.heap.get? b=some o->h₁.get? b=some o:=fun b o e=>ao.extBut b o (Ar (Ap e)) (Ai _ e);refine⟨(U.mod.nolimit.keeps fun b o e=>(U.bs b o e).1).keeps Z,?_⟩;show codeAny _ _ (.expr O (envX qual scope s.heap.objs.size f (.ref c) cl)) _ _;have ad:∀ b:Ad,b∉(cxL P w K mg base fs qual scope f (.ref c) cl A outer s (eZ H L) (fun C dx H'=>(∀ b o,L.lookup b=some o->H' b=none)->E C dx (jR H' L))).ex:=fun b z=>absurd (show b∈([]:List Ad) from z) (by simp);have J:Inv (cxL P w K mg base fs qual scope f (.ref c) cl A outer s (eZ H L) (fun C dx H'=>(∀ b o,L.lookup b=some o->H' b=none)->E C dx (jR H' L))) [] (zs.map some) (eZ H L) { s with heap:=h₁,toks:=s.toks+0 }:=by
  refine⟨⟨e1.mod,S.kind,rfl,rfl,Aj _,fun y z b h1 h2=>tk.inj y z b h1 h2,fun y hy=>?_,fun y b z _=>absurd z (by simp[cxL]),fun _=>hr.hd,Fd e1.frames,.inr ⟨rfl,rfl⟩,fun b z=>absurd z (ad b),e1.bs,e1.bsz,fun b _ _=>ad b,fun b z=>absurd z (ad b),e1.funs,e1.frf⟩,
   rfl,e1.bare,Un.kept Z,⟨_,ap,fun i y v h1 h2 h3=>?_⟩,fun y b h=>?_,e1.hok.fresh (Aj _),fun y b h=>?_,fun p hp=>absurd (show p∈([]:List (Ad×Obj)) from hp) (by simp),e1.hok.kept Z,?_⟩
  .rcases hy with hy|hy
   .exact absurd rfl (S.nocell _ (Bl (show scope.names.lookup y=some .cell from hy)))
   .exact hhas y hy
  .have ai:fs[i]?=some y:=h1;have hz:zs[i]?=some v:=by
    rw[AB]at h2;cases e:zs[i]? with
    | none=>rw[e]at h2;cases h2
    | some a=>rw[e]at h2;cases h2;rfl
   obtain⟨b,o,u,a1,a2,a3,a4⟩:=Paired.at tk.pr ai hz;exact⟨u,a4,.inr ⟨.inr (S.fr y (AU ai)),b,a1,o,Z _ _ (hg b o a2).1,a3⟩⟩
  .obtain⟨o,u,a2,a3⟩:=tk.all y b h;exact⟨u,o,Z _ _ (hg b o a2).1,a3⟩
  .obtain⟨o,u,a2,a3⟩:=tk.all y b h;exact dX a2
  .show _=fs.length;rw[Af,tk.pr.length]
 refine kla_codeExpr (BM ((af s) [] _ _ (eZ H L) _ J hq) (fun u s' hu=>?_) fun e s' z=>?_)
 .obtain⟨v,H',J',rv,q⟩:=hu;obtain⟨u2,ok2⟩:=aFS J'.base J'.hok hg;exact⟨v,_,J'.os,J'.bare,u2,ok2,rv,q fun b o e=>J'.base.free b o (hg b o e).1 (dX e) (by simp[cxL])⟩
 .have ak:∀ e Y,CXr P w outer (eZ H L) s (fun C dx H'=>(∀ b o,L.lookup b=some o->H' b=none)->E C dx (jR H' L)) e Y->CXr P w outer H s E e Y:=fun e Y ⟨x,C,H',e1,F,q⟩=>⟨x,C,_,e1,F.refrz hg U.frf,q fun b o e=>F.free b o (hg b o e).1 (dX e)⟩
  exact BM z (fun _ Y q=>ak e Y q) fun e' Y q=>ak e' Y q
end
def aFU(P:Aq)(w:AL)(K:Ag)(mg:Str->Option Ab)(base:A9)(k:Nat)(f:Ad)(H:Hp)(Q:VK)(E:XK):Prop:=
 (∃ qual params body scope cl c,H f=some (gH f qual params body scope cl c))/\∀(A:AI) (outer:List Env) (s:Ac),cF k A->tE P w K mg base A outer s H->codeAny (model P w) A (.call (.ref f) ⟨[],[]⟩) (CR (CXr P w) outer P w H s Q E) s
theorem aEh{M:E2}{f:Ad}(h:A9)(x:∃ o fd,h.get? f=some o/\o.data=.func fd):∃ k,(k=Keeper.frame\/k=Keeper.machine\/k=Keeper.boundFrame)/\Looks M h (keeperOf (.ref f)) k:=by
 obtain⟨⟨oc,od,oda,osl⟩,fd,ho,hd⟩:=x;dsimp only at hd;subst hd;exact⟨.frame,.inl rfl,(Hx (part:=none) ho).andThen .now⟩
section
variable{k:Nat}{x:Str}{p:Pos}
theorem aIE{tv:TE}(hv:PE X.nox (.Name x p) tv)(Z:cF k X.A):
  PX X (.Call (.Name x p) [] [] pos) (fun Y=>fun σ H Q=>tv σ H fun v H1=>∃ f,v=.ref f/\aFU X.prog X.w X.K X.mg X.base k f H1 Q Y):=by
 constructor;intro Y df s σ H Q I h;refine Cw (BM (hv df s σ H _ (I.wish _) h) (fun u U ⟨y,H1,G,ry,f,ey,⟨qual,F,J,scope,cl,c,hf⟩,hc⟩=>?_) fun _ _ z=>Bw z);subst ey;cases ry;have G:=G.unwish;obtain⟨⟨pm,ctv,ho⟩,_,_⟩:bZ X.prog X.w H1 U.heap f (gH f qual F J scope cl c):=G.hok _ _ hf;refine callWith_of rfl aEh (evalArgs_nil3 ⟨⟨_,_,ho,rfl⟩,?_⟩);refine DF (C2 (hc X.A X.stack U Z G.env0) fun r s' O=>?_);cases r with
 | error e=>exact⟨H1,U,G,O⟩
 | ok fl=>
  cases fl with
  | ret u=>exact G.after O
  | next=>exact Bw O
  | brk=>exact Bw O
  | cont=>exact Bw O
theorem qT{df:List (Ad×Obj)}{σ:St}{H:Hp}{s:Ac}{cl:List (Str×Ad)}(I:Inv X df σ H s)(hhas:∀ x b,X.env.cells.lookup x=some b->∃ U,cl.lookup x=some U\/True):∀{fs:List Str}{zs:List V},aC2 X σ fs zs->
  ∃ L:List (Ad×Obj),(∀ q∈L,s.heap.get? q.1=some q.2/\∃ y∈fs,X.env.cells.lookup y=some q.1)/\AZ (fun(y:Str) (v:V)=>∃ b o u,X.env.cells.lookup y=some b/\(b,o)∈L/\o.data=.cell (some u)/\bQ v u) fs zs
 | _,_,.nil=>⟨[],(fun q F=>nomatch F),.nil⟩
 | y::fs,v::zs,.cons r t=>by
  obtain⟨L,h1,h2⟩:=qT I hhas t;obtain⟨i,a1,a2,a3⟩:=r;obtain⟨m,_,lk⟩:=I.loc;obtain⟨u,ru,lo⟩:=lk i y v a1 a2 (.inr (.inl a3));rcases lo with⟨a4,_⟩|⟨_,b,a4,o,a5,a6⟩
  .rw[a3]at a4;cases a4
  .refine⟨(b,o)::L,fun q F=>?_,.cons ⟨b,o,u,a4,Am,a6,ru⟩ (L2.Paired.mapP h2 fun y v ⟨b,o,u,G,O,J⟩=>⟨b,o,u,G,Al _ O,J⟩)⟩;rcases An.mp F with rfl|F
   .exact⟨a5,y,Am,a4⟩
   .obtain⟨G,z,O,J⟩:=h1 q F;exact⟨G,z,Al _ O,J⟩
theorem w8:∀{L:List (Ad×Obj)}{b:Ad}{o:Obj},L.lookup b=some o->(b,o)∈L
 | [],_,_,h=>nomatch h
 | (c,q)::L,b,o,h=>by
  rw[Bv]at h;cases e:b==c with
  | true=>
   rw[e]at h;cases h;rw[beq_iff_eq.mp e];exact Am
  | false=>
   rw[e]at h;exact Al _ (w8 h)
theorem qA:∀{L:List (Ad×Obj)}{b:Ad}{o:Obj},(b,o)∈L->∃ o',L.lookup b=some o'
 | [],_,_,h=>nomatch h
 | (c,q)::L,b,o,h=>by
  rw[Bv];cases e:b==c with
  | true=>exact⟨q,rfl⟩
  | false=>
   rcases An.mp h with z|z
   .cases z;rw[beq_self_eq_true]at e;cases e
   .exact qA z
end
inductive Thn(H:Hp):V->Prop
 | non:Thn H .non
 | bl (b:Bool):Thn H (.bl b)
 | int (i:Int):Thn H (.int i)
 | str (z:Str):Thn H (.str z)
 | lst {a:Ad} {xs:List V} (e:H a=some (.lst xs)):Thn H (.ref a)
 | tup {a:Ad} {xs:List V} (e:H a=some (.tup xs)):Thn H (.ref a)
 | dct {a:Ad} {fo:List (Key×V)} (e:H a=some (.dK fo)):Thn H (.ref a)
theorem uK{α:Type}{f g:α->Bool}:∀{l:List α},(∀ x∈l,f x=true->g x=true)->(∃ x∈l,f x=false/\g x=true)->l.countP f<l.countP g
 | [],_,h=>by obtain⟨x,F,_⟩:=h;simp at F
 | a::r,h,G=>by
  have hm:r.countP f<=r.countP g:=List.countP_mono_left fun x F=>h x (Al _ F);rw[List.countP_cons,List.countP_cons];obtain⟨x,F,h1,h2⟩:=G;rcases An.mp F with rfl|F
  .rw[h1,h2];simp only[if_true,Da,if_false];omega
  .have:=uK (l:=r) (fun x F=>h x (Al _ F)) ⟨x,F,h1,h2⟩;have ha:=h a Am;cases J:f a
   .simp only[Da,if_false];omega
   .rw[ha J];simp only[if_true];omega
theorem y9{α:Type}{lt:α->α->Bool}(G:∀ a,lt a a=false)(O:∀ a b c,lt a b=true->lt b c=true->lt a c=true)(U:∀ a b c,lt a b=false->lt c b=true->lt c a=true){l:List α}{p q:α}(J:p∈l):decide (l.countP (lt · p)<l.countP (lt · q))=lt p q:=by
 cases h:lt p q with
 | true=>exact Ic (uK (fun x _ F=>O x p q F h) ⟨p,J,G p,h⟩)
 | false=>exact Ie (E8.mpr (List.countP_mono_left fun x _ F=>U p q x h F))
theorem mG{vs:List Ab}{x:AY}(h:x∈(pairsOf vs).toList):x.1=x.2/\x.2∈vs:=by
 rw[pairsOf_toList]at h;obtain⟨i,hi,rfl⟩:=AR.mp h;rw[F3];exact⟨rfl,A2 _⟩
theorem aEi{α:Type}:∀{l:List α},¬ l.toArray.size<2->∃ a b t,l=a::b::t
 | [],h=>absurd (by show 0<2;decide) h
 | [a],h=>absurd (by show 1<2;decide) h
 | a::b::t,_=>⟨a,b,t,rfl⟩
theorem aAB{α:Type}{R:α->α->Prop}:∀{l:List α},l.length<2->l.Pairwise R
 | [],_=>BZ
 | [x],_=>ER _ _
 | _::_::_,h=>absurd h (by simp)
theorem w9{a:Ad}{vs:List Ab}{n:Nat}{rk:Ab->Nat}{P:Gw->Ac->Prop}(O:s.heap.get? a=some (seqObj "list" vs.toArray n))(hK:∀(Z U:Ab) (gL:List Ab),vs=Z::U::gL->∀(s':Ac) (Q:Cs->Ac->Prop),(∀ b u,b≠a->s.heap.get? b=some u->s'.heap.get? b=some u)->(∀ κ,uG prog w A s' κ (pairsOf vs) (fun x=>rk x.2)->Q κ s')->wpAny (model prog w) A (keyKind' vs.toArray) Q E s')(hz:vs.length<=sizeLine)
  (h:∀ out:List Ab,out.Perm vs->(out.Pairwise fun a b=>rk a<=rk b)->P (.done (.ret .none)) { s with heap:=sortedHeap s.heap a vs out.toArray }):wpAny (model prog w) A (Builtin.«list.sort» ⟨[.ref a],[]⟩) P E s:=by
 rw[list_sort_plain];have ha:a<s.heap.objs.size:=Ap O;refine Aa (Hj O rfl (Aa (DQ O rfl ?_)));obtain⟨e1,ho1⟩:∃ e1,(s.heap.update a (Bh fun _=>#[])).get? a=some (seqObj "list" #[] e1):=⟨_,get?_update_seq O (fun _=>#[])⟩
 refine Aa (FM ho1 rfl (Aa (GZ (Aa (E6 (By ?_))))));have n1:a≠((s.heap.update a (Bh fun _=>#[])).push (seqObj "tuple" vs.toArray 0)).objs.size:=by rw[F7,C5];exact Ar (BF ha)
 have n2:a≠(s.heap.update a (Bh fun _=>#[])).objs.size:=by rw[C5];exact Ar ha
 have F:(((s.heap.update a (Bh fun _=>#[])).push (seqObj "tuple" vs.toArray 0)).push (seqObj "list" #[] 0)).get? a=some (seqObj "list" #[] e1):=by
  rw[EI _ _ _ n1,EI _ _ _ n2];exact ho1
 show wpAny (model prog w) A _ P E { s with heap:=((s.heap.update a (Bh fun _=>#[])).push (seqObj "tuple" vs.toArray 0)).push (seqObj "list" #[] 0) };dsimp only;have fin:∀ st:Bn,(arrOf st).Perm (pairsOf vs)->UpL (fun x=>rk x.2) (arrOf st).toList->P (.done (.ret .none)) { s with heap:=sortedHeap s.heap a vs ((arrOf st).map (·.2)) }:=fun st G hu=>by
  have Y:((arrOf st).map (·.2)).toList.Perm vs:=by
   rw[EM];have:=(A7.mp G).map (·.2)
   rw[pairsOf_toList,List.map_snd_zip (Aj _)]at this;exact this
  have:=h _ Y (by rw[EM];exact List.Pairwise.map _ (fun _ _ h=>h) hu)
  rwa [Array.toArray_toList]at this
 have le:∀ st:Bn,(arrOf st).Perm (pairsOf vs)->((arrOf st).map (·.2)).size<=sizeLine+1:=fun st G=>by
  rw[Array.size_map,G.size_eq,pairsOf_size];omega
 by_cases h2:vs.toArray.size<2
 .rw[Ib h2,Ib h2];refine Aa (Ah ?_);rw[StateT.run_pure];refine Aa (Ah ?_);dsimp only;refine Aa (FM F rfl (Aa (DQ F rfl ?_ (hsz2:=le (Ge general' (vs.toArray.zip vs.toArray) #[] 7 none) (Dq _)))));simp only[bne_self_eq_false,Da,if_false];refine Ah (fin (Ge general' (vs.toArray.zip vs.toArray) #[] 7 none) (Dq _) ?_);show UpL _ (pairsOf vs).toList;exact aAB (by rw[AN,pairsOf_size];simpa using h2)
 .rw[Ia h2,Ia h2];obtain⟨Z,U,gL,rfl⟩:=aEi h2;refine Aa (hK Z U gL rfl _ _ (fun b u nb e=>?_) fun κ hc=>Aa (aC0 hc fun st G hu hf=>?_))
  .have J:=Ap e;rw[EI _ _ _ (by rw[F7,C5];exact Ar (BF J)),EI _ _ _ (by rw[C5];exact Ar J),BS _ _ _ _ nb];exact e
  .dsimp only;refine Aa (FM F rfl (Aa (DQ F rfl ?_ (hsz2:=le st G))));rw[hf];simp only[bne_self_eq_false,Da,if_false];exact Ah (fin st G hu)
section
variable{T:String}{r d:Ad}{n:Nat}{P:Nat->Ab->Prop}{OK:A9->Prop}
end
theorem sI:∀{fo:List (Key×V)}{vs:List (Key×Ab)},KV fo vs->fo.map (·.1)=vs.map (·.1)
 | _,_,.nil=>rfl
 | _,_,.cons r t=>by rw[AF,AF,sI t,r.1]
def aKu(P:Aq)(w:AL)(h:A9)(q:Ad)(kv:Key×Ab):Prop:=∃ o key n,h.get? q=some o/\o.cls=.type "tuple"/\o.data=.seq #[key,kv.2] n/\(cK P w).is kv.1 key=true
open PySem.W in
theorem aJG{P:Aq}{w:AL}{k:Key}{u:Ab}(h:(cK P w).is k u=true):bQ (kV k) u:=by
 rcases dD (show qL k u=true from h)with⟨i,t,q,q2⟩|⟨x,t,q,q2⟩
 .rw[q,q2];exact⟨t,rfl⟩
 .rw[q,q2];exact⟨t,rfl⟩
theorem KV.at{fo:List (Key×V)}{vs:List (Key×Ab)}(r:KV fo vs):∀{i:Nat}{k:Key}{v:V},fo[i]?=some (k,v)->∃ u,vs[i]?=some (k,u)/\bQ v u:=by
 unfold KV at r
 induction r with
 | nil=>intro i k v h;simp at h
 | @cons p q _ _ h t G=>
  intro i k v e;cases i with
  | zero=>
   have J:p=(k,v):=by simpa using e
   subst J;obtain⟨q1,q2⟩:=q;obtain⟨h1,h2⟩:=h;have F:k=q1:=h1;subst F;exact⟨q2,rfl,h2⟩
  | succ i=>exact G (by simpa using e)
section
variable{d:Ad}{fo:List (Key×V)}
theorem Inv.freeze(I:Inv X df σ H s)(e:H d=some (.dK fo)):∃ od es ep,s.heap.get? d=some od/\od.ExactDict/\od.data=.dict es ep/\es.size=fo.length/\(d==sysModules)=false/\Inv X df σ (upd H d (.frz od (.dK fo))) s:=by
 obtain⟨hz,hm,vs,rel,od,es,ep,ho,hex,hd,r⟩:bZ X.prog X.w H s.heap d (.dK fo):=I.hok d _ e;have F:es.size=fo.length:=by
  have h1:=r.2.1.length;have h2:=congrArg CU (sI rel);rw[Af,Af]at h2;rw[<- AN,h1,h2]
 exact⟨od,es,ep,ho,hex,hd,F,hm,I.write (x:=d) (e:=d) (t':=s.toks) (by rw[e];exact Cy) (.inl rfl) (fun _ _ _ q=>q) ⟨od,ho⟩ ⟨ho,hz,hm,vs,rel,od,es,ep,ho,hex,hd,r⟩⟩
theorem Inv.fast{od:Obj}{es:Array DictEntry}{ep:Nat}(I:Inv X df σ H s)(e:H d=some (.frz od (.dK fo)))(hd:od.data=.dict es ep):s.heap.get? d=some od/\∃ vs,KV fo vs/\vs.length=fo.length/\s.heap.DictAt (cK X.prog X.w) d vs ep/\PySem.Pairs (cK X.prog X.w) es.toList vs:=by
 obtain⟨ho,hz,hm,vs,rel,od',es',ep',ho',hex,hd',r⟩:bZ X.prog X.w H s.heap d (.frz od (.dK fo)):=I.hok d _ e;rw[ho]at ho';cases ho';rw[hd]at hd';cases hd';have h2:=congrArg CU (sI rel);rw[Af,Af]at h2;exact⟨ho,vs,rel,h2.symm,⟨od,es,ho,hex,hd,r⟩,r.2.1⟩
end
def Iti(d:Ad)(od:Obj)(fo:List (Key×V)):It:=
 ⟨fun i H=>H d=some (.frz od (.dK fo))/\i<fo.length,fun i H x H'=>∃ t k v,x=.ref t/\H t=none/\fo[i]?=some (k,v)/\H'=upd H t (.tup [kV k,v]),fun i H=>H d=some (.frz od (.dK fo))/\fo.length<=i⟩
theorem aB6{P:Aq}{w:AL}{K:Ag}{xs:List Ba}{kk:Nat}{tp:Pos}(d it:Ad)(od:Obj)(fo:List (Key×V)){es:Array DictEntry}{ep:Nat}(hd:od.data=.dict es ep):
  aBG P w K (.Tuple xs kk tp) (Iti d od fo) [it] it (fun i h=>∃ ok G,IsItemIter h it d i fo.length ep ok G) where
 mem:=by simp
 obj:=fun i h st b hb=>by
  have e:b=it:=by simpa using hb
  subst e;obtain⟨_,_,st⟩:=st;exact⟨_,st,fun v z=>by
   have z':G6 _=Data.cell v:=z;cases z'⟩
 keep:=fun i h h' st k=>by
  obtain⟨ok,G,st⟩:=st;exact⟨ok,G,k it (by simp) _ st⟩
 item:=by
  intro X Y hw hK hc i df s σ H E I hf st hg;subst Y hw hK;obtain⟨hH,hi⟩:=hg;obtain⟨f0,f1,f2,f3,f4,f5⟩:=hf it (by simp);obtain⟨ho,vs,rel,hvl,hat,hpr⟩:=I.fast hH hd;obtain⟨ok,G,st⟩:=st;obtain⟨⟨k,v⟩,hk⟩:∃ p,fo[i]?=some p:=⟨fo[i],by simp[hi]⟩
  obtain⟨u,hu,ru⟩:=KV.at rel hk;refine wpAny_pyNext_items_item (kvs:=vs) (by rw[hvl];exact st) hat hu fun key h' O U hT ai Z=>⟨_,rfl,?_⟩
  refine wpAny_letOwnedTupleGo_items U fun F J sb=>?_;have nT:H s.heap.objs.size=none:=I.hok.fresh (Aj _);have nI:s.heap.objs.size≠it:=CG (Ap st);have I1:Inv X df σ H { s with heap:=F,toks:=s.toks }:=I.turned (fun b o hb e=>sb.extBut b o hb (Z b o hb e)) f0 f1 f3 f4 f5;have ae:F.get? s.heap.objs.size=some { cls:=.type "tuple",data:=.seq #[key,u] }:=sb.extBut _ _ nI hT;have I2:Inv X df σ (upd H s.heap.objs.size (.tup [kV k,v])) { s with heap:=F,toks:=s.toks }:=
   I1.track (I.fpOk (Aj _) nT) ⟨aR (show 2<=1000000 by decide),[key,u],.cons (aJG O) (.cons ru .nil),_,ae,⟨rfl,_,rfl⟩,rfl⟩
  refine⟨.ref s.heap.objs.size,_,I2,rfl,⟨_,k,v,rfl,nT,hk,rfl⟩,⟨key,u,by rw[<- hvl];exact J⟩,fun c hc=>?_⟩;have e:c=it:=by simpa using hc
  rw[e,aF nI.symm];exact f0
 done:=by
  intro X Y hw hK hc i df s σ H E I hf st hg;subst Y hw hK;obtain⟨hH,hi⟩:=hg;obtain⟨f0,f1,f2,f3,f4,f5⟩:=hf it (by simp);obtain⟨ho,vs,rel,hvl,hat,hpr⟩:=I.fast hH hd;obtain⟨ok,G,st⟩:=st;exact wpAny_pyNext_items_end (I.ok.hd hc) (kvs:=vs) (by rw[hvl];exact st) hat (BI (by omega)) fun h' eb=>⟨rfl,I.turned (t':=s.toks) (fun b o hb e=>eb b o hb e) f0 f1 f3 f4 f5⟩
 self:=fun _ i _ _ _ st h=>by
  obtain⟨ok,G,st⟩:=st;exact kcp_self st h
section
variable{tg:Ba}
def aIF(tl:TE):TI:=fun σ H R=>tl σ H fun x H1=>∃ d fo,x=.ref d/\H1 d=some (.dK fo)/\∀ od,R (Iti d od fo) (upd H1 d (.frz od (.dK fo)))
theorem aAC{o:Ba}{td:TE}{gp fq:Pos}{xs:List Ba}{kk:Nat}{tp:Pos}(ho:PE X o td)(O:attributeBase o "items" X.env (eval o X.env)=eval o X.env:=by rfl)(J:(gp.endLine==fq.line)=true:=by rfl):
  PI X (.Tuple xs kk tp) (.Call (.Attribute o "items" gp) [] [] fq) (aIF td):=by
 constructor;intro df s σ H R I h;refine wpAny_Call_method0_late O J (thn (ho df s σ H _ I h) fun v G ⟨x,H1,Z,r1,d,fo,ex,hq,q1⟩=>?_);subst ex;obtain rfl:v=AD d:=r1;obtain⟨t1,t2,_⟩:=aFe Z (.inl ⟨fo,.inl hq⟩);obtain⟨zz,hds,vs,rel,dd⟩:=aFc Z.hok hq;refine⟨"dict","dict.items",PySem.F.plainAttrs_dict,PySem.F.slot_dict_items,PySem.F.type_dict_items,t1,t2,EW rfl (PySem.evalArgs_none ?_)⟩;refine call_meetsIn PySem.F.slot_dict_items dd.typeIs PySem.F.entry_dict_items (PySem.F.args_dict_items_1 _) (meets_dict_items (cK X.prog X.w) d hds) ⟨⟨vs,dd⟩,?_⟩;obtain⟨od,es,ep,ho,hex,hd,hel,hm,I2⟩:=Z.freeze hq;have Y:Inv X df σ (upd H1 d (.frz od (.dK fo))) { G with heap:=G.heap.push { cls:=.type "dict_items",data:=.fields #[.ref d] },toks:=G.toks }:=I2.kept fun b o e=>Ai _ e;obtain⟨ho3,vs3,rel3,hvl3,hat3,hpr3⟩:=Y.fast aA hd;have U:Heap.IsItemsView (G.heap.push { cls:=.type "dict_items",data:=.fields #[.ref d] }) G.heap.objs.size d:=⟨_,Aw _ rfl,rfl,rfl⟩
 refine wpAny_pyIter_items (s:={ G with heap:=G.heap.push { cls:=.type "dict_items",data:=.fields #[.ref d] },toks:=G.toks }) U hat3 ?_;refine⟨_,[(G.heap.push { cls:=.type "dict_items",data:=.fields #[.ref d] }).objs.size],_,_,_,rfl,Y.kept (t':=G.toks) fun b o e=>Ai _ e,aB6 d _ od fo hd,⟨.none,.none,by rw[<- hvl3];exact Aw _ rfl⟩,fun b hb=>?_,q1 od⟩;have e:b=(G.heap.push { cls:=.type "dict_items",data:=.fields #[.ref d] }).objs.size:=by simpa using hb
 subst e;exact Y.fpOk (Aj _) (Y.hok.fresh (Aj _))
end
inductive aHR(h:A9)(v:Ab)(z:Str):Prop
 | mk (t:_) (u:_) (a:_) (b:_) (q0:v=.ref t) (q1:E4 h t #[.str z u,a,b]):aHR h v z
def NmT(h:A9)(v:Ab)(z:Str):Prop:=aHR h v z
mutual
def ltD:CY->CY->Bool
 | .str x,.str y=>decide (x.cps.toList<y.cps.toList)
 | .int i,.int j=>decide (i<j)
 | .tuple xs,.tuple ys=>ltL xs ys
 | _,_=>false
def ltL:List CY->List CY->Bool
 | [],[]=>false
 | [],_::_=>true
 | _::_,[]=>false
 | x::xs,y::ys=>if EO x y=true then ltL xs ys else ltD x y
end
mutual
def okD:CY->CY->Bool
 | .str _,.str _=>true
 | .int _,.int _=>true
 | .tuple xs,.tuple ys=>okL xs ys
 | _,_=>false
def okL:List CY->List CY->Bool
 | x::xs,y::ys=>if EO x y=true then okL xs ys else okD x y
 | _,_=>true
end
mutual
def plD:CY->Bool
 | .str _=>true
 | .int _=>true
 | .tuple xs=>plL xs
 | _=>false
def plL:List CY->Bool
 | []=>true
 | x::xs=>plD x&&plL xs
end
structure aKT(d:CY):Prop where
 fm:∃ k xs,d=.tuple (.str k::xs)
 pl:plD d=true
 ly:d.canLay0=true
 dp:d.depth<=6
inductive aHS(h:A9)(v:Ab)(d:CY):Prop
 | mk (as:_) (q0:Reads h v d as):aHS h v d
def RdT(h:A9)(v:Ab)(d:CY):Prop:=aHS h v d
inductive aHT(h:A9)(v:Ab):Prop
 | mk (t:_) (z:_) (u:_) (gL:_) (q0:v=.ref t) (q1:E4 h t (Ff z u::gL).toArray):aHT h v
def FsT(h:A9)(v:Ab):Prop:=aHT h v
inductive pD(K:Ag)(x:V)(y:V)(H:Hp)(Q:VK):Prop
 | mk (p:_) (q:_) (xs:_) (q0:x=.ref p) (q1:y=.ref q) (q2:SqL K H p xs) (q3:SqL K H q []) (q4:Q (.bl (decide (0<xs.length))) H):pD K x y H Q
def aB7(K:Ag):V->V->Hp->VK->Prop:=fun x y H Q=>pD K x y H Q
theorem aAD(hu:X.A.units<cLine):OpR X (compareOp .NotEq) (aB7 X.K):=by
 intro df s σ H x y v u Q I G F h;obtain⟨p,q,xs,rfl,rfl,h1,h2,hq⟩:=h;cases xs with
 | nil=>exact aBZ hu df s σ H _ _ v u Q I G F ⟨p,q,[],[],rfl,rfl,h1,h2,rfl,rfl,hq⟩
 | cons z r=>
  cases G;cases F;obtain⟨us,r1,p1,_⟩:=I.list h1;obtain⟨ws,r2,p2,_⟩:=I.list h2;have O:=r1.length;have J:=r2.length;refine SeqAt.RcNeAt.lists_lengths p1.isList p2.isList (by simp at O J ⊢;omega) hu X.prog X.w _ _ ?_;rw[Ic (show 0<(z::r).length by simp)]at hq;exact⟨.bl _,H,I,rfl,hq⟩
section
variable{es:List Ba}{t:TA}
end
inductive pE(K:Ag)(x:V)(y:V)(H:Hp)(Q:VK):Prop
 | mk (p:_) (q:_) (xs:_) (q0:x=.ref p) (q1:y=.ref q) (q2:SqL K H p xs) (q3:SqL K H q []) (q4:Q (.bl (decide (xs=[]))) H):pE K x y H Q
def aB8(K:Ag):V->V->Hp->VK->Prop:=fun x y H Q=>pE K x y H Q
theorem aAE(hu:X.A.units<cLine):OpR X (compareOp .Eq) (aB8 X.K):=by
 intro df s σ H x y v u Q I G F h;obtain⟨p,q,xs,rfl,rfl,h1,h2,hq⟩:=h;cases xs with
 | nil=>exact aFm hu df s σ H _ _ v u Q I G F ⟨p,q,[],[],rfl,rfl,h1,h2,rfl,rfl,hq⟩
 | cons z r=>
  cases G;cases F;obtain⟨us,r1,p1,_⟩:=I.list h1;obtain⟨ws,r2,p2,_⟩:=I.list h2;have O:=r1.length;have J:=r2.length;refine SeqAt.eq_list_lengthsAt p1.isList p2.isList (by simp at O J ⊢;omega) hu ?_;rw[Ie (show¬ (z::r)=[] by simp)]at hq;exact⟨.bl _,H,I,rfl,hq⟩
structure gC(T:Ad)(Ps:List Pos)(qual:Str)(H:Hp):Prop where
 ex:∃ ps,H T=some (.tbl ps)/\Hg ps.toList/\∀ pos∈Ps,codeAmong pos ps.toList=none\/∃ c,codeAmong pos ps.toList=some (.ref c)/\H c=some (f9 c qual)
theorem gC.same{T:Ad}{Ps:List Pos}{qual:Str}{H H':Hp}(g:gC T Ps qual H)(s:bU H H'):gC T Ps qual H':=by
 obtain⟨ps,h1,h2,F⟩:=g.ex;refine⟨ps,s _ _ h1,h2,fun pos G=>?_⟩;rcases F pos G with F|⟨c,F,J⟩
 .exact .inl F
 .exact .inr ⟨c,F,s _ _ J⟩
theorem gC.start{T:Ad}{Ps:List Pos}{qual:Str}{H:Hp}(h:H T=some (.tbl #[])):gC T Ps qual H:=⟨#[],h,trivial,fun _ _=>.inl rfl⟩
theorem aB9{pos q:Pos}{c:Ab}(l:List Ab)(h:Hg l):codeAmong q (l++[rawInt pos.line,rawInt pos.col,c])=codeAmong q l\/(codeAmong q l=none/\codeAmong q (l++[rawInt pos.line,rawInt pos.col,c])=some c):=by
 fun_induction Hg l with
 | case1=>
  simp only[CS,codeAmong,rawInt];split
  .exact .inr ⟨trivial,rfl⟩
  .exact .inl rfl
 | case2 a t b u x gL F=>
  simp only[Ds,codeAmong];split
  .exact .inl rfl
  .exact F h
 | case3 l h1 h2=>exact h.elim
def aHU(T:Ad)(Ps:List Pos)(qual:Str)(params:CZ)(body:Ba)(scope:CF)(cl:List (Str×Ad)):TE:=fun _ H Q=>gC T Ps qual H/\
 ∀ f c H',dW T H H'->gC T Ps qual H'->H' c=some (f9 c qual)->H' f=some (gH f qual params body scope cl c)->Q (.ref f) H'
theorem aHk{Ps:List Pos}{c T:Ad}{F:CZ}{G:Ba}{scope:CF}{pos:Pos}{cl:List (Str×Ad)}(au:pos∈Ps)(U:X.env.code=.ref c)(hC:codeHdIn X.K c T=true)(hB:p9 X.mg X.base)(ad:closureFor scope X.env=pure cl:=by rfl)(ai:defaultsOf F X.env=([],[]):=by rfl):
  PE X (.Lambda F G scope pos) (aHU T Ps (X.env.qual++"<lambda>") F G scope cl):=by
 constructor;intro df s σ H Q I h;obtain⟨g,q⟩:=h;obtain⟨ps,hT,ht,hor⟩:=g.ex;have gT:s.heap.get? T=some (tabObj ps):=I.hok T _ hT;have ag:∀ b o,X.base.get? b=some o->b≠T:=fun b o e z=>by
  have:=(I.bs b o e).2;rw[z,hT]at this;cases this
 obtain⟨bm,ob,b1,b2,b3,b4,b5,b6,b7⟩:=hB;have aj:s.heap.Ns mainGlobals X.mg:=by
  obtain⟨o,es,ep,e,r⟩:=I.mod.glob;exact⟨o,es,ep,I.bk _ _ e,r⟩
 have ax:mainGlobals≠T:=by
  obtain⟨o,es,ep,e,r⟩:=I.mod.glob;exact ag _ _ e
 have af:s.heap.BuiltinsAt X.mg T:=⟨bm,ob,b1,b2,b3,ag _ _ b4,I.bk _ _ b4,b5,b6,b7⟩
 refine kla_eval ai ?_;rcases hor pos au with am|⟨c',hf,av⟩
 .refine kla_makeFunction (mg:=X.mg) ad I.ok.glob aj U (FN I.kIn hC) gT ht am ax af fun c' Z h' tk hx Y aa ah ak=>?_;have I1:=I.table (t':=tk) (more:=#[rawInt pos.line,rawInt pos.col,.ref c']) hT (fun b o n e=>hx b o n e) ak;have nT:∀ b,s.heap.objs.size<=b->b≠T:=fun b hb z=>absurd (Ap gT) (E8.mpr (z▸hb));have ae:=nT c' Y;have aw:upd H T (.tbl (ps++#[rawInt pos.line,rawInt pos.col,.ref c'])) c'=none:=by
   rw[aF ae];exact I.hok.fresh Y
  have I2:=I1.track (ob:=f9 c' (X.env.qual++"<lambda>")) (I.fpOk Y aw) (aC1 ah);have J:s.heap.objs.size<=h'.objs.size:=by omega
  have al:=nT _ J;have I3:=I2.laid (a:=h'.objs.size) (o:=gH h'.objs.size (X.env.qual++"<lambda>") F G scope cl c') (t':=tk) (h':=h'.push (GU "<lambda>" (X.env.qual++"<lambda>") F G scope cl ((X.mg "__name__").getD .none) c' Z)) (fun b u e=>Ai _ e) (Aj _) (yZ (Aw _ rfl));refine⟨.ref _,_,I3,rfl,q _ c' _ (fun b o n e=>?_) ⟨ps++#[rawInt pos.line,rawInt pos.col,.ref c'],?_,?_,fun p2 ar=>?_⟩ ?_ aA⟩
  .rw[aF (Ar (AE (I.hok.lt e) J)),aF (Ar (AE (I.hok.lt e) Y)),aF n];exact e
  .rw[aF al.symm,aF ae.symm];exact aA
  .rw[Au];exact TriplesOk_snoc _ _ _ _ ht
  .rw[Au];rcases aB9 (pos:=pos) (q:=p2) (c:=.ref c') ps.toList ht with e|⟨_,e⟩
   .rcases hor p2 ar with y|⟨c2,y,O⟩
    .exact .inl (e.trans y)
    .refine .inr ⟨c2,e.trans y,?_⟩;have an:c2≠T:=fun z=>by rw[z,hT]at O;cases O
     rw[aF (Ar (AE (I.hok.lt O) J)),aF (Ar (AE (I.hok.lt O) Y)),aF an];exact O
   .refine .inr ⟨c',e,?_⟩;rw[aF (Ar aa)];exact aA
  .rw[aF (Ar aa)];exact aA
 .refine kla_makeFunctionHit (mg:=X.mg) ad I.ok.glob aj U (FN I.kIn hC) gT ht hf af fun Z h' tk hk J=>?_;have I1:=I.kept (h':=h') (t':=tk) hk;have I3:=I1.laid (a:=h'.objs.size) (o:=gH h'.objs.size (X.env.qual++"<lambda>") F G scope cl c') (t':=tk) (h':=h'.push (GU "<lambda>" (X.env.qual++"<lambda>") F G scope cl ((X.mg "__name__").getD .none) c' Z)) (fun b u e=>Ai _ e) (Aj _) (yZ (Aw _ rfl));have hs:bU H (upd H h'.objs.size (gH h'.objs.size (X.env.qual++"<lambda>") F G scope cl c')):=fun b o e=>by
   rw[aF (Ar (AE (I.hok.lt e) J))];exact e
  exact⟨.ref _,_,I3,rfl,q _ c' _ hs.butT (g.same hs) (hs _ _ av) aA⟩
section
variable{k:Nat}{x:Str}{p:Pos}
inductive aAF(X:Cx)(T:Ad)(Ps:List Pos)(params:CZ)(body:Ba)(scope:CF)(cl:List (Str×Ad))(fs:List Str)(sp:Sp)(σ:St)(H:Hp)(Q:VK):Prop
 | mk (zs:_) (q0:aC2 X σ fs zs) (q1:gC T Ps (X.env.qual++"<lambda>") H) (q2:∀ f c H1 L,dW T H H1->gC T Ps (X.env.qual++"<lambda>") H1->H1 c=some (f9 c (X.env.qual++"<lambda>"))->H1 f=some (gH f (X.env.qual++"<lambda>") params body scope cl c)->aFT cl L fs zs->(∀ b o,L.lookup b=some o->H1 b=none)->
  sp [.ref f] (jR H1 L) (fun v H2=>Q v (eZ H2 L)) E0):aAF X T Ps params body scope cl fs sp σ H Q
def aIG(X:Cx)(T:Ad)(Ps:List Pos)(params:CZ)(body:Ba)(scope:CF)(cl:List (Str×Ad))(fs:List Str)(sp:Sp):TE:=fun σ H Q=>aAF X T Ps params body scope cl fs sp σ H Q
theorem aAG{Ps:List Pos}{g c T:Ad}{fd:A4}{pn:Str}{sp:Sp}{G:CZ}{J:Ba}{scope:CF}{cl:List (Str×Ad)}{fs:List Str}{mU:Pos}(F:cA X.prog X.w X.K X.mg X.base CX0 k g fd [pn] sp)(hr:cF k X.A)(hg:Gl X x)(hm:X.mg x=some (.ref g))(hk:AJ X.K (.ref g)=true)(hb:dA X.K fd [pn] [])
  (aw:mU∈Ps) (ad:X.env.code=.ref c) (hC:codeHdIn X.K c T=true) (hB:p9 X.mg X.base) (hc:∀ y b,cl.lookup y=some b->X.env.cells.lookup y=some b/\y∈fs) (hhas:∀ y∈fs,∃ b,cl.lookup y=some b) (ay:∀ y,X.fn y=true) (bd:X.ex=[]) (av:X.stack=X.env::X.outer) (an:X.env.frame=some X.env.locals)
  (aq:closureFor scope X.env=pure cl:=by rfl) (ag:defaultsOf G X.env=([],[]):=by rfl) (ap:(x==("__debug__":Str))=false:=by decide) (he:starEach [.Lambda G J scope mU] X.env=[(false,eval (.Lambda G J scope mU) X.env)]:=by rfl):
  PE X (.Call (.Name x p) [.Lambda G J scope mU] [] pos) (aIG X T Ps G J scope cl fs sp):=by
 constructor;intro df s σ H Q I h;obtain⟨zs,tk,gt,q⟩:=h;refine Cw (oH I hg hm ?_ ap);have ha:PA X [.Lambda G J scope mU] (aAf (aHU T Ps (X.env.qual++"<lambda>") G J scope cl) aGZ):=jD (aHk aw ad hC hB aq ag) aB he;refine Eh (h₀:=X.base) I.ok.mod.kin hk (thn (ha pos df s σ H (fun vs H1=>∃ f c,vs=[V.ref f]/\dW T H H1/\gC T Ps (X.env.qual++"<lambda>") H1/\H1 c=some (f9 c (X.env.qual++"<lambda>"))/\H1 f=some (gH f (X.env.qual++"<lambda>") G J scope cl c)) I ⟨gt,fun f c H2 a1 a2 a3 a4=>⟨f,c,rfl,a1,a2,a3,a4⟩⟩) fun us s1 ⟨vs,H1,O,r,f,c',ev,a1,a2,a3,a4⟩=>⟨O.kIn,?_⟩) he rfl;subst ev;obtain⟨L,hL,hP⟩:=qT (cl:=cl) O (fun _ b _=>⟨b,.inr trivial⟩) tk;have hl:∀ b o,L.lookup b=some o->s1.heap.get? b=some o/\∃ y∈fs,X.env.cells.lookup y=some b:=fun b o e=>hL _ (w8 e);have hn:∀ b o,L.lookup b=some o->H1 b=none:=fun b o e=>by
  obtain⟨_,y,_,hy⟩:=hl b o e;exact O.freeC y b hy
 have Z:∀ b o,L.lookup b=some o->X.s₀.heap.objs.size<=b:=fun b o e=>by
  obtain⟨_,y,_,hy⟩:=hl b o e;exact O.ok.cab y b (ay y) hy
 have ai:∀ b o,L.lookup b=some o->b∉frs X.stack:=fun b o e z=>by
  rw[av]at z;obtain⟨env,hz,hf⟩:=A8.mp z;rcases An.mp hz with rfl|hz
  .rw[an]at hf;cases hf;obtain⟨_,y,_,hy⟩:=hl _ o e;exact O.cne y _ hy rfl
  .have au:b∈frs X.outer:=A8.mpr ⟨env,hz,hf⟩;obtain⟨_,o2,e2,_⟩:=O.ok.funs.mem au;exact absurd (AE (Ap e2) (Z b o e)) (BD _)
 have ax:aFT cl L fs zs:=by
  refine⟨?_,fun y b e=>?_,fun y z b h1 h2=>O.ok.inj y z b (hc y b h1).1 (hc z b h2).1⟩
  .have key:∀{im:List Str} {ae:List V},(∀ y∈im,y∈fs)->AZ (fun(y:Str) (v:V)=>∃ b o u,X.env.cells.lookup y=some b/\(b,o)∈L/\o.data=.cell (some u)/\bQ v u) im ae->AZ (fun(x:Str) (v:V)=>∃ b o u,cl.lookup x=some b/\L.lookup b=some o/\o.data=.cell (some u)/\bQ v u) im ae:=by
    intro im ae hs pr
    induction pr with
    | nil=>exact .nil
    | @cons y v _ _ r _ ih=>
     refine .cons ?_ (ih fun z hz=>hs z (Al _ hz));obtain⟨b,o,u,c1,c2,c3,c4⟩:=r;obtain⟨b',U⟩:=hhas y (hs y Am);have:=(hc y b' U).1;rw[c1]at this;cases this;obtain⟨o',e'⟩:=qA c2;have e1:=(hl b o' e').1;rw[(hL _ c2).1]at e1;cases e1;exact⟨b,o,u,U,e',c3,c4⟩
   exact key (fun y hy=>hy) hP
  .obtain⟨c1,c2⟩:=hc y b e;have:=O.cell y b c1;obtain⟨u,o,d1,d2⟩:=this;obtain⟨i,hi⟩:=BE c2;obtain⟨v,hv⟩:∃ v,zs[i]?=some v:=⟨_,Ae (by rw[<- hP.length];exact(Ak.mp hi).1)⟩
   obtain⟨b',o',u',f1,f2,f3,_⟩:=Paired.at hP hi hv;rw[c1]at f1;cases f1;obtain⟨o'',e'⟩:=qA f2;have e1:=(hl b o'' e').1;rw[d1]at e1;cases e1;exact⟨o,u,e',d2⟩
 have ar:=q f c' H1 L a1 a2 a3 a4 ax hn;have env:tE X.prog X.w X.K X.mg X.base X.A X.stack s1 (jR H1 L):=by
  have Y:=O.env0;refine⟨Y.frames,Y.mod,fun b o z=>⟨(Y.bs b o z).1,?_⟩,Y.bsz,Y.funs,fun b hb=>?_,y8 Y.hok fun b o e=>⟨(hl b o e).1,hn b o e⟩,Y.bare⟩
  .cases el:L.lookup b with
   | none=>rw[cT el];exact(Y.bs b o z).2
   | some o'=>exact absurd (AE (Ap z) (AM O.ok.bsz (Z b o' el))) (BD _)
  .cases el:L.lookup b with
   | none=>rw[cT el];exact Y.frf b hb
   | some o'=>exact absurd hb (ai b o' el)
 have ao:us.length=1:=r.length.symm;have U:=hb s1 us O.kIn (by rw[Bp];exact ao);rw[Bp]at U;refine DF (C2 (F.run X.A X.stack s1 (jR H1 L) ⟨us,[]⟩ us [.ref f] _ E0 hr env U r ar) fun rr s' hq=>?_);cases rr with
 | error e=>exact Bw hq
 | ok fl=>
  cases fl with
  | ret u=>
   obtain⟨v,H2,os,bare,un,hok,rv,hQ⟩:=hq;obtain⟨un2,hok2⟩:=aFR un hok fun b o e=>⟨(hl b o e).1,hn b o e,ai b o e⟩
   exact O.after ⟨v,_,os,bare,un2,hok2,rv,hQ⟩
  | next=>exact Bw hq
  | brk=>exact Bw hq
  | cont=>exact Bw hq
end
inductive aIH(x:V)(xs:List V)(H:Hp)(Q:VK):Prop
 | mk (z y:PySem.Str) (h0:x=.str z) (h1:xs=[.str y]) (hy:(y.length==0)=false) (hz:z.length<=sizeLine) (q:∀ t,H t=none->Q (.ref t) (upd H t (.tup [.str (GJ z y).1,.str (GJ z y).2.1,.str (GJ z y).2.2]))):aIH x xs H Q
inductive aHV(x:V)(vs:List V)(H:Hp)(Q:VK):Prop
 | mk (l:Ad) (xs:List V) (i:Nat) (y:V) (h0:x=.ref l) (h1:vs=[.int i,y]) (hH:H l=some (.lst xs)) (hi:i<=xs.length) (hz:xs.length<sizeLine) (q:Q .non (upd H l (.lst (xs.take i++y::xs.drop i)))):aHV x vs H Q
def aHl:V->List V->Hp->VK->Prop:=fun x vs H Q=>aHV x vs H Q
theorem aEj{X:Cx}:MtM X "list.insert" aHl:=by
 intro df s σ H x vs v us Q I O Y h;obtain⟨l,xs,i,y,rfl,rfl,hH,hi,hz,q⟩:=h;cases O;obtain⟨u,u2,rfl,ru,ru2⟩:=Y.two;obtain⟨t,rfl⟩:=ru;obtain⟨z,its,n,r,hl,e⟩:=I.lstM hH;have hs:((sizeLine:Nat):Int)<2^63:=by decide
 have h1:-(2^63)<=(i:Int):=Int.le_trans (by decide:-(2^63)<=(0:Int)) (Ey i);have h2:(i:Int)<2^63:=Fc (by omega:(i:Int)<((sizeLine:Nat):Int)) hs;have G:¬ (!Builtin.List.listFitsIndex (i:Int))=true:=by
  rw[fitsIndex_both h1 h2];exact Av
 have J:its.toArray.size<=sizeLine:=by rw[AA];omega
 generalize Z:(i:Int)=j at G;have hm:=AutoSeq1.list_insert_list_int_val_1 l its.toArray n j t u2 G J;refine G0 F.slot_list_insert ⟨_,e,rfl⟩ F.entry_list_insert (F.args_list_insert_3 _ _ _) hm ⟨e,?_⟩;subst Z;refine⟨.non,_,I.lset (its':=its.take i++u2::its.drop i) hH e ?_ ((r.take i).append (.cons ru2 (r.drop i))) ?_,rfl,q⟩
 .have U:(if (i:Int)<0 then((i:Int)+(its.toArray.size:Int)).toNat else min (i:Int).toNat its.toArray.size)=i:=by
   rw[Ia (by omega),AA];omega
  show(its.toArray.extract 0 (if (i:Int)<0 then((i:Int)+(its.toArray.size:Int)).toNat else min (i:Int).toNat its.toArray.size)).push u2++its.toArray.extract (if (i:Int)<0 then((i:Int)+(its.toArray.size:Int)).toNat else min (i:Int).toNat its.toArray.size)=_;rw[U];apply Array.toList_inj.mp;simp;exact Bj (by rw[BP];exact Aj _)
 .rw[Ay,AQ,Bm,BP];omega
def ltI(x y:Int×Int):Bool:=if x.1==y.1 then decide (x.2<y.2) else decide (x.1<y.1)
theorem pF(x y:Int×Int):ltI x y=true↔x.1<y.1\/(x.1=y.1/\x.2<y.2):=by
 unfold ltI;by_cases e:x.1=y.1
 .rw[beq_iff_eq.mpr e,Ib rfl,decide_eq_true_iff];constructor
  .intro h;exact .inr ⟨e,h⟩
  .intro h;rcases h with h|h
   .omega
   .exact h.2
 .rw[beq_eq_false_iff_ne.mpr e,Ia Av,decide_eq_true_iff];constructor
  .intro h;exact .inl h
  .intro h;rcases h with h|h
   .exact h
   .exact absurd h.1 e
theorem zB(a:Int×Int):ltI a a=false:=by
 rw[Di];intro h;rw[pF]at h;omega
theorem aCa(a b c:Int×Int)(h1:ltI a b=true)(h2:ltI b c=true):ltI a c=true:=by
 rw[pF]at *;omega
theorem aFV(a b c:Int×Int)(h1:ltI a b=false)(h2:ltI c b=true):ltI c a=true:=by
 have h1:¬ ltI a b=true:=by rw[h1];exact Av
 rw[pF]at *;omega
inductive aC6(h:A9)(v:Ab)(d:Int×Int):Prop
 | mk (t:_) (u1:_) (u2:_) (q0:v=.ref t) (q1:E4 h t #[.int d.1 u1,.int d.2 u2]):aC6 h v d
def m7(h:A9)(v:Ab)(d:Int×Int):Prop:=aC6 h v d
theorem m7.any{h:A9}{v:Ab}{d:Int×Int}(k:m7 h v d):aHQ h v:=by
 obtain⟨t,u1,u2,e,ht⟩:=k;exact⟨t,d.1,d.2,u1,u2,e,ht⟩
theorem aJH{F:Bool}{v1 U:Ab}{x y:Int×Int}{C:Bool->Ac->Prop}(G:m7 s.heap v1 x)(J:m7 s.heap U y)(h:C (ltI x y) s):
  wpAny (model prog w) A (keyLt' (tuples' F) v1 U) C E s:=by
 obtain⟨a1,b1⟩:=x;obtain⟨a2,b2⟩:=y;obtain⟨p1,t1,t2,rfl,G⟩:=G;obtain⟨p2,u1,u2,rfl,J⟩:=J;dsimp only at G J;unfold ltI at h;dsimp only at h;show wpAny _ _ (DD (.ref p1) >>= _) _ _ _;refine Aa (p6 G ?_);refine Aa (p6 J ?_);dsimp only[List.zip_cons_cons,List.zipIdx_cons,List.zip_nil_left];rw[List.zipIdx_nil];have Z:∀{Q:Bool->Ac->Prop} {a b:Int} {t u:Tok},Q (a==b) s->wpAny (model prog w) A (eqBool (.int a t) (.int b u)) Q E s:=fun{Q a b t u} q=>SeqAt.EqAt.int_int a t b u prog w _ _ q;refine Aa ?_;rw[Fb];refine Aa (Aa (Z ?_));cases Y:(a1==a2)with
 | false=>
  rw[Y,Ia Av]at h;refine DE (by decide) ?_;refine Aa ?_;show wpAny _ _ (oneLt' (F&&0==0) (BH a1 t1) (BH a2 u1)) _ _ _;cases F
  .exact aCU (Ah (Ah (Ah h)))
  .exact oneLt_int (Ah (Ah (Ah h)))
 | true=>
  rw[Y,Ib rfl]at h;refine Bf (by decide) (Ah ?_);dsimp only;rw[Fb];refine Aa (Aa (Z ?_));cases O:(b1==b2)with
  | false=>
   refine DE (by decide) ?_;refine Aa ?_;have ez:(F&&((0+1:Nat)==0))=false:=by cases F<;>rfl
   show wpAny _ _ (oneLt' (F&&(0+1==0)) (BH b1 t2) (BH b2 u2)) _ _ _;rw[ez];exact aCU (Ah (Ah (Ah h)))
  | true=>
   rw[Ie (by rw[beq_iff_eq.mp O];omega)]at h;refine Bf (by decide) (Ah ?_);dsimp only;rw[List.forIn_nil];exact Ah (Ah h)
theorem aJI{a kS:Ad}{ks its:List Ab}{e e1:Nat}{P:Gw->Ac->Prop}(ha:s.heap.get? a=some (seqObj "list" #[] e1))(hk:s.heap.get? kS=some (seqObj "list" ks.toArray e))(aa:a≠kS)(hl:ks.length=its.length)(J:its.length<=sizeLine){kf:Ab->Int×Int}(hK:∀ k v,(k,v)∈ks.zip its->m7 s.heap k (kf v))
  (h:∀ out:List Ab,out.Perm its->(out.Pairwise fun a b=>ltI (kf b) (kf a)=false)->P (Fin.done (HC CW)) { s with heap:=(s.heap.update kS (Bh fun _=>#[])).update a (Bh fun _=>out.toArray) }):wpAny (model prog w) A (ksk_end a false its.toArray e1 (.ref kS) ks.toArray) P E s:=by
 have F:(ks.toArray.zip its.toArray).size=its.length:=by simp[hl]
 have fin:∀ st:Bn,(arrOf st).Perm (ks.toArray.zip its.toArray)->((arrOf st).toList.Pairwise fun x y=>ltI (kf y.2) (kf x.2)=false)->failedOf st=none->wpAny (model prog w) A (ksk_tail a false e1 (.ref kS) st) P E s:=fun st O hu hf=>by
  refine aJw ha hk aa (by rw[AA,hl];exact J) (by rw[O.size_eq,F];exact J) hf ?_;have Z:((arrOf st).map (·.2)).toList.Perm its:=by
   rw[EM];have:=(A7.mp O).map (·.2)
   have e2:(ks.toArray.zip its.toArray).toList.map (·.2)=its:=by
    rw[Array.toList_zip];exact List.map_snd_zip (by simp[hl])
   rw[e2]at this;exact this
  have:=h _ Z (by rw[EM];exact List.Pairwise.map _ (fun _ _ h=>h) hu);rw[Array.toArray_toList]at this;exact this
 unfold ksk_end;dsimp only;by_cases h2:its.length<2
 .have G:its.toArray.size<2:=by simpa using h2
  rw[Ia Av,Ib G];refine Aa (Ah ?_);rw[Ib G,Ia Av];refine Aa (Ah ?_);refine fin _ (Dq _) ?_ rfl;show(ks.toArray.zip its.toArray).toList.Pairwise _;exact aAB (by rw[AN,F];exact h2)
 .have G:¬ its.toArray.size<2:=by simpa using h2
  rw[Ia Av,Ia G];have Y:∀ z:AY,z∈(ks.toArray.zip its.toArray).toList->m7 s.heap z.1 (kf z.2):=fun z hz=>by
   rw[Array.toList_zip]at hz;obtain⟨p,q⟩:=z;exact hK p q hz
  refine Aa (aFN (fun v hv=>?_) fun b=>?_)
  .obtain⟨i,hi,rfl⟩:=AR.mp hv;exact(hK _ (its[i]'(by omega)) (by rw[AR];exact⟨i,by rw[List.length_zip];omega,by rw[F3]⟩)).any
  rw[Ia G,Ia Av];have hR:∀ x y:AY,x∈(ks.toArray.zip its.toArray).toList->decide ((ks.toArray.zip its.toArray).toList.countP (fun z=>ltI (kf z.2) (kf x.2))<(ks.toArray.zip its.toArray).toList.countP (fun z=>ltI (kf z.2) (kf y.2)))=ltI (kf x.2) (kf y.2):=fun x y U=>
   y9 (lt:=fun x y:AY=>ltI (kf x.2) (kf y.2)) (fun _=>zB _) (fun _ _ _=>aCa _ _ _) (fun _ _ _=>aFV _ _ _) U
  refine Aa (aC0 (rk:=fun x:AY=>(ks.toArray.zip its.toArray).toList.countP fun z=>ltI (kf z.2) (kf x.2)) (fun x y U hy C hC=>?_) fun st O hu hf=>fin st O ?_ hf)
  .dsimp only at hC;rw[hR x y U]at hC;exact aJH (Y x U) (Y y hy) hC
  .refine List.Pairwise.imp_of_mem (fun{x y} U hy h=>?_) hu;rw[<- hR y x ((A7.mp O).mem_iff.mp hy)];exact Ie (E8.mpr h)
theorem aC7{z:V}:∀{xs:List V}{F:List Ab},bK xs F->z∈xs->∃ v∈F,bQ z v
 | _,_,.nil,h=>by simp at h
 | _,_,.cons r t,h=>by
  rcases An.mp h with rfl|h
  .exact⟨_,Am,r⟩
  .obtain⟨v,hv,hr⟩:=aC7 t h;exact⟨v,Al _ hv,hr⟩
theorem uL{kf:V->Int×Int}{gf:Ab->V}:∀{ys:List V}{out:List Ab},bK ys out->(∀ y∈ys,∀ v,bQ y v->gf v=y)->(out.Pairwise fun a b=>ltI (kf (gf b)) (kf (gf a))=false)->ys.Pairwise fun a b=>ltI (kf b) (kf a)=false
 | _,_,.nil,_,_=>BZ
 | _,_,.cons U O,G,F=>by
  obtain⟨p1,p2⟩:=Cg.mp F;refine Cg.mpr ⟨fun z J=>?_,uL O (fun y Y=>G y (Al _ Y)) p2⟩;obtain⟨v,hv,hr⟩:=aC7 O J;have:=p1 v hv;rw[G _ Am _ U,G z (Al _ J) _ hr]at this;exact this
theorem aC8{α β:Type}{R:α->β->Prop}{a:α}{b:β}(r:R a b):∀{as:List α}{bs:List β},AZ R as bs->AZ R (as++[a]) (bs++[b])
 | _,_,.nil=>.cons r .nil
 | _,_,.cons q t=>.cons q (aC8 r t)
inductive aC9(H:Hp)(v:Ab)(d:Int×Int):Prop
 | mk (t:_) (q0:v=.ref t) (q1:H t=some (.tup [.int d.1,.int d.2])):aC9 H v d
def uM(H:Hp)(v:Ab)(d:Int×Int):Prop:=aC9 H v d
theorem uM.same{H H':Hp}{v:Ab}{d:Int×Int}(h:uM H v d)(s:bU H H'):uM H' v d:=by
 obtain⟨t,e,ht⟩:=h;exact⟨t,e,s _ _ ht⟩
theorem uM.real{H:Hp}{s:Ac}{v:Ab}{d:Int×Int}(I:Inv X df σ H s)(h:uM H v d):m7 s.heap v d:=by
 obtain⟨t,rfl,ht⟩:=h;obtain⟨_,its,F,hT⟩:bZ X.prog X.w H s.heap t (.tup [.int d.1,.int d.2]):=I.hok _ _ ht;cases F with
 | cons J F=>
  cases F with
  | cons G F=>
   cases F;obtain⟨u1,e1⟩:=J;obtain⟨u2,e2⟩:=G;subst e1 e2;exact⟨t,u1,u2,rfl,hT⟩
theorem aEk{f:Ad}{A':AI}{E:Ab->Ac->Prop}
  {D kS:Ad} {H0:Hp} {e1:Nat} {xs:List V} {kf:V->Int×Int} (fD:∀ H',H' D=none->lC X df H' D) (fK:∀ H',H' kS=none->lC X df H' kS) (am:D≠kS)
  (aj:∀ y∈xs,∀(v:Ab) (Y:List (Ad×Obj)) (H':Hp) (s':Ac),bQ y v->Inv X Y σ H' s'->bU H0 H'->codeAny (model X.prog X.w) A' (.call (.ref f) ⟨[v],[]⟩) (CR CX0 X.stack X.prog X.w H' s' (fun u G=>∃ t,u=.ref t/\G t=some (.tup [.int (kf y).1,.int (kf y).2])/\bU H' G) E0) s') {er:Ab->Ab->Sem (ForInStep PUnit)} {Q:Ac->Prop}
  {J:Ab->PUnit->Sem (ForInStep PUnit)} (O:∀ v u,J v u=(do
   let r <- (call (.ref f) [v]).attempt
   match r with
   | Except.ok k=>do
    Em (.ref kS) fun x=>x.push k
    pure (Ct Hd)
   | Except.error e=>er v e)):
  ∀(gL:List Ab) (xr:List V) (s:Ac) (H:Hp) (ks:List Ab) (xd:List V) (e:Nat),bK xr gL->(∀ y∈xr,y∈xs)->Inv X df σ H s->bU H0 H->H D=none->H kS=none->s.heap.get? D=some (seqObj "list" #[] e1)->s.heap.get? kS=some (seqObj "list" ks.toArray e)->AZ (fun k y=>uM H k (kf y)) ks xd->ks.length+gL.length<=sizeLine->
   (∀(s':Ac) (H':Hp) (Z:List Ab) (e':Nat),Inv X df σ H' s'->bU H0 H'->H' D=none->H' kS=none->s'.heap.get? D=some (seqObj "list" #[] e1)->s'.heap.get? kS=some (seqObj "list" Z.toArray e')->AZ (fun k y=>uM H' k (kf y)) Z (xd++xr)->Z.length=ks.length+gL.length->Q s')->
   wpAny (model X.prog X.w) A' (forIn gL Hd J) (fun _ s'=>Q s') E s:=by
 intro gL
 induction gL with
 | nil=>
  intro xr s H ks xd e r F I S hD hK gD gK hk ae q;rw[List.forIn_nil];cases r;exact Ah (q s H ks e I S hD hK gD gK (by rw[Bp];exact hk) rfl)
 | cons v gL ih=>
  intro xr s H ks xd e r F I S hD hK gD gK hk ae q;rw[AQ]at ae;cases r with
  | @cons y _ an _ r1 r2=>
  rw[Fb,O];refine Aa (Aa (Dn ?_));have I3:Inv X ((D,seqObj "list" #[] e1)::(kS,seqObj "list" ks.toArray e)::df) σ H s:=I.pins_of fun p U=>by
   rcases An.mp U with z|U
   .subst z;exact⟨gD,hD,(fD H hD).2.1,(fD H hD).2.2.1,fun v z=>by cases z⟩
   .rcases An.mp U with z|U
    .subst z;exact⟨gK,hK,(fK H hK).2.1,(fK H hK).2.2.1,fun v z=>by cases z⟩
    .exact I.pin p (AH _ U)
  refine DF (C2 (aj y (F y Am) v _ H s r1 I3 S) fun r s' hq=>?_);cases r with
  | error e=>exact Bw hq
  | ok fl=>
   cases fl with
   | next=>exact Bw hq
   | brk=>exact Bw hq
   | cont=>exact Bw hq
   | ret u=>
    obtain⟨vv,H',I',r',t,rfl,ht,S'⟩:=I3.after hq;cases r';obtain⟨gD',hD',_⟩:=I'.pin (D,seqObj "list" #[] e1) (AH _ Am);obtain⟨gK',hK',_⟩:=I'.pin (kS,seqObj "list" ks.toArray e) (AH _ (Al _ Am));have I4:Inv X df σ H' s':=I'.pins_of fun p U=>I'.pin p (AH _ (Al _ (Al _ U)));refine Aa (DQ gK' rfl ?_ (by rw[AA];omega) (by rw[Array.size_push,AA];omega));refine Ah ?_;have ai:=get?_update_seq gK' (fun x=>x.push (.ref t));have ep:(ks.toArray.push (.ref t))=(ks++[AD t]).toArray:=by simp
    rw[ep]at ai;have I5:Inv X df σ H' { s' with heap:=s'.heap.update kS (Bh fun x=>x.push (.ref t)) }:=I4.turnedL (t':=s'.toks) (fp:=[kS]) (fun b o hb e=>by
     rw[BS _ _ _ _ (fun z=>hb (by simp[z]))];exact e) fun b hb=>by
      rw[Ax.mp hb];exact fK H' hK'
    refine ih an _ H' (ks++[AD t]) (xd++[y]) _ r2 (fun y hy=>F y (Al _ hy)) I5 (S.trans S') hD' hK' ?_ ai (aC8 ⟨t,rfl,ht⟩ (Paired.mapP hk fun k z h=>h.same S')) (by rw[Ay,BU];omega) fun aq G ad ap a1 a2 a3 a4 a5 a6 a7 a8=>?_
    .show(s'.heap.update kS _).get? D=_;rw[BS _ _ _ _ am];exact gD'
    .exact q aq G ad ap a1 a2 a3 a4 a5 a6 (by rw[AW]at a7;exact a7) (by rw[a8,Ay,BU,AQ];omega)
theorem aFW{f l:Ad}{xs:List V}{kf:V->Int×Int}{gf:Ab->V}{Q:VK}{E:Ab->Ac->Prop}
  (I:Inv X df σ H s) (hl:SqL X.K H l xs) (bn:xs.length<=sizeLine) (hg:∀ y v,y∈xs->bQ y v->gf v=y)
  (ar:∀ y∈xs,∀(v:Ab) (ah:List (Ad×Obj)) (H':Hp) (s':Ac),bQ y v->Inv X ah σ H' s'->bU H H'->codeAny (model X.prog X.w) X.A.in1.in1 (.call (.ref f) ⟨[v],[]⟩) (CR CX0 X.stack X.prog X.w H' s' (fun u ai=>∃ t,u=.ref t/\ai t=some (.tup [.int (kf y).1,.int (kf y).2])/\bU H' ai) E0) s')
  (q:∀ D ys H',bU H H'->H D=none->ys.Perm xs->(ys.Pairwise fun a b=>ltI (kf b) (kf a)=false)->H' D=some (.lst ys)->Q (.ref D) H'):
  wpAny (model X.prog X.w) X.A (call (.builtin "sorted") [.ref l] [(BJ "key",.ref f)]) (EP X df σ Q) E s:=by
 obtain⟨its,rv,pl,_⟩:=I.list hl;have bf:=rv.length;have zz:its.length<=sizeLine:=by omega
 refine call_function_entry_kw Hv Hh Hk (ksk_s1 _ _) ?_;refine Aa (Ah ?_);refine Aa (collect_list pl.isList ?_ zz);refine Aa (E6 ?_ zz);have F:((s.heap.push (seqObj "list" #[] 0)).update s.heap.objs.size (Bh fun x=>x++its.toArray)).objs.size=s.heap.objs.size+1:=by
  rw[C5,F7]
 generalize aw:(s.heap.push (seqObj "list" #[] 0)).update s.heap.objs.size (Bh fun x=>x++its.toArray)=h1 at F ⊢;have am:∀ b o,s.heap.get? b=some o->h1.get? b=some o:=fun b o e=>by
  rw[<- aw,BS _ _ _ _ (Ar (Ap e))];exact Ai _ e
 dsimp only;obtain⟨D,hD⟩:∃ D,D=h1.objs.size:=⟨_,rfl⟩
 have G:(h1.push (seqObj "list" its.toArray 0)).get? D=some (seqObj "list" its.toArray 0):=by
  rw[hD];exact Aw _ rfl
 have aa:∀ b o,s.heap.get? b=some o->(h1.push (seqObj "list" its.toArray 0)).get? b=some o:=fun b o e=>Ai _ (am b o e);have ad:(h1.push (seqObj "list" its.toArray 0)).objs.size=s.heap.objs.size+2:=by rw[F7,F]
 change wpAny _ _ (do let _ <- holding [AD h1.objs.size] (call (.builtin "list.sort") [AD h1.objs.size] [(BJ "key",.ref f)]);ret (AD h1.objs.size)) _ _ { s with heap:=h1.push (seqObj "list" its.toArray 0) };rw[<- hD];generalize h1.push (seqObj "list" its.toArray 0)=h2 at G aa ad ⊢;have af:D=s.heap.objs.size+1:=by rw[hD,F]
 refine Aa (By (wpAny_call_entry_kw slot_list_sort ⟨_,G,rfl⟩ entry_list_sort ?_ (ksk_l1 _ _)));rw[ksk_t1];unfold ksk_tree;refine Aa (Hj G rfl ?_);refine Aa (DQ G rfl ?_ (by rw[AA];exact zz) (AV _));have J:=get?_update_seq G (fun _=>#[]);generalize (if ((#[]:Array Ab).size==its.toArray.size)=true then 0 else 0+1)=e1 at J;have O:∀ b o,s.heap.get? b=some o->(h2.update D (Bh fun _=>#[])).get? b=some o:=fun b o e=>by
  rw[BS _ _ _ _ (Ar (by rw[af];exact BF (Ap e)))];exact aa b o e
 have Y:(h2.update D (Bh fun _=>#[])).objs.size=s.heap.objs.size+2:=by rw[C5,ad]
 dsimp only;generalize h2.update D (Bh fun _=>#[])=h3 at J O Y ⊢;refine Aa (FM J rfl ?_);refine Aa (GZ ?_ (by simpa using zz));refine Aa (E6 ?_ (AV _));dsimp only;refine By ?_;obtain⟨kS,hkS⟩:∃ kS,kS=(h3.push { cls:=Bq "tuple",data:=Ew its.toArray.toList.toArray }).objs.size:=⟨_,rfl⟩
 have au:((h3.push { cls:=Bq "tuple",data:=Ew its.toArray.toList.toArray }).push { cls:=Bq "list",data:=Ew ([]:List Ab).toArray }).get? kS=some (seqObj "list" ([]:List Ab).toArray 0):=by
  rw[hkS];exact Aw _ rfl
 have aq:((h3.push { cls:=Bq "tuple",data:=Ew its.toArray.toList.toArray }).push { cls:=Bq "list",data:=Ew ([]:List Ab).toArray }).get? D=some (seqObj "list" #[] e1):=Ai _ (Ai _ J);have U:∀ b o,s.heap.get? b=some o->((h3.push { cls:=Bq "tuple",data:=Ew its.toArray.toList.toArray }).push { cls:=Bq "list",data:=Ew ([]:List Ab).toArray }).get? b=some o:=fun b o e=>Ai _ (Ai _ (O b o e));have Z:kS=s.heap.objs.size+3:=by rw[hkS,Co,Y]
 rw[<- hkS];generalize (h3.push { cls:=Bq "tuple",data:=Ew its.toArray.toList.toArray }).push { cls:=Bq "list",data:=Ew ([]:List Ab).toArray }=h4 at au aq U ⊢;have ag:D≠kS:=Ar (by rw[af,Z];omega);have I4:Inv X df σ H { s with heap:=h4 }:=I.kept (t':=s.toks) U;have lD:s.heap.objs.size<=D:=by rw[af];exact C9 _
 have lK:s.heap.objs.size<=kS:=by rw[Z];exact D9 _ _
 have nD:H D=none:=I.hok.fresh lD;have nK:H kS=none:=I.hok.fresh lK;have fD:∀ H',H' D=none->lC X df H' D:=fun H' hn=>I.fpOk lD hn;have fK:∀ H',H' kS=none->lC X df H' kS:=fun H' hn=>I.fpOk lK hn;unfold ksk_rest;refine Aa (C6 ?_);refine Aa ?_;rw[<- Array.forIn_toList];refine aEk (X:=X) (kf:=kf) (df:=df) (σ:=σ) (f:=f) (A':=X.A.in1.in1) (D:=D) (kS:=kS) (H0:=H) (e1:=e1) (xs:=xs) fD fK ag ar (er:=fun v e=>do
     rule "list.sort.key-raised"
     let made <- DD (.ref kS)
     Em (.ref kS) fun x=>#[]
     letGo made.toList.reverse [e]
     Em (AD D) fun x=>its.toArray
     throw e
     pure (Ct Hd)) (fun v u=>by congr 1) its xs _ H [] [] 0 rv (fun y hy=>hy) I4 (bU.refl H) nD nK aq au .nil (by simp;omega) ?_
 intro s' H' ks e' I' S ae a0 ak ao ba ax;refine Aa (Hj ao rfl ?_);have ap:∀ k v,(k,v)∈ks.zip its->m7 s'.heap k (kf (gf v)):=fun k v hm=>by
  obtain⟨i,hi,e⟩:=AR.mp hm;rw[F3]at e;injection e with e1 e2;rw[List.length_zip]at hi;have al:i<xs.length:=by omega
  have hy:=Paired.at rv (Ae al) (Ae (by omega:i<its.length));have aT:=Paired.at ba (Ae (by omega:i<ks.length)) (by rw[CS];exact Ae al);rw[<- e2,hg _ _ (A2 _) hy,<- e1];exact aT.real I'
 refine aJI ak ao ag (by simpa using ax) (by omega) ap fun out hp aC=>?_;refine⟨_,rfl,Ah ⟨_,rfl,?_⟩⟩;obtain⟨ys,hys,rys⟩:=wY hp rv;have I6:Inv X df σ H' { s' with heap:=(s'.heap.update kS (Bh fun _=>#[])).update D (Bh fun _=>out.toArray) }:=I'.turnedL (t':=s'.toks) (fp:=[kS,D]) (fun b o hb e=>by
  rw[BS _ _ _ _ (fun z=>hb (by simp[z])),BS _ _ _ _ (fun z=>hb (by simp[z]))];exact e) fun b hb=>by
   simp only[An,AO,or_false]at hb;rcases hb with rfl|rfl
   .exact fK H' a0
   .exact fD H' ae
 have aL:((s'.heap.update kS (Bh fun _=>#[])).update D (Bh fun _=>out.toArray)).get? D=_:=get?_update_seq (c:="list") (xs:=#[]) (n:=e1) (by
  rw[BS _ _ _ _ ag];exact ak) fun _=>out.toArray
 have ay:ys.length<=sizeLine:=by rw[hys.length_eq];omega
 have az:ys.Pairwise fun a b=>ltI (kf b) (kf a)=false:=uL rys (fun y hy v=>hg y v (hys.mem_iff.mp hy)) aC;exact⟨.ref D,_,I6.track (ob:=.lst ys) (fD H' ae) ⟨ay,out,_,rys,aL⟩,rfl,q D ys _ (S.trans (aH ae)) nD hys az aA⟩
section
variable{ta:TA}
def aKv(X:Cx)(T:Ad)(mU:Pos)(fs:List Str)(te:TE)(ta:TA):TE:=fun σ H Q=>ta σ H fun vs H1=>∃ l xs zs,∃(kf:V->Int×Int) (gf:Ab->V),vs=[V.ref l]/\(∀ y v,y∈xs->bQ y v->gf v=y)/\SqL X.K H1 l xs/\xs.length<=sizeLine/\aC2 X σ fs zs/\lA T mU (X.env.qual++"<lambda>") H1/\
 (∀ y∈xs,∀ H',dW T H1 H'->te (some y::zs.map some) H' fun u H''=>∃ t,u=.ref t/\H'' t=some (.tup [.int (kf y).1,.int (kf y).2])/\bU H' H'')/\
 ∀ D ys H',dW T H1 H'->lA T mU (X.env.qual++"<lambda>") H'->H1 D=none->ys.Perm xs->(ys.Pairwise fun a b=>ltI (kf b) (kf a)=false)->H' D=some (.lst ys)->Q (.ref D) H'
theorem aAH{k:Nat}{c T:Ad}{x:Str}{fs:List Str}{F:CZ}{G:Ba}{scope:CF}{cl:List (Str×Ad)}{te:TE}{p mU kp pos:Pos}(hr:cF (k+3) X.A)(Y:X.env.code=.ref c)(hC:codeHdIn X.K c T=true)(hB:p9 X.mg X.base)(hg:Gl X "sorted")(hm:X.mg "sorted"=none)(S:uH [x] fs scope)
  (hc:∀ x b,cl.lookup x=some b->X.env.cells.lookup x=some b) (hhas:∀ x,scope.names.lookup x=some .free->∃ b,cl.lookup x=some b) (hb:∀(pm Z U u:Ab),bindArgs (kla_fn "<lambda>" (X.env.qual++"<lambda>") F G scope cl pm Z U) ⟨[u],[]⟩=pure [(x,u)])
  (O:∀(f c:Ad) (s:Ac) (H:Hp),PE (aAy X ([x]++fs) (X.env.qual++"<lambda>") scope f (.ref c) cl X.A.in1.in1 s H) G te) (ha:PA X [e] ta)
  (ad:closureFor scope X.env=pure cl:=by rfl) (aa:defaultsOf F X.env=([],[]):=by rfl) (he:starEach [e] X.env=[(false,eval e X.env)]:=by rfl):
  PE X (.Call (.Name "sorted" p) [e] [⟨some "key",.Lambda F G scope mU,kp⟩] pos) (aKv X T mU fs te ta):=by
 constructor;intro df s σ H Q I h;refine Cw (nL I hg hm boot_sorted ?_ (by decide) (by decide));refine callWith_builtin_kwB (by rw[he];rfl) (by rfl) ?_;have J:=ha pos df s σ H _ I h;rw[he]at J ⊢;refine evalArgs_kwB (by rfl) (thn J fun us s1 ⟨vs,H1,I1,r,q1⟩=>?_);obtain⟨l,xs,zs,kf,gf,rfl,hg,hl,hlen,ht,gt,hkey,q⟩:=q1;obtain⟨ps,hT,_⟩:=gt.ex;have ah:PK X [⟨some "key",.Lambda F G scope mU,kp⟩] (aAf (aJE T mU (X.env.qual++"<lambda>") F G scope cl) aGZ):=aG1 (aID Y hC hB ad aa) aIk;refine thn (ah pos df s1 σ H1 (fun ws H2=>∃ f c,ws=[V.ref f]/\dW T H1 H2/\lA T mU (X.env.qual++"<lambda>") H2/\H2 c=some (f9 c (X.env.qual++"<lambda>"))/\H2 f=some (gH f (X.env.qual++"<lambda>") F G scope cl c)) I1 ⟨gt,fun f c H2 a1 a2 a3 a4=>⟨f,c,rfl,a1,a2,a3,a4⟩⟩) fun ws s2 ⟨aw,H2,I2,rz,f,c',ez,a1,a2,a3,a4⟩=>?_;subst ez;cases rz with
 | cons r1 r2=>
  cases r1;cases r2;cases r with
  | cons r3 r4=>
   cases r3;cases r4;refine aFW (kf:=kf) (gf:=gf) I2 (a1.seq hT hl) hlen hg (fun y hy v af H' s' rv I' S'=>?_) fun D ys H' s' n1 n2 n3 n4=>q D ys H' (a1.trans s'.butT) (a2.same s') ?_ n2 n3 n4
   .exact aFM (k:=k) (ps:=[x]) (fs:=fs) I' I'.ok.frames ((hr.in1).in1) S hc hhas (S' _ _ a4) (S' _ _ a3) (fun pm Z U=>hb pm Z U v) (.cons rv .nil) rfl ht (O f c' s' H') (hkey y hy H' (a1.trans S'.butT))
   .cases qD:H1 D with
    | none=>rfl
    | some o=>
     by_cases hD:D=T
     .subst hD;obtain⟨ps',hT',_⟩:=a2.ex;rw[hT']at n1;cases n1
     .rw[a1 _ _ hD qD]at n1;cases n1
end
theorem aFX{α β:Type}{f:α->β}{ys:List β}:∀{zs:List β},ys.Perm zs->∀{rs:List α},zs=rs.map f->∃ F:List α,F.Perm rs/\ys=F.map f:=by
 intro zs h
 induction h with
 | nil=>intro rs e;exact⟨[],by cases rs with|nil=>exact .refl _|cons _ _=>simp at e,rfl⟩
 | cons a _ O=>
  intro rs e;cases rs with
  | nil=>simp at e
  | cons r rs=>
   rw[AF]at e;injection e with e1 e2;obtain⟨F,h1,h2⟩:=O e2;exact⟨r::F,h1.cons _,by rw[AF,e1,h2]⟩
 | swap a b l=>
  intro rs e;cases rs with
  | nil=>simp at e
  | cons r rs=>
   cases rs with
   | nil=>simp at e
   | cons U rs=>
    rw[AF,AF]at e;injection e with e1 e2;injection e2 with e2 e3;exact⟨U::r::rs,.swap _ _ _,by rw[AF,AF,e1,e2,e3]⟩
 | trans _ _ J G=>
  intro rs e;obtain⟨F,h1,h2⟩:=G e;obtain⟨ns,h3,h4⟩:=J h2;exact⟨ns,h3.trans h1,h4⟩
section
variable{tg:Ba}
end
def aII(td:TE):TE:=fun σ H Q=>td σ H fun x H1=>∃ d fo,x=.ref d/\Rd H1 d (.dK fo)/\∀ v,H1 v=none->Q (.ref v) (upd H1 v (aAv v d))
section
variable{o:Ba}{td:TE}
theorem aCb(Z:PE X o td)(J:attributeBase o "values" X.env (eval o X.env)=eval o X.env:=by rfl)(G:(gp.endLine==fq.line)=true:=by rfl):PE X (.Call (.Attribute o "values" gp) [] [] fq) (aII td):=by
 constructor;intro df s σ H Q I h;refine wpAny_Call_method0_late J G (thn (Z df s σ H _ I h) fun v U ⟨x,H1,Y,r1,d,fo,ex,hd,q1⟩=>?_);subst ex;obtain rfl:v=AD d:=r1;obtain⟨zz,hds,vs,rel,dd⟩:=oP Y.hok hd;obtain⟨t1,t2,_⟩:=aFe Y (.inl ⟨fo,hd⟩);refine⟨"dict","dict.values",PySem.F.plainAttrs_dict,PySem.F.slot_dict_values,PySem.F.type_dict_values,t1,t2,EW rfl (PySem.evalArgs_none ?_)⟩;refine call_meetsIn PySem.F.slot_dict_values dd.typeIs PySem.F.entry_dict_values (PySem.F.args_dict_values_1 _) (meets_dict_values (cK X.prog X.w) d hds) ⟨⟨vs,dd⟩,?_⟩;have hn:=Y.hok.fresh (Aj U.heap.objs.size);have O:Heap.IsValuesView (U.heap.push { cls:=.type "dict_values",data:=.fields #[.ref d] }) U.heap.objs.size d:=⟨_,Aw _ rfl,rfl,rfl⟩
 refine⟨.ref U.heap.objs.size,_,Y.laid (t':=U.toks) (o:=aAv U.heap.objs.size d) (fun b u e=>Ai _ e) (Aj _) ⟨O,⟨_,Aw _ rfl⟩,fun h1 h2 f g=>?_⟩,rfl,q1 _ hn⟩;obtain⟨ob,hob,r⟩:=f;exact⟨ob,g ob hob,r⟩
theorem qU(ns:List Int)(val:Nat->Int)(h:∀ i n,ns[i]?=some n->val i=n):∀ k,k<=ns.length->preSum val k=(ns.take k).sum
 | 0,_=>by simp[preSum]
 | k+1,F=>by
  have e:ns[k]?=some ns[k]:=Ae (by omega);show preSum val k+val k=_;rw[qU ns val h k (by omega),h _ _ e,Bk,e,List.sum_append];show _=_+(ns[k]+0)
  rw[D0]
theorem aEl{P:Aq}{w:AL}{A:AI}(hh:A.handled=none){d it:Ad}{od:Obj}{vs:List (Key×Ab)}{ep:Nat}(ne:d≠it)(hd:∀ h:A9,h.get? d=some od->Heap.DictAt (cK P w) h d vs ep):
  WalksS P w A it [d,it] [it] (fun a b=>b=a) vs.length (fun i v=>∃ k,vs[i]?=some (k,v)) (fun i s=>s.heap.get? d=some od/\s.heap.IsValIter it d i vs.length ep) where
 sub:=fun b h=>by simp at h ⊢;exact .inr h
 grefl:=fun _=>rfl
 gtrans:=fun _ _ _ U O=>O.trans U
 frame:=fun i s h' tk ⟨h1,o,h2,G⟩ _ k=>⟨k d (by simp) _ h1,o,k it (by simp) _ h2,G⟩
 item:=fun i s Q E hi ⟨h1,h2⟩ k=>by
  obtain⟨⟨ky,v⟩,e⟩:∃ p,vs[i]?=some p:=⟨vs[i],by simp[hi]⟩
  exact wpAny_pyNext_values_item h2 (hd _ h1) e fun h' G F=>k v _ ⟨ky,e⟩ ⟨by rw[show h'.get? d=_ from F.2 d ne];exact h1,G⟩ ⟨fun b o nb J=>by rw[show h'.get? b=_ from F.2 b (by simpa using nb)];exact J,rfl,rfl,rfl,Aj _⟩
 done:=fun s Q E ⟨h1,h2⟩ k=>wpAny_pyNext_values_end hh h2 (hd _ h1) (BI (Aj _)) fun h' F=>k _ ⟨fun b o nb J=>F b o (by simpa using nb) J,rfl,rfl,rfl,Aj _⟩
 self:=fun i s Q E ⟨_,h2⟩ k=>wpAny_pyIter_valiter h2 k
inductive m8(xs:List V)(H:Hp)(Q:VK):Prop
 | mk (v d:Ad) (fo:List (Key×V)) (ns:List Int) (q0:xs=[.ref v]) (q1:H v=some (aAv v d)) (q2:Rd H d (.dK fo)) (q3:fo.map (·.2)=ns.map V.int) (q4:Q (.int ns.sum) H):m8 xs H Q
def aAI:List V->Hp->VK->Prop:=fun xs H Q=>m8 xs H Q
theorem aEm(hc:X.calm=true):eJ X (.builtin "sum") aAI:=by
 intro df s σ H xs us Q I r h;obtain⟨v,d,fo,ns,rfl,hv,hd,hns,q⟩:=h;obtain⟨u,rfl,ru⟩:=eV r;cases ru;obtain⟨hview,_⟩:bZ X.prog X.w H s.heap v (aAv v d):=I.hok v _ hv;obtain⟨zz,hds,vs,rel,dd⟩:=oP I.hok hd;obtain⟨od,es,ep,ho,hex,hdat,hr⟩:=id dd;have G:∀ h:A9,h.get? d=some od->Heap.DictAt (cK X.prog X.w) h d vs ep:=fun h e=>⟨od,es,e,hex,hdat,hr⟩
 have J:vs.length=fo.length:=by
  have h2:=congrArg CU (sI rel);rw[Af,Af]at h2;exact h2.symm
 have O:ns.length=fo.length:=by
  have:=congrArg CU hns;rw[Af,Af]at this;exact this.symm
 have F:=Ap ho;refine call_sum_walkAnyB (wpAny_pyIter_values hview (G _ ho) ?_);have ne:d≠s.heap.objs.size:=Ar F;refine⟨s.heap.objs.size,_,_,_,_,_,_,fun i=>(ns[i]?).getD 0,rfl,aEl (ep:=ep) (by exact I.ok.hd hc) ne G,⟨Ai _ ho,_,Aw _ rfl,rfl,rfl⟩,fun b hb=>?_,fun i x ⟨k,e⟩=>?_,fun s' t' mv=>?_⟩
 .rw[F7];simp at hb;rcases hb with rfl|rfl
  .exact BF F
  .exact BR _
 .have hi:=(Ak.mp e).1;have Z:fo[i]?=some fo[i]:=Ae (by omega);obtain⟨u,e3,ru⟩:=KV.at rel (k:=fo[i].1) (v:=fo[i].2) Z;rw[e]at e3;cases e3;have U:(ns.map V.int)[i]?=some fo[i].2:=by rw[<- hns,AB,Z];rfl
  rw[AB]at U;obtain⟨n,hn,e5⟩:=A5.mp U;rw[<- e5]at ru;obtain⟨t,rfl⟩:=ru;refine .inl ⟨t,?_⟩;show BH n t=BH ((ns[i]?).getD 0) t;rw[hn];rfl
 .have Y:=qU ns (fun i=>(ns[i]?).getD 0) (fun i n e=>by show(ns[i]?).getD 0=n;rw[e];rfl) ns.length (Aj _);rw[Bg]at Y;rw[J,<- O,Y];obtain⟨h1,h2,h3,h4,h5⟩:=mv;have nI:H s.heap.objs.size=none:=I.hok.fresh (Aj _);refine⟨.int ns.sum,H,?_,⟨_,rfl⟩,q⟩;obtain⟨hp',gn,dr,tk,os⟩:=s';dsimp only at h2 h3 h4 ⊢;subst h2 h3 h4;exact I.kept (t':=tk) fun b o e=>h1 b o (by simp;exact Ar (Ap e)) (Ai _ e)
end
def Asc(a:Array Nat):Prop:=a.toList.Pairwise (·<·)
theorem Asc.lt{a:Array Nat}(h:Asc a){i j x y:Nat}(F:i<j)(e1:a[i]?=some x)(G:a[j]?=some y):x<y:=by
 rw[<- AS]at e1 G;obtain⟨h1,rfl⟩:=Ak.mp e1;obtain⟨h2,rfl⟩:=Ak.mp G;exact Bc.mp h i j h1 h2 F
theorem uN{a:Array Nat}(ha:Asc a)(j:Nat):∀(F lo hi:Nat),hi<=a.size->lo<=hi->hi-lo<=F->(∀ i x,i<lo->a[i]?=some x->x<j)->(∀ i x,hi<=i->a[i]?=some x->j<=x)->
  BW.go a j F lo hi<=a.size/\(∀ i x,i<BW.go a j F lo hi->a[i]?=some x->x<j)/\(∀ i x,BW.go a j F lo hi<=i->a[i]?=some x->j<=x)
 | 0,lo,hi,h1,h2,Y,J,O=>by
  have e:lo=hi:=by omega
  subst e;exact⟨h1,J,O⟩
 | F+1,lo,hi,h1,h2,Y,J,O=>by
  unfold BW.go;by_cases hl:lo<hi
  .rw[Ib hl];dsimp only;have hm:(lo+hi)/2<a.size:=by omega
   have G:a[(lo+hi)/2]?=some a[(lo+hi)/2]:=A3 hm;have Z:a.getD ((lo+hi)/2) j=a[(lo+hi)/2]:=by simp[Gp,hm]
   rw[Z];by_cases hc:a[(lo+hi)/2]<j
   .rw[Ib hc];refine uN ha j F _ _ h1 (by omega) (by omega) (fun i x U e=>?_) O;rcases B4 i ((lo+hi)/2)with z|z
    .exact FY (ha.lt z e G) hc
    .have:i=(lo+hi)/2:=by omega
     subst this;rw[G]at e;cases e;exact hc
   .rw[Ia hc];refine uN ha j F _ _ (by omega) (by omega) (by omega) J (fun i x U e=>?_);rcases B4 ((lo+hi)/2) i with z|z
    .have:=ha.lt z G e;omega
    .have:i=(lo+hi)/2:=by omega
     subst this;rw[G]at e;cases e;omega
  .rw[Ia hl];have e:lo=hi:=by omega
   subst e;exact⟨h1,J,O⟩
theorem aAJ{a:Array Nat}(ha:Asc a)(j:Nat):BW a j<=a.size/\(∀ i x,i<BW a j->a[i]?=some x->x<j)/\(∀ i x,BW a j<=i->a[i]?=some x->j<=x):=
 uN ha j _ _ _ (Aj _) (AV _) (Aj _) (fun i x h=>absurd h (Gj _)) (fun i x h e=>by
  have:=(Array.getElem?_eq_some_iff.mp e).1;omega)
structure dI(w:AL)(t:CB):Prop where
 led:t.led=!w.params.followText "set-order"
 dum:t.dummies=#[]
 asc:Asc t.place
theorem aEn(n:Nat):Asc (Array.range n):=by
 unfold Asc;rw[Array.toList_range];exact List.pairwise_lt_range
theorem dI.stand{w:AL}{t:CB}(h:dI w t)(n:Nat):dI w (t.standIn n):=⟨h.led,rfl,aEn n⟩
theorem dI.orStand{w:AL}{t:CB}(h:dI w t)(n:Nat):dI w (t.orStandIn n):=by
 unfold SetTable.orStandIn;split
 .exact h
 .exact h.stand n
theorem aJJ(j:Nat):SetTable.has #[] j=false:=by simp[SetTable.has]
theorem aDa{t:CB}(hd:t.dummies=#[])(F:Nat->Int)(x:Int):∀(G:Nat) (p:SetTable.Probe) (j:Nat) (d:Option Nat),p.dummy=none->F2.go t F x G p=some (.empty j d)->d=none/\t.slot j=.empty
 | 0,p,j,d,_,e=>by rw[SetTable.probe.go.eq_1]at e;cases e
 | G+1,p,j,d,J,e=>by
  have ha:∀ q:SetTable.Probe,q.dummy=none->(t.advance q).dummy=none:=fun q O=>by
   unfold SetTable.advance;split<;>exact O
  rw[SetTable.probe.go.eq_2]at e;cases hs:t.slot p.j with
  | empty=>
   rw[hs]at e;dsimp only at e;cases e;exact⟨J,hs⟩
  | dummy=>
   exfalso;unfold SetTable.slot at hs;dsimp only at hs;rw[hd,aJJ]at hs;split at hs
   .cases hs
   .rw[Ia Av]at hs;cases hs
  | live i=>
   rw[hs]at e;dsimp only at e;split at e
   .cases e
   .exact aDa hd F x G _ j d (ha _ J) e
theorem aCc{a:Array Nat}(ha:Asc a){j:Nat}(hn:¬ (a[BW a j]?=some j)):Asc (SetTable.insertAt a (BW a j) j):=by
 obtain⟨h1,h2,h3⟩:=aAJ ha j;generalize BW a j=p at h1 h2 h3 hn;unfold SetTable.insertAt Asc;have Y:(a.extract 0 p).toList=a.toList.take p:=by simp
 have U:(a.extract p a.size).toList=a.toList.drop p:=by
  rw[Array.toList_extract];exact Bj (by simp)
 rw[Au,Bi,Y,U,AW,List.singleton_append];have hl:∀ x∈a.toList.take p,x<j:=fun x F=>by
  obtain⟨i,hi,rfl⟩:=AR.mp F;rw[Bm]at hi;rw[Dg];refine h2 i _ (by omega) ?_;rw[<- AS];exact Ae _
 have J:∀ x∈a.toList.drop p,j<x:=fun x F=>by
  obtain⟨i,hi,rfl⟩:=AR.mp F;rw[BP,AN]at hi;rw[FR];have e:a[p+i]?=some (a.toList[p+i]'(by simp;omega)):=by
   rw[<- AS];exact Ae _
  have hg:=h3 (p+i) _ (by omega) e;rcases B4 j (a.toList[p+i]'(by simp;omega))with z|z
  .exact z
  .exfalso;have Z:(a.toList[p+i]'(by simp;omega))=j:=by omega
   cases i with
   | zero=>exact hn (e.trans (congrArg some Z))
   | succ i=>
    have O:a[p]?=some a[p]:=A3 (by omega);have:=ha.lt (i:=p) (j:=p+(i+1)) (by omega) O e;have:=h3 p _ (Aj _) O;omega
 refine Ee.mpr ⟨DH (FQ _ _) ha,Cg.mpr ⟨J,DH (List.drop_sublist _ _) ha⟩,fun x F y G=>?_⟩;have:=hl x F;rcases An.mp G with rfl|G
 .exact this
 .exact FY this (J y G)
theorem dI.new{w:AL}{t:CB}(h:dI w t)(es:Array (Int×Ab))(x:Int)(v:Ab):dI w (layNew t es x v).2.1:=by
 unfold layNew;split
 .next slot wd e=>
  unfold SetTable.freeSlot at e;split at e
  .next j d e2=>
   obtain⟨hd,hs⟩:=aDa h.dum _ _ _ _ _ _ (by rfl) e2;subst hd;cases e;dsimp only;refine dI.orStand (t:=(t.put j).1) ⟨h.led,?_,?_⟩ _
   .unfold SetTable.put;dsimp only;rw[h.dum,aJJ,Ia Av]
   .unfold SetTable.put;dsimp only;refine aCc h.asc fun z=>?_;unfold SetTable.slot at hs;dsimp only at hs;change t.place[BW t.place j]?=some j at z;rw[z,Ib (by simp)]at hs;cases hs
  .cases e
 .exact h.stand _
theorem aFY{f:Nat->Option Nat}(n:Nat):Asc ((((B7 n).filterMap fun j=>(f j).map fun x=>(j,x)).map fun x=>x.1).toArray):=by
 unfold Asc;show List.Pairwise _ (((B7 n).filterMap _).map _);rw[CT,List.pairwise_filterMap];refine List.Pairwise.imp (R:=(·<·)) (fun{a b} hab x hx y hy=>?_) List.pairwise_lt_range
 obtain⟨u,_,rfl⟩:=A5.mp hx;obtain⟨v,_,rfl⟩:=A5.mp hy;exact hab
theorem dI.relay{w:AL}{t:CB}(h:dI w t)(es:Array (Int×Ab))(n:Nat):dI w (relayAll t es n).2.1:=by
 unfold relayAll;split
 .next t' ord e=>
  dsimp only;split
  .dsimp only;unfold SetTable.relaid SetTable.laid at e;cases hL:SetTable.layClean (SetTable.sizeAbove n-1) (es.map (·.1))with
   | none=>rw[hL]at e;cases e
   | some F=>
    rw[hL]at e;cases e;exact⟨h.led,rfl,aFY _⟩
  .exact h.stand _
 .exact h.stand _
def iJ(σ:List Int)(v:Int):List Int:=if v∈σ then σ else σ++[v]
def gE(val:Nat->Int):Nat->List Int
 | 0=>[]
 | i+1=>iJ (gE val i) (val i)
theorem pG(σ:List Int)(k:Int):(σ.any fun x=>x==k)=decide (k∈σ):=by
 rw[CA,Dt,decide_eq_true_iff];constructor
 .rintro⟨x,hx,e⟩;rw[beq_iff_eq]at e;exact e▸hx
 .intro h;exact⟨k,h,beq_self_eq_true k⟩
theorem aCd(σ:List Int)(v k:Int):((iJ σ v).any fun x=>x==k)=((σ.any fun x=>x==k)||decide (k=v)):=by
 rw[pG,pG];unfold iJ;split
 .next h=>
  rw[CA];simp only[decide_eq_true_eq,Bool.or_eq_true];constructor
  .intro z;exact .inl z
  .rintro(z|z)
   .exact z
   .exact z▸h
 .rw[CA];simp
theorem m9(σ:List Int)(v:Int):(iJ σ v).length=if (σ.any fun x=>x==v)=true then σ.length else σ.length+1:=by
 rw[pG];unfold iJ;by_cases h:v∈σ
 .rw[Ib h,Ib (Ic h)]
 .rw[Ia h,Ia (by simpa using h),Ay];rfl
theorem uO(val:Nat->Int):∀ i,(gE val i).length<=i
 | 0=>Aj _
 | i+1=>by
  have F:=uO val i;show(iJ _ _).length<=_;rw[m9];split<;>omega
theorem xA(val:Nat->Int):∀ i k,k∈gE val i↔∃ j,j<i/\val j=k
 | 0,k=>by
  show k∈[]↔_;simp
 | i+1,k=>by
  show k∈iJ (gE val i) (val i)↔_;have F:=xA val i;unfold iJ;by_cases h:val i∈gE val i
  .rw[Ib h,F k];constructor
   .rintro⟨j,hj,e⟩;exact⟨j,by omega,e⟩
   .rintro⟨j,hj,e⟩;by_cases z:j=i
    .subst z;obtain⟨j',hj',e'⟩:=(F _).mp h;exact⟨j',hj',e'.trans e⟩
    .exact⟨j,by omega,e⟩
  .rw[Ia h,AK,F k,Ax];constructor
   .rintro(⟨j,hj,e⟩|e)
    .exact⟨j,by omega,e⟩
    .exact⟨i,by omega,e.symm⟩
   .rintro⟨j,hj,e⟩;by_cases z:j=i
    .subst z;exact .inr e.symm
    .exact .inl ⟨j,by omega,e⟩
inductive aDb(prog:Aq)(w:AL)(h:A9)(a:Ad)(S:Int->Bool)(n:Nat):Prop
 | mk (o:_) (es:_) (ep:_) (t:_) (q0:h.get? a=some o) (q1:o.ExactSet) (q2:o.data=.set es ep t) (q3:Ho (BG prog w) es.toList) (q4:(∀ k,S k=true↔∃ e∈es.toList,(BG prog w).is k e.2=true)) (q5:es.size<scanBound) (q6:t.fits es.size=true) (q7:es.size=n) (q8:dI w t):aDb prog w h a S n
def fY(prog:Aq)(w:AL)(h:A9)(a:Ad)(S:Int->Bool)(n:Nat):Prop:=aDb prog w h a S n
theorem fY.at{prog:Aq}{w:AL}{h h':A9}{a:Ad}{S:Int->Bool}{n:Nat}(x:fY prog w h a S n)(e:∀ o,h.get? a=some o->h'.get? a=some o):fY prog w h' a S n:=by
 obtain⟨o,es,ep,t,h1,r1,r2,r3,r4,r5,r6,r7,r8⟩:=x;exact⟨o,es,ep,t,e o h1,r1,r2,r3,r4,r5,r6,r7,r8⟩
theorem fY.congr{prog:Aq}{w:AL}{h:A9}{a:Ad}{S S':Int->Bool}{n F:Nat}(x:fY prog w h a S n)(e:∀ k,S k=S' k)(J:n=F):fY prog w h a S' F:=by
 have G:S=S':=funext e;subst G J;exact x
theorem fY.stored{prog:Aq}{w:AL}{h:A9}{a:Ad}{o:Obj}{es:Array (Int×Ab)}{ep:Nat}{t:CB}(U:h.get? a=some o)(O:o.ExactSet)(hd:o.data=.set es ep t)
  {F:Array (Int×Ab)} {t':CB} {S':Int->Bool} (J:Ho (BG prog w) F.toList) (G:∀ k,S' k=true↔∃ e∈F.toList,(BG prog w).is k e.2=true) (hb:F.size<scanBound) (hf:t'.fits F.size=true) (Y:dI w t'):
  (h.update a (Hn F t')).get? a=some { o with data:=.set F (ep+1) t' }/\fY prog w (h.update a (Hn F t')) a S' F.size:=by
 obtain⟨hg,_⟩:=SetOf_store (knd:=BG prog w) (S':=S') U O hd J G hb hf;exact⟨hg,_,F,ep+1,t',hg,O,rfl,J,G,hb,hf,rfl,Y⟩
theorem aIJ{prog:Aq}{w:AL}{A:AI}{E:Ab->Ac->Prop}{s:Ac}{a:Ad}{S:Int->Bool}{n:Nat}{k:Int}{tk:Tok}{Q:Bool->Ac->Prop}(hS:fY prog w s.heap a S n)(U:n+1<scanBound)
  (h:∀ h',Dv a s.heap h'->fY prog w h' a (fun k'=>S k'||decide (k'=k)) (if S k then n else n+1)->Q (!S k) { s with heap:=h' }):
  wpAny (model prog w) A (setAddHashed a (.int k tk) ((BG prog w).hash k)) Q E s:=by
 have Y:=intKind_is prog w k tk;obtain⟨o,es,ep,t,ho,hex,hd,hel,hmem,hb,hf,hn,hTab⟩:=hS;have aT:es.size+1<scanBound:=by rw[hn];exact U
 unfold setAddHashed setAddHashedIn;refine By (Aa (Dr ho hd hf ?_));dsimp only;rw[byScan_of (x:=BH k tk) rfl hb hel,Ib rfl];unfold setAddByScan;refine Aa (Aa (C6 (Aa (wpAny_setScan_of Y ho hd hf hel ?_))));cases hr:List.findIdx? (fun e=>(BG prog w).is k e.2) es.toList with
 | some j=>
  dsimp only;obtain⟨hj,hpj,_⟩:=List.findIdx?_eq_some_iff_getElem.mp hr;have aa:S k=true:=(hmem k).mpr ⟨es.toList[j],A2 hj,hpj⟩;refine Ah (Ah ?_);have q:=h s.heap (Heap.SameBut.refl a s.heap) ⟨o,es,ep,t,ho,hex,hd,hel,fun z=>by
   rw[Bool.or_eq_true,decide_eq_true_eq,<- hmem z];exact⟨fun hz=>hz.elim id (fun e=>e▸aa),.inl⟩,hb,hf,by rw[aa];exact hn,hTab⟩
  rw[aa]at q;exact q
 | none=>
  dsimp only;have aa:S k=false:=by
   cases hz:S k with
   | false=>rfl
   | true=>
    obtain⟨e,he,hp⟩:=(hmem k).mp hz;have z:=List.findIdx?_eq_none_iff.mp hr e he;rw[hp]at z;exact Bool.noConfusion z
  have F:=layNew_perm t es ((BG prog w).hash k) (BH k tk);have G:=layNew_fits t es ((BG prog w).hash k) (BH k tk);have J:=hTab.new es ((BG prog w).hash k) (BH k tk);generalize hL:layNew t es ((BG prog w).hash k) (BH k tk)=L at F G J ⊢;obtain⟨es1,t1,wasD,gave⟩:=L;dsimp only at F G J ⊢;rw[Bi]at F;have ai:Ho (BG prog w) es1.toList:=(hel.push Y rfl).perm F;have Z:=mem_push_iff Y hmem F;have ae:es1.size=n+1:=by rw[<- AN,F.length_eq,Ay,AN,hn];rfl
  have ak:es1.size<scanBound:=by rw[ae];exact U
  have gw:∀(b:Bool) {s₁:Ac} {Q':Unit->Ac->Prop},Q' () s₁->wpAny (model prog w) A (match b with|true=>rule "set.scan.the-table-gave-way"|false=>pure ()) Q' E s₁:=fun b s₁ Q' hq=>by cases b<;>first|exact Ah hq|exact C6 hq
  have ag:∀ h',Dv a s.heap h'->fY prog w h' a (fun k'=>S k'||decide (k'=k)) es1.size->Q true { s with heap:=h' }:=fun h' x1 x2=>by
   have q:=h h' x1;rw[aa]at q;rw[ae]at x2;exact q x2
  have ad:∀ O:CB,dI w O->O.fits es1.size=true->
    wpAny (model prog w) A (do
     storeSet a es1 O
     if (!wasD&&O.tooFull)=true then do
       (match (relayAll O es1 (Df es1.size)).2.2 with|true=>rule "set.scan.the-table-gave-way"|false=>pure ())
       storeSet a (relayAll O es1 (Df es1.size)).1 (relayAll O es1 (Df es1.size)).2.1
       pure (some true)
      else pure (some true)) (fun r s'=>wpAny (model prog w) A (match r with|some added=>pure added|none=>setAddHashedIn a (.int k tk) ((BG prog w).hash k) 99999) Q E s') E s:=by
   intro O l2 f2;refine Aa (wpAny_storeSet_of ho hd ?_ (E1 ak));obtain⟨ho1,hS1⟩:=fY.stored (prog:=prog) (w:=w) ho hex hd ai Z ak f2 l2;have ap:=Ci s.heap a (Hn es1 O);split
   .have hp:=relayAll_perm O es1 (Df es1.size);have aj:=relayAll_fits O es1 (Df es1.size);have rl:=l2.relay es1 (Df es1.size);generalize relayAll O es1 (Df es1.size)=R at hp aj rl ⊢;obtain⟨es2,t3,g2⟩:=R;dsimp only at hp aj rl ⊢;have an:Ho (BG prog w) es2.toList:=ai.perm hp;have al:∀ z,(S z||decide (z=k))=true↔∃ e∈es2.toList,(BG prog w).is z e.2=true:=fun z=>(Z z).trans ⟨fun⟨e,he,q⟩=>⟨e,hp.mem_iff.mpr he,q⟩,fun⟨e,he,q⟩=>⟨e,hp.mem_iff.mp he,q⟩⟩;have ah:es2.size=es1.size:=by rw[<- AN,hp.length_eq,AN]
    have ao:es2.size<scanBound:=by rw[ah];exact ak
    refine Aa (gw _ (Aa (wpAny_storeSet_of ho1 rfl ?_ (E1 ao))));obtain⟨_,hS2⟩:=fY.stored (prog:=prog) (w:=w) ho1 hex rfl an al ao aj rl;rw[ah]at hS2;exact Ah (Ah (ag _ (ap.trans (Ci _ a _)) hS2))
   .exact Ah (Ah (ag _ ap hS1))
  refine Aa (gw _ ?_);split
  .next hpl=>
   rw[hashByValue_scannable 8 (x:=BH k tk) rfl];refine Aa (Ah ?_);exact ad t1 J G
  .next hpl=>
   refine Aa (Ah ?_);exact ad t1 J G
theorem aHm{prog:Aq}{w:AL}{A:AI}{R:Hm->Ac->Prop}{I:Ad}{fp wr:List Ad}{G:Array Gm->Array Gm->Prop}{n:Nat}{P:Nat->Ab->Prop}{St:Nat->Ac->Prop}
  (W:WalksS prog w A.in1 I fp wr G n P St) (S:Ad) (aa:¬ S∈fp) (val:Nat->Int) (af:∀(i:Nat) (v:Ab),P i v->∃ t,v=BH (val i) t) (hb:n+1<scanBound):
  ∀(k i:Nat) (s:Ac),n-i=k->i<=n->St i s->fY prog w s.heap S (fun Y=>(gE val i).any fun x=>x==Y) (gE val i).length->
   (∀ s':Ac,Moved (S::wr) G s s'->fY prog w s'.heap S (fun Y=>(gE val n).any fun x=>x==Y) (gE val n).length->R (Except.ok (HC CW)) s')->
   codeAny (model prog w) A (Code.builtin "set.update.loop" { pos:=[AD S,AD I] }) R s:=by
 have ae:¬ S∈wr:=fun h=>aa (W.sub S h);have J:∀ b,b∈wr->b∈S::wr:=fun b hb=>Al S hb;intro k
 induction k with
 | zero=>
  intro i s hk hi U hS hR;have ao:i=n:=by omega
  subst ao;refine Dl PyProof.Rows.F.entry_set_update_loop ?_;rw[Dj Dd];refine Aa (W.done s _ _ U fun s' hm=>?_);refine Ah (hR s' (Moved.mono hm J) ?_);exact hS.at fun o ho=>hm.heap S o ae ho
 | succ k ih=>
  intro i s hk hi U hS hR;have Z:i<n:=by omega
  refine Dl PyProof.Rows.F.entry_set_update_loop ?_;rw[Dj Dd];refine Aa (W.item i s _ _ Z U fun v s' hP ah hm=>?_);obtain⟨t,rfl⟩:=af i v hP;have ak:fY prog w s'.heap S (fun Y=>(gE val i).any fun x=>x==Y) (gE val i).length:=by
   exact hS.at fun o ho=>hm.heap S o ae ho
  have O:(gE val i).length+1<scanBound:=by
   have:=uO val i;omega
  refine Aa (By (By (Aa ((BG prog w).pyHash (intKind_is prog w (val i) t) ?_))));refine aIJ ak O fun h' ag am=>?_;refine Ah ⟨F1 Dd _,?_⟩;refine ih (i+1) _ (by omega) Z (W.frame (i+1) s' h' _ ah (C9 s'.toks) fun b hb o e=>?_) ?_ fun ap aj ad=>?_
  .rw[ag.right b fun h=>aa (h▸hb)];exact e
  .refine am.congr (fun Y=>?_) ?_
   .show _=((iJ _ _).any _)
    rw[aCd]
   .show _=(iJ _ _).length;rw[m9]
  .refine hR ap (Moved.trans W.gtrans (Moved.then_heap (Moved.mono hm J) (C9 s'.toks) fun b o hb e=>?_) aj) ad;rw[ag.right b fun h=>hb (h▸Am)];exact e
theorem zC{prog:Aq}{w:AL}{A:AI}{E:Ab->Ac->Prop}{s:Ac}{l:Ad}{items:Array Ab}{val:Nat->Int}{Q:Ab->Ac->Prop}(hh:A.handled=none)(hl:s.heap.IsList l items)
  (hi:∀(i:Nat) (v:Ab),items[i]?=some v->∃ t,v=BH (val i) t) (hb:items.size+1<scanBound)
  (h:∀(h':A9) (tk:Nat),fY prog w h' s.heap.objs.size (fun k'=>(gE val items.size).any fun x=>x==k') (gE val items.size).length->
   (∀(b:Nat) (o:Obj),b<s.heap.objs.size->s.heap.get? b=some o->h'.get? b=some o)->Q (AD s.heap.objs.size) { s with heap:=h',toks:=tk }):
  wpAny (model prog w) A (call (Bq "set") [AD l]) Q E s:=by
 obtain⟨c,tl,hmro⟩:=Ez.mro;have U:=Ez.made;have af:=Ez.sub;have an:=F.typeCall_set_1 (AD l);refine DF (codeAny_of_tree (Ah ⟨Code.quiet_builtin _ (by decide),Dl F.entry_type_call ?_⟩));rw[Around.under_plain (weight_type_call_type "set" [AD l] []) rfl];unfold Builtin.«type.__call__»;dsimp only
 iterate 2 refine Bf (by first|rfl|decide) ?_
 refine Aa (EZ an ?_);refine Aa (EZ hmro ?_);refine Bf (by first|rfl|decide) ?_;refine Aa (EZ U ?_);refine Aa (Ah ?_);refine Aa (By (DF (C2 (aJy (Q₁:=fun obj s₁=>∃ led,led=(!w.params.followText "set-order")/\obj=AD s.heap.objs.size/\s₁={ s with heap:=s.heap.push { cls:=Bq "set",data:=Eu #[] 0 (CD 0 0 led) } }) (E:=E) (AD l) ⟨_,rfl,rfl,rfl⟩) fun r s₁ G=>?_)));cases r with
 | error e=>exact G
 | ok fl=>
  cases fl with
  | next=>exact G.elim
  | brk=>exact G.elim
  | cont=>exact G.elim
  | ret v=>
   obtain⟨led,hled,rfl,rfl⟩:=G;have hS:=Aw s.heap (o:={ cls:=Bq "set",data:=Eu #[] 0 (CD 0 0 led) }) rfl;have hT:Gq { s with heap:=s.heap.push { cls:=Bq "set",data:=Eu #[] 0 (CD 0 0 led) } } (AD s.heap.objs.size) "set":=⟨_,hS,rfl⟩
   have al:=Ez.init.lookup;have aj:=Ez.init.bind (AD s.heap.objs.size);obtain⟨ol,hol,hcl,nl,hdl⟩:=hl;have J:=Ai { cls:=Bq "set",data:=Eu #[] 0 (CD 0 0 led) } hol;have ad:Heap.IsList (s.heap.push { cls:=Bq "set",data:=Eu #[] 0 (CD 0 0 led) }) l items:=⟨ol,J,hcl,nl,hdl⟩
   refine Aa (DJ hT af ?_);refine Bf (by first|rfl|decide) ?_;refine Aa (By ?_);unfold callSpecial?;refine Aa (GG hT al ?_);dsimp only;refine By ?_;refine Aa (EZ aj ?_);refine Aa (DF (C2 (FO Ez.init.plain F.entry_set_init (R:=fun r s'=>match r with|.ok (.ret v)=>v=.none/\Q (.ref s.heap.objs.size) s'|_=>False) (check_set_init_1 hT ?_)) fun r s₁ G=>?_))
   .unfold Builtin.«set.__init__»;refine Aa (DE (by first|rfl|decide) (Ah ?_));refine Aa (Aa (Aa (DI hT (Bf (by first|rfl|decide) (Ah ?_)))));refine Ah ?_;refine Aa ?_;unfold checkCount
    iterate 2 refine Bf (by first|rfl|decide) ?_
    refine Bf (by first|rfl|decide) (Ah ?_);refine Aa (Ah ?_);refine Aa ?_;unfold setUsed setState;refine Aa (Aa (wpAny_load' hS ?_));dsimp only;refine Bf (by first|rfl|decide) (Ah ?_);refine Ah ?_;refine Bf (by first|rfl|decide) ?_;show wpAny _ _ (do let au <- Builtin.Frozenset.updateFrom "set.__init__" s.heap.objs.size (AD l);ret CW) _ _ _;refine Aa ?_;unfold Builtin.Frozenset.updateFrom;refine Aa ?_;have Y:Gq { s with heap:=s.heap.push { cls:=Bq "set",data:=Eu #[] 0 (CD 0 0 led) } } (AD l) "list":=⟨ol,J,hcl⟩
    unfold Builtin.Frozenset.isAnySet;refine Aa (DJ Y F.sub_list_set ?_);refine DJ Y F.sub_list_frozenset ?_;refine Bf (by first|rfl|decide) ?_;refine Aa (DI Y ?_);refine Bf (by first|rfl|decide) ?_;refine Aa (EY ad ?_);refine Aa (wpAny_runValue ?_);have Z:l<s.heap.objs.size:=Ap hol;have O:(s.heap.push { cls:=Bq "set",data:=Eu #[] 0 (CD 0 0 led) }).objs.size=s.heap.objs.size+1:=Co _ _;have ae:l≠(s.heap.push { cls:=Bq "set",data:=Eu #[] 0 (CD 0 0 led) }).objs.size:=by rw[O];exact Ar (BF Z)
    have ah:¬ s.heap.objs.size∈[(s.heap.push { cls:=Bq "set",data:=Eu #[] 0 (CD 0 0 led) }).objs.size,l]:=by
     rw[O];simp only[An,AO,or_false,not_or];exact⟨Ar (BR _),CG Z⟩
    have ak:A.in1.in1.in1.handled=none:=hh;refine aHm (Walks.toS (Ha ak _ l ae items)) s.heap.objs.size ah val hi hb (items.size-0) 0 _ rfl (AV _) ⟨⟨_,Aw _ rfl,rfl,rfl⟩,Heap.IsList.push ad _⟩ ?_ ?_
    .have aa:=Ai { cls:=Bq "list_iterator",data:=G6 #[AD l,BH 0 0] } hS;exact⟨_,#[],0,_,aa,⟨rfl,rfl,rfl⟩,rfl,(fun e he=>by simp at he),(fun k=>by show(false=true)↔_;simp),(by decide),rfl,rfl,hled,rfl,BZ⟩
    .rintro⟨h',g',d',tk',os'⟩ hm hS';refine Ah (Ah ⟨rfl,?_⟩);have e1:=hm.gens;have e2:=hm.drawn;have e3:=hm.os;dsimp only at e1 e2 e3;subst e1 e2 e3;refine h h' tk' hS' fun b o hb e=>hm.heap b o ?_ ?_
     .simp only[An,AO,or_false,not_or];rw[O];exact⟨Ar hb,Ar (BF hb)⟩
     .exact Ai _ (Ai _ e)
   .cases r with
    | error e=>exact G.elim
    | ok fl=>
     cases fl with
     | next=>exact G.elim
     | brk=>exact G.elim
     | cont=>exact G.elim
     | ret v=>
      obtain⟨rfl,q⟩:=G;refine Ah ?_;refine Bf (by first|rfl|decide) ?_;exact Ah q
section
variable{S:Ad}{ep:Nat}{o:Obj}{t:CB}
def lQ(pl:Array Nat)(i:Nat):Nat:=if i=0 then 0 else pl.getD (i-1) 0+1
theorem aCe{pl:Array Nat}(h:Asc pl){i:Nat}(hi:i<=pl.size):BW pl (lQ pl i)=i:=by
 obtain⟨h1,h2,h3⟩:=aAJ h (lQ pl i);generalize BW pl (lQ pl i)=r at h1 h2 h3;unfold lQ at h2 h3;have g:∀ k (G:k<pl.size),pl[k]?=some pl[k]:=fun k G=>A3 G;rcases Nat.lt_trichotomy r i with z|z|z
 .exfalso;have a:=h3 r _ (Aj _) (g r (by omega));rw[Ia (by omega)]at a;have e:pl.getD (i-1) 0=pl[i-1]:=by simp[Gp,show i-1<pl.size by omega]
  rw[e]at a;rcases B4 r (i-1)with y|y
  .have:=h.lt y (g r (by omega)) (g (i-1) (by omega));omega
  .have:r=i-1:=by omega
   subst this;omega
 .exact z
 .exfalso;have a:=h2 i _ z (g i (by omega));by_cases F:i=0
  .rw[Ib F]at a;omega
  .rw[Ia F]at a;have e:pl.getD (i-1) 0=pl[i-1]:=by simp[Gp,show i-1<pl.size by omega]
   rw[e]at a;have:=h.lt (show i-1<i by omega) (g (i-1) (by omega)) (g i (by omega));omega
theorem aEo(hh:A.handled=none)(ai:o.cls=.type "set")(hd:o.data=.set es ep t)(hf:t.fits es.size=true)(hb:es.size<scanBound)(aa:dI w t){E:Ab->Ac->Prop}{s:Ac}{R:Ab->Ac->Prop}(hS:s.heap.get? S=some o)
  (h:∀(I:Ad) (s2:Ac),aKr prog w A S (es.toList.map (·.2)) s s2 I->R (.ref I) s2):wpAny (model prog w) A (pyIter (.ref S)) R E s:=by
 have ae:s.TypeIs (.ref S) "set":=⟨_,hS,ai⟩
 have Y:=Ap hS;refine wpAny_pyIter_slot ae F.slot_set_iter (Cn F.slot_set_iter ae rR ?_ (F.args_set_iter_1 _));unfold Builtin.«frozenset.__iter__» Builtin.Frozenset.slot0 Builtin.Frozenset.sizeOf;refine Aa (Aa (Ah (Ah ?_)));refine Aa (Aa (DO hS hd hf (Ah ?_)));refine Aa ?_;unfold setDrawn setsByText;refine Aa (Dr hS hd hf (Aa (Aa (DK (Ah (Ah ?_))))));have au:(es.toList.map (·.2)).length=es.size:=by simp
 have fin:(∀(i:Nat) (s:Ac),s.heap.get? S=some o->i<=es.size->True)->∀(sl:Nat->Nat) (ord:List Ab),sl 0=0->ord.Perm (es.toList.map (·.2))->
   (∀(i:Nat) (s:Ac),s.heap.get? S=some o->i<=ord.length->∀(B:AI) (E':Ab->Ac->Prop) (Q':Option (Ab×Nat)->Ac->Prop),Q' ((ord[i]?).map fun v=>(v,sl (i+1))) s->wpAny (model prog w) B (setNext S (sl i) i ep) Q' E' s)->
   wpAny (model prog w) A.in1 (do ret (<- newFields "set_iterator" [rawInt 0,rawInt 0,.ref S,rawInt es.size,rawInt (<- setEpoch S)])) (fun fin s'=>∃ v,fin=.done (.ret v)/\∃ T' r,s'.TypeIs v T'/\typeLookup (.type T') "__next__"=pure (some r)/\R v s') E s:=by
  intro _ sl ord h0 G hN;refine Aa (wpAny_setEpoch_of hS hd hf ?_);refine Aa (BY (Ah ⟨_,rfl,"set_iterator",_,⟨_,Aw _ rfl,rfl⟩,cX.lookup,h _ _ ?_⟩));have ah:ord.length=(es.toList.map (·.2)).length:=G.length_eq
  refine⟨⟨[s.heap.objs.size,S],_,_,ah▸aIA hh (Ar Y) hd hf sl ord hN,⟨by rw[h0];exact Aw _ rfl,Ai _ hS⟩,by simp,?_,fun ap ha=>?_⟩,fun b u e=>Ai _ e,Aj _,rfl,rfl,rfl⟩
  .intro b hb;rw[Co];simp at hb;rcases hb with rfl|rfl
   .exact⟨BR _,.inr (Aj _)⟩
   .exact⟨BF Y,.inl rfl⟩
  .rw[<- ah]at ha;rw[aFB ha];exact G
 dsimp only;cases Z:(model prog w).w.params.followText "set-order" with
 | true=>
  rw[Ia (by simp)];refine Aa (Ah ?_);refine fin (fun _ _ _ _=>trivial) (fun _=>0) ((pickOrder ((model prog w).w.params.setOrder S ep) es).toList.map (·.2)) rfl ((uF _ es).map _) fun i s1 J hi B E' Q' q=>?_
  unfold setNext setsByText setWalk setsByText;refine Aa (Dr J hd hf ?_);refine Aa (Aa (DK (Ah ?_)));dsimp only;rw[Z,Ib rfl];rw[Ia (show¬ ((ep != ep)=true) by simp)];refine Aa (Aa (Dr J hd hf ?_));refine Aa (Aa (DK (Ah ?_)));dsimp only;rw[Z,Ib rfl];refine Aa (DK (Ah (Ah ?_)));simpa[Function.comp_def]using q
 | false=>
  by_cases h1:es.size>1/\t.plain=false
  .obtain⟨h1,O⟩:=h1;refine DE (Ic (show((!false)&&(!t.plain&&decide (es.size>1)))=true by rw[O];simp[h1])) ?_;refine Aa (aB1 es.size (B7 es.size) s _ (by simp) fun ys d G=>?_);have ad:ys.length=es.size:=by rw[G.length_eq];simp
   refine Aa (GZ ?_ (by rw[Af,ad];exact E1 hb));have J:(s.heap.push { cls:=.type "tuple",data:=.seq (ys.map fun(i:Nat)=>rawInt i).toArray }).get? S=some o:=Ai _ hS;refine Aa (wpAny_setEpoch_of J hd hf ?_);refine Aa (BY (Ah ⟨_,rfl,"set_iterator",_,⟨_,Aw _ rfl,rfl⟩,cX.lookup,h _ _ ?_⟩));have U:(s.heap.push { cls:=.type "tuple",data:=.seq (ys.map fun(i:Nat)=>rawInt i).toArray }).objs.size=s.heap.objs.size+1:=Co _ _;have af:(ys.map fun(i:Nat)=>rawInt i).toArray.size=(es.toList.map (·.2)).length:=by simp[ad]
   have hw:=aIz (prog:=prog) (w:=w) (A:=A) (I:=(s.heap.push { cls:=.type "tuple",data:=.seq (ys.map fun(i:Nat)=>rawInt i).toArray }).objs.size) (S:=S) (T:=s.heap.objs.size) (o:=o) (ot:={ cls:=.type "tuple",data:=.seq (ys.map fun(i:Nat)=>rawInt i).toArray }) hh (by rw[U];exact Ar (BF Y)) (by rw[U];exact Ar (BR _)) hd hf rfl (aAu G rfl);rw[af]at hw;refine⟨⟨_,_,_,hw,⟨Aw _ rfl,Ai _ J,Ai _ (Aw _ rfl)⟩,by simp,?_,fun ap ha=>?_⟩,fun b u e=>Ai _ (Ai _ e),by dsimp only;rw[U];exact C9 _,rfl,rfl,rfl⟩
   .intro b hb;have h3:b=s.heap.objs.size+1\/b=S\/b=s.heap.objs.size:=by
     rw[U]at hb;simpa using hb
    dsimp only;rw[Co,U];rcases h3 with rfl|rfl|rfl
    .exact⟨BR _,.inr (C9 _)⟩
    .exact⟨BF (BF Y),.inl rfl⟩
    .exact⟨BF (BR _),.inr (Aj _)⟩
   .rw[<- af,AA,Af]at ha;exact yU G rfl ha
  .have aj:(!t.plain&&decide (es.size>1))=false:=by
    cases O:t.plain with
    | true=>rfl
    | false=>exact Di.mpr fun z=>h1 ⟨by simpa using z,O⟩
   refine Bf (Ie (show¬ (((!false)&&(!t.plain&&decide (es.size>1)))=true) by rw[aj];simp)) ?_;refine Aa (Ah ?_);have ao:(!t.plain&&decide (es.size>1))=false:=by
    cases O:t.plain with
    | true=>rfl
    | false=>exact Di.mpr fun z=>h1 ⟨by simpa using z,O⟩
   have ag:t.led=true:=by
    have z:=aa.led;rw[show w.params.followText "set-order"=false from Z]at z;exact z
   have aq:t.place.size=es.size:=by
    unfold SetTable.fits at hf;simp at hf;exact hf.1
   refine fin (fun _ _ _ _=>trivial) (lQ t.place) (es.toList.map (·.2)) rfl (EV _) fun i s1 J hi B E' Q' q=>?_
   unfold setNext setsByText;refine Aa (Dr J hd hf ?_);refine Aa (Aa (DK (Ah ?_)));dsimp only;rw[Z,Ia (by simp)];refine Bf (Ie (show¬ ((!t.plain&&decide (es.size>1))=true) by rw[ao];simp)) ?_;refine Aa (Bf (Ie (show¬ ((!t.led&&!es.isEmpty)=true) by rw[ag];simp)) (Ah (Ah ?_)));have an:i<=t.place.size:=by
    rw[aq,<- AN,<- Af (f:=fun x:Int×Ab=>x.2)];exact hi
   rw[aCe aa.asc an];have hq:(match es[i]?,t.place[i]? with|some (_,x),some j=>some (x,j+1)|_,_=>none)=((es.toList.map (·.2))[i]?).map fun v=>(v,lQ t.place (i+1)):=by
    by_cases hl:i<es.size
    .have e1:es[i]?=some es[i]:=A3 hl;have e2:t.place[i]?=some (t.place[i]'(by omega)):=A3 (by omega);have e3:(es.toList.map (·.2))[i]?=some es[i].2:=by rw[AB,AS,e1];rfl
     have e4:lQ t.place (i+1)=(t.place[i]'(by omega))+1:=by
      unfold lQ;rw[Ia (Gb _),Nat.add_sub_cancel];simp[Gp,show i<t.place.size by omega]
     rw[e1,e2,e3,e4];rfl
    .have e1:es[i]?=none:=EX (by omega);have e3:(es.toList.map (·.2))[i]?=none:=by rw[AB,AS,e1];rfl
     rw[e1,e3];rfl
   rw[<- hq]at q;exact q
theorem zD(hh:A.handled=none)(G:o.cls=.type "set")(hd:o.data=.set es ep t)(hf:t.fits es.size=true)(hb:es.size<scanBound)(aj:dI w t){E:Ab->Ac->Prop}{s:Ac}{Q:List Ab->Ac->Prop}(hS:s.heap.get? S=some o)
  (h:∀(acc:List Ab) (h':A9) (d:Hy) (tk:Nat),acc.Perm (es.toList.map (·.2))->(∀ b u,s.heap.get? b=some u->h'.get? b=some u)->s.heap.objs.size<h'.objs.size->Q acc { s with heap:=h',drawn:=d,toks:=tk }):wpAny (model prog w) A (collect (.ref S)) Q E s:=by
 have Y:=Ap hS;unfold collect;apply Aa;apply wpAny_runValue;apply Dl F.entry_proto_collect;rw[Dj F.plain_proto_collect];show wpAny _ A.in1 (newList [] >>= fun l=>again (.builtin "list.__iadd__" ⟨[l,.ref S],[]⟩)) _ _ s;apply Aa;refine BY (Ah ⟨F1 F.plain_list_iadd _,Dl F.entry_list_iadd ?_⟩);rw[Dj F.plain_list_iadd];have O:(s.heap.push { cls:=.type "list",data:=.seq ([]:List Ab).toArray }).get? S=some o:=Ai _ hS;have an:(s.heap.push { cls:=.type "list",data:=.seq ([]:List Ab).toArray }).get? s.heap.objs.size=some { cls:=.type "list",data:=.seq ([]:List Ab).toArray }:=Aw _ rfl;have e1:Builtin.List.listSameRef (.ref s.heap.objs.size) (.ref S)=false:=by
  show(s.heap.objs.size==S)=false;simpa using CG Y
 show wpAny _ A.in1 (Builtin.List.listExtendWith (.ref s.heap.objs.size) (.ref S) (.ref s.heap.objs.size)) _ _ _;unfold Builtin.List.listExtendWith;refine Aa (DI (T:="set") ⟨o,O,G⟩ ?_);rw[Ia (by rw[e1];decide)];refine Aa (aEo (A:=A.in1) hh G hd hf hb aj O fun I s2 it=>?_);have U:=it.keep S o O;have ae:=it.keep _ _ an;refine Aa (By ?_);unfold Builtin.List.listLengthHint;refine Aa (GG (T:="set") ⟨o,U,G⟩ F.slot_set_len.lookup ?_);generalize ak:("set.__len__":String)=am
 wp_delta
 rw[show splitId am=some ("set","__len__") from by subst ak;decide];subst ak;refine Aa (DJ (b:=true) (T:="set") ⟨o,U,G⟩ sub_set_self ?_);refine Bf (by rfl) ?_;refine DE (by decide) ?_;refine Aa (DI (T:="set") ⟨o,U,G⟩ ?_);refine Ah ?_;refine DE (by decide) ?_;refine Aa (C6 ?_);obtain⟨fp,P,St,W,st0,hI,hfp,hit⟩:=it.w;have ai:(s.heap.push { cls:=.type "list",data:=.seq ([]:List Ab).toArray }).objs.size=s.heap.objs.size+1:=Co _ _;have af:s.heap.objs.size∉fp:=fun hm=>by
  rcases(hfp _ hm).2 with z|z
  .exact absurd z (CG Y)
  .dsimp only at z;rw[ai]at z;exact absurd z (Nat.not_succ_le_self _)
 apply Aa;show wpAny _ A.in1 (updateSeq s.heap.objs.size (·.push .none) >>= fun _=>updateSeq s.heap.objs.size (·.pop)) _ _ _
 apply Aa;refine wpAny_updateSeq ae rfl ?_;have ah:=Cp (Bh (·.push CW)) ae rfl
 refine wpAny_updateSeq ah rfl ?_;have aq:=Cp (Bh (·.pop)) ah rfl
 have ag:∀ b u,b≠s.heap.objs.size->s2.heap.get? b=some u->((s2.heap.update s.heap.objs.size (Bh (·.push CW))).update s.heap.objs.size (Bh (·.pop))).get? b=some u:=
  fun b u nb e=>(DW _ _ (Cf nb)).trans ((DW _ _ (Cf nb)).trans e)
 have ao:(es.toList.map (·.2)).length<=sizeLine:=by
  rw[Af,AN];exact E1 hb
 refine Ah ⟨F1 F.plain_extend_loop _,codeAny_extend_loopS (Walks.toS W) ao s.heap.objs.size af _ _ 0 _ _ _ rfl (AV _) (W.frame 0 _ _ st0 fun b hb u e=>ag b u (fun z=>af (z▸hb)) e) aq (ItemsOf.nil P) fun s' J c' hm Z ad=>?_⟩;show wpAny _ A (load s.heap.objs.size >>= _) _ _ s';apply Aa;refine wpAny_load Z (Ah ?_);obtain⟨h',g',d',tk',os'⟩:=s';have g1:=hm.gens;have g2:=hm.os;dsimp only at g1 g2;have g3:=it.gens;have g4:=it.os;rw[g3]at g1;rw[g4]at g2;dsimp only at g1 g2;subst g1 g2;refine h J.toList h' d' tk' (hit J ad) (fun b u e=>?_) (Ap Z);have aa:=Ap e;have nb:b≠s.heap.objs.size:=Ar aa;have nI:b≠I:=fun z=>by
  have z2:=it.new;dsimp only at z2;rw[ai,<- z]at z2;exact absurd (FY aa z2) (BD _)
 refine hm.heap b u (by simp[nb,nI]) (ag b u nb (it.keep b u (Ai _ e)))
end
theorem qV{P:Aq}{w:AL}{k:Int}{v:Ab}(h:(BG P w).is k v=true):∃ t,v=.int k t:=by
 change Fe k v=true at h;cases v with
 | int i t=>
  have:i=k:=by simpa[Fe]using h
  exact⟨t,by rw[this]⟩
 | _=>simp[Fe]at h
def qB:Ab->Int
 | .int i _=>i
 | _=>0
theorem aCf{vs:List Ab}{ns:List Int}(h:Ec vs ns):∀ v∈vs,∃ u,v=.int (qB v) u/\qB v∈ns:=by
 induction h with
 | nil=>intro v h;simp at h
 | cons i t r G=>
  intro v F;rcases An.mp F with rfl|F
  .exact⟨t,rfl,Am⟩
  .obtain⟨u,e,m⟩:=G v F;exact⟨u,e,Al _ m⟩
theorem aAK{vs:List Ab}(h:∀ v∈vs,∃ x u,v=.int x u):Ec vs (vs.map qB):=by
 induction vs with
 | nil=>exact .nil
 | cons v vs F=>
  obtain⟨x,u,rfl⟩:=h v Am;exact .cons x u (F fun v G=>h v (Al _ G))
def ltZ(x y:Int):Bool:=decide (x<y)
theorem aEp{a:Ad}{vs:List Ab}{ns:List Int}{n:Nat}{P:Gw->Ac->Prop}(Z:s.heap.get? a=some (seqObj "list" vs.toArray n))(hS:Ec vs ns)(Y:vs.length<=sizeLine)
  (h:∀ out:List Ab,out.Perm vs->(out.map qB).Pairwise (·<=·)->P (.done (.ret .none)) { s with heap:=sortedHeap s.heap a vs out.toArray }):wpAny (model prog w) A (Builtin.«list.sort» ⟨[.ref a],[]⟩) P E s:=by
 have J:∀ x y:Int,x∈ns->decide ((ns.countP fun z=>ltZ z x)<ns.countP fun z=>ltZ z y)=ltZ x y:=fun x y F=>
  y9 (fun a=>by unfold ltZ;simp) (fun a b c h1 h2=>by unfold ltZ at *;simp at *;omega) (fun a b c h1 h2=>by unfold ltZ at *;simp at *;omega) F
 refine w9 (rk:=fun v=>ns.countP fun z=>ltZ z (qB v)) Z (fun v1 v2 gL e s' Q _ q=>?_) Y fun out O hu=>h out O ?_
 .subst e;rw[keyKind_ints hS];refine Ah (q _ fun x y F G C hC=>?_);obtain⟨e1,m1⟩:=mG F;obtain⟨U,m2⟩:=mG G;obtain⟨u1,k1,n1⟩:=aCf hS _ m1;obtain⟨u2,k2,_⟩:=aCf hS _ m2;rw[keyLt'_oneType,e1,U,k1,k2];dsimp only at hC;rw[J _ _ n1]at hC;exact oneLt_int hC
 .rw[CT];refine List.Pairwise.imp_of_mem (fun{x y} F G h=>?_) hu;obtain⟨_,_,hm⟩:=aCf hS y (O.mem_iff.mp G);have e:=J (qB y) (qB x) hm;rw[Ie (E8.mpr h)]at e;have U:¬ qB y<qB x:=fun z=>by unfold ltZ at e;rw[Ic z]at e;cases e
  omega
section
variable{S:Ad}
theorem zE(hh:A.handled=none){f:Int->Bool}{n:Nat}(hS:fY prog w s.heap S f n){U:List Int}(af:U.Nodup)(aa:∀ k,f k=true↔k∈U)(hn:n=U.length)(al:n<=1000){Q:Ab->Ac->Prop}
  (h:∀(l:Ad) (h':A9) (d:Hy) (tk e:Nat) (out:Array Ab) (ms:List Int),s.heap.objs.size<=l->(∀ b u,s.heap.get? b=some u->h'.get? b=some u)->h'.get? l=some (seqObj "list" out e)->Ec out.toList ms->ms.Perm U->ms.Pairwise (·<=·)->Q (.ref l) { s with heap:=h',drawn:=d,toks:=tk }):
  wpAny (model prog w) A (call (.builtin "sorted") [.ref S]) Q E s:=by
 obtain⟨o,es,ep,t,ho,hex,hd,hel,hm,hb,hf,hsz,hTab⟩:=hS;refine Calls.call_function_entry Hv Hh Hk (args_sorted1 _) ?_;unfold Builtin.«sorted»;apply Aa (m:=checkCount "sorted" 1 1 _);apply Ah;refine Aa (zD (A:=A.in1) hh hex.1 hd hf hb hTab ho fun F h1 d tk hp O ag=>?_);have G:∀ v,v∈F->∃ x t,v=.int x t:=fun v hv=>by
  obtain⟨e,he,rfl⟩:=BA.mp (hp.mem_iff.mp hv);obtain⟨⟨k,O,_⟩,_⟩:=hel e he;obtain⟨t,ht⟩:=qV O;exact⟨k,t,ht⟩
 have hA:=aAK G;have aj:F.length=n:=by rw[hp.length_eq,Af,AN];exact hsz
 have hM:(F.map qB).Perm U:=by
  refine((hp.map qB)).trans (oZ U _ af (fun x hx=>?_) (by rw[Af,Af,AN,hsz,hn]));obtain⟨e,he,O⟩:=(hm x).mp ((aa x).mpr hx);obtain⟨t,ht⟩:=qV O;exact BA.mpr ⟨e.2,BA.mpr ⟨e,he,rfl⟩,by rw[ht];rfl⟩
 have ad:F.length<=sizeLine:=by rw[En];omega
 apply Aa;refine E6 ?_ ad;have J:(h1.push (seqObj "list" F.toArray 0)).get? h1.objs.size=some (seqObj "list" F.toArray 0):=Aw _ rfl;refine Aa (By (Cn slot_list_sort ⟨_,J,rfl⟩ entry_list_sort (aEp J hA ad fun out a1 a2=>⟨_,rfl,?_⟩) (args_list_sort _)));have b1:=aAK (vs:=out) fun v hv=>G v (a1.mem_iff.mp hv);have b2:=a1.map qB;refine Ah ⟨_,rfl,?_⟩;obtain⟨e,he⟩:=sortedHeap_at (vs:=F) (out:=out.toArray) J;have Z:s.heap.objs.size<=h1.objs.size:=Bd ag;refine h _ _ d tk e _ (out.map qB) Z (fun b u eb=>?_) he (by rw[List.toList_toArray];exact b1) (b2.trans hM) a2;have Y:=Ap (O b u eb);rw[sortedHeap_old (Ar Y) (by rw[Co];exact BF Y)];exact Ai _ (O b u eb)
end
theorem qW(val:Nat->Int):∀ i,(gE val i).Nodup
 | 0=>List.nodup_nil
 | i+1=>by
  show(iJ (gE val i) (val i)).Nodup;have F:=qW val i;unfold iJ;split
  .exact F
  .next hne=>
   rw[List.nodup_append];exact⟨F,by simp,fun x G y J e=>hne (by rw[<- (show y=val i from by simpa using J),<- e];exact G)⟩
def qY(ss:List Int):List Int:=gE (fun i=>ss.getD i 0) ss.length
theorem aEq(ss:List Int)(k:Int):k∈qY ss↔k∈ss:=by
 unfold qY;rw[xA];constructor
 .rintro⟨j,hj,e⟩;rw[<- e,List.getD_eq_getElem?_getD,Ae hj];exact A2 hj
 .intro F;obtain⟨j,hj,e⟩:=AR.mp F;exact⟨j,hj,by rw[List.getD_eq_getElem?_getD,Ae hj];exact e⟩
theorem qZ(ss:List Int):(qY ss).Nodup:=qW _ _
def rA(P:Aq)(w:AL)(a:Ad)(ss:List Int):HO:=.ext fun h=>fY P w h a (fun k=>(qY ss).any fun x=>x==k) (qY ss).length
theorem aFZ{ss:List Int}{its:List Ab}(J:bK (ss.map V.int) its){i:Nat}{v:Ab}(O:its.toArray[i]?=some v):∃ t,v=BH (ss.getD i 0) t:=by
 have F:=J.length;rw[Af]at F;have G:its[i]?=some v:=by simpa using O
 have hi:i<ss.length:=by
  rw[F];exact(Ak.mp G).1
 have e:(ss.map V.int)[i]?=some (V.int (ss.getD i 0)):=by
  rw[AB,Ae hi];simp[hi]
 obtain⟨u,hu,ru⟩:=J.get e;rw[G]at hu;cases hu;exact ru
theorem uP(hc:X.calm=true):eJ X (.type "set") (fun xs H Q=>∃(p:Ad) (ss:List Int),xs=[.ref p]/\H p=some (.lst (ss.map V.int))/\ss.length<=1000/\∀ a,H a=none->Q (.ref a) (upd H a (rA X.prog X.w a ss))):=by
 intro df s σ H xs us Q I r h;obtain⟨p,ss,rfl,hx,h1000,q⟩:=h;obtain⟨u,rfl,ru⟩:=eV r;cases ru;have fin:∀(F:List Ab),F.length=ss.length->∀(h':A9) (tk:Nat),fY X.prog X.w h' s.heap.objs.size (fun U=>(gE (fun i=>ss.getD i 0) F.toArray.size).any fun x=>x==U) (gE (fun i=>ss.getD i 0) F.toArray.size).length->
   (∀(b:Nat) (o:Obj),b<s.heap.objs.size->s.heap.get? b=some o->h'.get? b=some o)->EP X df σ Q (AD s.heap.objs.size) { s with heap:=h',toks:=tk }:=by
  intro F hl h' tk hS Y;have O:F.toArray.size=ss.length:=by rw[AA,hl]
  rw[O]at hS;have J:∀ b u,s.heap.get? b=some u->h'.get? b=some u:=fun b u e=>Y b u (Ap e) e;have hn:H s.heap.objs.size=none:=I.hok.fresh (Aj _);refine⟨.ref s.heap.objs.size,_,I.laid (t':=tk) (o:=rA X.prog X.w s.heap.objs.size ss) J (Aj _) ⟨hS,?_,fun h1 h2 f g=>?_⟩,rfl,q _ hn⟩
  .obtain⟨o,_,_,_,e,_⟩:=hS;exact⟨o,e⟩
  .exact f.at g
 obtain⟨F,rv,pl,_⟩:=I.list (aO hx);have G:=rv.length;rw[Af]at G;exact zC (val:=fun i=>ss.getD i 0) (I.ok.hd hc) pl.isList (fun i v Z=>aFZ rv Z) (by rw[AA,<- G];show _<4096;omega) (fin F G.symm)
theorem nB(hc:X.calm=true):eJ X (.builtin "sorted") (fun xs H Q=>∃(p:Ad) (ss:List Int),xs=[.ref p]/\H p=some (rA X.prog X.w p ss)/\ss.length<=1000/\∀(l:Ad) (F:List Int),H l=none->F.Perm (qY ss)->F.Pairwise (·<=·)->Q (.ref l) (upd H l (.lst (F.map V.int)))):=by
 intro df s σ H xs us Q I r h;obtain⟨p,ss,rfl,hx,h64,q⟩:=h;obtain⟨u,rfl,ru⟩:=eV r;cases ru;obtain⟨hS,_,_⟩:bZ X.prog X.w H s.heap p (rA X.prog X.w p ss):=I.hok p _ hx;have Y:(qY ss).length<=ss.length:=uO (fun i=>ss.getD i 0) ss.length;refine zE (I.ok.hd hc) hS (qZ ss) (fun k=>by rw[pG];simp) rfl (by omega) fun l h' d tk e out F hl O U ha G hs=>?_;have Z:bK (F.map V.int) out.toList:=kG ha;have J:=G.length_eq;exact⟨.ref l,_,I.laidD (t':=tk) (d':=d) (o:=.lst (F.map V.int)) O hl ⟨aR (by rw[Af];omega),out.toList,e,Z,by rw[U]<;>rfl⟩,rfl,q l F (I.hok.fresh hl) G hs⟩
def jS(H:Hp)(v:Ab):Int×Int:=match v with
 | .ref a=>match H a with
  | some (.tup [.int x,.int y])=>(x,y)
  | _=>(0,0)
 | _=>(0,0)
inductive jN(xs:List V)(H:Hp)(Q:VK):Prop
 | mk (p:Ad) (rs:List Ad) (zs:List (Int×Int)) (q0:xs=[.ref p]) (q1:H p=some (.lst (rs.map V.ref))) (q2:AZ (fun r z=>H r=some (.tup [.int z.1,.int z.2])) rs zs) (q3:zs.length<=sizeLine) (q4:∀(l:Ad) (ms:List Ad),H l=none->ms.Perm rs->(ms.Pairwise fun a b=>ltI (jS H (.ref b)) (jS H (.ref a))=false)->Q (.ref l) (upd H l (.lst (ms.map V.ref)))):jN xs H Q
def rT:List V->Hp->VK->Prop:=fun xs H Q=>jN xs H Q
theorem wB:eJ X (.builtin "sorted") rT:=by
 intro df s σ H xs us Q I r h;obtain⟨p,rs,zs,rfl,hx,hP,h64,q⟩:=h;obtain⟨u,rfl,ru⟩:=eV r;cases ru;obtain⟨its,rv,pl,_⟩:=I.list (aO hx);have af:=hP.length;have ao:=rv.length;rw[Af]at ao;have aj:its=rs.map AD:=rZ rv;subst aj;have ad:(rs.map AD).length<=sizeLine:=by rw[Af];omega
 have aa:∀ i,(hi:i<rs.length)->jS H (.ref rs[i])=zs[i]'(by omega):=fun i hi=>by
  have hp:=Paired.at hP (Ae hi) (Ae (by omega:i<zs.length));unfold jS;dsimp only;rw[hp]
 have an:zs=rs.map fun r=>jS H (.ref r):=List.ext_getElem (by simp[af]) fun i h1 h2=>by
  rw[B3,aa i (by omega)]
 refine Calls.call_function_entry Hv Hh Hk (args_sorted1 _) ?_;unfold Builtin.«sorted»;apply Aa (m:=checkCount "sorted" 1 1 _);apply Ah;refine Aa (collect_list pl.isList ?_ ad);have hk:∀ b u,s.heap.get? b=some u->((s.heap.push (seqObj "list" #[] 0)).update s.heap.objs.size (Bh (·++(rs.map AD).toArray))).get? b=some u:=fun b u e=>by
  rw[BS _ _ _ _ (Ar (Ap e))];exact Ai _ e
 have ai:s.heap.objs.size<((s.heap.push (seqObj "list" #[] 0)).update s.heap.objs.size (Bh (·++(rs.map AD).toArray))).objs.size:=by
  rw[C5,Co];exact BR _
 dsimp only;generalize (s.heap.push (seqObj "list" #[] 0)).update s.heap.objs.size (Bh (·++(rs.map AD).toArray))=F at hk ai ⊢
 apply Aa;refine E6 ?_ ad;have G:(F.push (seqObj "list" (rs.map AD).toArray 0)).get? F.objs.size=some (seqObj "list" (rs.map AD).toArray 0):=Aw _ rfl;have O:∀ b u,s.heap.get? b=some u->(F.push (seqObj "list" (rs.map AD).toArray 0)).get? b=some u:=fun b u e=>Ai _ (hk b u e);have J:s.heap.objs.size<=F.objs.size:=Bd ai;have hN:∀ v∈rs.map AD,m7 (F.push (seqObj "list" (rs.map AD).toArray 0)) v (jS H v)/\jS H v∈zs:=fun v hv=>by
  obtain⟨r,hr,rfl⟩:=BA.mp hv;obtain⟨i,hi,rfl⟩:=AR.mp hr;have hp:=Paired.at hP (Ae hi) (Ae (by omega:i<zs.length));obtain⟨_,its',rv',ht⟩:bZ X.prog X.w H s.heap _ (.tup _):=I.hok _ _ hp;refine⟨?_,by rw[aa i hi];exact A2 _⟩;rw[aa i hi];cases rv' with
  | cons r1 t1=>
   cases t1 with
   | cons r2 t2=>
    cases t2;obtain⟨u1,rfl⟩:=r1;obtain⟨u2,rfl⟩:=r2;obtain⟨o,U,hc⟩:=ht;exact⟨_,u1,u2,rfl,o,O _ _ U,hc.1⟩
 have hR:∀ x y:Ab,jS H x∈zs->decide (zs.countP (fun z=>ltI z (jS H x))<zs.countP (fun z=>ltI z (jS H y)))=ltI (jS H x) (jS H y):=fun x y hx=>y9 zB aCa aFV hx;refine Aa (By (Cn slot_list_sort ⟨_,G,rfl⟩ entry_list_sort (w9 (rk:=fun v=>zs.countP fun z=>ltI z (jS H v)) G (fun v1 v2 gL e s' Q' k' kq=>?_) ad fun out hp hu=>⟨_,rfl,?_⟩) (args_list_sort _)))
 .have Z:∀ v∈rs.map AD,m7 s'.heap v (jS H v):=fun v hv=>by
   obtain⟨⟨t,u1,u2,e1,o,U,hc⟩,_⟩:=hN v hv;refine⟨t,u1,u2,e1,o,k' _ _ (fun z=>?_) U,hc⟩;rw[z,G]at U;cases U;have au:(Bq "list")=Bq "tuple":=hc.1;injection au with z2;exact absurd z2 (by decide)
  refine aFN (fun v hv=>(Z v hv).any) fun b=>kq _ fun x y hx hy C hC=>?_;have Y:=mG hx;have ag:=mG hy;rw[hR _ _ (hN _ Y.2).2]at hC;rw[Y.1,ag.1];exact aJH (Z _ Y.2) (Z _ ag.2) hC
 .obtain⟨e,he⟩:=sortedHeap_at (vs:=rs.map AD) (out:=out.toArray) G;obtain⟨ys,hys,rys⟩:=wY hp rv;obtain⟨ms,hms,rfl⟩:∃ ms:List Ad,ms.Perm rs/\ys=ms.map V.ref:=aFX hys rfl;have U:out=ms.map AD:=rZ rys;subst U;refine Ah ⟨_,rfl,.ref F.objs.size,_,I.laid (t':=s.toks) (o:=.lst (ms.map V.ref)) (fun b u eb=>?_) J ⟨by rw[Af,hms.length_eq];omega,_,e,w5 _,by rw[he]<;>rfl⟩,rfl,q _ ms (I.hok.fresh J) hms ?_⟩
  .rw[sortedHeap_old (Ar (Ap (hk b u eb))) (Ap (O b u eb))];exact O b u eb
  .have ap:=CT.mp hu;refine ap.imp_of_mem fun{a b} ha hb h=>?_;have ar:jS H (.ref b)∈zs:=by rw[an];exact DB (hms.mem_iff.mp hb)
   rw[<- hR (.ref b) (.ref a) ar];exact Ie (E8.mpr h)
theorem aDc{X:Cx}{K:Ag}{e:Ba}{f:Str}{pos:Pos}{ta:TE}(F:PE X e ta)(hb:attributeBase e f X.env (eval e X.env)=eval e X.env:=by rfl)(G:X.K=K:=by rfl):PE X (.Attribute e f pos) (aJh K ta f):=by
 subst G;exact eU F hb
end L2
namespace K58
open PySem L2
theorem nW{a b:Str}{X Y:Prop}(n:a≠b)(h:Y):if decide (V.str a=V.str b)=true then X else Y:=mQ (fun g=>absurd (V.str.inj (Ig g)) n) fun _=>h
theorem yW{a:Str}{X Y:Prop}(h:X):if decide (V.str a=V.str a)=true then X else Y:=mQ (fun _=>h) fun g=>absurd (Ic rfl) g
theorem zZ0:([]:List V).length<=sizeLine:=aR (show 0<=1000000 by decide)
theorem zZ1{F:V}:[F].length<=sizeLine:=aR (show 1<=1000000 by decide)
theorem zZ2{F a1:V}:[F,a1].length<=sizeLine:=aR (show 2<=1000000 by decide)
theorem zZ3{F a1 a2:V}:[F,a1,a2].length<=sizeLine:=aR (show 3<=1000000 by decide)
theorem zZ4{F a1 a2 a3:V}:[F,a1,a2,a3].length<=sizeLine:=aR (show 4<=1000000 by decide)
theorem zZ5{F a1 a2 a3 a4:V}:[F,a1,a2,a3,a4].length<=sizeLine:=aR (show 5<=1000000 by decide)
theorem zZ6{F a1 a2 a3 a4 a5:V}:[F,a1,a2,a3,a4,a5].length<=sizeLine:=aR (show 6<=1000000 by decide)
def Cl(P:Aq)(w:AL)(K:Ag)(mg:Str->Option Ab)(base:A9)(k:Nat)(n:Str)(ps:List Str)(sp:Sp):Prop:=∃ f fd,cA P w K mg base CX0 k f fd ps sp/\mg n=some (.ref f)/\AJ K (.ref f)=true/\dA K fd ps []
theorem dH{X:Cx}{k:Nat}{ps:List Str}{sp:Sp}{x:Str}{p pos:Pos}{e:Ba}{es:List Ba}{t:TA}(c:Cl X.prog X.w X.K X.mg X.base k x ps sp)(Y:cF k X.A)(ha:PA X (e::es) t)(O:Gl X x:=by rfl)(G:(x==("__debug__":Str))=false:=by decide)(U:starEach (e::es) X.env=(false,eval e X.env)::starEach es X.env:=by rfl)(J:(backTo pos (starEach es X.env)).any (·.1)=false:=by rfl):PE X (.Call (.Name x p) (e::es) [] pos) (aHJ sp [] E0 t):=by
 obtain⟨f,fd,F,hm,hk,hb⟩:=c;exact cB F Y O hm hk hb .nil dP ha G U J
def top(i:Nat):Cd:=PySem.Challenge.pw_dykelengths_k58_three_hundred.main.body.getD i (.Pass ⟨0,0,0,0⟩)
abbrev aHn:Cd:=top 13
abbrev qC:Cd:=top 17
abbrev gQ:Cd:=top 20
abbrev mI:Cd:=top 22
abbrev aCg:Cd:=top 26
abbrev zF:Cd:=top 27
abbrev lR:Cd:=top 29
abbrev aCh:Cd:=top 31
abbrev gS:Cd:=top 32
abbrev aCi:Cd:=top 33
abbrev sJ:Cd:=top 34
abbrev qE:Cd:=top 36
abbrev uQ:Cd:=top 37
abbrev qF:Cd:=top 38
abbrev mJ:Cd:=top 40
abbrev sK:Cd:=top 43
abbrev kO:Cd:=top 44
abbrev zG:Cd:=top 45
abbrev kQ:Cd:=top 46
abbrev uR:Cd:=top 47
abbrev j7:Cd:=top 48
abbrev zH:Cd:=top 49
abbrev aCj:Cd:=top 50
abbrev aIK:Cd:=top 52
abbrev aDd:Cd:=top 53
abbrev zI:Cd:=top 54
abbrev aF0:Cd:=top 55
abbrev uS:Cd:=top 57
abbrev uT:Cd:=top 58
abbrev aF1:Cd:=top 59
abbrev zJ:Cd:=top 60
abbrev zK:Cd:=top 61
abbrev nY:Cd:=top 62
abbrev nZ:Cd:=top 63
abbrev rV:Cd:=top 64
abbrev Mnd:=List (Key×V)
def nxt(m:Mnd)(h:Str):Option Str:=match c9 m (Ao h)with
 | some (.str o)=>some o
 | _=>none
inductive c6(m:Mnd):Str->List Str->Prop
 | stop {h:Str} (e:nxt m h=none):c6 m h [h]
 | on {h o:Str} {l:List Str} (e:nxt m h=some o) (r:c6 m o l):c6 m h (h::l)
theorem c6.uniq{m:Mnd}{h:Str}{l G:List Str}(a:c6 m h l)(b:c6 m h G):l=G:=by
 induction a generalizing G with
 | stop e=>
  cases b with
  | stop _=>rfl
  | on F _=>rw[e]at F;cases F
 | on e _ J=>
  cases b with
  | stop F=>rw[e]at F;cases F
  | on F O=>
   rw[e]at F;cases F;rw[J O]
theorem c6.from{m:Mnd}{h x:Str}{l:List Str}(a:c6 m h l)(F:x∈l):∃ p r,l=p++r/\c6 m x r:=by
 induction a with
 | @stop h e=>
  rw[Ax.mp F];exact⟨[],[h],rfl,.stop e⟩
 | @on h o l e r G=>
  rcases An.mp F with rfl|F
  .exact⟨[],x::l,rfl,.on e r⟩
  .obtain⟨p,q,rfl,z⟩:=G F;exact⟨h::p,q,rfl,z⟩
theorem c6.nodup{m:Mnd}{h:Str}{l:List Str}(a:c6 m h l):l.Nodup:=by
 induction a with
 | stop _=>exact Bo.mpr ⟨by simp,List.nodup_nil⟩
 | @on h o l e r G=>
  refine Bo.mpr ⟨fun F=>?_,G⟩;obtain⟨p,q,rfl,z⟩:=r.from F;have:=congrArg CU (z.uniq (.on e r));simp at this;omega
theorem aF2:∀{l k:List Str},l.Nodup->(∀ x∈l,x∈k)->l.length<=k.length
 | [],k,_,_=>AV _
 | a::l,k,hn,hs=>by
  obtain⟨h1,h2⟩:=Bo.mp hn;have ha:=hs a Am;have:=aF2 (k:=k.erase a) h2 fun x F=>(List.mem_erase_of_ne (fun e=>h1 (by rw[<- e];exact F))).mpr (hs x (Al _ F));rw[List.length_erase_of_mem ha]at this;have:0<k.length:=List.length_pos_of_mem ha;rw[AQ];omega
theorem c6.keys{m:Mnd}{h:Str}{l:List Str}(a:c6 m h l):∃ r x,l=r++[x]/\∀ y∈r,y∈m.filterMap fun p=>match p.1 with|.inr z=>some z|_=>none:=by
 induction a with
 | @stop h e=>exact⟨[],h,rfl,fun y F=>by simp at F⟩
 | @on h o l e r J=>
  obtain⟨q,x,rfl,hq⟩:=J;refine⟨h::q,x,rfl,fun y F=>?_⟩;rcases An.mp F with rfl|F
  .unfold nxt at e;cases G:c9 m (Ao y)with
   | none=>rw[G]at e;cases e
   | some v=>
    obtain⟨p,hp,e2⟩:=BA.mp (aHb G);exact A8.mpr ⟨p,hp,by rw[e2]⟩
  .exact hq y F
theorem c6.len{m:Mnd}{h:Str}{l:List Str}(a:c6 m h l):l.length<=m.length+1:=by
 obtain⟨r,x,rfl,hr⟩:=a.keys;have h1:=aF2 (List.nodup_append.mp a.nodup).1 hr;have h2:=List.length_filterMap_le (fun p:Key×V=>match p.1 with|.inr z=>some z|_=>none) m;simp;omega
theorem pH(m:Mnd)(h o x:Str):nxt (dM m (Ao h) (.str o)) x=if x=h then some o else nxt m x:=by
 unfold nxt;rw[aFb];by_cases e:x=h
 .subst e;rw[Ib rfl,Ib rfl]
 .rw[Ia e,Ia fun z=>e (Ao.inj z)]
theorem c6.keep{m G:Mnd}{h x:Str}{l:List Str}(a:c6 m x l)(hn:h∉l)(e:∀ y,y≠h->nxt G y=nxt m y):c6 G x l:=by
 induction a with
 | @stop y F=>exact .stop ((e y fun z=>hn (by rw[z];exact Am)).trans F)
 | @on y o l F r J=>exact .on ((e y fun z=>hn (by rw[z];exact Am)).trans F) (J fun z=>hn (Al _ z))
theorem c6.bend{m J:Mnd}{h x:Str}{l O:List Str}(a:c6 m x l)(hh:c6 J h O)(e:∀ y,y≠h->nxt J y=nxt m y):∃ U,c6 J x U:=by
 induction a with
 | @stop y F=>
  by_cases z:y=h
  .rw[z];exact⟨O,hh⟩
  .exact⟨_,.stop ((e y z).trans F)⟩
 | @on y o l F r G=>
  by_cases z:y=h
  .rw[z];exact⟨O,hh⟩
  .obtain⟨U,G⟩:=G;exact⟨_,.on ((e y z).trans F) G⟩
structure oA(m:Mnd):Prop where
 tx:∀ p∈m,∃ o,p.2=.str o
 ends : ∀ h, ∃ l, c6 m h l
theorem oA.nil:oA []:=⟨fun p F=>by simp at F,fun h=>⟨[h],.stop rfl⟩⟩
theorem aF3{m:Mnd}{k:Key}{v:V}{p:Key×V}(F:p∈dM m k v):p∈m\/p.2=v:=by
 unfold dM at F;split at F
 .obtain⟨q,hq,e⟩:=BA.mp F;split at e
  .exact .inr (by rw[<- e])
  .exact .inl (by rw[<- e];exact hq)
 .rcases AK.mp F with F|F
  .exact .inl F
  .exact .inr (by rw[Ax.mp F])
theorem oA.put{m:Mnd}{h o:Str}{l:List Str}(a:oA m)(e:c6 m o l)(hn:h∉l):oA (dM m (Ao h) (.str o)):=by
 have F:∀ y,y≠h->nxt (dM m (Ao h) (.str o)) y=nxt m y:=fun y z=>by rw[pH,Ia z]
 have J:c6 (dM m (Ao h) (.str o)) h (h::l):=.on (by rw[pH,Ib rfl]) (e.keep hn F);refine⟨fun p G=>?_,fun x=>?_⟩
 .rcases aF3 G with z|z
  .exact a.tx p z
  .exact⟨o,z⟩
 .obtain⟨lx,hx⟩:=a.ends x;exact hx.bend J F
open Classical in
noncomputable def rd(m:Mnd)(h:Str):List Str:=if e:∃ l,c6 m h l then e.choose else[h]
theorem oA.rd{m:Mnd}(a:oA m)(h:Str):c6 m h (rd m h):=by
 unfold K58.rd;rw[dif_pos (a.ends h)];exact(a.ends h).choose_spec
theorem c6.rd{m:Mnd}{h:Str}{l:List Str}(e:c6 m h l):rd m h=l:=by
 have:∃ l,c6 m h l:=⟨l,e⟩
 unfold K58.rd;rw[dif_pos this];exact this.choose_spec.uniq e
theorem oA.val{m:Mnd}(a:oA m)(h:Str):c9 m (Ao h)=(nxt m h).map V.str:=by
 unfold nxt;cases e:c9 m (Ao h)with
 | none=>rfl
 | some v=>
  have:∃ p∈m,p.2=v:=by
   unfold c9 at e;obtain⟨p,hp,e2⟩:=A5.mp e;exact⟨p,List.mem_of_find?_eq_some hp,e2⟩
  obtain⟨p,hp,e2⟩:=this;obtain⟨o,e3⟩:=a.tx p hp;rw[e2]at e3;subst e3;rfl
noncomputable def i4(m:Mnd)(h o:Str):Mnd:=if h∈rd m o then m else dM m (Ao h) (.str o)
def aKw(m:Mnd)(h:Str):Mnd:=if (c9 m (Ao h)).isSome=true then aJn m (Ao h) else m
theorem oA.mend{m:Mnd}(a:oA m)(h o:Str):oA (i4 m h o):=by
 unfold i4;split
 .exact a
 .exact a.put (a.rd o) ‹_›
theorem xB(m:Mnd)(h o:Str):(i4 m h o).length<=m.length+1:=by
 unfold i4;split
 .omega
 .exact jH _ _ _
abbrev gF:Key:=Ao ("cells":Str)
abbrev kAt:Key:=Ao ("at":Str)
abbrev jO:Key:=Ao ("left":Str)
def iK(c:Ad)(a l:Int):List (Key×V):=[(gF,.ref c),(kAt,.int a),(jO,.int l)]
theorem aIL:¬ (gF=kAt):=by decide
theorem aIM:¬ (gF=jO):=by decide
theorem aHo:¬ (kAt=jO):=by decide
theorem aKx:¬ (jO=kAt):=fun e=>aHo e.symm
theorem aEr(c:Ad)(a l:Int):c9 (iK c a l) gF=some (.ref c):=by
 unfold iK;rw[cU rfl]
theorem aIN(c:Ad)(a l:Int):c9 (iK c a l) kAt=some (.int a):=by
 unfold iK;rw[bX aIL,cU rfl]
theorem aF4(c:Ad)(a l:Int):c9 (iK c a l) jO=some (.int l):=by
 unfold iK;rw[bX aIM,bX aHo,cU rfl]
theorem aIO(c:Ad)(a l F:Int):dM (iK c a l) kAt (.int F)=iK c F l:=by
 unfold dM iK;rw[Ib (by rw[Dt];exact⟨(kAt,.int a),by simp,Ic rfl⟩)];simp only[AF,El,Ia aIL,Ia aKx,Ib]
theorem aF5(c:Ad)(a l F:Int):dM (iK c a l) jO (.int F)=iK c a F:=by
 unfold dM iK;rw[Ib (by rw[Dt];exact⟨(jO,.int l),by simp,Ic rfl⟩)];simp only[AF,El,Ia aIM,Ia aHo,Ib]
theorem aIP{H:Hp}{p c:Ad}{a l:Int}(h:H p=some (.dK (iK c a l))):nU H p (.str "left") (some (.int l)):=by
 have:=nU.k (k:=jO) h;rw[aF4]at this;exact this
theorem aKy{H:Hp}{p c:Ad}{a l:Int}(h:H p=some (.dK (iK c a l))):nU H p (.str "at") (some (.int a)):=by
 have:=nU.k (k:=kAt) h;rw[aIN]at this;exact this
theorem aKz{H:Hp}{p c:Ad}{a l:Int}(h:H p=some (.dK (iK c a l))):nU H p (.str "cells") (some (.ref c)):=by
 have:=nU.k (k:=gF) h;rw[aEr]at this;exact this
theorem aJK{H:Hp}{p c:Ad}{a l:Int}(F:Int)(h:H p=some (.dK (iK c a l))):nV H p (.str "left") (.int F) (upd H p (.dK (iK c a F))):=by
 have:=nV.k (k:=jO) (v:=.int F) h (wV (by show 3<=1000;decide));rw[aF5]at this;exact this
theorem aKA{H:Hp}{p c:Ad}{a l:Int}(F:Int)(h:H p=some (.dK (iK c a l))):nV H p (.str "at") (.int F) (upd H p (.dK (iK c F l))):=by
 have:=nV.k (k:=kAt) (v:=.int F) h (wV (by show 3<=1000;decide));rw[aIO]at this;exact this
structure dE(H:Hp)(p c:Ad)(ns:List Int)(a:Int):Prop where
 ob:∃ l,0<=l/\H p=some (.dK (iK c a l))
 ce:H c=some (.lst (ns.map V.int))
 ge:0<=a
 sm:ns.length<=63
theorem dE.same{H H':Hp}{p c:Ad}{ns:List Int}{a:Int}(x:dE H p c ns a)(h:bU H H'):dE H' p c ns a:=by
 obtain⟨⟨l,hl,e⟩,ce,ge,sm⟩:=x;exact⟨⟨l,hl,h _ _ e⟩,h _ _ ce,ge,sm⟩
theorem dE.ne{H:Hp}{p c:Ad}{ns:List Int}{a:Int}(x:dE H p c ns a):c≠p:=by
 obtain⟨⟨l,hl,e⟩,ce,_,_⟩:=x;exact dL ce e (by intro z;cases z)
inductive aDe(K:Ag)(vs:List V)(H:Hp)(Q:VK)(u3_:XK):Prop
 | mk (a:Ad) (ns:List Int) (q0:vs=[.ref a]) (q1:SqL K H a (ns.map V.int)) (q2:ns.length<=63) (q3:∀ p c H',dE H' p c ns 0->bU H H'->H p=none->Q (.ref p) H'):aDe K vs H Q u3_
def aHW(K:Ag):Sp:=fun vs H Q u3_=>aDe K vs H Q u3_
inductive aAL(vs:List V)(H:Hp)(Q:VK)(u3_:XK):Prop
 | mk (p c:Ad) (ns:List Int) (a m:Int) (q0:vs=[.ref p,.int m]) (q1:dE H p c ns a) (q2:a<=1000000) (q3:0<m) (q4:m<2^512) (q5:∀ r a' H',0<=r->r<m->a<=a'->a'<=a+1->dE H' p c ns a'->aY p H H'->Q (.int r) H'):aAL vs H Q u3_
def qG:Sp:=fun vs H Q u3_=>aAL vs H Q u3_
variable{P:Aq}{w:AL}{K:Ag}{mg:Str->Option Ab}{base:A9}
theorem aJL:bG ["_law_script"] ["_law_script"] (aM aIK):=⟨rfl,rfl,rfl,by decide,rfl,by decide,by decide⟩
theorem aJM(ns:List Int)(h:ns.length<=63):jA (ns.map V.int) none (some 63)=ns.map V.int:=by
 have e:HT.sIx (ns.map V.int).length (ns.map V.int).length (some 63)=(ns.map V.int).length:=by
  have:=HT.sIx_nat (ns.map V.int).length (ns.map V.int).length 63;rw[Af]at this ⊢;refine Eq.trans this ?_;omega
 unfold jA;rw[e,HT.sIx_none,Cv,Dz,Bg]
theorem aIQ{f:Ad}{fd:A4}(F:Fun K "_law_pen" "_law_pen" aIK f fd)(J:mg "list"=none):cA P w K mg base CX0 1 f fd ["_law_script"] (aHW K):=by
 refine F.ok aJL (fun vs H Q E h=>?_) (fun ai A outer s H vs Q E hr h=>?_)
 .obtain⟨a,ns,rfl,_⟩:=h;rfl
 .obtain⟨a,ns,rfl,hS,hn,k⟩:=h;refine⟨_,aN (bC (aG9 (tO cS (fU oO (by rfl) J (by kernel_rfl) (jD (hU aCL (pv 0) jE (jF aG)) aB)) (tO cS aG (tO cS aG aG8))) rfl rfl (by simp) (by decide))),?_⟩;intro p Z;refine⟨_,rfl,_,rfl,_,_,rfl,(aH Z).seq hS,fun q hq=>?_⟩;rw[aJM ns hn];refine⟨q,_,rfl,.inl (aO aA),fun c hc=>?_⟩;have O:q≠p:=(aJ aA hq).symm;have U:c≠p:=(aJ (show upd (upd H p (HO.dK [])) q (.lst (ns.map V.int)) p=some (HO.dK []) by rw[aF O.symm,aA]) hc).symm;refine⟨by rw[aF U.symm,aF O.symm,aA],[(gF,.ref c),(kAt,.int 0),(jO,.int 0)],rfl,by show 3<=15;decide,?_⟩;have em:pX [] [(gF,V.ref c),(kAt,.int 0),(jO,.int 0)]=iK c 0 0:=by
   have e1:dM ([]:List (Key×V)) gF (.ref c)=[(gF,.ref c)]:=by rw[iC _ tL];rfl
   have e2:dM [(gF,V.ref c)] kAt (.int 0)=[(gF,.ref c),(kAt,.int 0)]:=by rw[iC _ (by rw[bX aIL,tL])];rfl
   have e3:dM [(gF,V.ref c),(kAt,.int 0)] jO (.int 0)=[(gF,.ref c),(kAt,.int 0),(jO,.int 0)]:=by rw[iC _ (by rw[bX aIM,bX aHo,tL])];rfl
   show dM (dM (dM [] gF (.ref c)) kAt (.int 0)) jO (.int 0)=_;rw[e1,e2,e3];rfl
  rw[em];refine k p c _ ⟨⟨0,B2 _,aA⟩,by rw[aF U,aA],B2 _,hn⟩ (fun b o e=>?_) Z;have G:b≠p:=aJ e Z;have Y:b≠q:=aJ (show upd H p (HO.dK []) b=some o by rw[aF G];exact e) hq;have aa:b≠c:=aJ (show upd (upd H p (HO.dK [])) q (.lst (ns.map V.int)) b=some o by rw[aF Y,aF G];exact e) hc;rw[aF G,aF aa,aF Y,aF G];exact e
theorem lS:bG ["_law_pen_here","_law_many","_law_found","_law_at","_law_cells","_law_cell","_law_one","_law_two"] ["_law_pen_here","_law_many"] (aM aDd):=⟨rfl,rfl,rfl,by decide,rfl,by decide,by decide⟩
theorem aJN{c a b:Int}(hc:0<=c)(h:0<=a)(h2:a<=b):0<=c*a*a/\c*a*a<=c*b*b:=by
 have h1:0<=c*a:=Dp hc h;have F:c*a<=c*b:=Int.mul_le_mul_of_nonneg_left h2 hc;exact⟨Dp h1 h,Int.mul_le_mul F h2 h (Dp hc (Int.le_trans h h2))⟩
theorem aKB(x:Int){a:Int}(h:0<=a)(h2:a<=1000000):Int.natAbs (x%(2147483587:Int)+(611:Int)*a*a+(29:Int))<2^64:=by
 obtain⟨b1,b2⟩:=aJN (c:=(611:Int)) (a:=a) (b:=1000000) (by decide) h h2;have F:=CV x (show(2147483587:Int)≠0 by decide);have G:=CN x (show 0<(2147483587:Int) by decide);omega
theorem aKC{x:Int}:-(2^64)<x%(2147483563:Int)/\x%(2147483563:Int)<2^64:=by
 have F:=CV x (show(2147483563:Int)≠0 by decide);have G:=CN x (show 0<(2147483563:Int) by decide);omega
theorem aHp{f:Ad}{fd:A4}(F:Fun K "_law_take" "_law_take" aDd f fd)(aa:mg "len"=none)(Y:mg "abs"=none):cA P w K mg base CX0 1 f fd ["_law_pen_here","_law_many"] qG:=by
 refine F.ok lS (fun vs H Q E h=>?_) (fun al A outer s H vs Q E hr h=>?_)
 .obtain⟨p,c,ns,a,m,rfl,_⟩:=h;rfl
 .obtain⟨p,c,ns,a,m,rfl,hp,ha,hm,hm2,k⟩:=h;have hu:=oQ hr;have ak:(A.deeper (PyProof.Rows.envOfC "_law_take" (aM aDd) s.heap.objs.size f al)).units<cLine:=by omega
  refine⟨_,aE (dN (cG aCF (e8 hu (pv 0) cS Ih) aG (cH _))
    (aE (aX (i:=2) lS.nd rfl (AC rfl) (aU iW (e8 hu (pv 0) cS Ih) (pv 1)))
    (aE (gZ hu (pv 0) cS (aU lM (e8 hu (pv 0) cS Ih) (pv 1)) rfl)
    (aN (bC (pv 2))))) cN)
   (aE (aX (i:=3) lS.nd rfl (AC rfl) (e8 hu (pv 0) cS Ih))
   (aE (gZ hu (pv 0) cS (aU cC (pv 3) aG) rfl)
   (aE (aX (i:=4) lS.nd rfl (AC rfl) (e8 hu (pv 0) cS Ih))
   (aE (aX (i:=5) lS.nd rfl (AC rfl) (aU cC (aU cC (aU eR (aU eR aG (pv 3)) (pv 3)) (aU eR aG (pv 3))) aG))
   (aE (p3 <| dN (cG (aBZ ak) (pv 4) (cJ aB) (cH _))
    (aN (aX (i:=5) lS.nd rfl (AC rfl) (bO bW (pv 4) (aU iW (pv 3) (aV cO (by rfl) aa BK (jD (pv 4) aB))) Ih))) cN)
   (aE (p3 <| dN (aBF (cG qN (pv 3) (aV cO (by rfl) aa BK (jD (pv 4) aB)) (cH _))
     (yE (cG aHH (aV sZ (by rfl) Y (by kernel_rfl) (jD (pv 5) aB)) (aU nQ aG aG) (cH _)))).pt
    (aE (gZ hu (pv 0) cS (aU lM (aV sZ (by rfl) Y (by kernel_rfl) (jD (pv 5) aB)) (pv 1)) rfl)
    (aN (bC (aU iW (aV sZ (by rfl) Y (by kernel_rfl) (jD (pv 5) aB)) (pv 1))))) cN)
   (aE (aX (i:=6) lS.nd rfl (AC rfl) (aU iW (aU nQ (aU cC (aU cC (aU iW (pv 5) aG) (aU eR aG (pv 3))) aG) aG) aG))
   (aE (aX (i:=7) lS.nd rfl (AC rfl) (aU iW (aU nQ (aU cC (aU cC (pv 6) (aU eR (aU eR aG (pv 3)) (pv 3))) aG) aG) aG))
   (aN (bC (aU iW (aU lM (aU iW (aU eR (pv 7) (aU cC (aU iW (pv 6) aG) aG)) aG) aG) (pv 1)))))))))))),?_⟩
  obtain⟨⟨l,hl0,hob⟩,hce,hge,hsm⟩:=id hp;have ae:=hp.ne;refine⟨_,rfl,p,_,rfl,aIP hob,_,_,rfl,rfl,_,rfl,mQ (fun h0=>?_) (fun h0=>?_)⟩
  .exact⟨_,rfl,p,_,rfl,aIP hob,_,rfl,_,_,rfl,rfl,hm,_,rfl,p,_,rfl,aIP hob,_,rfl,_,_,rfl,rfl,qR.of hm hm2,_,rfl,p,_,rfl,aJK _ hob,_,rfl,k (l%m) a _ (CV _ (by omega)) (CN _ hm) (B2 _) (by omega) ⟨⟨l/m,Gk hl0 (by omega),aA⟩,by rw[aF ae];exact hce,hge,hsm⟩ (aY.refl p H).upd⟩
  .refine⟨_,rfl,p,_,rfl,aKy hob,_,rfl,_,_,rfl,rfl,_,rfl,p,_,rfl,aKA _ hob,_,rfl,p,_,rfl,aKz aA,_,rfl,_,_,rfl,rfl,.inl (by decide),_,rfl,_,_,rfl,rfl,.inr (by omega),_,rfl,_,_,rfl,rfl,.inl (by decide),_,_,rfl,rfl,_,_,rfl,rfl,?_⟩;have O:aY p H (upd H p (.dK (iK c (a+1) l))):=(aY.refl p H).upd;have hc1:(upd H p (.dK (iK c (a+1) l))) c=some (.lst (ns.map V.int)):=by rw[aF ae];exact hce
   refine⟨fun σ' H'=>∃ J:Int,σ'=[some (.ref p),some (.int m),none,some (.int a),some (.ref c),some (.int J),none,none]/\aY p H H'/\H' p=some (.dK (iK c (a+1) l))/\H' c=some (.lst (ns.map V.int)),?_,?_⟩
   .refine⟨_,rfl,AV _,fun q hq=>?_⟩;have Z:=aH (o:=.lst []) hq;refine⟨c,q,ns.map V.int,[],rfl,rfl,aO (Z _ _ hc1),aO aA,iS ns,rfl,_,rfl,mQ (fun ah=>?_) (fun ah=>?_)⟩
    .have am:0<ns.length:=by
      cases ns with
      | nil=>exact absurd ah (by simp[rQ])
      | cons x r=>simp
     have aj:(a%(ns.length:Int)).toNat<ns.length:=by
      have h1:=CN a (show(0:Int)<ns.length by omega);have h2:=CV a (show(ns.length:Int)≠0 by omega);omega
     have ai:atI (ns.map V.int) (a%(ns.length:Int))=some (.int (ns[(a%(ns.length:Int)).toNat])):=by
      have h2:=CV a (show(ns.length:Int)≠0 by omega);have e:=f6 (xs:=ns.map V.int) (j:=(a%(ns.length:Int)).toNat) (v:=.int (ns[(a%(ns.length:Int)).toNat])) (by rw[AB,Ae aj];rfl);rw[Fx h2]at e;exact e
     have af:atI (ns.map V.int) (a%((ns.map V.int).length:Int))=some (.int (ns[(a%(ns.length:Int)).toNat])):=by
      rw[Af];exact ai
     exact⟨_,rfl,_,rfl,_,rfl,c,_,rfl,.inl (aO (Z _ _ hc1)),_,_,rfl,rfl,(by rw[Af];omega),c,_,_,_,rfl,rfl,aO (Z _ _ hc1),af,_,rfl,O.same Z,Z _ _ aA,Z _ _ hc1⟩
    .exact⟨_,rfl,O.same Z,Z _ _ aA,Z _ _ hc1⟩
   .rintro σ' H' ⟨J,rfl,kp,U,G⟩;refine⟨fun σ' H'=>∃ J:Int,σ'=[some (.ref p),some (.int m),none,some (.int a),some (.ref c),some (.int J),none,none]/\aY p H H'/\H' p=some (.dK (iK c (a+1) l))/\H' c=some (.lst (ns.map V.int)),?_,?_⟩
    .refine⟨_,rfl,_,rfl,c,_,rfl,.inl (aO G),_,_,rfl,rfl,_,rfl,mQ (fun h1=>?_) (fun h1=>?_)⟩
     .refine⟨_,rfl,_,rfl,_,_,rfl,rfl,⟨by decide,by decide,by decide⟩,_,_,rfl,rfl,_,rfl,mQ (fun h2=>?_) (fun h2=>?_)⟩
      .refine⟨_,rfl,_,rfl,_,rfl,_,_,rfl,rfl,qR.of hm hm2,_,rfl,p,_,rfl,aJK _ U,_,rfl,_,rfl,_,rfl,_,_,rfl,rfl,hm,?_⟩;have ad:0<=(if J<0 then -J else J):=by split<;>omega
       exact k _ (a+1) _ (CV _ (by omega)) (CN _ hm) (by omega) (B2 _) ⟨⟨_,Gk ad (by omega),aA⟩,by rw[aF ae];exact G,by omega,hsm⟩ kp.upd
      .exact⟨J,rfl,kp,U,G⟩
     .exact dU ⟨J,rfl,kp,U,G⟩
    .rintro σ' H' ⟨J,rfl,kp,U,G⟩;refine⟨_,rfl,_,_,rfl,rfl,(by show(0:Int)<_;decide),_,rfl,_,_,rfl,rfl,.inl (by decide),_,_,rfl,rfl,_,_,rfl,rfl,_,_,rfl,rfl,⟨by decide,by decide,?_⟩,_,_,rfl,rfl,(by show(0:Int)<_;decide),?_⟩
     .have e1:=CV J (show(2147483629:Int)≠0 by decide);have e2:=CN J (show 0<(2147483629:Int) by decide);show Int.natAbs (J%(2147483629:Int)+(30011:Int)*a+(17:Int))<2^64;omega
     .exact⟨_,rfl,_,rfl,_,_,rfl,rfl,.inl (by decide),_,rfl,_,_,rfl,rfl,.inr (by omega),_,_,rfl,rfl,_,_,rfl,rfl,_,_,rfl,rfl,⟨by decide,by decide,aKB _ hge ha⟩,_,_,rfl,rfl,(by show(0:Int)<_;decide),_,rfl,_,rfl,_,_,rfl,rfl,(by show(0:Int)<_;decide),_,_,rfl,rfl,_,_,rfl,rfl,.inl aKC,_,_,rfl,rfl,(by show(0:Int)<_;decide),_,_,rfl,rfl,qR.of (by decide) (by decide),_,rfl,_,_,rfl,rfl,hm,k _ (a+1) _ (CV _ (by omega)) (CN _ hm) (by omega) (B2 _) ⟨⟨l,hl0,U⟩,G,by omega,hsm⟩ kp⟩
inductive aAM(vs:List V)(H:Hp)(Q:VK)(u3_:XK):Prop
 | mk (me:Ad) (h:Str) (m:Mnd) (q0:vs=[.ref me,.str h]) (q1:H me=some (.dK m)) (q2:oA m) (q3:m.length<=100000) (q4:∀(L:Ad) (H':Hp),H L=none->bU H H'->H' L=some (.lst ((rd m h).map V.str))->Q (.ref L) H'):aAM vs H Q u3_
def aCk:Sp:=fun vs H Q u3_=>aAM vs H Q u3_
theorem uU:bG ["menders","house","road"] ["menders","house"] (aM qC):=⟨rfl,rfl,rfl,by decide,rfl,by decide,by decide⟩
theorem aAN{f:Ad}{fd:A4}(F:Fun K "road_from" "road_from" qC f fd):cA P w K mg base CX0 1 f fd ["menders","house"] aCk:=by
 refine F.ok uU (fun vs H Q E h=>?_) (fun ad A outer s H vs Q E hr h=>?_)
 .obtain⟨me,h,m,rfl,_⟩:=h;rfl
 .obtain⟨me,h,m,rfl,hm,ha,hlen,k⟩:=h;have hu:=oQ hr;refine⟨_,aE (aX (i:=2) uU.nd rfl (AC rfl) (cJ (aD (pv 1) aB)))
   (aE (z9 Bz (sS (aIp hu (bO bW (pv 2) (wH pT aG) Ih) (pv 0)))
    (aN (iO (lJ BC B9 B8 gO (pv 2) (aD (e8 hu (pv 0) (bO bW (pv 2) (wH pT aG) Ih) Ih) aB)))))
   (aN (bC (pv 2)))),?_⟩
  refine⟨_,rfl,zZ1,fun L hL=>?_⟩;have sL:=aH (o:=.lst [V.str h]) hL;have O:=ha.rd h;have af:=O.len;refine⟨fun n σ H'=>∃(pre l:List Str) (x:Str),σ=[some (.ref me),some (.str h),some (.ref L)]/\bU H H'/\H' L=some (.lst ((pre++[x]).map V.str))/\rd m h=pre++l/\c6 m x l/\n=l.length,⟨_,[],rd m h,h,rfl,sL,aA,rfl,O,rfl⟩,?_⟩;rintro n σ H1 ⟨pre,l,x,rfl,S,G,Y,hx,rfl⟩;have J:atI ((pre++[x]).map V.str) (-1)=some (.str x):=by
   rw[A1];exact oM _ _
  refine⟨_,rfl,_,rfl,L,_,-1,_,rfl,rfl,aO G,J,_,rfl,me,_,rfl,.inl ⟨m,Ao x,.inl (S _ _ hm),rfl,rfl⟩,_,rfl,?_⟩;rw[ha.val x];cases hx with
  | stop e=>
   rw[e];refine dU ?_;refine⟨_,rfl,k L H1 hL S ?_⟩;rw[Y];exact G
  | @on _ y l e r=>
   rw[e];refine iD ?_;refine⟨fun σ' H'=>∃(pre U:List Str) (x:Str),σ'=[some (.ref me),some (.str h),some (.ref L)]/\bU H H'/\H' L=some (.lst ((pre++[x]).map V.str))/\rd m h=pre++U/\c6 m x U/\l.length=U.length,fun σ' H' z=>⟨l.length,by simp,z⟩,?_⟩;have Z:some (V.str y)=c9 m (Ao x):=by rw[ha.val x,e];rfl
   refine⟨_,rfl,.inl ⟨rfl,_,aO G⟩,_,rfl,_,rfl,_,rfl,L,_,-1,_,rfl,rfl,aO G,J,me,_,rfl,.inl ⟨m,Ao x,.inl (S _ _ hm),rfl,Z⟩,L,_,_,rfl,rfl,G,?_,?_⟩
   .have:=congrArg CU Y;simp at this ⊢;exact B0 (show pre.length+1<=1000000 by omega) (by decide)
   .refine⟨pre++[x],l,y,rfl,fun b o z=>?_,?_,by rw[Y];simp,r,rfl⟩
    .rw[aF (aJ z hL)];exact S _ _ z
    .rw[aA];simp
def gU(H H':Hp):Prop:=∀ q xs,H q=some (.tup xs)->H' q=some (.tup xs)
theorem aK{H H':Hp}(s:bU H H'):gU H H':=fun q xs e=>s _ _ e
theorem Ce{α β:Type}{R:α->β->Prop}{a:α}{b:β}(r:R a b):∀{as:List α}{bs:List β},AZ R as bs->AZ R (as++[a]) (bs++[b])
 | _,_,.nil=>.cons r .nil
 | _,_,.cons q t=>.cons q (Ce r t)
abbrev L4:=Str×Str×Int×Int
structure MA where
 dx:Ad
 r:Ad
 h:Ad
 a:Ad
 i:Ad
 me:Ad
def rW(A:MA):List (Str×V):=[("ranks",.ref A.r),("holdings",.ref A.h),("acres",.ref A.a),("inches",.ref A.i),("menders",.ref A.me)]
structure MC(K:Ag)(C:Ad):Prop where
 cl:Cls K C
 r:iY K C "ranks"
 h:iY K C "holdings"
 a:iY K C "acres"
 i:iY K C "inches"
 m:iY K C "menders"
def rkD:Nat->List L4->List (Key×V)
 | _,[]=>[]
 | n,l::Ls=>(Ao l.1,.int n)::rkD (n+1) Ls
def acD(Ls:List L4):List (Key×V):=Ls.map fun l=>(Ao l.1,.int l.2.2.1)
def inD(Ls:List L4):List (Key×V):=Ls.map fun l=>(Ao l.1,.int l.2.2.2)
def oB(H:Hp)(kv:Key×V)(l:L4):Prop:=kv.1=Ao l.1/\∃ t tp q,kv.2=.ref t/\H t=some (.tup [.str l.2.1,.ref tp])/\H tp=some (.tup [.ref q])/\H q=some (.tup [.str l.1,.int 0,.int l.2.2.1])
theorem oB.on{H H':Hp}{F:Key×V}{l:L4}(h:oB H F l)(t:gU H H'):oB H' F l:=by
 obtain⟨e,a,b,c,h1,h2,h3,h4⟩:=h;exact⟨e,a,b,c,h1,t _ _ h2,t _ _ h3,t _ _ h4⟩
theorem aDf:∀{Ls:List L4}{n i:Nat}{l:L4},(Ls.map (·.1)).Nodup->Ls[i]?=some l->c9 (rkD n Ls) (Ao l.1)=some (.int ((n+i:Nat):Int))
 | [],_,_,_,_,e=>by simp at e
 | x::Ls,n,0,l,_,e=>by
  simp at e;subst e;unfold rkD;rw[cU rfl];rfl
 | x::Ls,n,i+1,l,hn,e=>by
  rw[AF,Bo]at hn;have F:Ls[i]?=some l:=by simpa using e
  unfold rkD;rw[bX fun z=>hn.1 (by rw[show x.1=l.1 from Ao.inj z];exact DB (AU F)),aDf hn.2 F,show n+1+i=n+(i+1) by omega]
theorem uV{f:L4->V}:∀{Ls:List L4}{i:Nat}{l:L4},(Ls.map (·.1)).Nodup->Ls[i]?=some l->c9 (Ls.map fun l=>((Ao l.1:Key),f l)) (Ao l.1)=some (f l)
 | [],_,_,_,e=>by simp at e
 | x::Ls,0,l,_,e=>by
  simp at e;subst e;rw[AF,cU rfl]
 | x::Ls,i+1,l,hn,e=>by
  rw[AF,Bo]at hn;have F:Ls[i]?=some l:=by simpa using e
  rw[AF,bX fun z=>hn.1 (by rw[show x.1=l.1 from Ao.inj z];exact DB (AU F)),uV hn.2 F]
theorem aAO{x:Str}:∀{Ls:List L4}{n:Nat},x∉Ls.map (·.1)->c9 (rkD n Ls) (Ao x)=none
 | [],_,_=>rfl
 | l::Ls,n,h=>by
  rw[AF,An,not_or]at h;unfold rkD;rw[bX fun z=>h.1 (Ao.inj z).symm,aAO h.2]
theorem qH{f:L4->V}{x:Str}:∀{Ls:List L4},x∉Ls.map (·.1)->c9 (Ls.map fun l=>((Ao l.1:Key),f l)) (Ao x)=none
 | [],_=>rfl
 | l::Ls,h=>by
  rw[AF,An,not_or]at h;rw[AF,bX fun z=>h.1 (Ao.inj z).symm,qH h.2]
theorem aDg:∀(n:Nat) (Ls:List L4),(rkD n Ls).length=Ls.length
 | _,[]=>rfl
 | n,l::Ls=>by unfold rkD;rw[AQ,aDg,AQ]
theorem aAP:∀(n:Nat) (Ls:List L4) (l:L4),rkD n (Ls++[l])=rkD n Ls++[(Ao l.1,.int ((n+Ls.length:Nat):Int))]
 | n,[],l=>rfl
 | n,x::Ls,l=>by
  rw[Ds];unfold rkD;rw[aAP (n+1) Ls l,Ds,AQ,show n+1+Ls.length=n+(Ls.length+1) by omega]
theorem aAQ{H:Hp}{x:Str}:∀{F:List (Key×V)}{Ls:List L4},AZ (oB H) F Ls->x∉Ls.map (·.1)->c9 F (Ao x)=none
 | _,_,.nil,_=>rfl
 | _,_,.cons r t,h=>by
  rw[AF,An,not_or]at h;rw[bX fun z=>h.1 (Ao.inj (r.1.symm.trans z)).symm,aAQ t h.2]
theorem aF6{H:Hp}{x:Str}{v:V}:∀{F:List (Key×V)}{Ls:List L4},AZ (oB H) F Ls->c9 F (Ao x)=some v->∃ l,l∈Ls/\l.1=x/\oB H (Ao x,v) l
 | _,_,.nil,h=>by cases h
 | _,_,.cons (a:=G) (b:=l) r t,h=>by
  by_cases e:G.1=Ao x
  .rw[cU e]at h;cases h;refine⟨l,Am,Ao.inj (r.1.symm.trans e),?_⟩;have J:(Ao x,G.2)=G:=Hz e.symm rfl;rw[J];exact r
  .rw[bX e]at h;obtain⟨l',h1,h2,h3⟩:=aF6 t h;exact⟨l',Al _ h1,h2,h3⟩
def gJ(Ls:List L4)(x h:Str):List L4:=Ls.map fun l=>if l.1=x then(l.1,h,l.2.2) else l
theorem aAR(Ls:List L4)(x h:Str):(gJ Ls x h).map (·.1)=Ls.map (·.1):=by
 unfold gJ;rw[DT];refine DC fun l _=>?_;show(if l.1=x then(l.1,h,l.2.2) else l).1=l.1;split<;>rfl
theorem aAS(x h:Str):∀(n:Nat) (Ls:List L4),rkD n (gJ Ls x h)=rkD n Ls
 | _,[]=>rfl
 | n,l::Ls=>by
  show rkD n ((if l.1=x then(l.1,h,l.2.2) else l)::gJ Ls x h)=_;unfold rkD;rw[aAS x h (n+1) Ls];congr 2;split<;>rfl
theorem xC{f:Str->Int×Int->Key×V}(Ls:List L4)(x h:Str):(gJ Ls x h).map (fun l=>f l.1 l.2.2)=Ls.map fun l=>f l.1 l.2.2:=by
 unfold gJ;rw[DT];refine DC fun l _=>?_;show f (if l.1=x then(l.1,h,l.2.2) else l).1 (if l.1=x then(l.1,h,l.2.2) else l).2.2=_;split<;>rfl
theorem uW{Ls:List L4}{x h:Str}(e:∀ l∈Ls,l.1=x->l.2.1=h):gJ Ls x h=Ls:=by
 unfold gJ;refine(DC fun l hl=>?_).trans (List.map_id _);show(if l.1=x then(l.1,h,l.2.2) else l)=l;split
 .next q=>rw[<- e l hl q]
 .rfl
theorem aDh{H H':Hp}{x h:Str}{t2:Ad}(J:gU H H'):∀{F:List (Key×V)}{Ls:List L4},AZ (oB H) F Ls->(∀ l∈Ls,l.1=x->oB H' (Ao x,.ref t2) (l.1,h,l.2.2))->
  AZ (oB H') (F.map fun G=>if G.1=Ao x then(G.1,.ref t2) else G) (gJ Ls x h)
 | _,_,.nil,_=>.nil
 | _,_,.cons (a:=G) (b:=l) r t,O=>by
  rw[AF];refine .cons ?_ (aDh J t fun l hl=>O l (Al _ hl));dsimp only;by_cases e:l.1=x
  .rw[Ib e,Ib (by rw[r.1,e])];have:=O l Am e;rw[r.1,e];rw[e]at this;exact this
  .rw[Ia e,Ia (fun z=>e (Ao.inj (r.1.symm.trans z)))];exact r.on J
theorem aZ{α β:Type}{R:α->β->Prop}:∀{as:List α}{bs:List β},AZ R as bs->as.length=bs.length
 | _,_,.nil=>rfl
 | _,_,.cons _ t=>by rw[AQ,AQ,aZ t]
structure uZ(H:Hp)(C M:Ad)(A:MA)(Fs:List L4)(m:Mnd):Prop where
 ins:H M=some (.ins C A.dx (rW A))
 r:H A.r=some (.dK (rkD 0 Fs))
 h:∃ hol,H A.h=some (.dK hol)/\AZ (oB H) hol Fs
 a:H A.a=some (.dK (acD Fs))
 i:H A.i=some (.dK (inD Fs))
 me:H A.me=some (.dK m)
 ac:oA m
 ml:m.length<=40
 nd:[A.r,A.h,A.a,A.i,A.me].Nodup
theorem uZ.same{H H':Hp}{C M:Ad}{A:MA}{F:List L4}{m:Mnd}(h:uZ H C M A F m)(s:bU H H'):uZ H' C M A F m:=by
 obtain⟨h1,h2,⟨hol,h3,h4⟩,h5,h6,h7,h8,h9,h10⟩:=h;exact⟨s _ _ h1,s _ _ h2,⟨hol,s _ _ h3,Paired.mapP h4 fun _ _ z=>z.on (aK s)⟩,s _ _ h5,s _ _ h6,s _ _ h7,h8,h9,h10⟩
def dF(E:List Ad)(H H':Hp):Prop:=∀ b o,b∉E->H b=some o->H' b=some o
theorem dF.trans{E:List Ad}{H H1 H2:Hp}(a:dF E H H1)(b:dF E H1 H2):dF E H H2:=fun c o n h=>b c o n (a c o n h)
theorem dF.refl{E:List Ad}(H:Hp):dF E H H:=fun _ _ _ h=>h
theorem dF.same{E:List Ad}{H H1 H2:Hp}(a:dF E H H1)(b:bU H1 H2):dF E H H2:=fun c o n h=>b c o (a c o n h)
theorem i5{E:List Ad}{H H1:Hp}(a:bU H H1):dF E H H1:=fun c o _ h=>a c o h
theorem mK{E:List Ad}{a:Ad}{o:HO}{H:Hp}(h:a∈E):dF E H (upd H a o):=fun b u n e=>by
 rw[aF (fun z=>n (by rw[z];exact h))];exact e
structure Rw where
 word:Str
 name:Str
 day:Int
 x:Str
 y:Str
inductive aF7(H:Hp)(v:V)(r:Rw):Prop
 | mk (t:_) (q0:v=.ref t) (q1:H t=some (.tup [.str r.word,.str r.name,.int r.day,.str r.x,.str r.y])) (q2:(r.word="mend"\/r.word="forfeit")):aF7 H v r
def zL(H:Hp)(v:V)(r:Rw):Prop:=aF7 H v r
theorem zL.on{H H':Hp}{v:V}{r:Rw}(h:zL H v r)(t:gU H H'):zL H' v r:=by
 obtain⟨q,e,h1,h2⟩:=h;exact⟨q,e,t _ _ h1,h2⟩
noncomputable def d9(S:List L4×Mnd)(r:Rw):List L4×Mnd:=if r.word="mend" then(S.1,i4 S.2 r.x r.y) else(gJ S.1 r.x r.y,S.2)
inductive aAT(C:Ad)(W:List Str)(vs:List V)(H:Hp)(Q:VK)(u3_:XK):Prop
 | mk (M:Ad) (A:MA) (S:List L4×Mnd) (v:V) (r:Rw) (q0:vs=[.ref M,v]) (q1:uZ H C M A S.1 S.2) (q2:(S.1.map (·.1)).Nodup) (q3:S.1.length<=8) (q4:S.2.length<40) (q5:zL H v r) (q6:r.word∈W) (q7:∀ z H',dF [A.h,A.me] H H'->uZ H' C M A (d9 S r).1 (d9 S r).2->Q (.str z) H'):aAT C W vs H Q u3_
def qI(C:Ad)(W:List Str):Sp:=fun vs H Q u3_=>aAT C W vs H Q u3_
theorem xD:bG ["moment","row","land","house","holding","pieces"] ["moment","row"] (aM gQ):=⟨rfl,rfl,rfl,by decide,rfl,by decide,by decide⟩
theorem zM{f C:Ad}{fd:A4}(F:Fun K "do_forfeit" "do_forfeit" gQ f fd)(hc:MC K C):cA P w K mg base CX0 1 f fd ["moment","row"] (qI C ["forfeit"]):=by
 refine F.ok xD (fun vs H Q E h=>?_) (fun ak A outer s H vs Q E hr h=>?_)
 .obtain⟨M,A,S,v,r,rfl,_⟩:=h;rfl
 .obtain⟨M,MA,S,v,r,rfl,mom,hn,h8,hm40,hrow,hw,k⟩:=h;have hu:=oQ hr;have nd:=xD.nd;refine⟨_,aE (sU (i:=2) (j:=3) rfl nd rfl rfl (by decide) rfl rfl (aD (bO dG (pv 1) aG Ih) (aD (bO dG (pv 1) aG Ih) aB)) rfl)
   (aE (dN (sS (aD4 hu (pv 2) (eU (pv 0) rfl))) (aN (bC cS)) cN)
   (aE (jQ (e8 hu (eU (pv 0) rfl) (pv 2) Ih) (dJ rfl (aQ (aP (i:=4) nd rfl (AC rfl)) (aQ (aP (i:=5) nd rfl (AC rfl)) cZ))))
   (aE (dN (cG wI (pv 4) (pv 3) (cH _)) (aN (bC cS)) cN)
   (aE (gZ hu (eU (pv 0) rfl) (pv 2) (cE (aD (pv 3) (aD (pv 5) aB))) rfl)
   (aN (bC cS)))))),?_⟩
  obtain⟨t,rfl,ht,_⟩:=hrow;have ah:r.word="forfeit":=by simpa using hw
  have es:d9 S r=(gJ S.1 r.x r.y,S.2):=by
   unfold d9;rw[Ia (by rw[ah];decide)]
  rw[es]at k;refine⟨_,rfl,t,_,3,_,rfl,rfl,bJ ht,rfl,_,rfl,t,_,4,_,rfl,rfl,bJ ht,rfl,_,_,rfl,?_⟩;obtain⟨G,hh1,hX⟩:=mom.h;refine⟨_,rfl,_,rfl,M,C,_,_,_,rfl,mom.ins,hc.cl,hc.h,rfl,MA.h,_,rfl,.inl ⟨G,Ao r.x,.inl hh1,rfl,rfl⟩,_,rfl,?_⟩;cases hv:c9 G (Ao r.x)with
  | none=>
   have ag:∀ l∈S.1,l.1=r.x->l.2.1=r.y:=fun l hl e=>by
    exfalso;have:∀{G:List (Key×V)} {Ls:List L4},AZ (oB H) G Ls->l∈Ls->c9 G (Ao l.1)≠none:=by
     intro G Ls hp
     induction hp with
     | nil=>intro h;simp at h
     | @cons kv O _ _ q t ih=>
      intro h;by_cases e1:kv.1=Ao l.1
      .rw[cU e1];exact fun z=>nomatch z
      .rw[bX e1];rcases An.mp h with rfl|h
       .exact absurd q.1 e1
       .exact ih h
    exact this hX hl (by rw[e];exact hv)
   rw[uW ag]at k;exact iD (k _ _ (dF.refl H) mom)
  | some v=>
   refine dU ?_;obtain⟨l,hl,hlx,_,t3,tp,q,rfl,e1,e2,e3⟩:=aF6 hX hv;refine⟨_,rfl,M,C,_,_,_,rfl,mom.ins,hc.cl,hc.h,rfl,_,rfl,MA.h,_,rfl,.inl ⟨G,Ao r.x,.inl hh1,rfl,hv.symm⟩,t3,_,rfl,bJ e1,rfl,_,_,rfl,_,_,rfl,rfl,_,rfl,_,rfl,rfl,_,rfl,?_⟩;have uniq:∀ O∈S.1,O.1=r.x->O=l:=fun O h2 e=>by
    obtain⟨i,hi,ei⟩:=AR.mp hl;obtain⟨j,hj,ej⟩:=AR.mp h2;have aj:(S.1.map (·.1)).length=S.1.length:=Af _
    have:(S.1.map (·.1))[i]'(by omega)=(S.1.map (·.1))[j]'(by omega):=by rw[B3,B3,ei,ej,hlx,e]
    have:=(CH hn).mp this;subst this;rw[<- ei,<- ej]
   refine mQ (fun g=>?_) fun g=>?_
   .have g':l.2.1=r.y:=V.str.inj (Ig g);rw[uW fun O h2 e=>by rw[uniq O h2 e];exact g']at k;exact k _ _ (dF.refl H) mom
   refine⟨_,rfl,_,rfl,zZ2,fun Y af=>?_⟩;have J:=aH (o:=.tup [V.str r.y,.ref tp]) af;have U:=mom.same J;have an:=aZ hX;refine⟨_,rfl,M,C,_,_,_,rfl,U.ins,hc.cl,hc.h,rfl,_,rfl,MA.h,_,rfl,nV.k (k:=Ao r.x) (J _ _ hh1) (B0 (show G.length<=8 by omega) (by rw[A6];omega)),?_⟩;have ep:dM G (Ao r.x) (V.ref Y)=G.map fun kv=>if kv.1=Ao r.x then(kv.1,.ref Y) else kv:=by
    unfold dM;rw[Ib (by rw[iZ,hv];rfl)]
   rw[ep];have ai:=aDh (H':=upd H Y (.tup [V.str r.y,.ref tp])) (x:=r.x) (h:=r.y) (t2:=Y) (aK J) hX fun O h2 e=>by
    rw[uniq O h2 e];exact⟨by rw[hlx],Y,tp,q,rfl,aA,J _ _ e2,J _ _ e3⟩
   obtain⟨h1,h2,⟨hol0,h3,_⟩,h5,h6,h7,h8',h9,h10⟩:=U;have Z:=h10;simp only[Bo,An,AO,or_false,not_or]at Z;obtain⟨⟨n1,n2,n3,n4⟩,⟨n5,n6,n7⟩,_⟩:=Z;refine k _ _ ((i5 J).trans (mK (by simp))) ⟨?_,?_,⟨_,aA,Paired.mapP ai fun _ _ z=>z.on fun b us e=>by rw[aF (dL e h3 (fun z=>nomatch z))];exact e⟩,?_,?_,?_,h8',h9,h10⟩
   .rw[aF (dL h1 h3 (fun z=>nomatch z))];exact h1
   .rw[aAS,aF n1];exact h2
   .rw[show acD (gJ S.1 r.x r.y)=acD S.1 from xC (f:=fun a b=>(Ao a,.int b.1)) _ _ _,aF (Cf n5)];exact h5
   .rw[show inD (gJ S.1 r.x r.y)=inD S.1 from xC (f:=fun a b=>(Ao a,.int b.2)) _ _ _,aF (Cf n6)];exact h6
   .rw[aF (Cf n7)];exact h7
theorem qJ:∀ ns:List Str,(ns.map V.str).all hV=true
 | []=>rfl
 | _::r=>by simpa[hV]using qJ r
theorem zN(x:Str):∀ l:List Str,inV (.str x) (l.map V.str)=decide (x∈l)
 | []=>by simp[inV]
 | y::l=>by
  have F:=zN x l;unfold inV at F ⊢;rw[AF,Eb,F];by_cases e:y=x
  .subst e;simp[eqV]
  .have:x≠y:=fun z=>e z.symm;simp[eqV,e,this]
theorem aF8:bG ["moment","row","house","other"] ["moment","row"] (aM mI):=⟨rfl,rfl,rfl,by decide,rfl,by decide,by decide⟩
theorem aEs{f C:Ad}{fd:A4}(F:Fun K "do_mend" "do_mend" mI f fd)(hc:MC K C)
  (GR:Cl P w K mg base 1 "road_from" ["menders","house"] aCk):cA P w K mg base CX0 2 f fd ["moment","row"] (qI C ["mend"]):=by
 refine F.ok aF8 (fun vs H Q E h=>?_) (fun ad A outer s H vs Q E hr h=>?_)
 .obtain⟨M,A,S,v,r,rfl,_⟩:=h;rfl
 .obtain⟨M,MA,S,v,r,rfl,mom,hn,h8,hm40,hrow,hw,k⟩:=h;have hu:=oQ hr;have nd:=aF8.nd;refine⟨_,aE (sU (i:=2) (j:=3) rfl nd rfl rfl (by decide) rfl rfl (aD (bO dG (pv 1) aG Ih) (aD (bO dG (pv 1) aG Ih) aB)) rfl)
   (aE (dN (cG wP (pv 2) (dH GR hr (aD (eU (pv 0) rfl) (aD (pv 3) aB))) (by with_unfolding_all rfl)) (aN (bC cS)) cN)
   (aE (gZ hu (eU (pv 0) rfl) (pv 2) (pv 3) rfl)
   (aN (bC cS)))),?_⟩
  obtain⟨t,rfl,ht,_⟩:=hrow;have Y:r.word="mend":=by simpa using hw
  have es:d9 S r=(S.1,i4 S.2 r.x r.y):=by
   unfold d9;rw[Ib Y]
  rw[es]at k;refine⟨_,rfl,t,_,3,_,rfl,rfl,bJ ht,rfl,_,rfl,t,_,4,_,rfl,rfl,bJ ht,rfl,_,_,rfl,_,rfl,_,rfl,M,C,_,_,_,rfl,mom.ins,hc.cl,hc.m,rfl,_,rfl,MA.me,r.y,S.2,rfl,mom.me,mom.ac,by omega,fun L H1 hL Z U=>?_⟩;refine⟨L,_,rfl,.inl (aO U),rfl,qJ _,_,rfl,?_⟩;have G:=mom.same Z;show if (if false=true then !inV (V.str r.x) ((rd S.2 r.y).map V.str) else inV (V.str r.x) ((rd S.2 r.y).map V.str))=true then _ else _
  rw[Ia Av,zN];by_cases g:r.x∈rd S.2 r.y
  .rw[Ic g];have O:i4 S.2 r.x r.y=S.2:=by unfold i4;rw[Ib g]
   rw[O]at k;exact iD (k _ _ (i5 Z) G)
  .rw[Ie g];refine dU ?_;refine⟨_,rfl,_,rfl,M,C,_,_,_,rfl,G.ins,hc.cl,hc.m,rfl,_,rfl,MA.me,_,rfl,nV.k (k:=Ao r.x) G.me (B0 (Bd hm40) (by rw[A6];omega)),?_⟩;have O:i4 S.2 r.x r.y=dM S.2 (Ao r.x) (.str r.y):=by unfold i4;rw[Ia g]
   have ac:=mom.ac.mend r.x r.y;have hl:=xB S.2 r.x r.y;rw[O]at k ac hl;obtain⟨h1,h2,⟨hol,h3,h4⟩,h5,h6,h7,h8',h9,h10⟩:=G;have J:=h10;simp only[Bo,An,AO,or_false,not_or]at J;obtain⟨⟨n1,n2,n3,n4⟩,⟨n5,n6,n7⟩,⟨n8,n9⟩,n10,_⟩:=J;refine k _ _ ((i5 Z).trans (mK (by simp))) ⟨?_,?_,⟨hol,?_,Paired.mapP h4 fun _ _ z=>z.on fun b us e=>by rw[aF (dL e h7 (fun z=>nomatch z))];exact e⟩,?_,?_,aA,ac,AM hl hm40,h10⟩
   .rw[aF (dL h1 h7 (fun z=>nomatch z))];exact h1
   .rw[aF n4];exact h2
   .rw[aF n7];exact h3
   .rw[aF n9];exact h5
   .rw[aF n10];exact h6
structure aF9(P:Aq)(w:AL)(K:Ag)(mg:Str->Option Ab)(base:A9)(C:Ad)(g:Ad)(W:List Str):Prop where
 ex:∃ fd,cA P w K mg base CX0 5 g fd ["moment","row"] (qI C W)/\AJ K (.ref g)=true/\dA K fd ["moment","row"] []
def fmV(g0 g1 g2 g3 g4 g5 g6 g7:Ad):List (Key×V):=[(Ao "part",.ref g0),(Ao "join",.ref g1),(Ao "forfeit",.ref g2),(Ao "measure",.ref g3),(Ao "mend",.ref g4),(Ao "alone",.ref g5),(Ao "breach",.ref g6),(Ao "view",.ref g7)]
def fmR(g0 g1 g2 g3 g4 g5 g6 g7:Ad):List (Key×Ab):=[(Ao "part",.ref g0),(Ao "join",.ref g1),(Ao "forfeit",.ref g2),(Ao "measure",.ref g3),(Ao "mend",.ref g4),(Ao "alone",.ref g5),(Ao "breach",.ref g6),(Ao "view",.ref g7)]
theorem aIR(Z G g2 F J O Y U:Ad):KV (fmV Z G g2 F J O Y U) (fmR Z G g2 F J O Y U):=.cons ⟨rfl,rfl⟩ (.cons ⟨rfl,rfl⟩ (.cons ⟨rfl,rfl⟩ (.cons ⟨rfl,rfl⟩ (.cons ⟨rfl,rfl⟩ (.cons ⟨rfl,rfl⟩ (.cons ⟨rfl,rfl⟩ (.cons ⟨rfl,rfl⟩ (.nil))))))))
theorem aDi:bG ["moment","row","deed"] ["moment","row"] (aM aCg):=⟨rfl,rfl,rfl,by decide,rfl,by decide,by decide⟩
theorem aGa{f C ra Y O g2 Z J g5 G:Ad}{fd:A4}(F:Fun K "carry_out" "carry_out" aCg f fd)
  (U:∀ h:A9,K.In h->h.DictOf (cK P w) ra (fmR Y O g2 Z J g5 G G)) (mF:mg "DEEDS"=some (.ref ra))
  (G2:aF9 P w K mg base C g2 ["forfeit"]) (G4:aF9 P w K mg base C J ["mend"]):
  cA P w K mg base CX0 6 f fd ["moment","row"] (qI C ["mend","forfeit"]):=by
 refine F.ok aDi (fun vs H Q E h=>?_) (fun ai A outer s H vs Q E hr h=>?_)
 .obtain⟨M,A,S,v,r,rfl,_⟩:=h;rfl
 .obtain⟨M,MA,S,v,r,rfl,mom,hn,h8,hm40,hrow,hw,k⟩:=h;have nd:=aDi.nd;refine⟨_,aE (aX (i:=2) nd rfl (AC rfl) (aHe U (aIR Y O g2 Z J g5 G G) (by rfl) mF (bO dG (pv 1) aG Ih) Ih))
   (aN (bC (aFx (k:=5) (ps:=["moment","row"]) (pv 2) hr (aD (pv 0) (aD (pv 1) aB))))),?_⟩
  obtain⟨t,e,ht,hw2⟩:=id hrow;subst e;obtain⟨g,W,hg,hW,fdg,Gg,kg,bg⟩:∃ g W,c9 (fmV Y O g2 Z J g5 G G) (Ao r.word)=some (.ref g)/\r.word∈W/\∃ fd,cA P w K mg base CX0 5 g fd ["moment","row"] (qI C W)/\AJ K (.ref g)=true/\dA K fd ["moment","row"] []:=by
   rcases hw2 with e|e<;>rw[e]
   .exact⟨J,_,rfl,Am,G4.ex⟩
   .exact⟨g2,_,rfl,Am,G2.ex⟩
  exact⟨_,rfl,t,_,0,_,rfl,rfl,bJ ht,rfl,Ao r.word,.ref g,rfl,hg,_,rfl,g,_,rfl,⟨fdg,Gg,kg,bg⟩,_,rfl,_,rfl,M,MA,S,_,r,rfl,mom,hn,h8,hm40,hrow,hW,k⟩
inductive xE(H:Hp)(v:V)(l:L4):Prop
 | mk (q:_) (q0:v=.ref q) (q1:H q=some (.tup [.str l.1,.str l.2.1,.int l.2.2.1,.int l.2.2.2])):xE H v l
def dS(H:Hp)(v:V)(l:L4):Prop:=xE H v l
theorem dS.on{H H':Hp}{v:V}{l:L4}(h:dS H v l)(t:gU H H'):dS H' v l:=by
 obtain⟨q,e,h⟩:=h;exact⟨q,e,t _ _ h⟩
inductive aAU(C:Ad)(vs:List V)(H:Hp)(Q:VK)(u3_:XK):Prop
 | mk (x dx lay:Ad) (xs:List V) (Ls:List L4) (q0:vs=[.ref x,.ref lay]) (q1:H x=some (.ins C dx [])) (q2:H lay=some (.tup xs)) (q3:AZ (dS H) xs Ls) (q4:Ls.length<=8) (q5:(Ls.map (·.1)).Nodup) (q6:∀(A:MA) (H':Hp),aY x H H'->H A.h=none->H A.i=none->H A.me=none->uZ H' C x A Ls []->Q .non H'):aAU C vs H Q u3_
def aGb(C:Ad):Sp:=fun vs H Q u3_=>aAU C vs H Q u3_
structure aJO(H:Hp)(C x:Ad)(A:MA)(Ls:List L4):Prop where
 ins:H x=some (.ins C A.dx (rW A))
 r:H A.r=some (.dK (rkD 0 Ls))
 h:∃ hol,H A.h=some (.dK hol)/\AZ (oB H) hol Ls
 a:H A.a=some (.dK (acD Ls))
 i:H A.i=some (.dK (inD Ls))
 me:H A.me=some (.dK [])
 nd:[A.r,A.h,A.a,A.i,A.me].Nodup
abbrev xF:Cd:=aHa aHn 0
theorem aGc:bG ["self","laying","field","house","acres","inches"] ["self","laying"] (aM xF):=⟨rfl,rfl,rfl,by decide,rfl,by decide,by decide⟩
theorem aHq{f C:Ad}{fd:A4}(F:Fun K "__init__" "Moment.__init__" xF f fd)(hc:MC K C)(aT:mg "len"=none):cA P w K mg base CX0 1 f fd ["self","laying"] (aGb C):=by
 refine F.ok aGc (fun vs H Q E h=>?_) (fun cR A outer s H vs Q E hr h=>?_)
 .obtain⟨x,dx,lay,xs,Ls,rfl,_⟩:=h;rfl
 .obtain⟨x,dx,lay,xs,Ls,rfl,hx,hlay,hrd,h8,hnn,k⟩:=h;have hu:=oQ hr;have nd:=aGc.nd;refine⟨_,aE (tD (pv 0) jY rfl) (aE (tD (pv 0) jY rfl) (aE (tD (pv 0) jY rfl) (aE (tD (pv 0) jY rfl) (aE (tD (pv 0) jY rfl)
   (aN (fO Bz rfl (sV (pv 1)) (g:=oJ K 4 (cW (aW 2) (cW (aW 3) (cW (aW 4) (cW (aW 5) nO))))) (dJ rfl (aQ (aP (i:=2) nd rfl (AC rfl)) (aQ (aP (i:=3) nd rfl (AC rfl)) (aQ (aP (i:=4) nd rfl (AC rfl)) (aQ (aP (i:=5) nd rfl (AC rfl)) cZ)))))
    (aE (gZ hu (eU (pv 0) rfl) (pv 2) (aV aD7 (by rfl) aT BK (aD (eU (pv 0) rfl) aB)) rfl)
    (aE (gZ hu (eU (pv 0) rfl) (pv 2) (cE (aD (pv 3) (aD (cE (aD (cE (aD (pv 2) (aD aG (aD (pv 4) aB)))) aB)) aB))) rfl)
    (aE (gZ hu (eU (pv 0) rfl) (pv 2) (pv 4) rfl)
    (aN (gZ hu (eU (pv 0) rfl) (pv 2) (pv 5) rfl))))))))))),?_⟩
  have st:∀(H0:Hp) (d:Ad) (fs im:List (Str×V)),H0 d=none->H0 x=some (.ins C dx fs)->upd (upd H0 d (.dK [])) x (.ins C dx im) x=some (.ins C dx im)/\upd (upd H0 d (.dK [])) x (.ins C dx im) d=some (.dK [])/\∀ b o,b≠x->H0 b=some o->upd (upd H0 d (.dK [])) x (.ins C dx im) b=some o:=fun H0 d fs im hd bq=>by
   have dx:d≠x:=(aJ bq hd).symm;refine⟨aA,by rw[aF dx];exact aA,fun b o n e=>?_⟩;rw[aF n,aF (aJ e hd)];exact e
  refine fun Z al=>⟨_,rfl,x,C,dx,_,rfl,(by rw[aF (aJ hx al)];exact hx),hc.cl,hc.r,by decide,?_⟩
  obtain⟨x1,y1,k1⟩:=st H Z _ (fQ "ranks" (.ref Z) []) al hx;generalize upd (upd H Z (.dK [])) x _=H1 at x1 y1 k1 ⊢;refine fun d2 ai=>⟨_,rfl,x,C,dx,_,rfl,(by rw[aF (aJ x1 ai)];exact x1),hc.cl,hc.h,(by show(1:Nat)<1000;decide),?_⟩
  obtain⟨x2,y2,k2⟩:=st H1 d2 _ (fQ "holdings" (.ref d2) (fQ "ranks" (.ref Z) [])) ai x1;generalize upd (upd H1 d2 (.dK [])) x _=H2 at x2 y2 k2 ⊢;refine fun d3 af=>⟨_,rfl,x,C,dx,_,rfl,(by rw[aF (aJ x2 af)];exact x2),hc.cl,hc.a,(by show(2:Nat)<1000;decide),?_⟩
  obtain⟨x3,y3,k3⟩:=st H2 d3 _ (fQ "acres" (.ref d3) (fQ "holdings" (.ref d2) (fQ "ranks" (.ref Z) []))) af x2;generalize upd (upd H2 d3 (.dK [])) x _=H3 at x3 y3 k3 ⊢;refine fun d4 ad=>⟨_,rfl,x,C,dx,_,rfl,(by rw[aF (aJ x3 ad)];exact x3),hc.cl,hc.i,(by show(3:Nat)<1000;decide),?_⟩
  obtain⟨x4,y4,k4⟩:=st H3 d4 _ (fQ "inches" (.ref d4) (fQ "acres" (.ref d3) (fQ "holdings" (.ref d2) (fQ "ranks" (.ref Z) [])))) ad x3;generalize upd (upd H3 d4 (.dK [])) x _=H4 at x4 y4 k4 ⊢;refine fun d5 Y=>⟨_,rfl,x,C,dx,_,rfl,(by rw[aF (aJ x4 Y)];exact x4),hc.cl,hc.m,(by show(4:Nat)<1000;decide),?_⟩
  obtain⟨x5,y5,k5⟩:=st H4 d5 _ (rW ⟨dx,Z,d2,d3,d4,d5⟩) Y x4;have ef:fQ "menders" (.ref d5) (fQ "inches" (.ref d4) (fQ "acres" (.ref d3) (fQ "holdings" (.ref d2) (fQ "ranks" (.ref Z) []))))=rW ⟨dx,Z,d2,d3,d4,d5⟩:=rfl;rw[ef];generalize upd (upd H4 d5 (.dK [])) x _=H5 at x5 y5 k5 ⊢;have nx:∀{G:Hp} {d:Ad} {fo:List (Key×V)} {fs:List (Str×V)},G d=some (.dK fo)->G x=some (.ins C dx fs)->d≠x:=fun a b=>dL a b (fun z=>nomatch z);have e1:=k5 _ _ (nx y1 x1) (k4 _ _ (nx y1 x1) (k3 _ _ (nx y1 x1) (k2 _ _ (nx y1 x1) y1)));have e2:=k5 _ _ (nx y2 x2) (k4 _ _ (nx y2 x2) (k3 _ _ (nx y2 x2) y2));have e3:=k5 _ _ (nx y3 x3) (k4 _ _ (nx y3 x3) y3);have e4:=k5 _ _ (nx y4 x4) y4;have e5:=y5;have K0:aY x H H5:=fun b o e n=>k5 _ _ n (k4 _ _ n (k3 _ _ n (k2 _ _ n (k1 _ _ n e))));have fr:∀{G G':Hp} {d:Ad},(∀ b o,b≠x->G b=some o->G' b=some o)->(∃ o,G' x=some o)->G' d=none->G d=none:=fun{G G' d} kq hx' hd=>by
   cases q:G d with
   | none=>rfl
   | some o=>
    by_cases e:d=x
    .obtain⟨o',hx'⟩:=hx';rw[e,hx']at hd;cases hd
    .rw[kq d o e q]at hd;cases hd
  have aC:[Z,d2,d3,d4,d5].Nodup:=by
   have bM:Z≠d2:=aJ y1 ai;have aw:=k2 _ _ (nx y1 x1) y1;have b3:Z≠d3:=aJ aw af;have bV:d2≠d3:=aJ y2 af;have ax:=k3 _ _ (nx y1 x1) aw;have bP:Z≠d4:=aJ ax ad;have bb:=k3 _ _ (nx y2 x2) y2;have bu:d2≠d4:=aJ bb ad;have b1:d3≠d4:=aJ y3 ad;have bE:Z≠d5:=aJ (k4 _ _ (nx y1 x1) ax) Y;have bh:d2≠d5:=aJ (k4 _ _ (nx y2 x2) bb) Y;have bo:d3≠d5:=aJ (k4 _ _ (nx y3 x3) y3) Y;have bR:d4≠d5:=aJ y4 Y;simp[bM,b3,bP,bE,bV,bu,bh,b1,bo,bR]
  have f2:H d2=none:=fr k1 ⟨_,x1⟩ ai;have f3:H d3=none:=fr k1 ⟨_,x1⟩ (fr k2 ⟨_,x2⟩ af);have f4:H d4=none:=fr k1 ⟨_,x1⟩ (fr k2 ⟨_,x2⟩ (fr k3 ⟨_,x3⟩ ad));have f5:H d5=none:=fr k1 ⟨_,x1⟩ (fr k2 ⟨_,x2⟩ (fr k3 ⟨_,x3⟩ (fr k4 ⟨_,x4⟩ Y)));obtain⟨MA,hMA⟩:∃ MA:MA,MA=⟨dx,Z,d2,d3,d4,d5⟩:=⟨_,rfl⟩
  have I0:aJO H5 C x MA (Ls.take 0):=by
   subst hMA;exact⟨x5,e1,⟨[],e2,.nil⟩,e3,e4,e5,aC⟩
  have ak:H MA.r=none/\H MA.h=none/\H MA.a=none/\H MA.i=none/\H MA.me=none:=by
   subst hMA;exact⟨al,f2,f3,f4,f5⟩
  have aq:H5 lay=some (.tup xs):=K0 _ _ hlay (dL hlay hx (fun z=>nomatch z));have bS:=aZ hrd;refine⟨_,rfl,lay,rfl,⟨_,bJ aq⟩,?_⟩;refine yH (K:=K) (xs:=xs) (fun i σ H'=>Ex3 fun(o2 o3 o4:Option V)=>∃(o5:Option V),Aw3 (σ=[some (.ref x),some (.ref lay),o2,o3,o4,o5]) (aY x H H') (aJO H' C x MA (Ls.take i))) ⟨none,none,none,none,rfl,K0,I0⟩ (fun i σ H' _ p=>by obtain⟨_,_,_,_,_,kk,_⟩:=p;exact bJ (kk _ _ hlay (dL hlay hx (fun z=>nomatch z)))) ?_ ?_
  .rintro i v σ O hv ⟨o2,o3,o4,o5,rfl,kk,I⟩;clear x1 y1 k1 x2 y2 k2 x3 y3 k3 x4 y4 k4 x5 y5 k5 e1 e2 e3 e4 e5 I0 aC al ai af ad Y st nx ef fr f2 f3 f4 f5;obtain⟨hi0,_⟩:=Ak.mp hv;have bL:i<Ls.length:=by omega
   have hl:Ls[i]?=some Ls[i]:=Ae bL;have bH:gU H O:=fun b us e=>kk _ _ e (dL e hx (fun z=>nomatch z));obtain⟨q,rfl,hq⟩:=(Paired.at hrd hv hl).on bH;have U:Ls[i].1∉(Ls.take i).map (·.1):=fun hm=>by
    rw[List.map_take]at hm;obtain⟨j,hj,ej⟩:=AR.mp hm;rw[Bm,Af]at hj;rw[Dg]at ej;have h2:(Ls.map (·.1))[j]'(by rw[Af];omega)=(Ls.map (·.1))[i]'(by rw[Af];omega):=by rw[ej,B3]
    have:=(CH hnn).mp h2;omega
   have eS:Ls.take (i+1)=Ls.take i++[Ls[i]]:=by rw[Bk,hl];rfl
   have ap:(Ls.take i).length<=8:=by rw[Bm];omega
   rw[eS];generalize Ls[i]=l at hq U;generalize Ls.take i=R at I U ap;have hn:=I.nd;simp only[Bo,An,AO,or_false,not_or]at hn;obtain⟨⟨n12,n13,n14,n15⟩,⟨n23,n24,n25⟩,⟨n34,n35⟩,n45,_⟩:=hn;have r1:=I.r;obtain⟨hol,h1,hX⟩:=I.h;have c1:=I.a;have j1:=I.i;have m1:=I.me;have ins:=I.ins;have zl:∀ k,k<=8->k<sizeLine:=fun k h=>by rw[A6];omega
   have cL:=aZ hX;have b4:=aDg 0 R;have bD:(acD R).length<=8:=by unfold acD;rw[Af];exact ap
   have bp:(inD R).length<=8:=by unfold inD;rw[Af];exact ap
   have bn:dM (rkD 0 R) (Ao l.1) (.int ((rkD 0 R).length:Int))=rkD 0 (R++[l]):=by
    rw[iC _ (aAO U),aAP,b4,Eo]
   have am:∀{G:Hp} {d:Ad} {fo:List (Key×V)} {fs:List (Str×V)},G d=some (.dK fo)->G x=some (.ins C MA.dx fs)->x≠d:=fun a b=>(dL a b (fun z=>nomatch z)).symm;refine⟨q,_,rfl,bJ hq,rfl,_,_,rfl,_,_,rfl,_,_,rfl,_,_,rfl,rfl,_,rfl,x,C,_,_,_,rfl,ins,hc.cl,hc.r,rfl,MA.r,_,rfl,r1,_,rfl,x,C,_,_,_,rfl,ins,hc.cl,hc.r,rfl,_,rfl,MA.r,_,rfl,nV.k (k:=Ao l.1) r1 (zl _ (by omega)),?_⟩;rw[bn];obtain⟨fr1,fr2,fr3,fr4,fr5⟩:=ak;have ay:aY x H (upd O MA.r (.dK (rkD 0 (R++[l])))):=fun b o e n=>by
    rw[aF (aJ e fr1)];exact kk b o e n
   have aL:upd O MA.r (.dK (rkD 0 (R++[l]))) MA.r=some (.dK (rkD 0 (R++[l]))):=aA;have g2:upd O MA.r (.dK (rkD 0 (R++[l]))) MA.h=some (.dK hol):=by rw[aF (Cf n12)];exact h1
   have g3:upd O MA.r (.dK (rkD 0 (R++[l]))) MA.a=some (.dK (acD R)):=by rw[aF (Cf n13)];exact c1
   have g4:upd O MA.r (.dK (rkD 0 (R++[l]))) MA.i=some (.dK (inD R)):=by rw[aF (Cf n14)];exact j1
   have g5:upd O MA.r (.dK (rkD 0 (R++[l]))) MA.me=some (.dK []):=by rw[aF (Cf n15)];exact m1
   have g6:upd O MA.r (.dK (rkD 0 (R++[l]))) x=some (.ins C MA.dx (rW MA)):=by rw[aF (am r1 ins)];exact ins
   have gX:AZ (oB (upd O MA.r (.dK (rkD 0 (R++[l]))))) hol R:=Paired.mapP hX fun _ _ z=>z.on fun b us e=>by rw[aF (dL e r1 (fun z=>nomatch z))];exact e
   generalize upd O MA.r (.dK (rkD 0 (R++[l])))=G1 at ay aL g2 g3 g4 g5 g6 gX ⊢;refine⟨_,rfl,_,rfl,_,rfl,zZ3,fun u1 bz=>?_⟩;have s1:=aH (o:=.tup [V.str l.1,.int 0,.int l.2.2.1]) bz;refine⟨zZ1,fun u2 bI=>?_⟩;have s2:=aH (o:=.tup [V.ref u1]) bI;refine⟨zZ2,fun u3 bw=>?_⟩;have s3:=aH (o:=.tup [V.str l.2.1,.ref u2]) bw;have J:=(s1.trans s2).trans s3;have aI:oB (upd (upd (upd G1 u1 (.tup [V.str l.1,.int 0,.int l.2.2.1])) u2 (.tup [V.ref u1])) u3 (.tup [V.str l.2.1,.ref u2])) (Ao l.1,.ref u3) l:=⟨rfl,u3,u2,u1,rfl,aA,s3 _ _ aA,s3 _ _ (s2 _ _ aA)⟩
   have ba:aY x H (upd (upd (upd G1 u1 (.tup [V.str l.1,.int 0,.int l.2.2.1])) u2 (.tup [V.ref u1])) u3 (.tup [V.str l.2.1,.ref u2])):=ay.same J;refine⟨_,rfl,x,C,_,_,_,rfl,J _ _ g6,hc.cl,hc.h,rfl,_,rfl,MA.h,_,rfl,nV.k (k:=Ao l.1) (J _ _ g2) (zl _ (by omega)),?_⟩;rw[iC _ (aAQ hX U)];have q1:=J _ _ aL;have q2:=J _ _ g2;have q3:=J _ _ g3;have q4:=J _ _ g4;have q5:=J _ _ g5;have q6:=J _ _ g6;have qX:=Ce aI (Paired.mapP gX fun _ _ z=>z.on (aK J));generalize upd (upd (upd G1 u1 (.tup [V.str l.1,.int 0,.int l.2.2.1])) u2 (.tup [V.ref u1])) u3 (.tup [V.str l.2.1,.ref u2])=G2 at aI ba q1 q2 q3 q4 q5 q6 qX ⊢;have e6:upd G2 MA.h (.dK (hol++[(Ao l.1,.ref u3)])) x=some (.ins C MA.dx (rW MA)):=by rw[aF (am q2 q6)];exact q6
   have e3:upd G2 MA.h (.dK (hol++[(Ao l.1,.ref u3)])) MA.a=some (.dK (acD R)):=by rw[aF (Cf n23)];exact q3
   refine⟨_,rfl,_,rfl,x,C,_,_,_,rfl,e6,hc.cl,hc.a,rfl,_,rfl,MA.a,_,rfl,nV.k (k:=Ao l.1) e3 (zl _ bD),?_⟩;have bB:dM (acD R) (Ao l.1) (.int l.2.2.1)=acD (R++[l]):=by
    unfold acD;rw[iC _ (qH U),A1];rfl
   rw[bB];have ar:upd (upd G2 MA.h (.dK (hol++[(Ao l.1,.ref u3)]))) MA.a (.dK (acD (R++[l]))) x=some (.ins C MA.dx (rW MA)):=by rw[aF (am e3 e6)];exact e6
   have e4:upd (upd G2 MA.h (.dK (hol++[(Ao l.1,.ref u3)]))) MA.a (.dK (acD (R++[l]))) MA.i=some (.dK (inD R)):=by rw[aF (Cf n34),aF (Cf n24)];exact q4
   refine⟨_,rfl,_,rfl,x,C,_,_,_,rfl,ar,hc.cl,hc.i,rfl,_,rfl,MA.i,_,rfl,nV.k (k:=Ao l.1) e4 (zl _ bp),?_⟩;have bT:dM (inD R) (Ao l.1) (.int l.2.2.2)=inD (R++[l]):=by
    unfold inD;rw[iC _ (qH U),A1];rfl
   rw[bT];have tt:gU G2 (upd (upd (upd G2 MA.h (.dK (hol++[(Ao l.1,.ref u3)]))) MA.a (.dK (acD (R++[l])))) MA.i (.dK (inD (R++[l])))):=fun b us e=>by
    rw[aF (dL e q4 (fun z=>nomatch z)),aF (dL e q3 (fun z=>nomatch z)),aF (dL e q2 (fun z=>nomatch z))];exact e
   refine⟨_,_,_,_,rfl,fun b o e n=>?_,?_,?_,⟨_,?_,Paired.mapP qX fun _ _ z=>z.on tt⟩,?_,aA,?_,I.nd⟩
   .rw[aF (aJ e fr4),aF (aJ e fr3),aF (aJ e fr2)];exact ba b o e n
   .rw[aF (am e4 ar)];exact ar
   .rw[aF n14,aF n13,aF n12];exact q1
   .rw[aF n24,aF n23];exact aA
   .rw[aF n34];exact aA
   .rw[aF (Cf n45),aF (Cf n35),aF (Cf n25)];exact q5
  .rintro σ H' ⟨o2,o3,o4,o5,rfl,kk,I⟩;rw[bS,Bg]at I;exact k MA H' kk ak.2.1 ak.2.2.2.1 ak.2.2.2.2 ⟨I.ins,I.r,I.h,I.a,I.i,I.me,oA.nil,by show(0:Nat)<=40;decide,I.nd⟩
structure nC(H:Hp)(t:Ad)(Ls:List L4)(rs:List Rw):Prop where
 ex:∃ lay rw xs ys,H t=some (.tup [.ref lay,.ref rw])/\H lay=some (.tup xs)/\AZ (dS H) xs Ls/\H rw=some (.tup ys)/\AZ (zL H) ys rs
theorem nC.on{H H':Hp}{t:Ad}{Ls:List L4}{rs:List Rw}(h:nC H t Ls rs)(k:gU H H'):nC H' t Ls rs:=by
 obtain⟨a,b,c,d,h1,h2,h3,h4,h5⟩:=h.ex;exact⟨a,b,c,d,k _ _ h1,k _ _ h2,Paired.mapP h3 fun _ _ z=>z.on k,k _ _ h4,Paired.mapP h5 fun _ _ z=>z.on k⟩
noncomputable def dC(Ls:List L4)(rs:List Rw):List L4×Mnd:=rs.foldl d9 (Ls,[])
theorem aAV(S:List L4×Mnd)(r:Rw):(d9 S r).1.map (·.1)=S.1.map (·.1):=by
 unfold d9;split
 .rfl
 .exact aAR _ _ _
theorem aEt(S:List L4×Mnd)(r:Rw):(d9 S r).2.length<=S.2.length+1:=by
 unfold d9;split
 .exact xB _ _ _
 .exact C9 _
theorem jP:∀(rs:List Rw) (S:List L4×Mnd),(rs.foldl d9 S).1.map (·.1)=S.1.map (·.1)
 | [],_=>rfl
 | r::rs,S=>by rw[B1,jP rs,aAV]
theorem xG:∀(rs:List Rw) (S:List L4×Mnd),(rs.foldl d9 S).2.length<=S.2.length+rs.length
 | [],_=>Aj _
 | r::rs,S=>by
  rw[B1];have h1:=xG rs (d9 S r);have h2:=aEt S r;rw[AQ];omega
inductive vA(C:Ad)(vs:List V)(H:Hp)(Q:VK)(u3_:XK):Prop
 | mk (t:Ad) (Ls:List L4) (rs:List Rw) (q0:vs=[.ref t,.int rs.length]) (q1:nC H t Ls rs) (q2:(Ls.map (·.1)).Nodup) (q3:Ls.length<=8) (q4:rs.length<=8) (q5:∀ M (A:MA) H',bU H H'->uZ H' C M A (dC Ls rs).1 (dC Ls rs).2->H A.h=none->H A.i=none->Q (.ref M) H'):vA C vs H Q u3_
def aAW(C:Ad):Sp:=fun vs H Q u3_=>vA C vs H Q u3_
theorem aAX:bG ["roll","at","laying","rows","moment","row"] ["roll","at"] (aM zF):=⟨rfl,rfl,rfl,by decide,rfl,by decide,by decide⟩
theorem aEu{f fI fC C:Ad}{fd ad ag:A4}(F:Fun K "moment_behind" "moment_behind" zF f fd)(mk:Mk K C fI)
  (GI:cA P w K mg base CX0 1 fI ad ["self","laying"] (aGb C)) (mC:mg "Moment"=some (.ref C)) (bI:dA K ad ["self","laying"] [])
  (GC:cA P w K mg base CX0 6 fC ag ["moment","row"] (qI C ["mend","forfeit"])) (mD:mg "carry_out"=some (.ref fC)) (kD:AJ K (.ref fC)=true) (bD:dA K ag ["moment","row"] []):
  cA P w K mg base CX0 7 f fd ["roll","at"] (aAW C):=by
 refine F.ok aAX (fun vs H Q E h=>?_) (fun bh A outer s H vs Q E hr h=>?_)
 .obtain⟨t,Ls,rs,rfl,_⟩:=h;rfl
 .obtain⟨t,Ls,rs,rfl,roll,hnn,h8,r8,k⟩:=h;have nd:=aAX.nd;have ao:cF 2 _:=hr.mono (by decide);refine⟨_,aE (jQ (pv 0) (dJ rfl (aQ (aP (i:=2) nd rfl (AC rfl)) (aQ (aP (i:=3) nd rfl (AC rfl)) cZ))))
   (aE (aX (i:=4) nd rfl (AC rfl) (aG0 mk GI ao rfl mC bI .nil dP (aD (pv 2) aB)))
   (aE (fO Bz rfl (sV (hU rY (pv 3) jE (jF (pv 1)))) (g:=aW 5) (aP (i:=5) nd rfl (AC rfl))
    (aN (iO (cB GC hr rfl mD kD bD .nil dP (aD (pv 4) (aD (pv 5) aB))))))
   (aN (bC (pv 4))))),?_⟩
  obtain⟨lay,rw,xs,ys,h1,h2,h3,h4,h5⟩:=roll.ex;refine⟨_,rfl,t,_,rfl,bJ h1,rfl,_,_,rfl,_,_,rfl,rfl,_,rfl,fun x dx hx am ne=>?_⟩;have s1:=aH (o:=.own x) am;have s2:=aH (H:=upd H dx (.own x)) (o:=.ins C dx []) (p:=x) (by rw[aF (Cf ne)];exact hx);have J:=s1.trans s2;have ex:upd (upd H dx (.own x)) x (.ins C dx []) x=some (.ins C dx []):=aA;generalize upd (upd H dx (.own x)) x (.ins C dx [])=H0 at J ex ⊢;clear s2;refine⟨x,dx,lay,xs,Ls,rfl,ex,J _ _ h2,Paired.mapP h3 fun _ _ z=>z.on (aK J),h8,hnn,fun MA H1 k1 n1 n2 n3 an=>⟨rfl,?_⟩⟩;have f:∀{a:Ad},H0 a=none->H a=none:=fun{a} z=>by
   cases q:H a with
   | none=>rfl
   | some o=>rw[J _ _ q]at z;cases z
  have S1:bU H H1:=fun b o e=>k1 b o (J _ _ e) (aJ e hx);refine⟨_,rfl,_,rfl,_,rfl,rw,_,rfl,S1 _ _ h4,fun t2 H2 s2 O=>?_⟩;rw[aIx (α:=Unit)]at O;have aj:=aZ h5;rw[Bj (by omega)]at O;have S2:=S1.trans s2;refine⟨t2,rfl,⟨_,bJ O⟩,?_⟩;refine yH (K:=K) (xs:=ys) (fun i σ H'=>∃(o5:Option V),Aw3 (σ=[some (.ref t),some (.int rs.length),some (.ref lay),some (.ref rw),some (.ref x),o5]) (bU H H') (H' t2=some (.tup ys)/\uZ H' C x MA (dC Ls (rs.take i)).1 (dC Ls (rs.take i)).2)) ⟨none,rfl,S2,O,an.same s2⟩ (fun i σ H' _ p=>by obtain⟨_,_,_,e,_⟩:=p;exact bJ e) ?_ ?_
  .rintro i v σ H3 hv ⟨o5,rfl,S3,Y,G⟩;have hi:i<rs.length:=by
    have:=(Ak.mp hv).1;omega
   have Z:rs[i]?=some rs[i]:=Ae hi;have U:=(Paired.at h5 hv Z).on (aK S3);have hw:=U;obtain⟨_,_,_,hw⟩:=hw;have es:dC Ls (rs.take (i+1))=d9 (dC Ls (rs.take i)) rs[i]:=by
    unfold dC;rw[Bk,Z,EG];rfl
   have aa:(dC Ls (rs.take i)).1.map (·.1)=Ls.map (·.1):=jP _ _
   have ak:(dC Ls (rs.take i)).2.length<=0+(rs.take i).length:=xG _ _;rw[Bm]at ak;have aI:(dC Ls (rs.take i)).1.length=Ls.length:=by
    have:=congrArg CU aa;rw[Af,Af]at this;exact this
   refine⟨_,rfl,_,rfl,x,MA,_,v,rs[i],rfl,G,by rw[aa];exact hnn,by omega,by omega,U,by simpa using hw,fun z H4 k4 af=>?_⟩;refine⟨_,rfl,fun b o e=>k4 b o (fun z=>?_) (S3 b o e),k4 _ _ (fun z=>?_) Y,by rw[es];exact af⟩
   .simp only[An,AO,or_false]at z;rcases z with z|z
    .rw[z,f n1]at e;cases e
    .rw[z,f n3]at e;cases e
   .simp only[An,AO,or_false]at z;obtain⟨_,hhh,_⟩:=G.h;rcases z with z|z
    .rw[z,hhh]at Y;cases Y
    .rw[z,G.me]at Y;cases Y
  .rintro σ H3 ⟨o5,rfl,S3,Y,G⟩;rw[aj,Bg]at G;exact⟨_,rfl,k x MA H3 S3 G (f n1) (f n2)⟩
end K58
namespace L2
open PySem PySem.Spec PyProof.Rows
theorem xH{d:Ad}{od:Obj}{fo:List (Key×V)}{g:TG}{tb:TS}{D:c6}{σ:St}{H:Hp}(F:Nat->St->Hp->Prop)(Z:F 0 σ H)(hl:∀ i σ H,F i σ H->H d=some (.frz od (.dK fo)))
  (hs:∀ i k x t σ H,fo[i]?=some (k,x)->H t=none->F i σ H->g (.ref t) σ (upd H t (.tup [kV k,x])) fun O H2=>tb { D with nx:=F (i+1),ct:=F (i+1),bk:=D.nx } O H2) (hd:∀ σ H,F fo.length σ H->D.nx σ H):
  ∃ W:Nat->Nat->St->Hp->Prop,(∃ m,W 0 m σ H)/\∀ i m σ H,W i m σ H->
   ((Iti d od fo).stop i H/\D.nx σ H)\/((Iti d od fo).go i H/\∃ N:St->Hp->Prop,(∀ J H',N J H'->∃ U,U<m/\W (i+1) U J H')/\∀ x H',(Iti d od fo).yld i H x H'->g x σ H' fun O H2=>tb { D with nx:=N,ct:=N,bk:=D.nx } O H2):=by
 refine⟨fun i m σ H=>m=fo.length-i/\i<=fo.length/\F i σ H,⟨fo.length,by simp,AV _,Z⟩,?_⟩;rintro i m σ H ⟨rfl,hi,p⟩;have Y:=hl i σ H p;by_cases G:i<fo.length
 .refine .inr ⟨⟨Y,G⟩,F (i+1),fun J H' p'=>⟨fo.length-(i+1),by omega,rfl,G,p'⟩,fun v H' y=>?_⟩;obtain⟨t,k,x',rfl,ht,ex,rfl⟩:=y;exact hs i k x' t σ H ex ht p
 .have e:i=fo.length:=by omega
  subst e;exact .inl ⟨⟨Y,Aj _⟩,hd _ _ p⟩
end L2
namespace K58
open PySem L2
def M4:Int:=1000000000000
theorem aCl{t e:Int}(F:1<=e):(0*t+e-1)/e=0:=by
 rw[Int.zero_mul,DZ];exact Int.ediv_eq_zero_of_lt (by omega) (by omega)
theorem aCm{t e:Int}(G:1<=e):(e*t+e-1)/e=t:=by
 have F:e*t+e-1=(e-1)+t*e:=by rw[Int.mul_comm e t];omega
 rw[F,Int.add_mul_ediv_right _ _ (show e≠0 by omega),Int.ediv_eq_zero_of_lt (by omega) (by omega),DZ]
inductive xI(vs:List V)(H:Hp)(Q:VK)(u3_:XK):Prop
 | mk (t e a:Int) (q0:vs=[.int t,.int e,.int a]) (q1:0<=t) (q2:t<M4) (q3:1<=e) (q4:e<M4) (q5:(a=0\/a=e)) (q6:Q (.int (if a=0 then 0 else t)) H):xI vs H Q u3_
def aDj:Sp:=fun vs H Q u3_=>xI vs H Q u3_
def plD:Int->List L4->List (Key×V)
 | _,[]=>[]
 | p,l::Ls=>(Ao l.1,.int p)::plD (p+l.2.2.2) Ls
def inS(Ls:List L4):Int:=(Ls.map fun l=>l.2.2.2).sum
theorem aAY{x:Str}:∀{Ls:List L4}{p:Int},x∉Ls.map (·.1)->c9 (plD p Ls) (Ao x)=none
 | [],_,_=>rfl
 | l::Ls,p,h=>by
  rw[AF,An,not_or]at h;unfold plD;rw[bX fun z=>h.1 (Ao.inj z).symm,aAY h.2]
theorem aAZ:∀(p:Int) (Ls:List L4) (l:L4),plD p (Ls++[l])=plD p Ls++[(Ao l.1,.int (p+inS Ls))]
 | p,[],l=>by
  show[(Ao l.1,V.int p)]=[(Ao l.1,V.int (p+0))]
  rw[D0]
 | p,x::Ls,l=>by
  rw[Ds];unfold plD;rw[aAZ (p+x.2.2.2) Ls l,Ds];show _=_::(_++[(Ao l.1,V.int (p+(x.2.2.2+inS Ls)))]);rw[FF]
theorem aDk:∀(p:Int) (Ls:List L4),(plD p Ls).length=Ls.length
 | _,[]=>rfl
 | p,l::Ls=>by unfold plD;rw[AQ,aDk,AQ]
theorem aDl:∀{Ls:List L4}{p:Int}{i:Nat}{l:L4},(Ls.map (·.1)).Nodup->Ls[i]?=some l->c9 (plD p Ls) (Ao l.1)=some (.int (p+inS (Ls.take i)))
 | [],_,_,_,_,e=>by simp at e
 | x::Ls,p,0,l,_,e=>by
  simp at e;subst e;unfold plD;rw[cU rfl];show _=some (V.int (p+0));rw[D0]
 | x::Ls,p,i+1,l,hn,e=>by
  rw[AF,Bo]at hn;have F:Ls[i]?=some l:=by simpa using e
  unfold plD;rw[bX fun z=>hn.1 (by rw[show x.1=l.1 from Ao.inj z];exact DB (AU F)),aDl hn.2 F,Ft];show _=some (V.int (p+(x.2.2.2+inS (Ls.take i))));rw[FF]
inductive xJ(C:Ad)(vs:List V)(H:Hp)(Q:VK)(u3_:XK):Prop
 | mk (M:Ad) (A:MA) (Fs:List L4) (m:Mnd) (q0:vs=[.ref M]) (q1:uZ H C M A Fs m) (q2:(Fs.map (·.1)).Nodup) (q3:Fs.length<=8) (q4:∀ l od H',H l=none->dF [A.i] H H'->H' A.i=some (.frz od (.dK (inD Fs)))->H' l=some (.dK (plD 0 Fs))->Q (.ref l) H'):xJ C vs H Q u3_
def aDm(C:Ad):Sp:=fun vs H Q u3_=>xJ C vs H Q u3_
def mU:Pos:=⟨146,28,146,82⟩
def aJP:Str:=(("stretches":Str)++".<locals>.")++"<lambda>"
abbrev Tb(T:Ad)(H:Hp):Prop:=lA T mU aJP H
theorem oC{T:Ad}{H H':Hp}(s:dW T H H')(g:Tb T H):gU H H':=fun q xs e=>s _ _ (fun z=>by
 obtain⟨ps,hT,_⟩:=g.ex;rw[z,hT]at e;cases e) e
inductive aDn(H:Hp)(v:V)(l:L4):Prop
 | mk (q:_) (q0:v=.ref q) (q1:H q=some (.tup [.str l.1,.int 0,.int l.2.2.2,.str l.1,.str l.2.1])):aDn H v l
def vB(H:Hp)(v:V)(l:L4):Prop:=aDn H v l
theorem vB.on{H H':Hp}{v:V}{l:L4}(h:vB H v l)(t:gU H H'):vB H' v l:=by
 obtain⟨q,e,h⟩:=h;exact⟨q,e,t _ _ h⟩
def d6(l:L4):Bool:=decide (0<l.2.2.2)
structure LOk(l:L4):Prop where
 a1:1<=l.2.2.1
 a2:l.2.2.1<M4
 i1:0<=l.2.2.2
 i2:l.2.2.2<M4
structure aJQ(H:Hp)(C M:Ad)(A:MA)(Fs:List L4)(m:Mnd):Prop where
 ins:H M=some (.ins C A.dx (rW A))
 r:H A.r=some (.dK (rkD 0 Fs))
 h:∃ hol,H A.h=some (.dK hol)/\AZ (oB H) hol Fs
 a:H A.a=some (.dK (acD Fs))
 i:∃ od,H A.i=some (.frz od (.dK (inD Fs)))
 me:H A.me=some (.dK m)
 nd:[A.r,A.h,A.a,A.i,A.me].Nodup
def kfS(H:Hp)(ws:List Str):V->Int×Int
 | .ref q=>match H q with
  | some (.tup (.str f::.int lo::_))=>(((ws.idxOf f:Nat):Int),lo)
  | _=>(0,0)
 | _=>(0,0)
def gfS:Ab->V
 | .ref a=>.ref a
 | _=>.non
theorem aCn{H:Hp}{ws:List Str}{q:Ad}{l:L4}(h:H q=some (.tup [.str l.1,.int 0,.int l.2.2.2,.str l.1,.str l.2.1])):kfS H ws (.ref q)=(((ws.idxOf l.1:Nat):Int),0):=by
 unfold kfS;dsimp only;rw[h]
theorem vC{ws:List Str}(hn:ws.Nodup){i:Nat}{x:Str}(e:ws[i]?=some x):ws.idxOf x=i:=by
 obtain⟨h,rfl⟩:=Ak.mp e;have h1:=List.idxOf_lt_length_of_mem (A2 h);have h2:ws[ws.idxOf ws[i]]=ws[i]:=List.getElem_idxOf h1;exact(CH hn).mp h2
theorem aCo{α:Type}{xs ys:List α}{kf:α->Int×Int}(U:ys.Perm xs)(Y:ys.Pairwise fun a b=>ltI (kf b) (kf a)=false)(O:xs.Pairwise fun a b=>ltI (kf a) (kf b)=true):ys=xs:=by
 have h1:xs.Pairwise fun a b=>ltI (kf b) (kf a)=false:=O.imp fun{a b} h=>by
  cases e:ltI (kf b) (kf a)with
  | false=>rfl
  | true=>
   have h2:=aCa _ _ _ h e;rw[zB]at h2;cases h2
 have F:∀ a b,a∈xs->b∈xs->ltI (kf b) (kf a)=false->ltI (kf a) (kf b)=false->a=b:=fun a b ha hb G J=>by
  obtain⟨i,hi,rfl⟩:=AR.mp ha;obtain⟨j,hj,rfl⟩:=AR.mp hb;rcases Nat.lt_trichotomy i j with z|z|z
  .rw[Bc.mp O i j hi hj z]at J;cases J
  .subst z;rfl
  .rw[Bc.mp O j i hj hi z]at G;cases G
 exact List.Perm.eq_of_pairwise (le:=fun a b=>ltI (kf b) (kf a)=false) (fun a b ha hb G J=>F a b (U.mem_iff.mp ha) hb G J) Y h1 U
inductive aDo(C T:Ad)(vs:List V)(H:Hp)(Q:VK)(u3_:XK):Prop
 | mk (M:Ad) (A:MA) (Fs:List L4) (m:Mnd) (q0:vs=[.ref M]) (q1:aJQ H C M A Fs m) (q2:(∀ l∈Fs,LOk l)) (q3:(Fs.map (·.1)).Nodup) (q4:Fs.length<=8) (q5:Tb T H) (q6:∀ D (xs:List V) H',dF [A.h,T] H H'->Tb T H'->H' D=some (.lst xs)->AZ (vB H') xs (Fs.filter d6)->Q (.ref D) H'):aDo C T vs H Q u3_
def aHX(C T:Ad):Sp:=fun vs H Q u3_=>aDo C T vs H Q u3_
theorem pI:bG ["total","every","acre"] ["total","every","acre"] (aM lR):=⟨rfl,rfl,rfl,by decide,rfl,by decide,by decide⟩
theorem aGd{f:Ad}{fd:A4}(F:Fun K "share_below" "share_below" lR f fd)
  :cA P w K mg base CX0 1 f fd ["total","every","acre"] aDj:=by
 refine F.ok pI (fun vs H Q E h=>?_) (fun J A outer s H vs Q E O h=>?_)
 .obtain⟨t,e,a,rfl,_⟩:=h;rfl
 .obtain⟨t,e,a,rfl,t0,t1,e0,e1,ha,k⟩:=h;have nd:=pI.nd;refine⟨_,(aN (bC (aU lM (aU iV (aU cC (aU aCO (pv 2) (pv 0)) (pv 1)) aG) (pv 1)))),?_⟩;have hm:M4=1000000000000:=rfl;have G:Q (.int ((a*t+e-1)/e)) H:=by
   rcases ha with rfl|rfl
   .rw[aCl e0];exact k
   .rw[aCm e0];rw[Ia (by omega)]at k;exact k
  exact⟨_,rfl,_,rfl,_,_,rfl,rfl,⟨B0 (show a.natAbs<=1000000000000 by omega) (by decide),B0 (show t.natAbs<=1000000000000 by omega) (by decide)⟩,_,rfl,_,_,rfl,rfl,_,_,rfl,rfl,_,rfl,_,_,rfl,rfl,qR.of (by omega) (Fc e1 (by decide)),G⟩
theorem aDp:bG ["moment","told","ahead","field","inches"] ["moment"] (aM aCh):=⟨rfl,rfl,rfl,by decide,rfl,by decide,by decide⟩
theorem aGe{f:Ad}{fd:A4}(F:Fun K "first_places" "first_places" aCh f fd){C:Ad}(hc:MC K C)
  :cA P w K mg base CX0 2 f fd ["moment"] (aDm C):=by
 refine F.ok aDp (fun vs H Q E h=>?_) (fun ao A outer s H vs Q E hr h=>?_)
 .obtain⟨M,A,Fs,m,rfl,_⟩:=h;rfl
 .obtain⟨M,MA,Fs,m,rfl,mom,hnn,h8,k⟩:=h;have hu:=oQ hr;have nd:=aDp.nd;refine⟨_,(aE (aX (i:=1) nd rfl (AC rfl) jY)
   (aE (aX (i:=2) nd rfl (AC rfl) aG)
   (aE (fO Bz rfl (aAC (eU (pv 0) rfl)) (g:=oJ K 2 (cW (aW 3) (cW (aW 4) nO))) (dJ rfl (aQ (aP (i:=3) nd rfl (AC rfl)) (aQ (aP (i:=4) nd rfl (AC rfl)) cZ)))
   (aE (gZ hu (pv 1) (pv 3) (pv 2) rfl)
    (aN (aIe (i:=2) nd rfl (AC rfl) (pv 4) aIf))))
   (aN (bC (pv 1)))))),?_⟩
  intro L hL;have sL:=aH (o:=.dK ([]:List (Key×V))) hL;have O:=mom.same sL;refine⟨_,rfl,M,C,_,_,_,rfl,O.ins,hc.cl,hc.i,rfl,MA.i,_,rfl,O.i,fun od=>?_⟩;have aa:L≠MA.i:=(aJ mom.i hL).symm;have keep:dF [MA.i] H (upd (upd H L (.dK [])) MA.i (.frz od (.dK (inD Fs)))):=(i5 sL).trans (mK (by simp));refine xH (fun i σ H'=>∃(o3 o4:Option V),Aw3 (σ=[some (.ref M),some (.ref L),some (.int (inS (Fs.take i))),o3,o4]) (dF [MA.i] H H') (H' MA.i=some (.frz od (.dK (inD Fs)))/\H' L=some (.dK (plD 0 (Fs.take i)))))
   ⟨none,none,rfl,keep,aA,by rw[aF aa];exact aA⟩ (fun i σ H' p=>by obtain⟨_,_,_,_,e,_⟩:=p;exact e) ?_ ?_
  .rintro i k' x t σ H1 hk ht ⟨o3,o4,rfl,K1,e1,Z⟩;have J:(inD Fs).length=Fs.length:=Af _;have hi:i<Fs.length:=by
    have:=(Ak.mp hk).1;omega
   have Y:Fs[i]?=some Fs[i]:=Ae hi;have ae:(k',x)=(Ao Fs[i].1,V.int Fs[i].2.2.2):=by
    unfold inD at hk;rw[AB,Y]at hk;exact(Bt.inj hk).symm
   cases ae;have st:=aH (o:=.tup [kV (Ao Fs[i].1),.int Fs[i].2.2.2]) ht;have G:Fs[i].1∉(Fs.take i).map (·.1):=fun hm=>by
    rw[List.map_take]at hm;obtain⟨j,hj,ej⟩:=AR.mp hm;rw[Bm,Af]at hj;rw[Dg]at ej;have h2:(Fs.map (·.1))[j]'(by rw[Af];omega)=(Fs.map (·.1))[i]'(by rw[Af];omega):=by rw[ej,B3]
    have:=(CH hnn).mp h2;omega
   have eS:Fs.take (i+1)=Fs.take i++[Fs[i]]:=by rw[Bk,Y];rfl
   have U:(Fs.take i).length<=8:=by rw[Bm];omega
   rw[eS];generalize Fs[i]=l at G st ⊢;generalize Fs.take i=R at G U Z ⊢;refine⟨t,_,rfl,bJ aA,rfl,_,_,rfl,_,_,rfl,rfl,_,rfl,_,rfl,_,rfl,L,_,rfl,nV.k (k:=Ao l.1) (st _ _ Z) (B0 (show(plD 0 R).length<=8 by rw[aDk];exact U) (by rw[A6];omega)),?_⟩;have ep:dM (plD 0 R) (Ao l.1) (.int (inS R))=plD 0 (R++[l]):=by
    rw[iC _ (aAY G),aAZ,DZ]
   rw[ep];have ei:inS (R++[l])=inS R+l.2.2.2:=by
    unfold inS;rw[A1,List.sum_append];show _+(_+0)=_;rw[D0]
   rw[ei];refine⟨_,rfl,_,rfl,_,_,rfl,rfl,_,_,rfl,fun b o n e=>?_,?_,aA⟩
   .rw[aF (fun z=>by rw[z,hL]at e;cases e)];exact st _ _ (K1 b o n e)
   .rw[aF aa.symm];exact st _ _ e1
  .rintro σ H1 ⟨o3,o4,rfl,K1,e1,Z⟩;have J:(inD Fs).length=Fs.length:=Af _;rw[J,Bg]at Z;exact⟨_,rfl,k L od H1 hL K1 e1 Z⟩
theorem rB:bG ["moment","told","land","house","pieces","field","first","last","inches","acres","low","high"] ["moment"] (aM gS):=⟨rfl,rfl,rfl,by decide,rfl,by decide,by decide⟩
theorem zO{f:Ad}{fd:A4}(F:Fun K "stretches" "stretches" gS f fd){C c T:Ad}(hc:MC K C)(br:fd.code=.ref c)(hC:Dm K c T=true)(hB:p9 mg base)(bd:mg "sorted"=none)
  (GB:Cl P w K mg base 1 "share_below" ["total","every","acre"] aDj)
  :cA P w K mg base CX0 4 f fd ["moment"] (aHX C T):=by
 refine F.okC rB (fun vs H Q E h=>?_) (fun cD A outer s H vs Q E a0 hr h=>?_)
 .obtain⟨M,A,Fs,m,rfl,_⟩:=h;rfl
 .obtain⟨M,MA,Fs,m,rfl,mom,hFs,hnn,h8,hT,k⟩:=h;rw[br]at a0;subst a0;have hu:=oQ hr;have aw:cF 1 _:=hr.mono (by decide);have bN:cF 3 _:=hr.mono (by decide);have nd:=rB.nd;refine⟨_,(aE (aX (i:=1) nd rfl (AC rfl) (cJ aB))
   (aE (fO Bz rfl (aAC (eU (pv 0) rfl)) (g:=oJ K 2 (cW (aW 2) (cW (oJ K 2 (cW (aW 3) (cW (aW 4) nO))) nO))) (dJ rfl (aQ (aP (i:=2) nd rfl (AC rfl)) (aQ (dJ rfl (aQ (aP (i:=3) nd rfl (AC rfl)) (aQ (aP (i:=4) nd rfl (AC rfl)) cZ))) cZ)))
   (aN (fO Bz rfl (sV (pv 4)) (g:=oJ K 3 (cW (aW 5) (cW (aW 6) (cW (aW 7) nO)))) (dJ rfl (aQ (aP (i:=5) nd rfl (AC rfl)) (aQ (aP (i:=6) nd rfl (AC rfl)) (aQ (aP (i:=7) nd rfl (AC rfl)) cZ))))
    (aE (sU (i:=8) (j:=9) rfl nd rfl rfl (by decide) rfl rfl (aD (e8 hu (eU (pv 0) rfl) (pv 5) Ih) (aD (e8 hu (eU (pv 0) rfl) (pv 5) Ih) aB)) rfl)
     (aE (sU (i:=10) (j:=11) rfl nd rfl rfl (by decide) rfl rfl (aD (dH GB aw (aD (pv 8) (aD (pv 9) (aD (pv 6) aB)))) (aD (dH GB aw (aD (pv 8) (aD (pv 9) (aD (pv 7) aB)))) aB)) rfl)
     (aN (dN (cG qN (pv 10) (pv 11) (cH _)) (aN (iO (lJ BC B9 B8 gO (pv 1) (aD (cE (aD (pv 5) (aD (pv 10) (aD (pv 11) (aD (pv 2) (aD (pv 3) aB)))))) aB)))) cN)))))))
   (aN (bC (aAH (k:=0) (x:="stretch") (fs:=["moment"]) (cl:=[("moment",s.heap.objs.size+1)]) (T:=T) bN rfl hC hB (by rfl) bd ⟨rfl,rfl,rfl,by decide,by decide,by decide,by decide⟩ ?hc ?hhas (fun _ _ _ _=>rfl)
     (fun f c s H=>cE (aD (e8 ?hu (aDc (K:=K) (pv 1)) (bO (r:=aAh K) dG (pv 0) aG Ih) Ih) (aD (bO (r:=aAh K) dG (pv 0) aG Ih) aB))) (aD (pv 1) aB)))))),?_⟩
  case hc=>exact fun x b h=>h
  case hhas=>
   intro x h;have hm:=Bl h;obtain rfl:x="moment":=(show∀ y∈_,y.2=Bb->y.1=("moment":Str) from by decide) (x,Bb) hm rfl;exact⟨_,rfl⟩
  case hu=>exact oQ ((hr.in1).in1.deeper _)
  refine⟨AV _,fun L hL=>?_⟩;have sL:=aH (o:=.lst ([]:List V)) hL;obtain⟨hol,hh,hX⟩:=mom.h;obtain⟨od2,hi⟩:=mom.i;have al:=mom.nd;simp only[Bo,An,AO,or_false,not_or]at al;have bA:¬ MA.a=MA.h:=fun z=>al.2.1.1 z.symm;have bq:¬ MA.r=MA.h:=al.1.1;have bx:=aZ hX;have bp:L≠MA.h:=(aJ hh hL).symm;refine⟨_,rfl,M,C,_,_,_,rfl,sL _ _ mom.ins,hc.cl,hc.h,rfl,MA.h,hol,rfl,sL _ _ hh,fun od=>?_⟩;have fF:upd (upd H L (.lst [])) MA.h (.frz od (.dK hol)) MA.h=some (.frz od (.dK hol)):=aA;have fL:upd (upd H L (.lst [])) MA.h (.frz od (.dK hol)) L=some (.lst []):=by rw[aF bp];exact aA
  have kF:dF [MA.h] H (upd (upd H L (.lst [])) MA.h (.frz od (.dK hol))):=(i5 sL).trans (mK (by simp));generalize upd (upd H L (.lst [])) MA.h (.frz od (.dK hol))=H0 at fF fL kF ⊢;have nh:∀{b:Ad} {o:HO},H b=some o->(∀ fo,o≠.dK fo)->b∉[MA.h]:=fun{b o} e n z=>by
   have z:b=MA.h:=by simpa using z
   rw[z,hh]at e;cases e;exact n _ rfl
  have aa:∀{H':Hp},dF [MA.h] H H'->gU H H':=fun k q xs e=>k _ _ (nh e fun _ z=>nomatch z) e;have zl:∀ k,k<=8->k<sizeLine:=fun k h=>by rw[A6];omega
  refine xH (fun i σ H'=>Ex3 fun(o2 o3 o4:Option V)=>Ex3 fun(o5 o6 o7:Option V)=>Ex3 fun(o8 o9 O:Option V)=>∃(J:Option V) (xs:List V),Aw3 (σ=[some (.ref M),some (.ref L),o2,o3,o4,o5,o6,o7,o8,o9,O,J]) (dF [MA.h] H H') (Aw3 (H' MA.h=some (.frz od (.dK hol))) (H' L=some (.lst xs)) (AZ (vB H') xs ((Fs.take i).filter d6))))
   ⟨none,none,none,none,none,none,none,none,none,none,[],rfl,kF,fF,fL,.nil⟩ (fun i σ H' p=>by obtain⟨_,_,_,_,_,_,_,_,_,_,_,_,_,e,_⟩:=p;exact e) ?_ ?_
  .rintro i k' x t σ H1 hk ht ⟨o2,o3,o4,o5,o6,o7,o8,o9,O,J,xs,rfl,K1,e1,e2,hS⟩;have b9:=(Ak.mp hk).1;have aI:i<Fs.length:=by omega
   have Y:Fs[i]?=some Fs[i]:=Ae aI;obtain⟨ek,a1,a2,a3,ex,h1,h2,h3⟩:=(Paired.at hX hk Y).on (aa K1);dsimp only at ek ex;subst ek ex;have G:=hFs _ (A2 aI);have ci:xs.length<=i:=by
    have:=aZ hS;have h4:=CM d6 (Fs.take i);rw[Bm]at h4;omega
   have bL:c9 (acD Fs) (Ao Fs[i].1)=some (.int Fs[i].2.2.1):=uV hnn Y;have bv:c9 (inD Fs) (Ao Fs[i].1)=some (.int Fs[i].2.2.2):=uV hnn Y;have eS:(Fs.take (i+1)).filter d6=(Fs.take i).filter d6++if d6 Fs[i]=true then[Fs[i]] else[]:=by
    rw[Bk,Y,FE];show _++List.filter d6 [Fs[i]]=_;cases Z:d6 Fs[i]<;>simp[Z]
   rw[eS];have cb:Fs[i].1=Fs[i].1:=rfl;generalize Fs[i]=l at *;have st:=aH (o:=.tup [kV (Ao l.1),.ref a1]) ht;have aT:upd H1 t (.tup [kV (Ao l.1),.ref a1]) t=some (.tup [.str l.1,.ref a1]):=aA;have K2:dF [MA.h] H (upd H1 t (.tup [kV (Ao l.1),.ref a1])):=K1.same st;have bc:=st _ _ e1;have bb:=st _ _ e2;have ay:=Paired.mapP hS fun _ _ z=>z.on (aK st);have ba:=st _ _ h1;have ak:=st _ _ h2;have ax:=st _ _ h3;generalize upd H1 t (.tup [kV (Ao l.1),.ref a1])=H2 at aT K2 bc bb ay ba ak ax ⊢;refine⟨t,_,rfl,bJ aT,rfl,_,_,rfl,_,_,rfl,⟨a1,_,rfl,bJ ba,rfl,_,_,rfl,_,_,rfl,rfl,rfl,?_⟩⟩;refine⟨_,rfl,a2,rfl,⟨_,bJ ak⟩,?_⟩;refine yH (K:=K) (xs:=[V.ref a3]) (fun j σ H'=>Ex3 fun(o5 o6 o7:Option V)=>Ex3 fun(o8 o9 O:Option V)=>∃(J:Option V) (ys:List V),Aw6 (σ=[some (.ref M),some (.ref L),some (.str l.1),some (.str l.2.1),some (.ref a2),o5,o6,o7,o8,o9,O,J]) (dF [MA.h] H H') (H' MA.h=some (.frz od (.dK hol))) (H' L=some (.lst ys)) (H' a2=some (.tup [.ref a3])) (H' a3=some (.tup [.str l.1,.int 0,.int l.2.2.1])/\AZ (vB H') ys ((Fs.take i).filter d6++if j=0 then[] else if d6 l=true then[l] else[])))
    ⟨_,_,_,_,_,_,_,xs,rfl,K2,bc,bb,ak,ax,by rw[Ib rfl,Bp];exact ay⟩ (fun j σ H' _ p=>by obtain⟨_,_,_,_,_,_,_,_,_,_,_,_,e,_⟩:=p;exact bJ e) ?_ ?_
   .rintro j v σ H3 hv ⟨o5,o6,o7,o8,o9,O,J,ys,rfl,K3,f1,f2,f3,f4,f5⟩;have U:j=0:=by
     have:=(Ak.mp hv).1;simp at this;exact this
    subst U;have bj:v=.ref a3:=by simpa using hv.symm
    subst bj;rw[Ib rfl,Bp]at f5;have cc:=aZ f5;have bE:=aZ hS;have gM:H3 M=some (.ins C MA.dx (rW MA)):=K3 _ _ (nh mom.ins fun _ z=>nomatch z) mom.ins;have gA:H3 MA.a=some (.dK (acD Fs)):=K3 _ _ (by simpa using bA) mom.a;have gI:H3 MA.i=some (.frz od2 (.dK (inD Fs))):=K3 _ _ (nh hi fun _ z=>nomatch z) hi;refine⟨a3,_,rfl,bJ f4,rfl,_,_,rfl,_,_,rfl,_,_,rfl,rfl,_,rfl,M,C,_,_,_,rfl,gM,hc.cl,hc.i,rfl,_,rfl,MA.i,_,rfl,.inl ⟨_,Ao l.1,.inr ⟨_,gI⟩,rfl,bv.symm⟩,_,rfl,M,C,_,_,_,rfl,gM,hc.cl,hc.a,rfl,_,rfl,MA.a,_,rfl,.inl ⟨_,Ao l.1,.inl gA,rfl,bL.symm⟩,_,_,rfl,_,rfl,_,rfl,_,rfl,_,_,_,rfl,G.i1,G.i2,G.a1,G.a2,.inl rfl,?_⟩;rw[Ib rfl];refine⟨_,rfl,_,rfl,_,rfl,_,_,_,rfl,G.i1,G.i2,G.a1,G.a2,.inr rfl,_,_,rfl,?_⟩;rw[Ia (show¬ l.2.2.1=0 by have:=G.a1;omega)];refine⟨_,rfl,_,rfl,_,_,rfl,rfl,_,rfl,mQ (fun g=>?_) fun g=>?_⟩
    .have Z:d6 l=true:=g;rw[Z,Ib rfl];refine⟨_,rfl,.inl ⟨rfl,_,aO f2⟩,_,rfl,_,rfl,_,rfl,_,rfl,_,rfl,zZ5,fun q3 au=>?_⟩;have s3:=aH (o:=.tup [.str l.1,.int 0,.int l.2.2.2,.str l.1,.str l.2.1]) au;refine⟨L,ys,_,rfl,rfl,s3 _ _ f2,zl _ (by omega),?_⟩;have keep:∀ b o,b≠L->H3 b=some o->upd (upd H3 q3 (.tup [.str l.1,.int 0,.int l.2.2.2,.str l.1,.str l.2.1])) L (.lst (ys++[.ref q3])) b=some o:=fun b o n e=>by
      rw[aF n];exact s3 _ _ e
     have kt:gU H3 (upd (upd H3 q3 (.tup [.str l.1,.int 0,.int l.2.2.2,.str l.1,.str l.2.1])) L (.lst (ys++[.ref q3]))):=fun b us e=>keep b _ (fun z=>by rw[z,f2]at e;cases e) e;refine⟨_,_,_,_,_,_,_,ys++[.ref q3],rfl,fun b o n e=>keep b o (aJ e hL) (K3 b o n e),keep _ _ (dL f1 f2 (fun z=>nomatch z)) f1,aA,kt _ _ f3,kt _ _ f4,?_⟩;rw[Ia (show¬ (0+1=0) by decide)];exact Ce ⟨q3,rfl,by rw[aF (aJ f2 au).symm];exact aA⟩ (Paired.mapP f5 fun _ _ z=>z.on kt)
    .have Z:d6 l=false:=Di.mpr g;rw[Z];refine⟨_,_,_,_,_,_,_,ys,rfl,K3,f1,f2,f3,f4,?_⟩;rw[Ia (show¬ (0+1=0) by decide),Ia Av,Bp];exact f5
   .rintro σ H3 ⟨o5,o6,o7,o8,o9,O,J,ys,rfl,K3,f1,f2,f3,f4,f5⟩;exact⟨_,_,_,_,_,_,_,_,_,_,ys,rfl,K3,f1,f2,f5⟩
  .rintro σ H1 ⟨o2,o3,o4,o5,o6,o7,o8,o9,O,J,xs,rfl,K1,e1,e2,hS⟩;rw[bx,Bg]at hS;have bE:=aZ hS;have cu:=CM d6 Fs;have gM:H1 M=some (.ins C MA.dx (rW MA)):=K1 _ _ (nh mom.ins fun _ z=>nomatch z) mom.ins;have gR:H1 MA.r=some (.dK (rkD 0 Fs)):=K1 _ _ (by simpa using bq) mom.r;obtain⟨tps,hTt,hTt2⟩:=hT.ex;have aj:Tb T H1:=by
    refine⟨tps,K1 _ _ (nh hTt fun _ z=>nomatch z) hTt,hTt2.1,?_⟩;rcases hTt2.2 with z|⟨c',z,z2⟩
    .exact .inl z
    .exact .inr ⟨c',z,K1 _ _ (nh z2 fun _ z=>nomatch z) z2⟩
   have bH:M≠T:=dL mom.ins hTt (fun z=>nomatch z);have bP:MA.r≠T:=dL mom.r hTt (fun z=>nomatch z);refine⟨_,rfl,L,xs,[.ref M],kfS H1 (Fs.map (·.1)),gfS,rfl,fun y v hy rv=>?_,aO e2,Bd (zl _ (by omega)),.cons ⟨0,rfl,rfl,rfl⟩ .nil,aj,fun y hy H' sT=>?_,fun D ys H2 sT gT nD Z bu hD=>?_⟩
   .obtain⟨j,U⟩:=BE hy;obtain⟨l,hl⟩:∃ l,(Fs.filter d6)[j]?=some l:=⟨_,Ae (by have:=(Ak.mp U).1;omega)⟩
    obtain⟨q,rfl,hq⟩:=Paired.at hS U hl;cases rv;rfl
   .obtain⟨j,U⟩:=BE hy;obtain⟨l,hl⟩:∃ l,(Fs.filter d6)[j]?=some l:=⟨_,Ae (by have:=(Ak.mp U).1;omega)⟩
    obtain⟨q,rfl,hq⟩:=Paired.at hS U hl;have av:=oC sT aj _ _ hq;obtain⟨n,hn⟩:=BE (Cz.mp (AU hl)).1;have bD:(Fs.map (·.1)).idxOf l.1=n:=vC hnn (by rw[AB,hn];rfl)
    have az:c9 (rkD 0 Fs) (Ao l.1)=some (.int ((0+n:Nat):Int)):=aDf hnn hn;rw[Eo]at az;have be:=aCn (ws:=Fs.map (·.1)) hq
    rw[bD]at be;refine⟨_,rfl,M,C,_,_,_,rfl,sT _ _ bH gM,hc.cl,hc.r,rfl,_,rfl,q,_,0,_,rfl,rfl,bJ av,rfl,MA.r,_,rfl,.inl ⟨_,Ao l.1,.inl (sT _ _ bP gR),rfl,az.symm⟩,_,rfl,q,_,1,_,rfl,rfl,bJ av,rfl,zZ2,fun t2 bz=>?_⟩;exact⟨t2,rfl,by rw[be];exact aA,aH bz⟩
   .have hx:xs.Pairwise fun a b=>ltI (kfS H1 (Fs.map (·.1)) a) (kfS H1 (Fs.map (·.1)) b)=true:=by
     have key:∀{xs:List V} {Gs:List L4},AZ (vB H1) xs Gs->(Gs.Pairwise fun a b=>(Fs.map (·.1)).idxOf a.1<(Fs.map (·.1)).idxOf b.1)->xs.Pairwise fun a b=>ltI (kfS H1 (Fs.map (·.1)) a) (kfS H1 (Fs.map (·.1)) b)=true:=by
      intro xs Gs Z
      induction Z with
      | nil=>intro _;exact BZ
      | @cons v l vs ls q t ih=>
       intro hg;obtain⟨g1,g2⟩:=Cg.mp hg;refine Cg.mpr ⟨fun y hy=>?_,ih g2⟩;obtain⟨j,U⟩:=BE hy;have b7:=aZ t;obtain⟨l2,hl2⟩:∃ l,ls[j]?=some l:=⟨_,Ae (by have:=(Ak.mp U).1;omega)⟩
       obtain⟨q1,rfl,h1⟩:=q;obtain⟨q2,rfl,h2⟩:=Paired.at t U hl2;have:=g1 l2 (AU hl2);rw[aCn h1,aCn h2];exact(pF _ _).mpr (.inl (Int.ofNat_lt.mpr this))
     refine key hS (EH _ ?_);rw[Bc];intro a b ha hb bF;rw[vC hnn (i:=a) (by rw[AB,Ae ha];rfl),vC hnn (i:=b) (by rw[AB,Ae hb];rfl)];exact bF
    have ey:=aCo Z bu hx;subst ey;refine k D ys H2 (fun b o n e=>sT b o (fun z=>n (by simp[z])) (K1 b o (fun z=>n (by simp at z;simp[z])) e)) gT hD (Paired.mapP hS fun _ _ z=>z.on (oC sT aj))
end K58
namespace L2
open PySem PySem.Spec PyProof.Rows PySem.W
inductive aGf(x:V)(y:V)(H:Hp)(Q:VK):Prop
 | mk (m m':Bool) (d d':CY) (q0:RdV m H x d) (q1:RdV m' H y d') (q2:d.canLay0=true) (q3:d'.canLay0=true) (q4:d.depth<=8) (q5:Q (.bl (EO d d')) H):aGf x y H Q
def aKD:V->V->Hp->VK->Prop:=fun x y H Q=>aGf x y H Q
theorem aIS{X:Cx}{k:Nat}(J:cF k X.A):OpR X (compareOp .Eq) aKD:=by
 intro df s σ H x y v u Q I G F h;obtain⟨m,m',d,d',h1,h2,h3,h4,h5,q⟩:=h;obtain⟨as,r1,_⟩:=RdV.reads I h1 G;obtain⟨bs,r2,_⟩:=RdV.reads I h2 F;have hm:=Nat.min_le_left d.depth d'.depth;have hu:=J.un;exact PySem.SeqAt.compareEq_reads r1 r2 h3 h4 (by omega) ⟨.bl _,H,I,rfl,q⟩
end L2
namespace K58
open PySem L2
abbrev D3:=Int×Int×List Str
inductive aDq(H:Hp)(v:V)(d:D3):Prop
 | mk (q:_) (q0:v=.ref q) (q1:H q=some (.tup (.int d.1::.int d.2.1::d.2.2.map V.str))):aDq H v d
def lB(H:Hp)(v:V)(d:D3):Prop:=aDq H v d
theorem lB.on{H H':Hp}{v:V}{d:D3}(h:lB H v d)(t:gU H H'):lB H' v d:=by
 obtain⟨q,e,h⟩:=h;exact⟨q,e,t _ _ h⟩
def iL(acc:List D3)(d:D3):List D3:=match acc.reverse with
 | []=>[d]
 | e::r=>if e.2.2=d.2.2 then r.reverse++[(e.1,d.2.1,d.2.2)] else acc++[d]
theorem aA0(d:D3):iL [] d=[d]:=rfl
theorem fZ(r:List D3)(e d:D3):iL (r++[e]) d=if e.2.2=d.2.2 then r++[(e.1,d.2.1,d.2.2)] else r++[e]++[d]:=by
 unfold iL;rw[DA];show(if e.2.2=d.2.2 then r.reverse.reverse++_ else _)=_;rw[Fg]
def iN(ds:List D3):List D3:=ds.foldl iL []
theorem rC:∀ as bs:List Str,D5 (as.map DG) (bs.map DG)=decide (as=bs)
 | [],[]=>by simp[D5]
 | [],b::bs=>by simp[D5]
 | a::as,[]=>by simp[D5]
 | a::as,b::bs=>by
  rw[AF,AF];unfold D5;rw[rC as bs];by_cases h:a=b<;>by_cases h2:as=bs<;>simp[EO,h,h2]
theorem aCp{H:Hp}:∀ as:List Str,(∀ a∈as,a.length<=1000)->uC false H (as.map V.str) (as.map DG)
 | [],_=>.nil
 | a::as,h=>.cons (.str a (h a Am)) (aCp as fun b hb=>h b (Al _ hb))
theorem vD:∀ as:List Str,ES (as.map DG)<=1
 | []=>by simp[ES]
 | a::as=>by
  have:=vD as;rw[AF];unfold ES;simp[PyData.depth];omega
theorem vE:∀ as:List Str,(∀ a∈as,FA a=true)->FC (as.map DG)=true
 | [],_=>by simp[FC]
 | a::as,h=>by
  rw[AF];unfold FC;rw[vE as fun b hb=>h b (Al _ hb)];simp[PyData.canLay0,h a Am]
structure DOk(d:D3):Prop where
 n:d.2.2.length<=2
 z:∀ a∈d.2.2,a.length<=1000
 s:∀ a∈d.2.2,FA a=true
theorem rD{α β:Type}{R:α->β->Prop}{a:α}:∀{as:List α}{bs:List β},AZ R (as++[a]) bs->∃ F b,bs=F++[b]/\AZ R as F/\R a b
 | [],_,h=>by
  cases h with
  | cons r t=>
   cases t;exact⟨[],_,rfl,.nil,r⟩
 | x::as,_,h=>by
  cases h with
  | cons r t=>
   obtain⟨F,b,rfl,h1,h2⟩:=rD t;exact⟨_::F,b,rfl,.cons r h1,h2⟩
theorem eB{α:Type}(l:List α):l=[]\/∃ r x,l=r++[x]:=by
 rcases List.eq_nil_or_concat l with h|⟨r,x,h⟩
 .exact .inl h
 .exact .inr ⟨r,x,by rw[h,List.concat_eq_append]⟩
theorem aA1(acc:List D3)(d:D3):(iL acc d).length<=acc.length+1:=by
 rcases eB acc with rfl|⟨r,e,rfl⟩
 .exact Aj _
 .rw[fZ];split<;>simp
inductive xK(vs:List V)(H:Hp)(Q:VK)(u3_:XK):Prop
 | mk (l:Ad) (xs:List V) (ds:List D3) (q0:vs=[.ref l]) (q1:H l=some (.lst xs)) (q2:AZ (lB H) xs ds) (q3:ds.length<=8) (q4:(∀ d∈ds,DOk d)) (q5:∀ L ys H',bU H H'->H' L=some (.lst ys)->AZ (lB H') ys (iN ds)->Q (.ref L) H'):xK vs H Q u3_
def zQ:Sp:=fun vs H Q u3_=>xK vs H Q u3_
theorem aDr:bG ["rows","told","row"] ["rows"] (aM aCi):=⟨rfl,rfl,rfl,by decide,rfl,by decide,by decide⟩
theorem aGg{f:Ad}{fd:A4}(F:Fun K "drawn_together" "drawn_together" aCi f fd)
  :cA P w K mg base CX0 2 f fd ["rows"] zQ:=by
 refine F.ok aDr (fun vs H Q E h=>?_) (fun bw A outer s H vs Q E hr h=>?_)
 .obtain⟨l,xs,ds,rfl,_⟩:=h;rfl
 .obtain⟨l,xs,ds,rfl,hl,hds,hz,hn,k⟩:=h;have ba:cF 1 _:=hr.mono (by decide);have nd:=aDr.nd;refine⟨_,(aE (aX (i:=1) nd rfl (AC rfl) (cJ aB))
   (aE (fO Bz rfl (dO (pv 0)) (g:=aW 2) (aP (i:=2) nd rfl (AC rfl))
   (aN (dN (aIt (PW.pt (aBF (aEV (pv 1) (fun _=>rfl)) (yE (cG (aIS ba) (hU rY (bO bW (pv 1) (wH pT aG) Ih) (jF aG) jE) (hU rY (pv 2) (jF aG) jE) (cH _)))))) (aN (jQ (aU aHd (cE (aD (bO dG (bO bW (pv 1) (wH pT aG) Ih) aG Ih) aB)) (hU rY (pv 2) (jF aG) jE)) (aIc (pv 1) (wH pT aG) aE5))) (aN (iO (lJ BC B9 B8 gO (pv 1) (aD (pv 2) aB)))))))
   (aN (bC (pv 1))))),?_⟩
  refine⟨AV _,fun L hL=>?_⟩;have sL:=aH (o:=.lst ([]:List V)) hL;have aL:=aZ hds;refine⟨_,rfl,l,rfl,⟨_,aO (sL _ _ hl)⟩,?_⟩;refine hJ (K:=K) (xs:=xs) (fun i σ H'=>∃(o2:Option V) (zs:List V),Aw6 (σ=[some (.ref l),some (.ref L),o2]) (bU H H') (H' L=some (.lst zs)) (AZ (lB H') zs ((ds.take i).foldl iL [])) (((ds.take i).foldl iL []).length<=i) (∀ d∈(ds.take i).foldl iL [],DOk d))
   ⟨none,[],rfl,sL,aA,.nil,Aj _,fun d hd=>by simp at hd⟩ (fun i σ H' _ p=>by obtain⟨_,_,_,S,_⟩:=p;exact aO (S _ _ hl)) ?_ ?_
  .rintro i v σ H2 hv ⟨o2,zs,rfl,S2,ad,U,af,Z⟩;have hi:i<ds.length:=by
    have:=(Ak.mp hv).1;omega
   have al:ds[i]?=some ds[i]:=Ae hi;obtain⟨q,rfl,hq⟩:=(Paired.at hds hv al).on (aK S2);have O:=hn _ (A2 hi);have em:(ds.take (i+1)).foldl iL []=iL ((ds.take i).foldl iL []) ds[i]:=by
    rw[Bk,al,EG];rfl
   rw[em];generalize ds[i]=d at hq O ⊢;generalize (ds.take i).foldl iL []=qs at U af Z ⊢;have ah:=aA1 qs d;have ag:∀ e∈iL qs d,DOk e:=fun e Y=>by
    rcases eB qs with rfl|⟨r,e2,rfl⟩
    .rw[aA0,Ax]at Y;rw[Y];exact O
    .rw[fZ]at Y;split at Y
     .rcases AK.mp Y with Y|Y
      .exact Z e (by simp[Y])
      .rw[Ax.mp Y];exact⟨O.n,O.z,O.s⟩
     .rcases AK.mp Y with Y|Y
      .exact Z e Y
      .rw[Ax.mp Y];exact O
   have bt:=aZ U;refine⟨fun b H3=>bU H2 H3/\(b=false->iL qs d=qs++[d])/\(b=true->∃ G q2 J p2,zs=G++[.ref q2]/\qs=J++[p2]/\AZ (lB H2) G J/\H2 q2=some (.tup (.int p2.1::.int p2.2.1::p2.2.2.map V.str))/\p2.2.2=d.2.2),?_,fun b H3 hb=>?_⟩
   .refine⟨_,rfl,!zs.isEmpty,.inl ⟨zs,aO ad,rfl⟩,?_⟩;rcases eB zs with rfl|⟨G,z,rfl⟩
    .exact dU ⟨bU.refl _,fun _=>by cases U;rfl,fun z=>nomatch z⟩
    .obtain⟨J,p2,rfl,hZ',hzz⟩:=rD U;obtain⟨q2,rfl,hq2⟩:=hzz;rw[show(!(G++[V.ref q2]).isEmpty)=true by cases G<;>rfl];refine iD ?_;refine⟨_,rfl,_,rfl,L,_,-1,_,rfl,rfl,aO ad,oM _ _,_,rfl,q2,_,rfl,hq2,fun r1 G1 S1 e1=>?_⟩;rw[show jA (V.int p2.1::.int p2.2.1::p2.2.2.map V.str) (some 2) none=p2.2.2.map V.str from oX (α:=Unit) _ 2]at e1;refine⟨_,rfl,_,rfl,q,_,rfl,S1 _ _ hq,fun r2 G2 au e2=>?_⟩;rw[show jA (V.int d.1::.int d.2.1::d.2.2.map V.str) (some 2) none=d.2.2.map V.str from oX (α:=Unit) _ 2]at e2;have aI:=au _ _ e1;have o1:=Z p2 (by simp);have bb:RdV false G2 (.ref r1) (.tuple (p2.2.2.map DG)):=.tup aI (by have:=o1.n;rw[Af];omega) (aCp _ o1.z);have a0:RdV false G2 (.ref r2) (.tuple (d.2.2.map DG)):=.tup e2 (by have:=O.n;rw[Af];omega) (aCp _ O.z);refine⟨_,_,_,_,bb,a0,vE _ o1.s,vE _ O.s,?_,?_⟩
     .have:=vD p2.2.2;show ES _+1<=8;omega
     have ee:EO (.tuple (p2.2.2.map DG)) (.tuple (d.2.2.map DG))=decide (p2.2.2=d.2.2):=(show _=D5 _ _ by unfold EO;rfl).trans (rC _ _);rw[ee];refine⟨_,rfl,S1.trans au,fun g2=>?_,fun g2=>?_⟩
     .rw[fZ,Ia (of_decide_eq_false g2)]
     .exact⟨G,q2,J,p2,rfl,rfl,hZ',hq2,Ig g2⟩
   .obtain⟨S3,hbf,hb⟩:=hb;have ae:=S3 _ _ ad;have az:=Paired.mapP U fun _ _ z=>z.on (aK S3);have am:=S3 _ _ hq;cases b with
    | true=>
     obtain⟨G,q2,J,p2,rfl,rfl,hZ',hq2,e2⟩:=hb rfl;have o1:=Z p2 (by simp);refine iD ?_;refine⟨_,rfl,_,rfl,L,_,-1,_,rfl,rfl,aO ae,oM _ _,q2,_,0,_,rfl,rfl,bJ (S3 _ _ hq2),(show atI (V.int p2.1::.int p2.2.1::p2.2.2.map V.str) ((0:Nat):Int)=some (.int p2.1) from f6 rfl),zZ1,fun q4 aC=>?_⟩;have s4:=aH (o:=.tup [V.int p2.1]) aC;have e4:upd H3 q4 (.tup [V.int p2.1]) q4=some (.tup [V.int p2.1]):=aA;generalize upd H3 q4 (.tup [V.int p2.1])=H4 at s4 e4 ⊢;refine⟨_,rfl,_,rfl,q,_,rfl,s4 _ _ am,fun r5 H5 S5 e5=>?_⟩;rw[show jA (V.int d.1::.int d.2.1::d.2.2.map V.str) (some 1) none=V.int d.2.1::d.2.2.map V.str from oX (α:=Unit) _ 1]at e5;refine⟨q4,r5,_,_,rfl,rfl,S5 _ _ e4,e5,(by have:=O.n;simp;omega),fun q6 H6 S6 e6=>?_⟩;have ai:=(s4.trans S5).trans S6;have aq:=ai _ _ ae;refine⟨_,rfl,_,rfl,L,_,-1,G.length,rfl,rfl,aq,?_,?_⟩
     .unfold ixN;rw[Ay,BU,Ia (by decide),Ib (by omega)];congr 1;omega
     .have es:(G++[V.ref q2]).set G.length (.ref q6)=G++[.ref q6]:=by simp
      rw[es];have kt:gU H6 (upd H6 L (.lst (G++[.ref q6]))):=fun b us e=>by
       rw[aF (fun z=>by rw[z,aq]at e;cases e)];exact e
      have ea:iL (J++[p2]) d=J++[(p2.1,d.2.1,d.2.2)]:=by rw[fZ,Ib e2]
      refine⟨_,G++[.ref q6],rfl,fun b o e=>?_,aA,?_,AM ah (EU af),ag⟩
      .rw[aF (aJ e hL)];exact ai _ _ (S3 _ _ (S2 _ _ e))
      .rw[ea];exact Ce ⟨q6,rfl,kt _ _ e6⟩ (Paired.mapP hZ' fun _ _ z=>z.on fun b us e=>kt _ _ (ai _ _ (S3 _ _ e)))
    | false=>
     refine dU ?_;have ea:=hbf rfl;refine⟨_,rfl,.inl ⟨rfl,_,aO ae⟩,_,rfl,L,zs,_,rfl,rfl,ae,(by rw[A6];omega),?_⟩;have kt:gU H3 (upd H3 L (.lst (zs++[.ref q]))):=fun b us e=>by
      rw[aF (fun z=>by rw[z,ae]at e;cases e)];exact e
     refine⟨_,zs++[.ref q],rfl,fun b o e=>?_,aA,?_,AM ah (EU af),ag⟩
     .rw[aF (aJ e hL)];exact S3 _ _ (S2 _ _ e)
     .rw[ea];exact Ce ⟨q,rfl,kt _ _ am⟩ (Paired.mapP az fun _ _ z=>z.on kt)
  .rintro σ H2 ⟨o2,zs,rfl,S2,ad,U,af,Z⟩;rw[aL,Bg]at U;exact⟨_,rfl,k L zs _ S2 ad U⟩
structure i6(z:Str):Prop where
 l:z.length<=1000
 s:FA z=true
def c8:Int->List L4->List D3
 | _,[]=>[]
 | p,l::Ls=>(if d6 l=true then[(p,p+l.2.2.2,[l.1,l.2.1])] else[])++c8 (p+l.2.2.2) Ls
def kU(Fs:List L4)(z:Str):Int:=match c9 (plD 0 Fs) (Ao z)with
 | some (.int p)=>p
 | _=>0
theorem aA2(pl:Str->Int):∀(Ls:List L4) (p:Int),(Ls.map (·.1)).Nodup->(∀ l∈Ls,c9 (plD p Ls) (Ao l.1)=some (.int (pl l.1)))->(Ls.filter d6).map (fun l=>((pl l.1,pl l.1+l.2.2.2,[l.1,l.2.1]):D3))=c8 p Ls
 | [],_,_,_=>rfl
 | l::Ls,p,hn,h=>by
  rw[AF,Bo]at hn;have G:pl l.1=p:=by
   have:=h l Am;unfold plD at this;rw[cU rfl]at this;injection this with this;injection this with this;exact this.symm
  have J:=aA2 pl Ls (p+l.2.2.2) hn.2 fun x F=>by
   have:=h x (Al _ F);unfold plD at this;rw[bX fun z=>hn.1 (by rw[show l.1=x.1 from Ao.inj z];exact DB F)]at this;exact this
  unfold c8;rw[<- J,F4];cases O:d6 l with
  | true=>rw[Ib rfl,Ib rfl,AF,G];rfl
  | false=>rw[Ia Av,Ia Av];rfl
theorem aDs{F:List L4}(hn:(F.map (·.1)).Nodup){l:L4}(hl:l∈F):c9 (plD 0 F) (Ao l.1)=some (.int (kU F l.1)):=by
 obtain⟨i,hi⟩:=BE hl;have:=aDl (p:=0) hn hi;unfold kU;rw[this]
theorem aDt{F:List L4}(hn:(F.map (·.1)).Nodup):(F.filter d6).map (fun l=>((kU F l.1,kU F l.1+l.2.2.2,[l.1,l.2.1]):D3))=c8 0 F:=aA2 (kU F) F 0 hn fun _ hl=>aDs hn hl
theorem rE:∀(ds acc:List D3),(acc++ds).Pairwise (fun a b=>a.2.2≠b.2.2)->ds.foldl iL acc=acc++ds
 | [],acc,_=>(Bp _).symm
 | d::ds,acc,h=>by
  have e:iL acc d=acc++[d]:=by
   rcases eB acc with rfl|⟨r,x,rfl⟩
   .rfl
   .rw[fZ,Ia];have h1:=(Ee.mp h).2.2 x (by simp) d Am;exact h1
  rw[B1,e,rE ds _ (by rw[AW];exact h),AW];rfl
theorem aCq{F:List L4}(hn:(F.map (·.1)).Nodup):iN (c8 0 F)=c8 0 F:=by
 unfold iN;rw[rE _ [] ?_,CS];rw[CS,<- aDt hn,CT];refine EH _ ?_;refine List.Pairwise.imp (R:=fun a b:L4=>a.1≠b.1) (fun{a b} h=>?_) (CT.mp hn);show[a.1,a.2.1]≠[b.1,b.2.1];exact fun z=>h (Hr.inj z).1
noncomputable def dB(m:Mnd)(h:Str):Str:=(rd m h).getLast?.getD h
noncomputable def gG(m:Mnd)(ds:List D3):List D3:=ds.map fun d=>(d.1,d.2.1,[dB m (d.2.2.getD 1 "")])
theorem lT:∀(p:Int) (Ls:List L4),(c8 p Ls).length<=Ls.length
 | _,[]=>Aj _
 | p,l::Ls=>by
  have:=lT (p+l.2.2.2) Ls;unfold c8;rw[Ay,AQ];split<;>simp<;>omega
theorem pJ{d:D3}:∀{p:Int}{Ls:List L4},d∈c8 p Ls->∃ l∈Ls,d.2.2=[l.1,l.2.1]
 | _,[],h=>by simp[c8]at h
 | p,l::Ls,h=>by
  unfold c8 at h;rcases AK.mp h with h|h
  .split at h
   .rw[Ax]at h;exact⟨l,Am,by rw[h]⟩
   .simp at h
  .obtain⟨x,hx,e⟩:=pJ h;exact⟨x,Al _ hx,e⟩
def NmS(Fs:List L4)(m:Mnd):Prop:=(∀ l∈Fs,i6 l.1/\i6 l.2.1)/\∀ l∈Fs,i6 (dB m l.2.1)
theorem aHr{G:List L4}{m:Mnd}(h:NmS G m):∀ d∈c8 0 G,DOk d:=fun d hd=>by
 obtain⟨l,hl,e⟩:=pJ hd;obtain⟨a,b⟩:=h.1 l hl;refine⟨by rw[e];exact Aj _,fun z F=>?_,fun z F=>?_⟩
 .rw[e]at F;simp at F;rcases F with rfl|rfl
  .exact a.l
  .exact b.l
 .rw[e]at F;simp at F;rcases F with rfl|rfl
  .exact a.s
  .exact b.s
theorem aHs{G:List L4}{m:Mnd}(h:NmS G m):∀ d∈gG m (c8 0 G),DOk d:=fun d hd=>by
 obtain⟨x,hx,rfl⟩:=BA.mp hd;obtain⟨l,hl,e⟩:=pJ hx;have:=h.2 l hl;refine⟨by simp,fun z F=>?_,fun z F=>?_⟩
 .rw[e]at F;simp at F;rw[F];exact this.l
 .rw[e]at F;simp at F;rw[F];exact this.s
inductive vF(C T:Ad)(vs:List V)(H:Hp)(Q:VK)(u3_:XK):Prop
 | mk (M:Ad) (A:MA) (Fs:List L4) (m:Mnd) (q0:vs=[.ref M]) (q1:uZ H C M A Fs m) (q2:Tb T H) (q3:(∀ l∈Fs,LOk l)) (q4:(Fs.map (·.1)).Nodup) (q5:Fs.length<=8) (q6:NmS Fs m) (q7:∀ L od (ys:List V) H',dF [A.i,A.h,T] H H'->Tb T H'->H' A.i=some (.frz od (.dK (inD Fs)))->H' L=some (.lst ys)->AZ (lB H') ys (c8 0 Fs)->Q (.ref L) H'):vF C T vs H Q u3_
def aA3(C T:Ad):Sp:=fun vs H Q u3_=>vF C T vs H Q u3_
inductive vG(C T:Ad)(vs:List V)(H:Hp)(Q:VK)(u3_:XK):Prop
 | mk (M:Ad) (A:MA) (Fs:List L4) (m:Mnd) (q0:vs=[.ref M]) (q1:uZ H C M A Fs m) (q2:Tb T H) (q3:(∀ l∈Fs,LOk l)) (q4:(Fs.map (·.1)).Nodup) (q5:Fs.length<=8) (q6:NmS Fs m) (q7:∀ L od (ys:List V) H',dF [A.i,A.h,T] H H'->Tb T H'->H' A.i=some (.frz od (.dK (inD Fs)))->H' L=some (.lst ys)->AZ (lB H') ys (iN (gG m (c8 0 Fs)))->Q (.ref L) H'):vG C T vs H Q u3_
def aA4(C T:Ad):Sp:=fun vs H Q u3_=>vG C T vs H Q u3_
inductive aGh(H:Hp)(v:V)(p:Int×Int):Prop
 | mk (q:_) (q0:v=.ref q) (q1:H q=some (.tup [.int p.1,.int p.2])):aGh H v p
def zR(H:Hp)(v:V)(p:Int×Int):Prop:=aGh H v p
theorem zR.on{H H':Hp}{v:V}{p:Int×Int}(h:zR H v p)(t:gU H H'):zR H' v p:=by
 obtain⟨q,e,h⟩:=h;exact⟨q,e,t _ _ h⟩
def j8(hs:List Str)(ds:List D3):List (Int×Int):=(ds.filter fun d=>decide (d.2.2.headD ""∈hs)).map fun d=>(d.1,d.2.1)
inductive aA5(C T:Ad)(vs:List V)(H:Hp)(Q:VK)(u3_:XK):Prop
 | mk (t:Ad) (Ls:List L4) (rs:List Rw) (hl:Ad) (hs:List Str) (q0:vs=[.ref t,.int rs.length,.ref hl]) (q1:nC H t Ls rs) (q2:H hl=some (.lst (hs.map V.str))) (q3:Tb T H) (q4:(Ls.map (·.1)).Nodup) (q5:(∀ l∈Ls,LOk l)) (q6:Ls.length<=8) (q7:rs.length<=8) (q8:NmS (dC Ls rs).1 (dC Ls rs).2) (q9:∀ r wl (xs:List V) H',dW T H H'->Tb T H'->H' r=some (.tup [.ref wl,.int (inS Ls-1)])->H' wl=some (.lst xs)->AZ (zR H') xs (j8 hs (iN (gG (dC Ls rs).2 (c8 0 (dC Ls rs).1))))->Q (.ref r) H'):aA5 C T vs H Q u3_
def aCr(C T:Ad):Sp:=fun vs H Q u3_=>aA5 C T vs H Q u3_
theorem aGi{S:List L4×Mnd}{r:Rw}(h:∀ l∈S.1,LOk l):∀ l∈(d9 S r).1,LOk l:=fun l hl=>by
 unfold d9 at hl;split at hl
 .exact h l hl
 .obtain⟨x,hx,e⟩:=BA.mp hl;have F:=h x hx;subst e;by_cases z:x.1=r.x
  .rw[Ib z];exact⟨F.a1,F.a2,F.i1,F.i2⟩
  .rw[Ia z];exact F
theorem aDu{Ls:List L4}(h:∀ l∈Ls,LOk l)(rs:List Rw):∀ l∈(dC Ls rs).1,LOk l:=by
 have key:∀(rs:List Rw) (S:List L4×Mnd),(∀ l∈S.1,LOk l)->∀ l∈(rs.foldl d9 S).1,LOk l:=by
  intro rs
  induction rs with
  | nil=>intro S h;exact h
  | cons r rs F=>intro S h;rw[B1];exact F _ (aGi h)
 exact key rs (Ls,[]) h
theorem aDv(Ls:List L4)(rs:List Rw):inS (dC Ls rs).1=inS Ls:=by
 have key:∀(rs:List Rw) (S:List L4×Mnd),inS (rs.foldl d9 S).1=inS S.1:=by
  intro rs
  induction rs with
  | nil=>intro S;rfl
  | cons r rs F=>
   intro S;rw[B1,F];unfold d9;split
   .rfl
   .show inS (gJ S.1 r.x r.y)=inS S.1;unfold inS gJ;rw[DT];congr 1;refine DC fun l _=>?_;show(if l.1=r.x then(l.1,r.y,l.2.2) else l).2.2.2=l.2.2.2;split<;>rfl
 exact key rs (Ls,[])
theorem aCs(hs:List Str)(ds:List D3)(d:D3):j8 hs (ds++[d])=j8 hs ds++if d.2.2.headD ""∈hs then[(d.1,d.2.1)] else[]:=by
 unfold j8;rw[FE,A1];congr 1;by_cases e:d.2.2.headD ""∈hs
 .rw[Ib e,F4,Ib (Ic e)];rfl
 .rw[Ia e,F4,Ia (by simpa using e)];rfl
theorem aA6{ds:List D3}(h:∀ d∈ds,∃ z,d.2.2=[z]):∀ d∈iN ds,∃ z,d.2.2=[z]:=by
 have key:∀(ds F:List D3),(∀ d∈ds,∃ z,d.2.2=[z])->(∀ d∈F,∃ z,d.2.2=[z])->∀ d∈ds.foldl iL F,∃ z,d.2.2=[z]:=by
  intro ds
  induction ds with
  | nil=>intro F _ h;exact h
  | cons x ds G=>
   intro F h1 h2;rw[B1];refine G _ (fun d hd=>h1 d (Al _ hd)) fun d hd=>?_;rcases eB F with rfl|⟨r,e,rfl⟩
   .rw[aA0,Ax]at hd;rw[hd];exact h1 x Am
   .rw[fZ]at hd;split at hd
    .rcases AK.mp hd with hd|hd
     .exact h2 d (by simp[hd])
     .rw[Ax.mp hd];exact h1 x Am
    .rcases AK.mp hd with hd|hd
     .exact h2 d hd
     .rw[Ax.mp hd];exact h1 x Am
 exact key ds [] h fun d hd=>by simp at hd
theorem aA7(ds:List D3):(iN ds).length<=ds.length:=by
 have key:∀(ds F:List D3),(ds.foldl iL F).length<=F.length+ds.length:=by
  intro ds
  induction ds with
  | nil=>intro F;exact Aj _
  | cons x ds G=>
   intro F;rw[B1,AQ];have:=G (iL F x);have:=aA1 F x;omega
 have:=key ds [];simpa[iN]using this
theorem aA8:bG ["moment","first","placed"] ["moment"] (aM sJ):=⟨rfl,rfl,rfl,by decide,rfl,by decide,by decide⟩
theorem aEv{f:Ad}{fd:A4}(F:Fun K "runs_in" "runs_in" sJ f fd){C T:Ad}
  (GF:Cl P w K mg base 2 "first_places" ["moment"] (aDm C))
  (GD:Cl P w K mg base 2 "drawn_together" ["rows"] zQ)
  (GS:Cl P w K mg base 4 "stretches" ["moment"] (aHX C T))
  :cA P w K mg base CX0 5 f fd ["moment"] (aA3 C T):=by
 refine F.ok aA8 (fun vs H Q E h=>?_) (fun bq A outer s H vs Q E hr h=>?_)
 .obtain⟨M,A,Fs,m,rfl,_⟩:=h;rfl
 .obtain⟨M,MA,Fs,m,rfl,mom,hT,hFs,hnn,h8,hnm,k⟩:=h;have ai:cF 2 _:=hr.mono (by decide);have ax:cF 4 _:=hr.mono (by decide);have hu:=oQ hr;have nd:=aA8.nd;refine⟨_,(aE (aX (i:=1) nd rfl (Ej rfl) (dH GF ai (aD (pv 0) aB)))
   (aE (tU (i:=2) (N:=["field","low","high","land","house","first"]) (src:=[none,none,none,none,none,some 1]) (osc:=aM sJ) (oN:=["moment","first","placed"]) (g:=oJ K 5 (cW (aW 0) (cW (aW 1) (cW (aW 2) (cW (aW 3) (cW (aW 4) nO)))))) ⟨by rfl,by decide,by decide,by decide,rfl,by rfl⟩ nd rfl (dO (dH GS ax (aD (pv 0) aB))) (fun cl s H fp df C=>⟨dJ rfl (aQ (aP (i:=0) (show(["field","low","high","land","house","first"]:List Str).Nodup by decide) rfl (AC rfl)) (aQ (aP (i:=1) (show(["field","low","high","land","house","first"]:List Str).Nodup by decide) rfl (AC rfl)) (aQ (aP (i:=2) (show(["field","low","high","land","house","first"]:List Str).Nodup by decide) rfl (AC rfl)) (aQ (aP (i:=3) (show(["field","low","high","land","house","first"]:List Str).Nodup by decide) rfl (AC rfl)) (aQ (aP (i:=4) (show(["field","low","high","land","house","first"]:List Str).Nodup by decide) rfl (AC rfl)) cZ))))),f7,cE (aD (aU cC (e8 hu (pv 5) (pv 0) Ih) (pv 1)) (aD (aU cC (e8 hu (pv 5) (pv 0) Ih) (pv 2)) (aD (pv 3) (aD (pv 4) aB))))⟩))
   (aN (bC (dH GD ai (aD (pv 2) aB)))))),?_⟩
  refine⟨_,rfl,M,MA,Fs,m,rfl,mom,hnn,h8,fun l od H1 hl G eI el=>?_⟩;have ae:=mom.nd;simp only[Bo,An,AO,or_false,not_or]at ae;obtain⟨⟨n1,n2,n3,n4⟩,⟨n5,n6,n7⟩,⟨n8,n9⟩,n10,_⟩:=ae;have nI:∀{b:Ad} {o:HO},H b=some o->(∀ fo,o≠.dK fo)->b∉[MA.i]:=fun{b o} e n z=>by
   have z:b=MA.i:=by simpa using z
   rw[z,mom.i]at e;cases e;exact n _ rfl
  have T1:gU H H1:=fun b us e=>G _ _ (nI e fun _ z=>nomatch z) e;have Y:∀{E:List Ad} {H H':Hp},dF E H H'->Tb T H->(∀{b:Ad} {o:HO},H b=some o->(∀ fo,o≠.dK fo)->(∀ ps,o≠.tbl ps)->b∉E)->(∃ ps,H T=some (.tbl ps)/\T∉E)->Tb T H':=fun{E H H'} kk g nn ⟨ps',hT',nT⟩=>by
   obtain⟨ps,h1,h2,h3⟩:=g.ex;refine⟨ps,kk _ _ nT h1,h2,?_⟩;rcases h3 with z|⟨c',z,z2⟩
   .exact .inl z
   .exact .inr ⟨c',z,kk _ _ (nn z2 (fun _ z=>nomatch z) fun _ z=>nomatch z) z2⟩
  obtain⟨tps,hTt,_⟩:=hT.ex;have ba:Tb T H1:=Y G hT (fun e n _=>nI e n) ⟨tps,hTt,nI hTt fun _ z=>nomatch z⟩;obtain⟨hol,hh,hX⟩:=mom.h;have gh:H1 MA.h=some (.dK hol):=G _ _ (by simpa using n6) hh;have ag:aJQ H1 C M MA Fs m:=⟨G _ _ (nI mom.ins fun _ z=>nomatch z) mom.ins,G _ _ (by simpa using n3) mom.r,⟨hol,gh,Paired.mapP hX fun _ _ z=>z.on T1⟩,G _ _ (by simpa using n8) mom.a,⟨od,eI⟩,G _ _ (by simp;exact fun z=>n10 z.symm) mom.me,mom.nd⟩
  have J:H1 T=some (.tbl tps):=G _ _ (nI hTt fun _ z=>nomatch z) hTt;refine⟨_,rfl,M,MA,Fs,m,rfl,ag,hFs,hnn,h8,ba,fun D xs H2 K2 au eD hS=>?_⟩;have a0:l≠MA.h:=fun z=>by rw[z,hh]at hl;cases hl
  have ap:l≠T:=dL el J (fun z=>nomatch z);have az:H2 l=some (.dK (plD 0 Fs)):=K2 _ _ (by simp[a0,ap]) el;have al:MA.i≠T:=dL eI J (fun z=>nomatch z);have aC:H2 MA.i=some (.frz od (.dK (inD Fs))):=K2 _ _ (by simp[al];exact fun z=>n6 z.symm) eI;have aI:=aZ hS;have bt:=CM d6 Fs;refine⟨D,rfl,⟨_,aO eD⟩,?_⟩;refine fW (K:=K) (xs:=xs) (fun i ys σ' H'=>Ex3 fun(o1 o2 o3:Option V)=>∃(o4 o5:Option V),Aw3 (σ'=[o1,o2,o3,o4,o5,some (.ref l)]) (bU H2 H') (ys.length=i/\AZ (lB H') ys (((Fs.filter d6).map (fun l=>((kU Fs l.1,kU Fs l.1+l.2.2.2,[l.1,l.2.1]):D3))).take i))) ⟨none,none,none,none,none,rfl,bU.refl _,rfl,.nil⟩
   (Bd (by rw[A6];omega)) (fun i ys σ H' p=>by obtain⟨_,_,_,_,_,_,_,e,_⟩:=p;omega) (fun i ys σ H' p=>by obtain⟨_,_,_,_,_,_,S,_⟩:=p;exact aO (S _ _ eD)) ?_ ?_
  .rintro i v ys σ' H3 hv ⟨o1,o2,o3,o4,o5,rfl,S3,aa,hY⟩;have hi:i<(Fs.filter d6).length:=by
    have:=(Ak.mp hv).1;omega
   have af:(Fs.filter d6)[i]?=some (Fs.filter d6)[i]:=Ae hi;obtain⟨q,rfl,hq⟩:=(Paired.at hS hv af).on (aK S3);have Z:=(Cz.mp (A2 hi)).1;have U:=aDs hnn Z;have et:((Fs.filter d6).map (fun l=>((kU Fs l.1,kU Fs l.1+l.2.2.2,[l.1,l.2.1]):D3))).take (i+1)=((Fs.filter d6).map (fun l=>((kU Fs l.1,kU Fs l.1+l.2.2.2,[l.1,l.2.1]):D3))).take i++[(kU Fs (Fs.filter d6)[i].1,kU Fs (Fs.filter d6)[i].1+(Fs.filter d6)[i].2.2.2,[(Fs.filter d6)[i].1,(Fs.filter d6)[i].2.1])]:=by
    rw[Bk,AB,af];rfl
   rw[et];generalize (Fs.filter d6)[i]=x at hq U ⊢;have aj:=S3 _ _ az;refine⟨q,_,rfl,bJ hq,rfl,_,_,rfl,_,_,rfl,_,_,rfl,_,_,rfl,_,_,rfl,rfl,iD ?_⟩;refine⟨_,rfl,_,rfl,l,_,rfl,.inl ⟨_,Ao x.1,.inl aj,rfl,U.symm⟩,_,rfl,_,_,rfl,rfl,_,rfl,_,rfl,l,_,rfl,.inl ⟨_,Ao x.1,.inl aj,rfl,U.symm⟩,_,rfl,_,_,rfl,rfl,_,rfl,_,rfl,zZ4,fun r hr=>?_⟩;have sr:=aH (o:=.tup [V.int (kU Fs x.1+0),.int (kU Fs x.1+x.2.2.2),.str x.1,.str x.2.1]) hr;refine⟨_,_,_,_,_,rfl,S3.trans sr,by rw[Ay,aa];rfl,Ce ⟨r,rfl,?_⟩ (Paired.mapP hY fun _ _ z=>z.on (aK sr))⟩;rw[aA];show some (HO.tup [V.int (kU Fs x.1+0),.int (kU Fs x.1+x.2.2.2),.str x.1,.str x.2.1])=_;rw[D0];rfl
  .rintro ys σ' H3 ⟨o1,o2,o3,o4,o5,rfl,S3,aa,hY⟩ D2 aw;have sD:=aH (o:=.lst ys) aw;have ay:((Fs.filter d6).map (fun l=>((kU Fs l.1,kU Fs l.1+l.2.2.2,[l.1,l.2.1]):D3))).length=xs.length:=by rw[Af];exact aI.symm
   rw[<- ay,Bg,aDt hnn]at hY;have bx:=lT 0 Fs;refine⟨_,rfl,D2,ys,c8 0 Fs,rfl,aA,Paired.mapP hY fun _ _ z=>z.on (aK sD),by omega,aHr hnm,fun L zs H4 S4 eL hZ=>?_⟩;rw[aCq hnn]at hZ;have O:bU H2 H4:=(S3.trans sD).trans S4;refine k L od zs H4 (fun b o n e=>O _ _ (K2 b o (fun z=>n (Al _ z)) (G b o (fun z=>n (by rw[Ax.mp z];exact Am)) e))) (au.same O) (O _ _ aC) eL hZ
theorem vH:bG ["moment"] ["moment"] (aM mJ):=⟨rfl,rfl,rfl,by decide,rfl,by decide,by decide⟩
theorem aA9{f:Ad}{fd:A4}(F:Fun K "tended_in" "tended_in" mJ f fd){C T:Ad}(hc:MC K C)
  (GD:Cl P w K mg base 2 "drawn_together" ["rows"] zQ)
  (GR:Cl P w K mg base 5 "runs_in" ["moment"] (aA3 C T))
  (GO:Cl P w K mg base 1 "road_from" ["menders","house"] aCk)
  :cA P w K mg base CX0 6 f fd ["moment"] (aA4 C T):=by
 refine F.ok vH (fun vs H Q E h=>?_) (fun bc A outer s H vs Q E U h=>?_)
 .obtain⟨M,A,Fs,m,rfl,_⟩:=h;rfl
 .obtain⟨M,MA,Fs,m,rfl,mom,hT,hFs,hnn,h8,hnm,k⟩:=h;have ay:cF 2 _:=U.mono (by decide);have am:cF 5 _:=U.mono (by decide);have ai:cF 1 _:=U.mono (by decide);have nd:=vH.nd;refine⟨_,(aN (bC (dH GD ay (aD (dR (N:=["low","high","land","house","moment"]) (src:=[none,none,none,none,some 0]) (osc:=aM mJ) (oN:=["moment"]) (g:=oJ K 4 (cW (aW 0) (cW (aW 1) (cW (aW 2) (cW (aW 3) nO))))) ⟨by rfl,by decide,by decide,by decide,rfl,by rfl⟩ (dO (dH GR am (aD (pv 0) aB))) (fun cl s H fp df C=>⟨dJ rfl (aQ (aP (i:=0) (show(["low","high","land","house","moment"]:List Str).Nodup by decide) rfl (AC rfl)) (aQ (aP (i:=1) (show(["low","high","land","house","moment"]:List Str).Nodup by decide) rfl (AC rfl)) (aQ (aP (i:=2) (show(["low","high","land","house","moment"]:List Str).Nodup by decide) rfl (AC rfl)) (aQ (aP (i:=3) (show(["low","high","land","house","moment"]:List Str).Nodup by decide) rfl (AC rfl)) cZ)))),f7,cE (aD (pv 0) (aD (pv 1) (aD (bO (r:=yM K) bW (dH GO ai (aD (aDc (K:=K) (pv 4)) (aD (pv 3) aB))) (wH pT aG) Ih) aB)))⟩)) aB)))),_,rfl,M,MA,Fs,m,rfl,mom,hT,hFs,hnn,h8,hnm,fun D od xs H2 K2 an av eD hS=>?_⟩;have Y:=mom.nd;simp only[Bo,An,AO,or_false,not_or]at Y;obtain⟨⟨n1,n2,n3,n4⟩,⟨n5,n6,n7⟩,⟨n8,n9⟩,n10,_⟩:=Y;obtain⟨hol,hh,hX⟩:=mom.h;obtain⟨tps,hTt,_⟩:=hT.ex;have gM:H2 M=some (.ins C MA.dx (rW MA)):=K2 _ _ (by
   have a:=dL mom.ins mom.i (fun z=>nomatch z);have b:=dL mom.ins hh (fun z=>nomatch z);have c:=dL mom.ins hTt (fun z=>nomatch z);simp[a,b,c]) mom.ins
  have aq:H2 MA.me=some (.dK m):=K2 _ _ (by
   have c:=dL mom.me hTt (fun z=>nomatch z);simp[c];exact⟨fun z=>n10 z.symm,fun z=>n7 z.symm⟩) mom.me
  have aw:=aZ hS;have bh:=lT 0 Fs;refine⟨D,rfl,⟨_,aO eD⟩,?_⟩;refine fW (K:=K) (xs:=xs) (fun i ys σ' H'=>Ex3 fun(o1 o2 o3:Option V)=>∃(o4:Option V),Aw3 (σ'=[o1,o2,o3,o4,some (.ref M)]) (bU H2 H') (ys.length=i/\AZ (lB H') ys ((gG m (c8 0 Fs)).take i))) ⟨none,none,none,none,rfl,bU.refl _,rfl,.nil⟩
   (Bd (by rw[A6];omega)) (fun i ys σ H' p=>by obtain⟨_,_,_,_,_,_,e,_⟩:=p;omega) (fun i ys σ H' p=>by obtain⟨_,_,_,_,_,S,_⟩:=p;exact aO (S _ _ eD)) ?_ ?_
  .rintro i v ys σ' H3 hv ⟨o1,o2,o3,o4,rfl,J,O,hY⟩;have hi:i<(c8 0 Fs).length:=by
    have:=(Ak.mp hv).1;omega
   have Z:(c8 0 Fs)[i]?=some (c8 0 Fs)[i]:=Ae hi;obtain⟨q,rfl,hq⟩:=(Paired.at hS hv Z).on (aK J);obtain⟨l,hlm,el⟩:=pJ (A2 hi);have et:(gG m (c8 0 Fs)).take (i+1)=(gG m (c8 0 Fs)).take i++[((c8 0 Fs)[i].1,(c8 0 Fs)[i].2.1,[dB m l.2.1])]:=by
    unfold gG;rw[Bk,AB,Z];show _++[((c8 0 Fs)[i].1,(c8 0 Fs)[i].2.1,[dB m ((c8 0 Fs)[i].2.2.getD 1 "")])]=_;rw[el];rfl
   rw[et];rw[el]at hq;generalize (c8 0 Fs)[i].1=lo at hq ⊢;generalize (c8 0 Fs)[i].2.1=ah at hq ⊢;refine⟨q,_,rfl,bJ hq,rfl,_,_,rfl,_,_,rfl,_,_,rfl,_,_,rfl,rfl,iD ?_⟩;obtain⟨r0,x0,ex0,_⟩:=(mom.ac.rd l.2.1).keys;have ag:dB m l.2.1=x0:=by
    unfold dB;rw[ex0,List.getLast?_append];rfl
   refine⟨_,rfl,_,rfl,_,rfl,M,C,_,_,_,rfl,J _ _ gM,hc.cl,hc.m,rfl,_,rfl,MA.me,l.2.1,m,rfl,J _ _ aq,mom.ac,(by have:=mom.ml;omega),fun L H4 hL S4 eL=>?_⟩;rw[ex0,A1]at eL;refine⟨_,rfl,L,_,-1,_,rfl,rfl,aO eL,oM _ _,zZ3,fun r U=>?_⟩;have sr:=aH (o:=.tup [V.int lo,.int ah,.str x0]) U;refine⟨_,_,_,_,rfl,(J.trans S4).trans sr,by rw[Ay,O];rfl,Ce ⟨r,rfl,?_⟩ (Paired.mapP hY fun _ _ z=>z.on (aK (S4.trans sr)))⟩;rw[aA,ag];rfl
  .rintro ys σ' H3 ⟨o1,o2,o3,o4,rfl,J,O,hY⟩ D2 ap;have sD:=aH (o:=.lst ys) ap;have ar:(gG m (c8 0 Fs)).length=xs.length:=by unfold gG;rw[Af];exact aw.symm
   rw[<- ar,Bg]at hY;refine⟨D2,ys,gG m (c8 0 Fs),rfl,aA,Paired.mapP hY fun _ _ z=>z.on (aK sD),by omega,aHs hnm,fun L zs H4 S4 eL hZ=>?_⟩;have G:bU H2 H4:=(J.trans sD).trans S4;exact k L od zs H4 (fun b o n e=>G _ _ (K2 b o n e)) (an.same G) (G _ _ av) eL hZ
theorem aBa:bG ["roll","at","houses","moment","wanted"] ["roll","at","houses"] (aM sK):=⟨rfl,rfl,rfl,by decide,rfl,by decide,by decide⟩
theorem aEw{f:Ad}{fd:A4}(F:Fun K "view_of" "view_of" sK f fd){C T:Ad}(hc:MC K C)(ag:mg "sum"=none)
  (GB:Cl P w K mg base 7 "moment_behind" ["roll","at"] (aAW C))
  (GN:Cl P w K mg base 6 "tended_in" ["moment"] (aA4 C T))
  :cA P w K mg base CX0 8 f fd ["roll","at","houses"] (aCr C T):=by
 refine F.ok aBa (fun vs H Q E h=>?_) (fun bn A outer s H vs Q E Z h=>?_)
 .obtain⟨t,Ls,rs,hl,hs,rfl,_⟩:=h;rfl
 .obtain⟨t,Ls,rs,hl,hs,rfl,roll,hhl,hT,hnn,hFs,h8,r8,hnm,k⟩:=h;have aT:cF 7 _:=Z.mono (by decide);have aC:cF 6 _:=Z.mono (by decide);have nd:=aBa.nd;refine⟨_,(aE (aX (i:=3) nd rfl (AC rfl) (dH GB aT (aD (pv 0) (aD (pv 1) aB))))
   (aE (tU (i:=4) (N:=["low","high","house","houses"]) (src:=[none,none,none,some 2]) (osc:=aM sK) (oN:=["roll","at","houses","moment","wanted"]) (g:=oJ K 3 (cW (aW 0) (cW (aW 1) (cW (aW 2) nO)))) ⟨by rfl,by decide,by decide,by decide,rfl,by rfl⟩ nd rfl (dO (dH GN aC (aD (pv 3) aB))) (fun cl s H fp df C=>⟨dJ rfl (aQ (aP (i:=0) (show(["low","high","house","houses"]:List Str).Nodup by decide) rfl (AC rfl)) (aQ (aP (i:=1) (show(["low","high","house","houses"]:List Str).Nodup by decide) rfl (AC rfl)) (aQ (aP (i:=2) (show(["low","high","house","houses"]:List Str).Nodup by decide) rfl (AC rfl)) cZ))),lX (cG (r:=rIn K false) wP (pv 2) (pv 3) (by with_unfolding_all rfl)),cE (aD (pv 0) (aD (pv 1) aB))⟩))
   (aN (bC (cE (aD (pv 4) (aD (aU iV (aV (aEm rfl) (by rfl) ag PyProof.Rows.boot_sum (aD (aCb (eU (pv 3) rfl)) aB)) aG) aB))))))),?_⟩
  refine⟨_,rfl,_,rfl,t,Ls,rs,rfl,roll,hnn,h8,r8,fun M MA H1 S1 G nh ni=>?_⟩;have U:(dC Ls rs).1.map (·.1)=Ls.map (·.1):=jP _ _
  have an:=aDu hFs rs;have au:(dC Ls rs).1.length=Ls.length:=by
   have:=congrArg CU U;rw[Af,Af]at this;exact this
  have ai:inS (dC Ls rs).1=inS Ls:=aDv Ls rs;generalize (dC Ls rs).1=O at *;generalize (dC Ls rs).2=m at *;refine⟨_,rfl,M,MA,O,m,rfl,G,hT.same S1,an,by rw[U];exact hnn,by omega,hnm,fun D od xs H2 K2 aI al eD hS=>?_⟩;have ST:dW T H H2:=fun b o nb e=>K2 b o (fun z=>by
   simp at z;rcases z with z|z|z
   .rw[z,ni]at e;cases e
   .rw[z,nh]at e;cases e
   .exact nb z) (S1 _ _ e)
  have a0:=aZ hS;have bq:=aA7 (gG m (c8 0 O));have bh:(gG m (c8 0 O)).length=(c8 0 O).length:=by unfold gG;rw[Af]
  have br:=lT 0 O;have ao:∀ d∈iN (gG m (c8 0 O)),∃ z,d.2.2=[z]:=aA6 fun d hd=>by
   obtain⟨x,_,rfl⟩:=BA.mp hd;exact⟨_,rfl⟩
  have gM:H2 M=some (.ins C MA.dx (rW MA)):=by
   obtain⟨tps,hTt,_⟩:=(hT.same S1).ex;obtain⟨hol,hh,_⟩:=G.h;have a:=dL G.ins G.i (fun z=>nomatch z);have b:=dL G.ins hh (fun z=>nomatch z);have c:=dL G.ins hTt (fun z=>nomatch z);exact K2 _ _ (by simp[a,b,c]) G.ins
  generalize iN (gG m (c8 0 O))=ds at *;have aj:H2 hl=some (.lst (hs.map V.str)):=by
   obtain⟨tps,hTt,_⟩:=hT.ex;exact ST _ _ (dL hhl hTt (fun z=>nomatch z)) hhl
  refine⟨D,rfl,⟨_,aO eD⟩,?_⟩;refine fW (K:=K) (xs:=xs) (fun i ys σ' H'=>Ex3 fun(o1 o2 o3:Option V)=>Aw3 (σ'=[o1,o2,o3,some (.ref hl)]) (bU H2 H') (ys.length<=i/\AZ (zR H') ys (j8 hs (ds.take i)))) ⟨none,none,none,rfl,bU.refl _,Aj _,.nil⟩
   (Bd (by rw[A6];omega)) (fun i ys σ H' p=>by obtain⟨_,_,_,_,_,e,_⟩:=p;exact e) (fun i ys σ H' p=>by obtain⟨_,_,_,_,S,_⟩:=p;exact aO (S _ _ eD)) ?_ ?_
  .rintro i v ys σ' H3 hv ⟨o1,o2,o3,rfl,S3,Y,hY⟩;have hi:i<ds.length:=by
    have:=(Ak.mp hv).1;omega
   have am:ds[i]?=some ds[i]:=Ae hi;obtain⟨q,rfl,hq⟩:=(Paired.at hS hv am).on (aK S3);obtain⟨z,hz⟩:=ao _ (A2 hi);have et:j8 hs (ds.take (i+1))=j8 hs (ds.take i)++if z∈hs then[(ds[i].1,ds[i].2.1)] else[]:=by
    rw[Bk,am];show j8 hs (_++[ds[i]])=_;rw[aCs,hz];rfl
   rw[et];rw[hz]at hq;generalize ds[i].1=lo at hq ⊢;generalize ds[i].2.1=aw at hq ⊢;refine⟨q,_,rfl,bJ hq,rfl,_,_,rfl,_,_,rfl,_,_,rfl,rfl,_,rfl,_,rfl,hl,_,rfl,.inl (aO (S3 _ _ aj)),rfl,qJ _,_,rfl,?_⟩;rw[show(if false=true then !inV (V.str z) (hs.map V.str) else inV (V.str z) (hs.map V.str))=decide (z∈hs) from(Ia Av).trans (zN z hs)];by_cases e:z∈hs
   .rw[Ic e,Ib e];refine iD ?_;refine⟨_,rfl,_,rfl,zZ2,fun r Z=>?_⟩;have sr:=aH (o:=.tup [V.int lo,.int aw]) Z;exact⟨_,_,_,rfl,S3.trans sr,by rw[Ay];exact EU Y,Ce ⟨r,rfl,aA⟩ (Paired.mapP hY fun _ _ z=>z.on (aK sr))⟩
   .rw[Ie e,Ia e,Bp];refine dU ?_;exact⟨_,_,_,rfl,S3,FZ Y,hY⟩
  .rintro ys σ' H3 ⟨o1,o2,o3,rfl,S3,Y,hY⟩ D2 aL;have sD:=aH (o:=.lst ys) aL;rw[a0,Bg]at hY;have J:bU H2 (upd H3 D2 (.lst ys)):=S3.trans sD;have ak:=Paired.mapP hY fun _ _ z=>z.on (aK sD);have e2:upd H3 D2 (.lst ys) D2=some (.lst ys):=aA;generalize upd H3 D2 (.lst ys)=H4 at J ak e2 ⊢;refine⟨_,rfl,_,rfl,M,C,_,_,_,rfl,J _ _ gM,hc.cl,hc.i,rfl,MA.i,_,rfl,.inr ⟨od,J _ _ al⟩,fun v hv=>?_⟩;have sv:=aH (o:=aAv v MA.i) hv;refine⟨v,MA.i,inD O,O.map fun l=>l.2.2.2,rfl,aA,.inr ⟨od,sv _ _ (J _ _ al)⟩,by unfold inD;rw[DT,DT];rfl,_,_,rfl,rfl,zZ2,fun r Z=>?_⟩;have sr:=aH (o:=.tup [V.ref D2,.int ((O.map fun l=>l.2.2.2).sum-1)]) Z;have af:=(J.trans sv).trans sr;refine k r D2 ys _ (ST.trans af.butT) (aI.same af) ?_ (sr _ _ (sv _ _ e2)) (Paired.mapP ak fun _ _ z=>z.on (aK (sv.trans sr)));rw[aA,<- ai];rfl
abbrev Pr:=Int×Int
def Cov(W:List Pr)(p:Int):Prop:=∃ s∈W,s.1<=p/\p<s.2
def dY:List Pr->Int->Option Int
 | [],_=>none
 | s::W,p=>if p<s.2 then some (if p>s.1 then p else s.1) else dY W p
structure zS(W:List Pr):Prop where
 pw:W.Pairwise fun a b=>a.2<=b.1
 ok:∀ s∈W,s.1<s.2
def Nx(C:Int->Prop)(p:Int):Option Int->Prop
 | some q=>C q/\p<=q/\∀ r,p<=r->r<q->¬ C r
 | none=>∀ r,p<=r->¬ C r
theorem pK:∀{W:List Pr} (h:zS W) (p:Int),Nx (Cov W) p (dY W p)
 | [],_,p=>fun r _ ⟨s,hs,_⟩=>by simp at hs
 | s::W,h,p=>by
  obtain⟨h1,h2⟩:=Cg.mp h.pw;have hs:=h.ok s Am;unfold dY;by_cases e:p<s.2
  .rw[Ib e];refine⟨⟨s,Am,by split<;>omega,by split<;>omega⟩,by split<;>omega,fun r G Y ⟨t,ht,O,J⟩=>?_⟩;rcases An.mp ht with rfl|ht
   .split at Y<;>omega
   .have:=h1 t ht;split at Y<;>omega
  .rw[Ia e];have U:=pK (W:=W) ⟨h2,fun t ht=>h.ok t (Al _ ht)⟩ p;have F:∀ r,p<=r->Cov (s::W) r->Cov W r:=fun r G ⟨t,ht,O,J⟩=>by
    rcases An.mp ht with rfl|ht
    .exact absurd J (by omega)
    .exact⟨t,ht,O,J⟩
   cases q:dY W p with
   | none=>
    rw[q]at U;exact fun r G hc=>U r G (F r G hc)
   | some x=>
    rw[q]at U;obtain⟨⟨t,ht,O,J⟩,i2,i3⟩:=U;exact⟨⟨t,Al _ ht,O,J⟩,i2,fun r G Z hc=>i3 r G Z (F r G hc)⟩
theorem zU{C:Int->Prop}{p:Int}:∀{o o':Option Int},Nx C p o->Nx C p o'->o=o'
 | none,none,_,_=>rfl
 | none,some q,h,h'=>absurd h'.1 (h q h'.2.1)
 | some q,none,h,h'=>absurd h.1 (h' q h.2.1)
 | some q,some F,h,h'=>by
  rcases Int.lt_trichotomy q F with z|z|z
  .exact absurd h.1 (h'.2.2 q h.2.1 z)
  .rw[z]
  .exact absurd h'.1 (h.2.2 F h'.2.1 z)
theorem lU{W:List Pr}(h:zS W){p:Int}{o:Option Int}(n:Nx (Cov W) p o):dY W p=o:=zU (pK h p) n
inductive GrP(C:Int->Prop)(s:Int):List Int->Int->Prop
 | nil:GrP C s [] 0
 | snoc {l:List Int} {b q:Int} (g:GrP C s l b) (n:Nx C b (some q)):GrP C s (l++[q]) (q+2*s+1)
section
variable{C:Int->Prop}{s:Int}
theorem pL{l:List Int}{b:Int}(g:GrP C s l b):∀{F:List Int}{G:Int},GrP C s F G->l.length=F.length->l=F/\b=G:=by
 induction g with
 | nil=>
  intro F G g' h;cases g' with
  | nil=>exact⟨rfl,rfl⟩
  | snoc g n=>simp at h
 | @snoc l b q g n U=>
  intro F G g' h;cases g' with
  | nil=>simp at h
  | @snoc J Y Z g2 O=>
   have hl:l.length=J.length:=by simpa using h
   obtain⟨rfl,rfl⟩:=U g2 hl;have:=zU n O;injection this with this;subst this;exact⟨rfl,rfl⟩
theorem lV{l:List Int}{b:Int}(g:GrP C s l b)(n:Nx C b none){F:List Int}{O:Int}(g':GrP C s F O):F.length<=l.length:=by
 induction g' with
 | nil=>exact AV _
 | @snoc G U Z g2 J Y=>
  rw[Ay,BU];rcases B4 G.length l.length with z|z
  .exact z
  .obtain⟨rfl,rfl⟩:=pL g2 g (by omega);exact absurd (zU n J) (fun z=>nomatch z)
inductive aDw(C:Int->Prop)(s:Int):Prop
 | mk (l:_) (b:_) (q0:GrP C s l b) (q1:l.length<=300) (q2:Nx C b none):aDw C s
def aHZ(C:Int->Prop)(s:Int):Prop:=aDw C s
inductive aGj(C:Int->Prop)(s:Int):Prop
 | mk (l:_) (b:_) (q0:GrP C s l b) (q1:301<=l.length):aGj C s
def aEx(C:Int->Prop)(s:Int):Prop:=aGj C s
structure GrI(C:Int->Prop)(s:Int)(l:List Int)(b:Int):Prop where
 c:∀ q∈l,C q/\0<=q/\q+2*s+1<=b
 pw:l.Pairwise fun x y=>x+2*s<y
 b0:0<=b
theorem GrP.info(hs:0<=s){l:List Int}{b:Int}(g:GrP C s l b):GrI C s l b:=by
 induction g with
 | nil=>exact⟨fun q J=>by simp at J,BZ,B2 _⟩
 | @snoc l b q g n G=>
  obtain⟨n1,n2,n3⟩:=n;have hb:=G.b0;refine⟨fun x F=>?_,Ee.mpr ⟨G.pw,ER _ _,fun x F y O=>?_⟩,by omega⟩
  .rcases AK.mp F with F|F
   .obtain⟨a,b',c⟩:=G.c x F;exact⟨a,b',by omega⟩
   .rw[Ax.mp F];exact⟨n1,by omega,by omega⟩
  .rw[Ax.mp O];have:=(G.c x F).2.2;omega
theorem aDx(hs:0<=s){l:List Int}{b B hi:Int}(g:GrP C s l b)(hb:b<=B)(hn:∀ r,b<=r->r<B->¬ C r)(hc:∀ r,B<=r->r<hi->C r):∀ k:Nat,(k:Int)*(2*s+1)<hi-B+(2*s+1)->∃ O G,GrP C s O G/\O.length=l.length+k/\(k=0->G=b)/\(k≠0->G=B+(k:Int)*(2*s+1))
 | 0,_=>⟨l,b,g,rfl,fun _=>rfl,fun z=>absurd rfl z⟩
 | k+1,h=>by
  have e1:((k+1:Nat):Int)*(2*s+1)=(k:Int)*(2*s+1)+(2*s+1):=by
   rw[Int.natCast_add,He];simp
  rw[e1]at h;have U:0<=(k:Int)*(2*s+1):=Dp (Ey _) (by omega);obtain⟨O,G,g',hl,h0,h1⟩:=aDx hs g hb hn hc k (by omega);by_cases J:k=0
  .have F:=h0 J;subst F;have Y:(k:Int)*(2*s+1)=0:=by rw[J];simp
   refine⟨_,_,.snoc g' (q:=B) ⟨hc B (B2 _) (by omega),hb,hn⟩,by rw[Ay,hl,J];rfl,fun z=>absurd z (Gb _),fun _=>?_⟩;rw[e1];omega
  .have F:=h1 J;subst F;refine⟨_,_,.snoc g' (q:=B+(k:Int)*(2*s+1)) ⟨hc _ (by omega) (by omega),B2 _,fun r a b=>absurd a (by omega)⟩,by rw[Ay,hl];rfl,fun z=>absurd z (Gb _),fun _=>?_⟩;rw[e1];omega
structure aBb(S:List Pr)(s:Int)(i:Nat)(found:Int)(B:Int):Prop where
 f0:0<=found
 b0:0<=B
 c:(found<301/\∃ l b,GrP (Cov S) s l b/\(l.length:Int)=found/\b<=B/\(∀ r,b<=r->r<B->¬ Cov S r)/\∀ t∈S.take i,t.2<=B)\/(301<=found/\aEx (Cov S) s)
theorem aCt(S:List Pr)(s:Int):aBb S s 0 0 0:=⟨B2 _,B2 _,.inl ⟨by decide,[],0,.nil,rfl,B2 _,fun r a b=>absurd a (by omega),fun t ht=>by simp at ht⟩⟩
def pM(s : Int)(st : Int×Int)(t : Pr) : Int×Int :=
  if (if t.1>st.2 then t.1 else st.2)<t.2 /\ st.1<301 then
    (st.1+(if (t.2-(if t.1>st.2 then t.1 else st.2)+2*s)/(2*s+1)<301 then(t.2-(if t.1>st.2 then t.1 else st.2)+2*s)/(2*s+1) else 301),
     (if t.1>st.2 then t.1 else st.2)+(if (t.2-(if t.1>st.2 then t.1 else st.2)+2*s)/(2*s+1)<301 then(t.2-(if t.1>st.2 then t.1 else st.2)+2*s)/(2*s+1) else 301)*(2*s+1))
  else(st.1, if t.1>st.2 then t.1 else st.2)
theorem aEy(hs:0<=s){S:List Pr}(hS:S.Pairwise fun a b=>a.1<=b.1){i:Nat}{t:Pr}(ht:S[i]?=some t){st:Int×Int}(h:aBb S s i st.1 st.2):aBb S s (i+1) (pM s st t).1 (pM s st t).2:=by
 obtain⟨f0,b0,hcase⟩:=h;obtain⟨found,B⟩:=st;dsimp only at f0 b0 hcase;unfold pM;dsimp only;obtain⟨G,hB'⟩:∃ G,G=if t.1>B then t.1 else B:=⟨_,rfl⟩
 rw[<- hB'];have ao:B<=G:=by rw[hB'];split<;>omega
 have ap:t.1<=G:=by rw[hB'];split<;>omega
 have af:G=B\/G=t.1:=by rw[hB'];split<;>simp
 clear hB';have O:=(Ak.mp ht)
 have J:∀ x∈S.take (i+1),x∈S.take i\/x=t:=fun x F=>by
  rw[Bk,ht]at F;rcases AK.mp F with F|F
  .exact .inl F
  .exact .inr (by simpa using F)
 rcases hcase with⟨hf,l,b,g,hl,hb,hn,hd⟩|⟨hf,hL⟩
 .have Y:∀ r,b<=r->r<G->¬ Cov S r:=fun r h1 h2 ⟨x,F,x1,x2⟩=>by
   rcases Dc r B with z|z
   .exact hn r h1 z ⟨x,F,x1,x2⟩
   .rcases af with e|e
    .omega
    .obtain⟨j,hj,rfl⟩:=AR.mp F;rcases B4 j i with y|y
     .have:=hd S[j] (by rw[AR];exact⟨j,by rw[Bm];omega,by rw[Dg]⟩);omega
     .have:t.1<=S[j].1:=by
       rcases B4 i j with y2|y2
       .have:=Bc.mp hS i j O.1 hj y2;rw[O.2]at this;exact this
       .have:i=j:=by omega
        subst this;rw[O.2];exact B2 _
      omega
  by_cases hc:G<t.2/\found<301
  .rw[Ib hc];dsimp only;have hm:0<2*s+1:=by omega
   obtain⟨N,hN⟩:∃ N,N=(t.2-G+2*s)/(2*s+1):=⟨_,rfl⟩
   rw[<- hN];have ah:=Int.ediv_mul_le (t.2-G+2*s) (show 2*s+1≠0 by omega);have ad:=Int.lt_ediv_add_one_mul_self (t.2-G+2*s) hm;rw[<- hN]at ah ad;have ak:0<N:=by
    rcases Dc 0 N with z|z
    .exact z
    .exfalso;have:(N+1)*(2*s+1)<=1*(2*s+1):=B5 (by omega) (by omega);omega
   rw[He,Int.one_mul]at ad;have aa:∀ r,G<=r->r<t.2->Cov S r:=fun r h1 h2=>⟨t,by rw[<- O.2];exact A2 _,by omega,h2⟩
   obtain⟨K,hK⟩:∃ K:Nat,(K:Int)=if N<301 then N else 301:=⟨(if N<301 then N else 301).toNat,by rw[Fx];split<;>omega⟩
   rw[<- hK];have ae:(K:Int)<=N:=by rw[hK];split<;>omega
   have Z:K≠0:=by
    intro z;rw[z]at hK;split at hK<;>omega
   have al:(K:Int)*(2*s+1)<=N*(2*s+1):=B5 ae (by omega);obtain⟨l',b',g',hl',_,hb'⟩:=aDx hs g (by omega:b<=G) Y aa K (by omega);have an:0<=(K:Int)*(2*s+1):=Dp (Ey _) (by omega);refine⟨by omega,by omega,?_⟩;by_cases U:found+K<301
   .refine .inl ⟨U,l',b',g',by omega,by rw[hb' Z];exact B2 _,fun r h1 h2=>absurd h1 (by rw[hb' Z];omega),fun x F=>?_⟩;have ag:(K:Int)=N:=by
     rw[hK];split
     .rfl
     .rw[hK,Ia (by assumption)]at U;omega
    rcases J x F with F|rfl
    .have:=hd x F;omega
    .rw[ag];omega
   .exact .inr ⟨by omega,l',b',g',by omega⟩
  .rw[Ia hc];refine⟨f0,by omega,.inl ⟨hf,l,b,g,hl,by omega,Y,fun x F=>?_⟩⟩;dsimp only;rcases J x F with F|rfl
   .have:=hd x F;omega
   .rcases Dc G x.2 with z|z
    .exact absurd ⟨z,hf⟩ hc
    .exact z
 .rw[Ia (fun z=>absurd z.2 (by omega))];exact⟨f0,by show(0:Int)<=G;omega,.inr ⟨hf,hL⟩⟩
theorem aGk{S:List Pr}{F B:Int}(h:aBb S s S.length F B):(F<=300->aHZ (Cov S) s)/\(300<F->aEx (Cov S) s):=by
 obtain⟨f0,b0,⟨hf,l,b,g,hl,hb,hn,hd⟩|⟨hf,hL⟩⟩:=h
 .refine⟨fun _=>⟨l,b,g,by omega,fun r U ⟨x,G,J,O⟩=>?_⟩,fun z=>absurd z (by omega)⟩;rcases Dc r B with z|z
  .exact hn r U z ⟨x,G,J,O⟩
  .have:=hd x (by rw[Bg];exact G);omega
 .exact⟨fun z=>absurd z (by omega),fun _=>hL⟩
end
def wC:Option Int->V
 | some q=>.int q
 | none=>.non
inductive vI(vs:List V)(H:Hp)(Q:VK)(u3_:XK):Prop
 | mk (wl:Ad) (p:Int) (xs:List V) (W:List Pr) (q0:vs=[.ref wl,.int p]) (q1:H wl=some (.lst xs)) (q2:AZ (zR H) xs W) (q3:W.length<=8) (q4:Q (wC (dY W p)) H):vI vs H Q u3_
def pN:Sp:=fun vs H Q u3_=>vI vs H Q u3_
abbrev aKE(K:Ag)(D:Ad):Prop:=PySem.W.excIn K D [.type "ValueError",.type "Exception",.type "BaseException",.type "object"] "ValueError.__new__"=true
def post(last s q:Int):Int:=if last<q+s then last else q+s
inductive vJ(DM:Ad)(vs:List V)(H:Hp)(Q:VK)(E:XK):Prop
 | mk (wl:Ad) (last s:Int) (xs:List V) (W:List Pr) (q0:vs=[.ref wl,.int last,.int s]) (q1:H wl=some (.lst xs)) (q2:AZ (zR H) xs W) (q3:W.length<=8) (q4:zS W) (q5:0<=s) (q6:(∀(l:List Int) b t p a H',GrP (Cov W) s l b->Nx (Cov W) b none->l.length<=300->bU H H'->H' t=some (.tup [.ref p,.ref a])->H' p=some (.lst ((l.map (post last s)).map V.int))->H' a=some (.lst (l.map V.int))->Q (.ref t) H')) (q7:(∀ H',bU H H'->aEx (Cov W) s->E (.ref DM) none H')):vJ DM vs H Q E
def vK(DM:Ad):Sp:=fun vs H Q E=>vJ DM vs H Q E
inductive aBc(vs:List V)(H:Hp)(Q:VK)(u3_:XK):Prop
 | mk (i:Int) (q0:vs=[.int i]) (q1:Q (.bl true) H):aBc vs H Q u3_
def aGl:Sp:=fun vs H Q u3_=>aBc vs H Q u3_
inductive xL(vs:List V)(H:Hp)(Q:VK)(u3_:XK):Prop
 | mk (i lo hi:Int) (q0:vs=[.int i,.int lo,.int hi]) (q1:Q (.bl (decide (lo<=i)&&decide (i<=hi))) H):xL vs H Q u3_
def aDy:Sp:=fun vs H Q u3_=>xL vs H Q u3_
inductive vL(vs:List V)(H:Hp)(Q:VK)(u3_:XK):Prop
 | mk (p:Ad) (ns:List Int) (q0:vs=[.ref p]) (q1:H p=some (.lst (ns.map V.int))) (q2:ns.Pairwise (·<·)) (q3:ns.length<=1000) (q4:∀ H',bU H H'->Q (.bl true) H'):vL vs H Q u3_
def aBd:Sp:=fun vs H Q u3_=>vL vs H Q u3_
theorem rF{W:List Pr}{p:Int}{i:Nat}(h:∀ t∈W.take i,¬ p<t.2):dY W p=dY (W.drop i) p:=by
 induction W generalizing i with
 | nil=>simp
 | cons t W G=>
  cases i with
  | zero=>rfl
  | succ i=>
   rw[List.drop_succ_cons];rw[Ft]at h;have h1:=h t Am;show(if p<t.2 then _ else dY W p)=_;rw[Ia h1];exact G fun x F=>h x (Al _ F)
theorem rG{F ns:List Int}(O:F.Perm (qY ns))(hs:F.Pairwise (·<=·))(hn:ns.Pairwise (·<·)):F=ns:=by
 have G:ns.Nodup:=hn.imp fun h=>by omega
 have J:F.Perm ns:=O.trans ((List.perm_ext_iff_of_nodup (qZ ns) G).mpr fun x=>aEq ns x);exact List.Perm.eq_of_pairwise (le:=(·<=·)) (fun a b _ _ x y=>Int.le_antisymm x y) hs (hn.imp fun h=>Int.le_of_lt h) J
theorem nE:bG ["wanted","place","low","high"] ["wanted","place"] (aM kO):=⟨rfl,rfl,rfl,by decide,rfl,by decide,by decide⟩
theorem aEz{f:Ad}{fd:A4}(F:Fun K "first_wanted" "first_wanted" kO f fd)(J:mg "max"=none)
  :cA P w K mg base CX0 1 f fd ["wanted","place"] pN:=by
 refine F.ok nE (fun vs H Q E h=>?_) (fun ae A outer s H vs Q E hr h=>?_)
 .obtain⟨wl,p,xs,W,rfl,_⟩:=h;rfl
 .obtain⟨wl,p,xs,W,rfl,hwl,hW,h8,k⟩:=h;have nd:=nE.nd;refine⟨_,(aE (fO Bz rfl (dO (pv 0)) (g:=oJ K 2 (cW (aW 2) (cW (aW 3) nO))) (dJ rfl (aQ (aP (i:=2) nd rfl (AC rfl)) (aQ (aP (i:=3) nd rfl (AC rfl)) cZ)))
   (aN (dN (cG qN (pv 1) (pv 3) (cH _)) (aN (bC (aV (pU rfl) (by rfl) J (by kernel_rfl) (aD (pv 2) (aD (pv 1) aB))))) cN)))
   (aN (bC aBD))),?_⟩
  have Z:=aZ hW;refine⟨_,rfl,wl,rfl,⟨_,aO hwl⟩,?_⟩;refine hJ (K:=K) (xs:=xs) (fun i σ H'=>∃(U Y:Option V),σ=[some (.ref wl),some (.int p),U,Y]/\H'=H/\∀ t∈W.take i,¬ p<t.2) ⟨none,none,rfl,rfl,fun t ht=>by simp at ht⟩ (fun i σ H' _ q=>by obtain⟨_,_,_,rfl,_⟩:=q;exact aO hwl) ?_ ?_
  .rintro i v σ H' hv ⟨U,Y,rfl,rfl,G⟩;have hi:i<W.length:=by
    have:=(Ak.mp hv).1;omega
   have O:W[i]?=some W[i]:=Ae hi;obtain⟨q,rfl,hq⟩:=Paired.at hW hv O;refine⟨q,_,rfl,bJ hq,rfl,_,_,rfl,_,_,rfl,rfl,_,rfl,_,rfl,_,_,rfl,rfl,_,rfl,mQ (fun g=>?_) fun g=>?_⟩
   .have g':p<W[i].2:=Ig g;have ef:dY W p=some (if p>W[i].1 then p else W[i].1):=by
     rw[rF G,EB hi];show(if p<W[i].2 then _ else _)=_;rw[Ib g']
    rw[ef]at k;exact⟨_,rfl,_,rfl,_,_,rfl,k⟩
   .refine⟨_,_,rfl,rfl,fun t ht=>?_⟩;rw[Bk,O]at ht;rcases AK.mp ht with ht|ht
    .exact G t ht
    .have:t=W[i]:=by simpa using ht
     rw[this];exact fun z=>g (Ic z)
  .rintro σ H' ⟨U,Y,rfl,rfl,G⟩;have ef:dY W p=none:=by
    rw[rF G,Z,List.drop_length];rfl
   rw[ef]at k;exact k
theorem aBe:bG ["wanted","last","sight","posts","apart","place"] ["wanted","last","sight"] (aM zG):=⟨rfl,rfl,rfl,by decide,rfl,by decide,by decide⟩
theorem aEA{f fF:Ad}{fd ah:A4}(F:Fun K "fewest" "fewest" zG f fd){DM:Ad}(al:mg "len"=none)(af:mg "min"=none)(ad:∃ t,mg "MOST_STANDS"=some (.int 300 t))(U:mg "TooMany"=some (.ref DM))(O:aKE K DM)
  (GF:cA P w K mg base CX0 1 fF ah ["wanted","place"] pN) (mF:mg "first_wanted"=some (.ref fF)) (kF:AJ K (.ref fF)=true) (bF:dA K ah ["wanted","place"] [])
  :cA P w K mg base (CXr P w) 2 f fd ["wanted","last","sight"] (vK DM):=by
 refine F.okR aBe (fun vs H Q E h=>?_) (fun bd A outer s H vs Q E hr h=>?_)
 .obtain⟨wl,last,s,xs,W,rfl,_⟩:=h;rfl
 .obtain⟨wl,last,s,xs,W,rfl,hwl,hW,h8,hA,h0,k,kr⟩:=h;obtain⟨tm,hmr⟩:=ad;have ag:cF 1 _:=hr.mono (by decide);have nd:=aBe.nd;refine⟨_,(aE (sU (i:=3) (j:=4) rfl nd rfl rfl (by decide) rfl rfl (aD (cJ aB) (aD (cJ aB) aB)) rfl)
   (aE (aX (i:=5) nd rfl (AC rfl) (cB GF ag rfl mF kF bF .nil dP (aD (pv 0) (aD aG aB))))
   (aE (z9 PassesOwn.leaving (sS (aGT (pv 5)))
   (aE (dN (cG wI (aV cO (by rfl) al BK (aD (pv 3) aB)) (eG (v:=.int 300) (by rfl) hmr ⟨_,rfl⟩) (cH _)) (aN (aFH PySem.F.excBase_ValueError rfl U O (aD cS aB))) cN)
    (aE (iO (lJ BC B9 B8 gO (pv 3) (aD (aV (jU rfl) (by rfl) af (by kernel_rfl) (aD (aU cC (pv 5) (pv 2)) (aD (pv 1) aB))) aB)))
    (aE (iO (lJ BC B9 B8 gO (pv 4) (aD (pv 5) aB)))
    (aN (aX (i:=5) nd rfl (AC rfl) (cB GF ag rfl mF kF bF .nil dP (aD (pv 0) (aD (aU cC (aU cC (pv 5) (aU eR aG (pv 2))) aG) aB)))))))))
   (aN (bC (cE (aD (pv 3) (aD (pv 4) aB)))))))),?_⟩
  refine⟨AV _,fun J an=>⟨AV _,fun G Y=>?_⟩⟩;have s1:=aH (o:=.lst ([]:List V)) an;have s2:=aH (o:=.lst ([]:List V)) Y;have aa:=s1.trans s2;have ax:G≠J:=(aJ aA Y).symm;have aw:H G=none:=by
   cases q:H G with
   | none=>rfl
   | some o=>rw[s1 _ _ q]at Y;cases Y
  refine⟨_,_,rfl,_,rfl,wl,0,xs,W,rfl,aa _ _ hwl,Paired.mapP hW fun _ _ z=>z.on (aK aa),h8,fun n σ H'=>∃(l:List Int) (b:Int) (o:Option Int),σ=[some (.ref wl),some (.int last),some (.int s),some (.ref J),some (.ref G),some (wC o)]/\bU H H'/\H' J=some (.lst ((l.map (post last s)).map V.int))/\H' G=some (.lst (l.map V.int))/\GrP (Cov W) s l b/\Nx (Cov W) b o/\l.length<=300/\n=300-l.length,⟨_,[],0,dY W 0,rfl,aa,s2 _ _ aA,aA,.nil,pK hA 0,AV _,rfl⟩,?_⟩;rintro n σ H1 ⟨l,b,o,rfl,S1,eP,eA,g,nx,hl,rfl⟩;refine⟨_,rfl,_,rfl,?_⟩;cases o with
  | none=>
   rw[show decide (wC none=V.non)=true from Ic rfl];refine dU ?_;refine⟨_,rfl,_,rfl,zZ2,fun t ht=>?_⟩;have st:=aH (o:=.tup [V.ref J,.ref G]) ht;exact k l b t J G _ g nx hl (S1.trans st) aA (st _ _ eP) (st _ _ eA)
  | some q=>
   rw[show wC (some q)=V.int q from rfl,show decide (V.int q=V.non)=false from Ie fun z=>nomatch z];refine iD ?_;have g2:=GrP.snoc g nx;refine⟨fun σ' H'=>∃(Z:List Int) (b':Int) (o':Option Int),σ'=[some (.ref wl),some (.int last),some (.int s),some (.ref J),some (.ref G),some (wC o')]/\bU H H'/\H' J=some (.lst ((Z.map (post last s)).map V.int))/\H' G=some (.lst (Z.map V.int))/\GrP (Cov W) s Z b'/\Nx (Cov W) b' o'/\Z.length<=300/\300-Z.length<300-l.length,fun σ' H' ⟨Z,b',o',a1,a2,a3,a4,a5,a6,a7,a8⟩=>⟨300-Z.length,a8,Z,b',o',a1,a2,a3,a4,a5,a6,a7,rfl⟩,_,rfl,J,_,rfl,.inl (aO eP),rfl,_,rfl,mQ (fun c=>?_) fun c=>?_⟩
   .have ai:l.length=300:=by
     have:=Ig c;injection this with this;rw[Af,Af]at this;omega
    exact⟨by show(1:Nat)<=_;exact aR (by decide),kr H1 S1 ⟨_,_,g2,by rw[Ay,ai];show 301<=300+1;decide⟩⟩
   .have ai:l.length<300:=by
     rcases B4 l.length 300 with z|z
     .exact z
     .exfalso;refine c (Ic ?_);rw[Af,Af,show l.length=300 by omega];rfl
    have zl:∀ k,k<=300->k<sizeLine:=fun k h=>by rw[A6];omega
    refine⟨_,rfl,.inl ⟨rfl,_,aO eP⟩,_,rfl,_,rfl,_,_,rfl,rfl,_,rfl,_,_,rfl,J,_,_,rfl,rfl,eP,zl _ (by rw[Af,Af];exact hl),?_⟩;have am:G≠J:=ax;have ae:upd H1 J (.lst ((l.map (post last s)).map V.int++[V.int (if last<q+s then last else q+s)])) G=some (.lst (l.map V.int)):=by rw[aF am];exact eA
    refine⟨_,rfl,.inl ⟨rfl,_,aO ae⟩,_,rfl,G,_,_,rfl,rfl,ae,zl _ (by rw[Af];exact hl),?_⟩;have S3:bU H (upd (upd H1 J (.lst ((l.map (post last s)).map V.int++[V.int (if last<q+s then last else q+s)]))) G (.lst (l.map V.int++[V.int q]))):=fun b' o' e=>by
     rw[aF (aJ e aw),aF (aJ e an)];exact S1 _ _ e
    have ak:upd (upd H1 J (.lst ((l.map (post last s)).map V.int++[V.int (if last<q+s then last else q+s)]))) G (.lst (l.map V.int++[V.int q])) J=some (.lst (((l++[q]).map (post last s)).map V.int)):=by
     rw[aF am.symm,aA,A1,A1];rfl
    have ao:upd (upd H1 J (.lst ((l.map (post last s)).map V.int++[V.int (if last<q+s then last else q+s)]))) G (.lst (l.map V.int++[V.int q])) G=some (.lst ((l++[q]).map V.int)):=by
     rw[aA,A1];rfl
    generalize upd (upd H1 J _) G _=H3 at S3 ak ao ⊢;exact⟨_,rfl,_,rfl,_,rfl,_,_,rfl,rfl,.inl (by decide),_,_,rfl,rfl,_,_,rfl,rfl,wl,q+2*s+1,xs,W,rfl,S3 _ _ hwl,Paired.mapP hW fun _ _ z=>z.on (aK S3),h8,l++[q],q+2*s+1,dY W (q+2*s+1),rfl,S3,ak,ao,g2,pK hA _,by rw[Ay];show l.length+1<=300;omega,by rw[Ay];show 300-(l.length+1)<_;omega⟩
theorem vM:bG ["thing"] ["thing"] (aM qE):=⟨rfl,rfl,rfl,by decide,rfl,by decide,by decide⟩
theorem aBf{f:Ad}{fd:A4}(F:Fun K "is_number" "is_number" qE f fd)(G:mg "isinstance"=none)(O:mg "int"=none)(J:mg "bool"=none)
  :cA P w K mg base CX0 1 f fd ["thing"] aGl:=by
 refine F.ok vM (fun vs H Q E h=>?_) (fun U A outer s H vs Q E Y h=>?_)
 .obtain⟨i,rfl,_⟩:=h;rfl
 .obtain⟨i,rfl,k⟩:=h;have nd:=vM.nd;refine⟨_,(aN (bC (yG (aV jI (by rfl) G (by kernel_rfl) (aD (pv 0) (aD (oI (v:=.ty "int") (by rfl) O (by kernel_rfl) rfl) aB))) (yF (aH9 (aV jI (by rfl) G (by kernel_rfl) (aD (pv 0) (aD (oI (v:=.ty "bool") (by rfl) J (by kernel_rfl) rfl) aB)))))))),_,rfl,_,"int",_,_,rfl,lG.int _,uB,_,rfl,iD ?_⟩;exact⟨_,rfl,_,"bool",_,_,rfl,lG.int _,yR,_,rfl,k⟩
theorem xN:bG ["thing","least","most"] ["thing","least","most"] (aM uQ):=⟨rfl,rfl,rfl,by decide,rfl,by decide,by decide⟩
theorem aCu{f:Ad}{fd:A4}(F:Fun K "is_whole" "is_whole" uQ f fd)
  (O:Cl P w K mg base 1 "is_number" ["thing"] aGl)
  :cA P w K mg base CX0 2 f fd ["thing","least","most"] aDy:=by
 refine F.ok xN (fun vs H Q E h=>?_) (fun U A outer s H vs Q E J h=>?_)
 .obtain⟨i,lo,hi,rfl,_⟩:=h;rfl
 .obtain⟨i,lo,hi,rfl,k⟩:=h;have nd:=xN.nd;refine⟨_,(aN (bC (yG (dH O J (aD (pv 0) aB)) (yF (aEU wK wK (pv 1) (pv 0) (pv 2)))))),_,rfl,i,rfl,_,rfl,iD ?_⟩;refine⟨_,rfl,_,rfl,_,_,rfl,rfl,_,rfl,mQ (fun G=>?_) (fun G=>?_)⟩
  .refine⟨_,rfl,_,_,rfl,rfl,?_⟩;show Q (.bl (decide (i<=hi))) H;rw[G,Bool.true_and]at k;exact k
  .have g':decide (lo<=i)=false:=Di.mpr G;rw[g',Bool.false_and]at k;have Y:V.bl (decide (lo<=i))=V.bl false:=by rw[g']
   first|exact k|(rw[g'];exact k)
theorem vN:bG ["things"] ["things"] (aM qF):=⟨rfl,rfl,rfl,by decide,rfl,by decide,by decide⟩
theorem aBg{f:Ad}{fd:A4}(F:Fun K "is_rising" "is_rising" qF f fd)(G:mg "list"=none)(J:mg "set"=none)(O:mg "sorted"=none)
  :cA P w K mg base CX0 1 f fd ["things"] aBd:=by
 refine F.ok vN (fun vs H Q E h=>?_) (fun af A outer s H vs Q E hr h=>?_)
 .obtain⟨p,ns,rfl,_⟩:=h;rfl
 .obtain⟨p,ns,rfl,hp,hn,hz,k⟩:=h;have hu:_<_:=hr.units0;have nd:=vN.nd;refine⟨_,(aN (bC (iP (aFm hu) (fU oO (by rfl) G (by kernel_rfl) (aD (pv 0) aB)) (aV (nB rfl) (by rfl) O (by kernel_rfl) (aD (fU (uP rfl) (by rfl) J (by kernel_rfl) (aD (pv 0) aB)) aB)) (cH _)))),_,rfl,p,_,rfl,.inl (aO hp),fun L hL=>?_⟩;have Z:=aH (o:=.lst (ns.map V.int)) hL;refine⟨_,rfl,p,ns,rfl,Z _ _ hp,hz,fun a ha=>?_⟩;have sa:=aH (o:=rA P w a ns) ha;refine⟨a,ns,rfl,aA,hz,fun l ms hl Y U=>?_⟩;have sl:=aH (o:=.lst (ms.map V.int)) hl;have em:ms=ns:=rG Y U hn;subst em;refine⟨L,l,_,_,rfl,rfl,aO (sl _ _ (sa _ _ aA)),aO aA,iS _,iS _,?_⟩;rw[p4,Ic rfl];exact k _ ((Z.trans sa).trans sl)
end K58
namespace L2
open PySem PySem.Spec PyProof.Rows
theorem aGm{a b:Ad}{xs ys:List V}{g:TG}{U:TT}{te:TE}{Y:St}{H₀:Hp}{Q:VK}(ad:ys.length<=xs.length)(F:Nat->List V->St->Hp->Prop)(Z:F 0 [] Y H₀)(hn:ys.length<=sizeLine)(G:∀ i zs σ H,F i zs σ H->zs.length<=i)
  (hl:∀ i zs σ H,F i zs σ H->H a=some (.lst xs)/\H b=some (.lst ys))
  (hs:∀ i x y t zs σ H,xs[i]?=some x->ys[i]?=some y->H t=none->F i zs σ H->g (.ref t) σ (upd H t (.tup [x,y])) fun J H2=>U J H2 fun b O=>if b=true then te J O fun v H4=>F (i+1) (zs++[v]) J H4 else F (i+1) zs J O)
  (hd:∀ zs σ H,F ys.length zs σ H->∀ D,H D=none->Q (.ref D) (upd H D (.lst zs))):tT (Itz a b) g U te Y H₀ Q:=
 rX ys.length F Z hn G (fun i zs σ H h p=>by
  obtain⟨e1,e2⟩:=hl i zs σ H p;exact⟨xs,ys,xs[i],ys[i],e1,e2,Ae (by omega),Ae h⟩) (fun zs σ H p=>by
  obtain⟨e1,e2⟩:=hl _ zs σ H p;exact⟨xs,ys,e1,e2,.inr (Aj _)⟩) (fun i zs σ H v H' hi p y=>by
  obtain⟨t,x,y,rfl,ht,rfl,e1,e2⟩:=y;obtain⟨q1,q2⟩:=hl i zs σ H p;exact hs i x y t zs σ _ (e1 _ q1) (e2 _ q2) ht p) hd
end L2
namespace K58
open PySem L2
section
variable{C:Int->Prop}{s last:Int}{l:List Int}{b:Int}
theorem qK(g:GrP C s l b):∀ i,i<=l.length->∃ F,GrP C s (l.take i) F/\(∀ q,l[i]?=some q->Nx C F (some q))/\(i=l.length->F=b):=by
 induction g with
 | nil=>intro i hi;exact⟨0,by simp;exact .nil,fun q h=>by simp at h,fun _=>rfl⟩
 | @snoc l b q g n J=>
  intro i hi;rw[Ay,BU]at hi;rcases B4 i l.length with z|z
  .obtain⟨F,g',h1,h2⟩:=J i (by omega);refine⟨F,by rw[List.take_append_of_le_length (by omega)];exact g',fun G h=>h1 G ?_,fun e=>?_⟩
   .rw[B6 z]at h;exact h
   .rw[Ay,BU]at e;omega
  .rcases B4 i (l.length+1)with y|y
   .have e:i=l.length:=by omega
    subst e;refine⟨b,by rw[List.take_append_of_le_length (Aj _),Bg];exact g,fun G h=>?_,fun e=>?_⟩
    .rw[BL (Aj _),Nat.sub_self]at h;simp at h;rw[<- h];exact n
    .rw[Ay,BU]at e;omega
   .have e:i=l.length+1:=by omega
    subst e;refine⟨_,by rw[Bj (by rw[Ay];exact Aj _)];exact .snoc g n,fun G h=>?_,fun _=>rfl⟩;rw[BI (by rw[Ay];exact Aj _)]at h;cases h
theorem aJR(I:GrI C s l b)(F:0<=s):l.Pairwise (·<·):=I.pw.imp fun h=>by omega
theorem aBh(I:GrI C s l b)(F:0<=s)(hC:∀ r,C r->0<=r/\r<=last):(l.map (post last s)).Pairwise (·<·):=by
 rw[CT];refine I.pw.imp_of_mem fun{x y} hx hy h=>?_;have a:=hC y (I.c y hy).1;unfold post;split<;>split<;>omega
theorem aBi(I:GrI C s l b)(G:0<=s)(hC:∀ r,C r->0<=r/\r<=last):∀ p∈l.map (post last s),0<=p/\p<=last:=fun p F=>by
 obtain⟨q,hq,rfl⟩:=BA.mp F;have a:=hC q (I.c q hq).1;unfold post;split<;>omega
theorem aJS(I:GrI C s l b)(hC:∀ r,C r->0<=r/\r<=last):∀ p∈l,0<=p/\p<=last:=fun p F=>hC p (I.c p F).1
theorem aEB{W:List Pr}(F:zS W)(hC:∀ r,Cov W r->0<=r/\r<=last)(O:0<=s){q:Int}:dY W (post last s q+s+1)=dY W (q+2*s+1):=by
 unfold post;split
 .have n1:dY W (last+s+1)=none:=lU F fun r J hc=>by have:=hC r hc;omega
  have G:dY W (q+2*s+1)=none:=lU F fun r J hc=>by have:=hC r hc;omega
  rw[n1,G]
 .rw[show q+s+s+1=q+2*s+1 by omega]
end
inductive nF(vs:List V)(H:Hp)(Q:VK)(u3_:XK):Prop
 | mk (p:Ad) (last:Int) (ns:List Int) (q0:vs=[.ref p,.int ns.length,.int last]) (q1:H p=some (.lst (ns.map V.int))) (q2:ns.Pairwise (·<·)) (q3:ns.length<=1000) (q4:(∀ n∈ns,0<=n/\n<=last)) (q5:∀ H',bU H H'->Q (.bl true) H'):nF vs H Q u3_
def rH:Sp:=fun vs H Q u3_=>nF vs H Q u3_
inductive rJ(vs:List V)(H:Hp)(Q:VK)(u3_:XK):Prop
 | mk (wl p:Ad) (s last:Int) (xs:List V) (W:List Pr) (l:List Int) (b:Int) (q0:vs=[.ref wl,.int s,.ref p]) (q1:H wl=some (.lst xs)) (q2:AZ (zR H) xs W) (q3:W.length<=8) (q4:zS W) (q5:0<=s) (q6:(∀ r,Cov W r->0<=r/\r<=last)) (q7:H p=some (.lst ((l.map (post last s)).map V.int))) (q8:GrP (Cov W) s l b) (q9:Nx (Cov W) b none) (q10:Q (.bl true) H):rJ vs H Q u3_
def xO:Sp:=fun vs H Q u3_=>rJ vs H Q u3_
inductive pO(vs:List V)(H:Hp)(Q:VK)(u3_:XK):Prop
 | mk (wl p:Ad) (s:Int) (xs:List V) (W:List Pr) (l:List Int) (b:Int) (q0:vs=[.ref wl,.int s,.ref p]) (q1:H wl=some (.lst xs)) (q2:AZ (zR H) xs W) (q3:W.length<=8) (q4:zS W) (q5:0<=s) (q6:H p=some (.lst (l.map V.int))) (q7:l.length<=1000) (q8:GrP (Cov W) s l b) (q9:∀ H',bU H H'->Q (.bl true) H'):pO vs H Q u3_
def vO:Sp:=fun vs H Q u3_=>pO vs H Q u3_
theorem rK:bG ["thing","many","last"] ["thing","many","last"] (aM kQ):=⟨rfl,rfl,rfl,by decide,rfl,by decide,by decide⟩
theorem zV{f:Ad}{fd:A4}(F:Fun K "are_places" "are_places" kQ f fd)(O:mg "isinstance"=none)(G:mg "list"=none)(J:mg "len"=none)(U:mg "all"=none)
  (GR:Cl P w K mg base 1 "is_rising" ["things"] aBd)
  (GW:Cl P w K mg base 2 "is_whole" ["thing","least","most"] aDy)
  :cA P w K mg base CX0 3 f fd ["thing","many","last"] rH:=by
 refine F.ok rK (fun vs H Q E h=>?_) (fun an A outer s H vs Q E hr h=>?_)
 .obtain⟨p,last,ns,rfl,_⟩:=h;rfl
 .obtain⟨p,last,ns,rfl,hp,hn,hz,hb,k⟩:=h;have ad:cF 2 _:=hr.mono (by decide);have ae:cF 1 _:=hr.mono (by decide);have nd:=rK.nd;refine⟨_,(aE (dN (PW.pt (qM (j9 (iU (aV jI (by rfl) O (by kernel_rfl) (aD (pv 0) (aD (oI (v:=.ty "list") (by rfl) G (by kernel_rfl) rfl) aB))))) (nN (cG wJ (aV cO (by rfl) J BK (aD (pv 0) aB)) (pv 1) (cH _))))) (aN (bC jC)) cN)
   (aN (bC (yG (aV (aAo rfl) (by rfl) U (by kernel_rfl) (aD (dR (N:=["place","last"]) (src:=[none,some 2]) (osc:=aM kQ) (oN:=["thing","many","last"]) ⟨by rfl,by decide,by decide,by decide,rfl,by rfl⟩ (dO (pv 0)) (fun cl s H fp df C=>⟨aP (i:=0) (show(["place","last"]:List Str).Nodup by decide) rfl (AC rfl),f7,dH GW ad (aD (pv 0) (aD aG (aD (pv 1) aB)))⟩)) aB)) (yF (dH GR ae (aD (pv 0) aB))))))),?_⟩
  refine⟨_,rfl,_,"list",_,true,rfl,lG.lst hp,uB,_,rfl,dU ?_⟩;refine⟨_,rfl,p,_,rfl,.inl (aO hp),_,rfl,rfl,_,rfl,?_⟩;rw[Af,Ic rfl];refine dU ?_;refine⟨_,rfl,p,rfl,⟨_,aO hp⟩,?_⟩;refine fW (K:=K) (xs:=ns.map V.int) (fun i ys Z H'=>∃(o1:Option V),Z=[o1,some (.int last)]/\H'=H/\ys=(Cu i true).map V.bl) ⟨none,rfl,rfl,rfl⟩
   (Bd (by rw[A6,Af];omega)) (fun i ys σ H' p=>by obtain⟨_,_,_,rfl⟩:=p;simp) (fun i ys σ H' p=>by obtain⟨_,_,rfl,_⟩:=p;exact aO hp) ?_ ?_
  .rintro i v ys Z H3 hv ⟨o1,rfl,rfl,rfl⟩;rw[AB]at hv;obtain⟨n,hn1,rfl⟩:=A5.mp hv;have Y:=hb n (AU hn1);dsimp only[aW];refine iD ?_;refine⟨_,rfl,_,rfl,n,0,last,rfl,?_⟩;rw[Ic Y.1,Ic Y.2];refine⟨_,rfl,rfl,?_⟩;rw[Fh,A1];rfl
  .rintro ys Z H3 ⟨o1,rfl,rfl,rfl⟩ D hD;have sD:=aH (o:=.lst ((Cu (ns.map V.int).length true).map V.bl)) hD;refine⟨D,_,rfl,aO aA,?_⟩;rw[show(Cu (ns.map V.int).length true).all id=true by simp];refine⟨_,rfl,iD ?_⟩;exact⟨_,rfl,p,ns,rfl,sD _ _ hp,hn,hz,fun H' S'=>k H' (sD.trans S')⟩
theorem xP:bG ["wanted","sight","posts","place","post"] ["wanted","sight","posts"] (aM uR):=⟨rfl,rfl,rfl,by decide,rfl,by decide,by decide⟩
theorem aCv{f:Ad}{fd:A4}(F:Fun K "sees_all" "sees_all" uR f fd)
  (GF:Cl P w K mg base 1 "first_wanted" ["wanted","place"] pN)
  :cA P w K mg base CX0 2 f fd ["wanted","sight","posts"] xO:=by
 refine F.ok xP (fun vs H Q E h=>?_) (fun aj A outer s H vs Q E hr h=>?_)
 .obtain⟨wl,p,s,last,xs,W,l,b,rfl,_⟩:=h;rfl
 .obtain⟨wl,p,s,last,xs,W,l,b,rfl,hwl,hW,h8,hA,h0,hC,hp,gg,nx,k⟩:=h;have J:cF 1 _:=hr.mono (by decide);have nd:=xP.nd;refine⟨_,(aE (aX (i:=3) nd rfl (AC rfl) (dH GF J (aD (pv 0) (aD aG aB))))
   (aE (fO Bz rfl (dO (pv 2)) (g:=aW 4) (aP (i:=4) nd rfl (AC rfl))
   (aE (dN (PW.pt (qM (sS (aBE (pv 3))) (nN (cG qN (pv 3) (aU iV (pv 4) (pv 1)) (cH _))))) (aN (aEO)) cN)
    (aN (aX (i:=3) nd rfl (AC rfl) (dH GF J (aD (pv 0) (aD (aU cC (aU cC (pv 4) (pv 1)) aG) aB)))))))
   (aN (bC (aH8 (aBE (pv 3))))))),?_⟩
  have al:=GrP.info h0 gg;refine⟨_,rfl,wl,0,xs,W,rfl,hwl,hW,h8,_,rfl,p,rfl,⟨_,aO hp⟩,?_⟩;refine hJ (K:=K) (xs:=(l.map (post last s)).map V.int) (fun i σ H'=>∃(Y:Option V) (G:Int),Aw3 (σ=[some (.ref wl),some (.int s),some (.ref p),some (wC (dY W G)),Y]) (H'=H) ((∀ q,l[i]?=some q->Nx (Cov W) G (some q))/\(i=l.length->G=b))) ?_ (fun i σ H' _ q=>by obtain⟨_,_,_,rfl,_⟩:=q;exact aO hp) ?_ ?_
  .obtain⟨G,g',h1,h2⟩:=qK gg 0 (AV _);have e0:G=0:=by
    rw[List.take_zero]at g';exact(pL g' .nil rfl).2
   refine⟨none,0,rfl,rfl,fun q h=>by rw[<- e0];exact h1 q h,fun e=>by rw[<- e0];exact h2 e⟩
  .rintro i v σ H' hv ⟨Y,G,rfl,rfl,hq,he⟩;rw[DT,AB]at hv;obtain⟨q,hq1,rfl⟩:=A5.mp hv;have nq:=hq q hq1;have hc:=hC q nq.1;dsimp only[aW,Function.comp];rw[lU hA nq];refine⟨_,rfl,_,rfl,?_⟩;rw[show decide (wC (some q)=V.non)=false from Ie fun z=>nomatch z];refine dU ?_;refine⟨_,rfl,_,rfl,_,rfl,_,_,rfl,rfl,_,_,rfl,rfl,_,rfl,?_⟩;have O:¬ q<post last s q-s:=by unfold post;split<;>omega
   rw[Ie O];refine dU ?_;refine⟨_,rfl,_,rfl,_,rfl,_,_,rfl,rfl,_,_,rfl,rfl,wl,post last s q+s+1,xs,W,rfl,hwl,hW,h8,?_⟩;rw[aEB hA hC h0];have Z:=(Ak.mp hq1).1;obtain⟨b2,g2,h1,h2⟩:=qK gg (i+1) Z;obtain⟨b1,g1,k1,_⟩:=qK gg i (by omega);have g3:=GrP.snoc g1 (k1 q hq1);have e3:l.take i++[q]=l.take (i+1):=by rw[Bk,hq1];rfl
   rw[e3]at g3;have U:=(pL g3 g2 rfl).2;refine⟨_,b2,by rw[<- U];rfl,rfl,h1,h2⟩
  .rintro σ H' ⟨Y,G,rfl,rfl,hq,he⟩;have U:=he (by rw[Af,Af]);subst U;rw[lU hA nx];refine⟨_,rfl,?_⟩;show Q (V.bl (decide (wC none=V.non))) H';rw[show decide (wC none=V.non)=true from Ic rfl];exact k
theorem vP:bG ["wanted","sight","places"] ["wanted","sight","places"] (aM j7):=⟨rfl,rfl,rfl,by decide,rfl,by decide,by decide⟩
theorem aBj{f:Ad}{fd:A4}(F:Fun K "are_apart" "are_apart" j7 f fd)(ad:mg "any"=none)(ae:mg "all"=none)(Z:mg "zip"=none)
  (GF:Cl P w K mg base 1 "first_wanted" ["wanted","place"] pN)
  :cA P w K mg base CX0 2 f fd ["wanted","sight","places"] vO:=by
 refine F.ok vP (fun vs H Q E h=>?_) (fun bb A outer s H vs Q E hr h=>?_)
 .obtain⟨wl,p,s,xs,W,l,b,rfl,_⟩:=h;rfl
 .obtain⟨wl,p,s,xs,W,l,b,rfl,hwl,hW,h8,hA,h0,hp,hz,gg,k⟩:=h;have ao:cF 1 _:=hr.mono (by decide);have nd:=vP.nd;refine⟨_,(aE (dN (iU (aV (aFk rfl) (by rfl) ad (by kernel_rfl) (aD (dR (N:=["place","wanted"]) (src:=[none,some 0]) (osc:=aM j7) (oN:=["wanted","sight","places"]) ⟨by rfl,by decide,by decide,by decide,rfl,by rfl⟩ (dO (pv 2)) (fun cl s H fp df C=>⟨aP (i:=0) (show(["place","wanted"]:List Str).Nodup by decide) rfl (AC rfl),f7,iP wJ (dH GF ao (aD (pv 1) (aD (pv 0) aB))) (pv 0) (cH _)⟩)) aB))) (aN (bC jC)) cN)
   (aN (bC (aV (aAo rfl) (by rfl) ae (by kernel_rfl) (aD (dR (N:=["place","after","sight"]) (src:=[none,none,some 1]) (osc:=aM j7) (oN:=["wanted","sight","places"]) (g:=oJ K 2 (cW (aW 0) (cW (aW 1) nO))) ⟨by rfl,by decide,by decide,by decide,rfl,by rfl⟩ (aIv (by rfl) Z (aD (pv 2) (aD (hU aCL (pv 2) (jF aG) jE) aB))) (fun cl s H fp df C=>⟨dJ rfl (aQ (aP (i:=0) (show(["place","after","sight"]:List Str).Nodup by decide) rfl (AC rfl)) (aQ (aP (i:=1) (show(["place","after","sight"]:List Str).Nodup by decide) rfl (AC rfl)) cZ)),f7,iP aCF (aU iV (pv 1) (pv 0)) (aU eR aG (pv 2)) (cH _)⟩)) aB))))),?_⟩
  have af:=GrP.info h0 gg;refine⟨_,rfl,p,rfl,⟨_,aO hp⟩,?_⟩;refine fW (K:=K) (xs:=l.map V.int) (fun i ys J H'=>∃(O:Option V),J=[O,some (.ref wl)]/\H'=H/\ys=(Cu i false).map V.bl) ⟨none,rfl,rfl,rfl⟩
   (Bd (by rw[A6,Af];omega)) (fun i ys σ H' p=>by obtain⟨_,_,_,rfl⟩:=p;simp) (fun i ys σ H' p=>by obtain⟨_,_,rfl,_⟩:=p;exact aO hp) ?_ ?_
  .rintro i v ys J H3 hv ⟨O,rfl,rfl,rfl⟩;rw[AB]at hv;obtain⟨n,hn1,rfl⟩:=A5.mp hv;have hc:=(af.c n (AU hn1)).1;have nx:Nx (Cov W) n (some n):=⟨hc,B2 _,fun r a b=>absurd a (by omega)⟩
   dsimp only[aW];refine iD ?_;refine⟨_,rfl,_,rfl,wl,n,xs,W,rfl,hwl,hW,h8,?_⟩;rw[lU hA nx];refine⟨_,rfl,rfl,_,rfl,rfl,?_⟩;rw[Fh,A1];congr 1;show[V.bl _]=[V.bl false]
   congr 2;simp[wC]
  .rintro ys J H3 ⟨O,rfl,rfl,rfl⟩ D hD;have sD:=aH (o:=.lst ((Cu (l.map V.int).length false).map V.bl)) hD;refine⟨D,_,rfl,aO aA,?_⟩;rw[show(Cu (l.map V.int).length false).any id=false by simp];refine⟨_,rfl,dU ?_⟩;have Y:=sD _ _ hp;generalize upd H3 D _=H4 at sD Y ⊢;refine⟨_,rfl,_,rfl,_,rfl,p,_,rfl,aO Y,fun G aj=>?_⟩;have s2:=aH (o:=.lst (jA (l.map V.int) (some 1) none)) aj;have e2:upd H4 G (.lst (jA (l.map V.int) (some 1) none)) G=some (.lst ((l.drop 1).map V.int)):=by
    rw[aA,show jA (l.map V.int) (some 1) none=(l.map V.int).drop 1 from oX (α:=Unit) _ 1,List.map_drop]
   have U:=s2 _ _ Y;have S5:=sD.trans s2;generalize upd H4 G (.lst (jA (l.map V.int) (some 1) none))=H5 at s2 e2 U S5 ⊢;refine⟨p,G,_,_,rfl,U,e2,?_⟩;refine aGm (xs:=l.map V.int) (ys:=(l.drop 1).map V.int) (by rw[Af,Af,BP];omega) (fun i ys J H'=>∃(O o2:Option V),J=[O,o2,some (.int s)]/\bU H5 H'/\ys=(Cu i true).map V.bl) ⟨none,none,rfl,bU.refl _,rfl⟩
    (Bd (by rw[A6,Af,BP];omega)) (fun i ys σ H p=>by obtain⟨_,_,_,_,rfl⟩:=p;simp) (fun i ys σ H p=>by obtain⟨_,_,_,S,_⟩:=p;exact⟨S _ _ U,S _ _ e2⟩) ?_ ?_
   .rintro i x y t zs J H6 hx hy ht ⟨O,o2,rfl,S6,rfl⟩;rw[AB]at hx hy;obtain⟨n,hn1,rfl⟩:=A5.mp hx;obtain⟨m,hm1,rfl⟩:=A5.mp hy;rw[DN]at hm1;have st:=aH (o:=.tup [V.int n,.int m]) ht;have et:upd H6 t (.tup [V.int n,.int m]) t=some (.tup [V.int n,.int m]):=aA;have S7:=S6.trans st;generalize upd H6 t (.tup [V.int n,.int m])=H7 at et S7 ⊢;obtain⟨hi1,e1⟩:=Ak.mp hn1;obtain⟨hi2,e3⟩:=Ak.mp hm1;have aa:=Bc.mp af.pw i (1+i) hi1 hi2 (by omega);rw[e1,e3]at aa;refine⟨t,_,rfl,bJ et,rfl,_,_,rfl,_,_,rfl,rfl,iD ?_⟩;refine⟨_,rfl,_,rfl,_,_,rfl,rfl,_,rfl,_,_,rfl,rfl,.inl (by decide),_,_,rfl,rfl,_,_,rfl,S7,?_⟩;rw[Fh,A1];congr 1;show[V.bl _]=[V.bl true]
    congr 2;exact Ic (show m-n>2*s by omega)
   .rintro zs J H6 ⟨O,o2,rfl,S6,rfl⟩ D2 ag;have al:=aH (o:=.lst ((Cu ((l.drop 1).map V.int).length true).map V.bl)) ag;refine⟨D2,_,rfl,aO aA,?_⟩;rw[show(Cu ((l.drop 1).map V.int).length true).all id=true by simp];exact k _ (S5.trans (S6.trans al))
def dZ:Int->List D3->Int->Prop
 | p,[],e=>p=e
 | p,d::ds,e=>d.1=p/\d.1<d.2.1/\dZ d.2.1 ds e
theorem iT:∀{a:List D3}{b:List D3}{p e:Int},dZ p (a++b) e↔∃ m,dZ p a m/\dZ m b e
 | [],b,p,e=>⟨fun h=>⟨p,rfl,h⟩,fun⟨m,h1,h2⟩=>by cases h1;exact h2⟩
 | d::a,b,p,e=>by
  show(d.1=p/\d.1<d.2.1/\dZ d.2.1 (a++b) e)↔∃ m,(d.1=p/\d.1<d.2.1/\dZ d.2.1 a m)/\dZ m b e;constructor
  .rintro⟨h1,h2,h3⟩;obtain⟨m,h4,h5⟩:=iT.mp h3;exact⟨m,⟨h1,h2,h4⟩,h5⟩
  .rintro⟨m,⟨h1,h2,h4⟩,h5⟩;exact⟨h1,h2,iT.mpr ⟨m,h4,h5⟩⟩
theorem vQ:∀{Ls:List L4}{p:Int},(∀ l∈Ls,0<=l.2.2.2)->dZ p (c8 p Ls) (p+inS Ls)
 | [],p,_=>by show p=p+0;omega
 | l::Ls,p,h=>by
  have F:=vQ (Ls:=Ls) (p:=p+l.2.2.2) fun x U=>h x (Al _ U);have Y:=h l Am;have e:p+inS (l::Ls)=p+l.2.2.2+inS Ls:=by
   show p+(l.2.2.2+inS Ls)=_;omega
  rw[e];unfold c8;cases J:d6 l with
  | true=>
   have G:0<l.2.2.2:=Ig J;rw[Ib rfl];exact⟨rfl,by show p<p+l.2.2.2;omega,F⟩
  | false=>
   have G:¬ 0<l.2.2.2:=of_decide_eq_false J;rw[Ia Av,CS];have O:l.2.2.2=0:=by omega
   rw[O,D0]at F ⊢;exact F
theorem xQ{m:Mnd}:∀{ds:List D3}{p e:Int},dZ p ds e->dZ p (gG m ds) e
 | [],p,e,h=>h
 | d::ds,p,e,⟨h1,h2,h3⟩=>⟨h1,h2,xQ h3⟩
theorem xR{acc:List D3}{d:D3}{p:Int}(h:dZ p acc d.1)(hd:d.1<d.2.1):dZ p (iL acc d) d.2.1:=by
 rcases eB acc with rfl|⟨r,x,rfl⟩
 .have h:p=d.1:=h;exact⟨h.symm,hd,rfl⟩
 .rw[fZ];split
  .obtain⟨m,h1,h2,h3,F⟩:=iT.mp h;have F:x.2.1=d.1:=F;exact iT.mpr ⟨m,h1,h2,by show x.1<d.2.1;omega,rfl⟩
  .exact iT.mpr ⟨d.1,h,rfl,hd,rfl⟩
theorem vR:∀{ds:List D3}{acc:List D3}{p m e:Int},dZ p acc m->dZ m ds e->dZ p (ds.foldl iL acc) e
 | [],acc,p,m,e,h1,h2=>by
  have h2:m=e:=h2;rw[<- h2];exact h1
 | d::ds,acc,p,m,e,h1,⟨h2,h3,h4⟩=>by
  subst h2;exact vR (acc:=iL acc d) (xR h1 h3) h4
theorem pP:∀{ds:List D3}{p e:Int},dZ p ds e->p<=e/\∀ d∈ds,p<=d.1/\d.1<d.2.1/\d.2.1<=e
 | [],p,e,h=>by
  have h:p=e:=h;exact⟨by omega,fun d hd=>by simp at hd⟩
 | x::ds,p,e,⟨h1,h2,h3⟩=>by
  obtain⟨i1,i2⟩:=pP h3;refine⟨by omega,fun d hd=>?_⟩;rcases An.mp hd with rfl|hd
  .exact⟨by omega,h2,i1⟩
  .obtain⟨a,b,c⟩:=i2 d hd;exact⟨by omega,b,c⟩
theorem aBk:∀{ds:List D3}{p e:Int},dZ p ds e->ds.Pairwise fun a b=>a.2.1<=b.1
 | [],_,_,_=>BZ
 | x::ds,p,e,⟨h1,h2,h3⟩=>Cg.mpr ⟨fun d hd=>((pP h3).2 d hd).1,aBk h3⟩
theorem aGn{hs:List Str}{ds:List D3}{p e:Int}(h:dZ p ds e):zS (j8 hs ds):=by
 refine⟨?_,fun s F=>?_⟩
 .unfold j8;rw[CT];exact EH _ (aBk h)
 .obtain⟨d,hd,rfl⟩:=BA.mp F;exact((pP h).2 d (Cz.mp hd).1).2.1
def wD(ds:List D3)(r:Int)(h:Str):Prop:=∃ d∈ds,d.1<=r/\r<d.2.1/\d.2.2=[h]
theorem aBl{hs:List Str}{ds:List D3}(h1:∀ d∈ds,∃ z,d.2.2=[z])(r:Int):Cov (j8 hs ds) r↔∃ h∈hs,wD ds r h:=by
 constructor
 .rintro⟨s,hs',a,b⟩;obtain⟨d,hd,rfl⟩:=BA.mp hs';obtain⟨hd1,F⟩:=Cz.mp hd;obtain⟨z,hz⟩:=h1 d hd1;have F:=Ig F;rw[hz]at F;exact⟨z,F,d,hd1,a,b,hz⟩
 .rintro⟨h,hh,d,hd,a,b,e⟩;exact⟨(d.1,d.2.1),BA.mpr ⟨d,Cz.mpr ⟨hd,Ic (by rw[e];exact hh)⟩,rfl⟩,a,b⟩
theorem aGp{acc:List D3}{d:D3}{p:Int}(hc:dZ p acc d.1)(hd:d.1<d.2.1)(r:Int)(h:Str):wD (iL acc d) r h↔wD acc r h\/wD [d] r h:=by
 rcases eB acc with rfl|⟨q,x,rfl⟩
 .exact⟨fun z=>.inr z,fun z=>z.elim (fun⟨_,z,_⟩=>by simp at z) id⟩
 .obtain⟨m,c1,c2,c3,G⟩:=iT.mp hc;have G:x.2.1=d.1:=G;rw[fZ];split
  .next e=>
   constructor
   .rintro⟨y,F,a,b,e2⟩;rcases AK.mp F with F|F
    .exact .inl ⟨y,BN _ F,a,b,e2⟩
    .rw[Ax]at F;subst F;dsimp only at a b e2;rcases Dc r x.2.1 with z|z
     .exact .inl ⟨x,by simp,a,z,by rw[e];exact e2⟩
     .exact .inr ⟨d,by simp,by omega,b,e2⟩
   .rintro(⟨y,F,a,b,e2⟩|⟨y,F,a,b,e2⟩)
    .rcases AK.mp F with F|F
     .exact⟨y,BN _ F,a,b,e2⟩
     .rw[Ax]at F;subst F;exact⟨_,AH _ (Ax.mpr rfl),a,by show r<d.2.1;omega,by rw[<- e];exact e2⟩
    .rw[Ax]at F;subst F;exact⟨_,AH _ (Ax.mpr rfl),by show x.1<=r;omega,b,e2⟩
  .constructor
   .rintro⟨y,F,a,b,e2⟩;rcases AK.mp F with F|F
    .exact .inl ⟨y,F,a,b,e2⟩
    .exact .inr ⟨y,F,a,b,e2⟩
   .rintro(⟨y,F,a,b,e2⟩|⟨y,F,a,b,e2⟩)
    .exact⟨y,BN _ F,a,b,e2⟩
    .exact⟨y,AH _ F,a,b,e2⟩
theorem xS(r:Int)(h:Str):∀{ds:List D3}{acc:List D3}{p m e:Int},dZ p acc m->dZ m ds e->(wD (ds.foldl iL acc) r h↔wD acc r h\/wD ds r h)
 | [],acc,p,m,e,h1,h2=>⟨fun z=>.inl z,fun z=>z.elim id fun⟨_,z,_⟩=>by simp at z⟩
 | d::ds,acc,p,m,e,h1,⟨h2,h3,h4⟩=>by
  subst h2;rw[B1,xS r h (xR h1 h3) h4,aGp h1 h3];constructor
  .rintro((z|⟨y,F,z⟩)|⟨y,F,z⟩)
   .exact .inl z
   .exact .inr ⟨y,by rw[Ax.mp F];exact Am,z⟩
   .exact .inr ⟨y,Al _ F,z⟩
  .rintro(z|⟨y,F,z⟩)
   .exact .inl (.inl z)
   .rcases An.mp F with rfl|F
    .exact .inl (.inr ⟨y,Ax.mpr rfl,z⟩)
    .exact .inr ⟨y,F,z⟩
def jB(P:L4->Prop):Int->List L4->Int->Prop
 | _,[],_=>False
 | p,l::Ls,r=>(p<=r/\r<p+l.2.2.2/\P l)\/jB P (p+l.2.2.2) Ls r
theorem xT{m:Mnd}(r:Int)(h:Str):∀{Ls:List L4}{p:Int},(∀ l∈Ls,0<=l.2.2.2)->(wD (gG m (c8 p Ls)) r h↔jB (fun l=>dB m l.2.1=h) p Ls r)
 | [],p,_=>⟨fun⟨_,z,_⟩=>by simp[gG,c8]at z,fun z=>z.elim⟩
 | l::Ls,p,hn=>by
  have O:=xT (m:=m) r h (Ls:=Ls) (p:=p+l.2.2.2) fun x J=>hn x (Al _ J);have Y:=hn l Am;show _↔(p<=r/\r<p+l.2.2.2/\dB m l.2.1=h)\/jB (fun l=>dB m l.2.1=h) (p+l.2.2.2) Ls r;rw[<- O,show c8 p (l::Ls)=(if d6 l=true then[(p,p+l.2.2.2,[l.1,l.2.1])] else[])++c8 (p+l.2.2.2) Ls from rfl];cases G:d6 l with
  | true=>
   rw[Ib rfl];show wD ((p,p+l.2.2.2,[dB m l.2.1])::gG m (c8 (p+l.2.2.2) Ls)) r h↔_;constructor
   .rintro⟨y,F,a,b,e2⟩;rcases An.mp F with rfl|F
    .exact .inl ⟨a,b,(Hr.inj e2).1⟩
    .exact .inr ⟨y,F,a,b,e2⟩
   .rintro(⟨a,b,e⟩|⟨y,F,a,b,e2⟩)
    .exact⟨_,Am,a,b,by rw[e]⟩
    .exact⟨y,Al _ F,a,b,e2⟩
  | false=>
   have U:¬ 0<l.2.2.2:=of_decide_eq_false G;rw[Ia Av,CS];exact⟨fun z=>.inr z,fun z=>z.elim (fun⟨a,b,_⟩=>absurd b (by omega)) id⟩
theorem aDz{hs:List Str}{m:Mnd}:∀{Ls:List L4}{p r:Int},jB (fun l=>dB m l.2.1∈hs) p Ls r↔∃ h∈hs,jB (fun l=>dB m l.2.1=h) p Ls r
 | [],p,r=>⟨fun z=>z.elim,fun⟨_,_,z⟩=>z.elim⟩
 | l::Ls,p,r=>by
  unfold jB;rw[aDz];constructor
  .rintro(⟨a,b,c⟩|⟨h,hh,z⟩)
   .exact⟨_,c,.inl ⟨a,b,rfl⟩⟩
   .exact⟨h,hh,.inr z⟩
  .rintro⟨h,hh,(⟨a,b,c⟩|z)⟩
   .exact .inl ⟨a,b,by rw[c];exact hh⟩
   .exact .inr ⟨h,hh,z⟩
noncomputable def vS(hs:List Str)(Fs:List L4)(m:Mnd):List Pr:=j8 hs (iN (gG m (c8 0 Fs)))
theorem aBm{hs:List Str}{F:List L4}{m:Mnd}(h:∀ l∈F,0<=l.2.2.2):zS (vS hs F m)/\(∀ r,Cov (vS hs F m) r↔jB (fun l=>dB m l.2.1∈hs) 0 F r)/\∀ r,Cov (vS hs F m) r->0<=r/\r<=inS F-1:=by
 have J:=xQ (m:=m) (vQ (p:=0) h);have G:dZ 0 (iN (gG m (c8 0 F))) (0+inS F):=vR (acc:=[]) (show dZ 0 [] 0 from rfl) J;have h1:∀ d∈iN (gG m (c8 0 F)),∃ z,d.2.2=[z]:=aA6 fun d hd=>by
  obtain⟨x,_,rfl⟩:=BA.mp hd;exact⟨_,rfl⟩
 refine⟨aGn G,fun r=>?_,fun r O=>?_⟩
 .unfold vS;rw[aBl h1,aDz];have key:∀ h',wD (iN (gG m (c8 0 F))) r h'↔jB (fun l=>dB m l.2.1=h') 0 F r:=fun h'=>by
   have:=xS r h' (ds:=gG m (c8 0 F)) (acc:=[]) (show dZ 0 [] 0 from rfl) J;unfold iN;rw[this,xT r h' h];exact⟨fun z=>z.elim (fun⟨_,z,_⟩=>by simp at z) id,fun z=>.inr z⟩
  exact⟨fun⟨h',a,b⟩=>⟨h',a,(key h').mp b⟩,fun⟨h',a,b⟩=>⟨h',a,(key h').mpr b⟩⟩
 .obtain⟨h',_,d,hd,a,b,_⟩:=(aBl h1 r).mp O;have:=(pP G).2 d hd;omega
def e7(s lo:Int)(ps:List Int):Int:=ps.foldl (fun lo p=>if p-s<=lo then(if p+s+1>lo then p+s+1 else lo) else lo) lo
theorem aGq{C:Int->Prop}{s last:Int}(Y:0<=s)(hC:∀ r,C r->0<=r/\r<=last){lo hi:Int}(G:0<=lo)(ht:∀ r,lo<=r->r<hi->C r)(F:lo<hi->hi<=last+1){l:List Int}{b:Int}(g:GrP C s l b):
  lo<=e7 s lo (l.map (post last s))/\(hi<=e7 s lo (l.map (post last s))\/b<=e7 s lo (l.map (post last s))):=by
 induction g with
 | nil=>exact⟨B2 _,.inr G⟩
 | @snoc l b q g n U=>
  obtain⟨i1,i2⟩:=U;have e:e7 s lo ((l++[q]).map (post last s))=(if post last s q-s<=e7 s lo (l.map (post last s)) then(if post last s q+s+1>e7 s lo (l.map (post last s)) then post last s q+s+1 else e7 s lo (l.map (post last s))) else e7 s lo (l.map (post last s))):=by
   unfold e7;rw[A1,EG];rfl
  rw[e];generalize e7 s lo (l.map (post last s))=low at i1 i2 ⊢;have Z:=hC q n.1;rcases i2 with z|z
  .refine⟨?_,.inl ?_⟩
   .split
    .split<;>omega
    .exact i1
   .split
    .split<;>omega
    .exact z
  .by_cases hl:low<hi
   .have O:q<=low:=by
     rcases Dc low q with y|y
     .exact absurd (ht low i1 hl) (n.2.2 low z y)
     .exact y
    have hh:=F (by omega);have J:post last s q-s<=low:=by unfold post;split<;>omega
    rw[Ib J];unfold post;refine⟨by split<;>split<;>omega,?_⟩;split
    .split
     .exact .inl (by omega)
     .exact .inl (by omega)
    .split
     .exact .inr (by omega)
     .exact .inr (by omega)
   .refine⟨?_,.inl ?_⟩
    .split
     .split<;>omega
     .exact i1
    .split
     .split<;>omega
     .omega
theorem aGr{C:Int->Prop}{s last:Int}(G:0<=s)(hC:∀ r,C r->0<=r/\r<=last){lo hi:Int}(F:0<=lo)(ht:∀ r,lo<=r->r<hi->C r){l:List Int}{b:Int}(g:GrP C s l b)(n:Nx C b none):hi<=e7 s lo (l.map (post last s)):=by
 obtain⟨h1,h2⟩:=aGq G hC F ht (fun hl=>by have:=hC (hi-1) (ht (hi-1) (by omega) (by omega));omega) g;rcases h2 with h2|h2
 .exact h2
 .rcases Dc (e7 s lo (l.map (post last s))) hi with z|z
  .exact absurd (ht _ h1 z) (n _ h2)
  .exact z
theorem aDA{Ls:List L4}(h:∀ l∈Ls,LOk l)(rs:List Rw):∀ l∈(dC Ls rs).1,0<=l.2.2.2:=fun l hl=>(aDu h rs l hl).i1
theorem aEC(hs:List Str)(F:List L4)(m:Mnd):(vS hs F m).length<=F.length:=by
 unfold vS j8;rw[Af];have h1:=CM (fun d:D3=>decide (d.2.2.headD ""∈hs)) (iN (gG m (c8 0 F)));have h2:=aA7 (gG m (c8 0 F));have J:(gG m (c8 0 F)).length=(c8 0 F).length:=by unfold gG;rw[Af]
 have G:=lT 0 F;omega
noncomputable def eQ(hs:List Str)(Ls:List L4)(rs:List Rw):List Pr:=vS hs (dC Ls rs).1 (dC Ls rs).2
theorem aGs(Ls:List L4)(rs:List Rw):(dC Ls rs).1.length=Ls.length:=by
 have:=congrArg CU (show(dC Ls rs).1.map (·.1)=Ls.map (·.1) from jP _ _)
 rw[Af,Af]at this;exact this
theorem vT{hs:List Str}{Ls:List L4}{rs:List Rw}(h:∀ l∈Ls,LOk l):zS (eQ hs Ls rs)/\(∀ r,Cov (eQ hs Ls rs) r->0<=r/\r<=inS Ls-1)/\(eQ hs Ls rs).length<=Ls.length:=by
 obtain⟨h1,_,h3⟩:=aBm (hs:=hs) (m:=(dC Ls rs).2) (aDA h rs);refine⟨h1,fun r F=>?_,?_⟩
 .have:=h3 r F;rw[aDv]at this;exact this
 .have:=aEC hs (dC Ls rs).1 (dC Ls rs).2;rw[aGs]at this;exact this
structure aED(H:Hp)(v:V)(last s:Int)(l:List Int):Prop where
 ex:∃ t p a,v=.ref t/\H t=some (.tup [.ref p,.ref a])/\H p=some (.lst ((l.map (post last s)).map V.int))/\H a=some (.lst (l.map V.int))
inductive vU(C T DM:Ad)(vs:List V)(H:Hp)(Q:VK)(E:XK):Prop
 | mk (t:Ad) (Ls:List L4) (rs:List Rw) (hl:Ad) (hs:List Str) (s:Int) (q0:vs=[.ref t,.int rs.length,.ref hl,.int s]) (q1:nC H t Ls rs) (q2:H hl=some (.lst (hs.map V.str))) (q3:Tb T H) (q4:(Ls.map (·.1)).Nodup) (q5:(∀ l∈Ls,LOk l)) (q6:Ls.length<=8) (q7:rs.length<=8) (q8:NmS (dC Ls rs).1 (dC Ls rs).2) (q9:0<=s) (q10:(∀(l:List Int) b v H',GrP (Cov (eQ hs Ls rs)) s l b->Nx (Cov (eQ hs Ls rs)) b none->l.length<=300->dW T H H'->Tb T H'->aED H' v (inS Ls-1) s l->Q v H')) (q11:(∀ H',dW T H H'->Tb T H'->aEx (Cov (eQ hs Ls rs)) s->E (.ref DM) none H')):vU C T DM vs H Q E
def aBn(C T DM:Ad):Sp:=fun vs H Q E=>vU C T DM vs H Q E
inductive xU(C T DM : Ad)(vs : List V)(H : Hp)(Q : VK)(E : XK) : Prop
  | mk (t : Ad) (Ls : List L4) (rs : List Rw) (hl : Ad) (hs : List Str) (s : Int) (v : V) (q0 : vs = [.ref t, .int rs.length, .ref hl, .int s, v]) (q1 : nC H t Ls rs) (q2 : H hl = some (.lst (hs.map V.str))) (q3 : Tb T H) (q4 : (Ls.map (·.1)).Nodup) (q5 : (∀ l∈Ls, LOk l)) (q6 : Ls.length <= 8) (q7 : rs.length <= 8) (q8 : NmS (dC Ls rs).1 (dC Ls rs).2) (q9 : 0 <= s) (q10 : ((aEx (Cov (eQ hs Ls rs)) s /\ ∀ H', dW T H H' -> Tb T H' -> E (.ref DM) none H') \/
   ∃ l b, GrP (Cov (eQ hs Ls rs)) s l b /\ Nx (Cov (eQ hs Ls rs)) b none /\ l.length <= 300 /\ aED H v (inS Ls-1) s l /\ ∀ H', dW T H H' -> Tb T H' -> Q (.bl true) H')) : xU C T DM vs H Q E
def aDB(C T DM:Ad):Sp:=fun vs H Q E=>xU C T DM vs H Q E
theorem xV{T a:Ad}{xs:List V}{H H':Hp}(s:dW T H H')(g:Tb T H)(h:H a=some (.lst xs)):H' a=some (.lst xs):=s _ _ (fun z=>by
 obtain⟨ps,hT,_⟩:=g.ex;rw[z,hT]at h;cases h) h
theorem aED.on{T:Ad}{H H':Hp}{v:V}{last s:Int}{l:List Int}(h:aED H v last s l)(S:dW T H H')(g:Tb T H):aED H' v last s l:=by
 obtain⟨t,p,a,e,h1,h2,h3⟩:=h.ex;exact⟨t,p,a,e,oC S g _ _ h1,xV S g h2,xV S g h3⟩
theorem aBo:bG ["roll","at","houses","sight","wanted","last"] ["roll","at","houses","sight"] (aM zH):=⟨rfl,rfl,rfl,by decide,rfl,by decide,by decide⟩
theorem aEE{f Z Y:Ad}{fd O U:A4}(F:Fun K "stands" "stands" zH f fd){C T DM:Ad}
  (GV:cA P w K mg base CX0 8 Z O ["roll","at","houses"] (aCr C T)) (mV:mg "view_of"=some (.ref Z)) (kV:AJ K (.ref Z)=true) (bV:dA K O ["roll","at","houses"] [])
  (GE:cA P w K mg base (CXr P w) 2 Y U ["wanted","last","sight"] (vK DM)) (mE:mg "fewest"=some (.ref Y)) (kE:AJ K (.ref Y)=true) (bE:dA K U ["wanted","last","sight"] [])
  :cA P w K mg base (CXr P w) 9 f fd ["roll","at","houses","sight"] (aBn C T DM):=by
 refine F.okR aBo (fun vs H Q E h=>?_) (fun az A outer s H vs Q E hr h=>?_)
 .obtain⟨t,Ls,rs,hl,hs,s,rfl,_⟩:=h;rfl
 .obtain⟨t,Ls,rs,hl,hs,s,rfl,roll,hhl,hT,hnn,hFs,h8,r8,hnm,h0,k,kr⟩:=h;have ad:cF 8 _:=hr.mono (by decide);have ae:cF 2 _:=hr.mono (by decide);have nd:=aBo.nd;refine⟨_,(aE (jQ (cB GV ad rfl mV kV bV .nil dP (aD (pv 0) (aD (pv 1) (aD (pv 2) aB)))) (dJ rfl (aQ (aP (i:=4) nd rfl (AC rfl)) (aQ (aP (i:=5) nd rfl (AC rfl)) cZ))))
   (aN (bC (cB GE ae rfl mE kE bE .nil (aAw fun _ _ _ h=>h) (aD (pv 4) (aD (pv 5) (aD (pv 3) aB))))))),?_⟩
  obtain⟨w1,w2,w3⟩:=vT (hs:=hs) (rs:=rs) hFs;refine⟨_,rfl,_,rfl,_,rfl,t,Ls,rs,hl,hs,rfl,roll,hhl,hT,hnn,hFs,h8,r8,hnm,fun r wl xs H1 S1 J er ew hW=>?_⟩;refine⟨r,_,rfl,bJ er,rfl,_,_,rfl,_,_,rfl,rfl,_,rfl,_,rfl,_,rfl,wl,inS Ls-1,s,xs,eQ hs Ls rs,rfl,ew,hW,by omega,w1,h0,fun l b t' p a H2 g n aa G e1 e2 e3=>?_,fun H2 G hL=>?_⟩
  .exact k l b _ H2 g n aa (S1.trans G.butT) (J.same G) ⟨t',p,a,rfl,e1,e2,e3⟩
  .exact kr H2 (S1.trans G.butT) (J.same G) hL
theorem aDC:bG ["roll","at","houses","sight","thing","wanted","last","many","posts","apart"] ["roll","at","houses","sight","thing"] (aM aCj):=⟨rfl,rfl,rfl,by decide,rfl,by decide,by decide⟩
theorem aGt{f fV fS fB fE fA:Ad}{fd af aa ag ae ah:A4}(F:Fun K "shows_stands" "shows_stands" aCj f fd){C T DM:Ad}(Y:mg "len"=none)(ad:mg "isinstance"=none)(U:mg "tuple"=none)
  (GV:cA P w K mg base CX0 8 fV af ["roll","at","houses"] (aCr C T)) (mV:mg "view_of"=some (.ref fV)) (kV:AJ K (.ref fV)=true) (bV:dA K af ["roll","at","houses"] [])
  (GS:cA P w K mg base CX0 2 fS aa ["wanted","sight","posts"] xO) (mS:mg "sees_all"=some (.ref fS)) (kS:AJ K (.ref fS)=true) (bS:dA K aa ["wanted","sight","posts"] [])
  (GB:cA P w K mg base CX0 2 fB ag ["wanted","sight","places"] vO) (mB:mg "are_apart"=some (.ref fB)) (kB:AJ K (.ref fB)=true) (bB:dA K ag ["wanted","sight","places"] [])
  (GE:cA P w K mg base (CXr P w) 2 fE ae ["wanted","last","sight"] (vK DM)) (mE:mg "fewest"=some (.ref fE)) (kE:AJ K (.ref fE)=true) (bE:dA K ae ["wanted","last","sight"] [])
  (GA:cA P w K mg base CX0 3 fA ah ["thing","many","last"] rH) (mA:mg "are_places"=some (.ref fA)) (kA:AJ K (.ref fA)=true) (bA:dA K ah ["thing","many","last"] [])
  :cA P w K mg base (CXr P w) 9 f fd ["roll","at","houses","sight","thing"] (aDB C T DM):=by
 refine F.okR aDC (fun vs H Q E h=>?_) (fun bn A outer s H vs Q E hr h=>?_)
 .obtain⟨t,Ls,rs,hl,hs,s,v,rfl,_⟩:=h;rfl
 .obtain⟨t,Ls,rs,hl,hs,s,v,rfl,roll,hhl,hT,hnn,hFs,h8,r8,hnm,h0,k⟩:=h;have al:cF 8 _:=hr.mono (by decide);have aj:cF 3 _:=hr.mono (by decide);have Z:cF 2 _:=hr.mono (by decide);have nd:=aDC.nd;refine⟨_,(aE (jQ (cB GV al rfl mV kV bV .nil dP (aD (pv 0) (aD (pv 1) (aD (pv 2) aB)))) (dJ rfl (aQ (aP (i:=5) nd rfl (AC rfl)) (aQ (aP (i:=6) nd rfl (AC rfl)) cZ))))
   (aE (aX (i:=7) nd rfl (AC rfl) (aV cO (by rfl) Y BK (aD (bO dG (cB GE Z rfl mE kE bE .nil (aAw fun _ _ _ h=>h) (aD (pv 5) (aD (pv 6) (aD (pv 3) aB)))) aG Ih) aB)))
   (aE (dN (PW.pt (qM (j9 (iU (aV jI (by rfl) ad (by kernel_rfl) (aD (pv 4) (aD (oI (v:=.ty "tuple") (by rfl) U (by kernel_rfl) rfl) aB))))) (nN (cG wJ (aV cO (by rfl) Y BK (aD (pv 4) aB)) aG (cH _))))) (aN (bC jC)) cN)
   (aE (jQ (pv 4) (dJ rfl (aQ (aP (i:=8) nd rfl (AC rfl)) (aQ (aP (i:=9) nd rfl (AC rfl)) cZ))))
   (aE (dN (PW.pt (qM (j9 (iU (cB GA aj rfl mA kA bA .nil dP (aD (pv 8) (aD (pv 7) (aD (pv 6) aB)))))) (nN (j9 (iU (cB GA aj rfl mA kA bA .nil dP (aD (pv 9) (aD (pv 7) (aD (pv 6) aB))))))))) (aN (bC jC)) cN)
   (aN (bC (yG (cB GS Z rfl mS kS bS .nil dP (aD (pv 5) (aD (pv 3) (aD (pv 8) aB)))) (yF (cB GB Z rfl mB kB bB .nil dP (aD (pv 5) (aD (pv 3) (aD (pv 9) aB))))))))))))),?_⟩
  obtain⟨w1,w2,w3⟩:=vT (hs:=hs) (rs:=rs) hFs;refine⟨_,rfl,_,rfl,_,rfl,t,Ls,rs,hl,hs,rfl,roll,hhl,hT,hnn,hFs,h8,r8,hnm,fun r wl xs H1 S1 ak er ew hW=>?_⟩;refine⟨r,_,rfl,bJ er,rfl,_,_,rfl,_,_,rfl,rfl,_,rfl,_,rfl,_,rfl,wl,inS Ls-1,s,xs,eQ hs Ls rs,rfl,ew,hW,by omega,w1,h0,fun l b t' p a H2 g n bh O e1 e2 e3=>?_,fun H2 O hL=>?_⟩
  .rcases k with⟨hL,_⟩|⟨l2,b2,g2,n2,hl2,st,k⟩
   .exfalso;obtain⟨l4,b4,g4,hl4⟩:=hL;have:=lV g n g4;omega
   have el:l=l2:=(pL g g2 (Nat.le_antisymm (lV g2 n2 g) (lV g n g2))).1;subst el;have ai:=S1.trans O.butT (T:=T);have au:=ak.same O;have ap:=st.on ai hT;have J:=GrP.info h0 g;obtain⟨t5,p5,a5,rfl,f1,f2,f3⟩:=ap.ex;refine⟨t',_,0,_,rfl,rfl,bJ e1,rfl,p,_,rfl,.inl (aO e2),_,rfl,_,"tuple",_,true,rfl,lG.tup f1,uB,_,rfl,dU ?_⟩;refine⟨_,rfl,t5,_,rfl,.inr (bJ f1),rfl,_,rfl,dU ?_⟩;refine⟨_,rfl,t5,_,rfl,bJ f1,rfl,_,_,rfl,_,_,rfl,rfl,?_⟩;have hC:=w2;have ml:((l.map (post (inS Ls-1) s)).map V.int).length=l.length:=by rw[Af,Af]
   rw[ml];refine⟨_,rfl,_,rfl,_,rfl,p5,inS Ls-1,l.map (post (inS Ls-1) s),by simp,f2,aBh J h0 hC,by rw[Af];omega,aBi J h0 hC,fun H3 S3=>⟨_,rfl,?_⟩⟩;refine dU ?_;refine⟨_,rfl,_,rfl,_,rfl,a5,inS Ls-1,l,rfl,S3 _ _ f3,aJR J h0,by omega,aJS J hC,fun H4 S4=>⟨_,rfl,?_⟩⟩;refine dU ?_;have G:=S3.trans S4;refine⟨_,rfl,_,rfl,_,rfl,wl,p5,s,inS Ls-1,xs,eQ hs Ls rs,l,b,rfl,G _ _ (O _ _ ew),Paired.mapP hW fun _ _ z=>z.on (aK (O.trans G)),by omega,w1,h0,hC,G _ _ f2,g,n,_,rfl,iD ?_⟩;refine⟨_,rfl,_,rfl,_,rfl,wl,a5,s,xs,eQ hs Ls rs,l,b,rfl,G _ _ (O _ _ ew),Paired.mapP hW fun _ _ z=>z.on (aK (O.trans G)),by omega,w1,h0,G _ _ f3,by omega,g,fun H5 S5=>?_⟩;exact k H5 ((ai.trans G.butT).trans S5.butT) ((au.same G).same S5)
  .rcases k with⟨_,k⟩|⟨l2,b2,g2,n2,hl2,st,k⟩
   .exact k H2 (S1.trans O.butT) (ak.same O)
   .exfalso;obtain⟨l4,b4,g4,hl4⟩:=hL;have:=lV g2 n2 g4;omega
def PrR(H:Hp)(r:Ad)(z:Pr):Prop:=H r=some (.tup [.int z.1,.int z.2])
inductive vV(vs:List V)(H:Hp)(Q:VK)(u3_:XK):Prop
 | mk (l:Ad) (s:Int) (rs:List Ad) (S:List Pr) (q0:vs=[.ref l,.int s]) (q1:H l=some (.lst (rs.map V.ref))) (q2:AZ (PrR H) rs S) (q3:S.length<=8) (q4:0<=s) (q5:s<2^40) (q6:(∀ t∈S,0<=t.1/\t.1<2^40/\0<=t.2/\t.2<2^40)) (q7:∀ n H',bU H H'->(n<=300->aHZ (Cov S) s)->(300<n->aEx (Cov S) s)->Q (.int n) H'):vV vs H Q u3_
def aBp:Sp:=fun vs H Q u3_=>vV vs H Q u3_
inductive vW(vs:List V)(H:Hp)(Q:VK)(u3_:XK):Prop
 | mk (t p:Ad) (lo hi s:Int) (ps:List Int) (q0:vs=[.ref t,.ref p,.int s]) (q1:H t=some (.tup [.int lo,.int hi])) (q2:H p=some (.lst (ps.map V.int))) (q3:Q (.bl (decide (hi<=e7 s lo ps))) H):vW vs H Q u3_
def aBq:Sp:=fun vs H Q u3_=>vW vs H Q u3_
inductive xW(vs:List V)(H:Hp)(Q:VK)(u3_:XK):Prop
 | mk (l:Ad) (rs:List Ad) (S:List Pr) (v:V) (s last:Int) (ls:List Int) (b:Int) (q0:vs=[.ref l,.int (last+1),.int s,v]) (q1:H l=some (.lst (rs.map V.ref))) (q2:AZ (PrR H) rs S) (q3:S.length<=8) (q4:aED H v last s ls) (q5:0<=s) (q6:(∀ r,Cov S r->0<=r/\r<=last)) (q7:(∀ t∈S,0<=t.1)) (q8:ls.length<=300) (q9:GrP (Cov S) s ls b) (q10:Nx (Cov S) b none) (q11:∀ H',bU H H'->Q (.bl true) H'):xW vs H Q u3_
def aDD:Sp:=fun vs H Q u3_=>xW vs H Q u3_
theorem aGu{S S':List Pr}(h:S'.Perm S):Cov S'=Cov S:=funext fun p=>propext ⟨fun⟨t,ht,a⟩=>⟨t,h.mem_iff.mp ht,a⟩,fun⟨t,ht,a⟩=>⟨t,h.mem_iff.mpr ht,a⟩⟩
theorem aGv{H:Hp}{J rs:List Ad}(O:J.Perm rs):∀{S:List Pr},AZ (PrR H) rs S->∃ S',S'.Perm S/\AZ (PrR H) J S':=by
 induction O with
 | nil=>intro S h;exact⟨S,.refl _,h⟩
 | cons a _ U=>
  intro S h;cases h with
  | cons r t=>
   obtain⟨es,h1,h2⟩:=U t;exact⟨_::es,h1.cons _,.cons r h2⟩
 | swap a b l=>
  intro S h;cases h with
  | cons r t=>
   cases t with
   | cons Y Z=>exact⟨_::_::_,.swap _ _ _,.cons Y (.cons r Z)⟩
 | trans _ _ G F=>
  intro S h;obtain⟨es,h1,h2⟩:=F h;obtain⟨fs,h3,h4⟩:=G h2;exact⟨fs,h3.trans h1,h4⟩
theorem aGw{H:Hp}:∀{F:List Ad}{S:List Pr},AZ (PrR H) F S->(F.Pairwise fun a b=>ltI (jS H (.ref b)) (jS H (.ref a))=false)->S.Pairwise fun a b=>a.1<=b.1
 | _,_,.nil,_=>BZ
 | _,_,.cons (a:=r) (b:=z) (l₁:=F) q t,h=>by
  obtain⟨h1,h2⟩:=Cg.mp h;refine Cg.mpr ⟨fun x J=>?_,aGw t h2⟩;obtain⟨i,hi⟩:=BE J;have hl:=aZ t;obtain⟨hi',_⟩:=Ak.mp hi;obtain⟨y,e1⟩:∃ y,F[i]?=some y:=⟨_,Ae (by omega)⟩
  have G:=Paired.at t e1 hi;have:=h1 y (AU e1);have O:jS H (.ref r)=z:=by unfold jS;dsimp only;rw[show H r=_ from q]
  have p2:jS H (.ref y)=x:=by unfold jS;dsimp only;rw[show H y=_ from G]
  rw[O,p2]at this;rcases Dc x.1 z.1 with y|y
  .rw[(pF x z).mpr (.inl y)]at this;cases this
  .exact y
theorem PrR.on{H H':Hp}{r:Ad}{z:Pr}(h:PrR H r z)(t:gU H H'):PrR H' r z:=t _ _ h
theorem aBr:bG ["_law_strips","_law_sight","_law_found","_law_bound","_law_low","_law_high","_law_many"] ["_law_strips","_law_sight"] (aM zJ):=⟨rfl,rfl,rfl,by decide,rfl,by decide,by decide⟩
theorem aEF{f:Ad}{fd:A4}(F:Fun K "_law_needed" "_law_needed" zJ f fd)(af:mg "sorted"=none)(ah:mg "max"=none)(Z:mg "min"=none)
  :cA P w K mg base CX0 1 f fd ["_law_strips","_law_sight"] aBp:=by
 refine F.ok aBr (fun vs H Q E h=>?_) (fun aI A outer s H vs Q E hr h=>?_)
 .obtain⟨l,s,rs,S,rfl,_⟩:=h;rfl
 .obtain⟨l,s,rs,S,rfl,hl,hS,h8,h0,hs2,hb,k⟩:=h;have nd:=aBr.nd;refine⟨_,(aE (aX (i:=2) nd rfl (AC rfl) aG)
   (aE (aX (i:=3) nd rfl (AC rfl) aG)
   (aE (fO Bz rfl (dO (aV wB (by rfl) af (by kernel_rfl) (aD (pv 0) aB))) (g:=oJ K 2 (cW (aW 4) (cW (aW 5) nO))) (dJ rfl (aQ (aP (i:=4) nd rfl (AC rfl)) (aQ (aP (i:=5) nd rfl (AC rfl)) cZ)))
   (aE (aX (i:=3) nd rfl (AC rfl) (aV (pU rfl) (by rfl) ah (by kernel_rfl) (aD (pv 3) (aD (pv 4) aB))))
    (aN (dN (PW.pt (aBF (cG qN (pv 3) (pv 5) (cH _)) (yE (cG qN (pv 2) aG (cH _))))) (aE (aX (i:=6) nd rfl (AC rfl) (aV (jU rfl) (by rfl) Z (by kernel_rfl) (aD aG (aD (aU lM (aU cC (aU iV (pv 5) (pv 3)) (aU eR aG (pv 1))) (aU cC (aU eR aG (pv 1)) aG)) aB))))
     (aE (aX (i:=2) nd rfl (AC rfl) (aU cC (pv 2) (pv 6)))
     (aN (aX (i:=3) nd rfl (AC rfl) (aU cC (pv 3) (aU aCO (pv 6) (aU cC (aU eR aG (pv 1)) aG))))))) cN))))
   (aN (bC (aV (jU rfl) (by rfl) Z (by kernel_rfl) (aD (pv 2) (aD aG aB)))))))),?_⟩
  refine⟨_,rfl,l,rs,S,rfl,hl,hS,AM h8 (by rw[A6];decide),fun D ms hD aq an=>?_⟩;have sD:=aH (o:=.lst (ms.map V.ref)) hD;obtain⟨S',hSp,hS'⟩:=aGv aq hS;have av:=aGw hS' an;have eD:upd H D (.lst (ms.map V.ref)) D=some (.lst (ms.map V.ref)):=aA;have ae:=Paired.mapP hS' fun _ _ z=>PrR.on z (aK sD);have ec:=aGu hSp;rw[<- ec]at k;have ar:∀ t∈S',0<=t.1/\t.1<2^40/\0<=t.2/\t.2<2^40:=fun t ht=>hb t (hSp.mem_iff.mp ht);have ay:S'.length<=8:=by rw[hSp.length_eq];exact h8
  have am:=aZ hS';generalize upd H D (.lst (ms.map V.ref))=H1 at sD eD ae ⊢;refine⟨D,rfl,⟨_,aO eD⟩,?_⟩;refine hJ (K:=K) (xs:=ms.map V.ref) (fun i σ H'=>Ex3 fun(o4 o5 o6:Option V)=>∃(st:Int×Int),Aw3 (σ=[some (.ref l),some (.int s),some (.int st.1),some (.int st.2),o4,o5,o6]) (H'=H1) (Aw3 (aBb S' s i st.1 st.2) (st.2<=2^40+(i:Int)*2^60) (st.1<=(i:Int)*301))) ⟨none,none,none,(0,0),rfl,rfl,aCt S' s,by decide,by decide⟩ (fun i σ H' _ q=>by obtain⟨_,_,_,_,_,rfl,_⟩:=q;exact aO eD) ?_ ?_
  .rintro i v σ H' hv ⟨o4,o5,o6,st,rfl,rfl,U,hB,hF⟩;rw[AB]at hv;obtain⟨r,hr1,rfl⟩:=A5.mp hv;have hi:i<S'.length:=by
    have:=(Ak.mp hr1).1;omega
   have ag:S'[i]?=some S'[i]:=Ae hi;have hq:H' r=some (.tup [.int S'[i].1,.int S'[i].2]):=Paired.at (R:=PrR H') ae hr1 ag;have ao:=ar _ (A2 hi);have O:=aEy h0 av ag U;have n0:=U.b0;have f0:=U.f0;have aL:(i:Int)<=8:=by omega
   generalize S'[i]=t at hq ao O;obtain⟨found,B⟩:=st;dsimp only at *;refine⟨r,_,rfl,bJ hq,rfl,_,_,rfl,_,_,rfl,rfl,_,rfl,_,rfl,_,_,rfl,?_⟩;obtain⟨G,hB'⟩:∃ G,G=if t.1>B then t.1 else B:=⟨_,rfl⟩
   have J:pM s (found,B) t=if G<t.2/\found<301 then(found+(if (t.2-G+2*s)/(2*s+1)<301 then(t.2-G+2*s)/(2*s+1) else 301),G+(if (t.2-G+2*s)/(2*s+1)<301 then(t.2-G+2*s)/(2*s+1) else 301)*(2*s+1)) else(found,G):=by
    rw[hB'];rfl
   rw[<- hB'];have a0:G<=2^40+(i:Int)*2^60:=by rw[hB'];split<;>omega
   have bb:0<=G:=by rw[hB'];split<;>omega
   clear hB';have Y:((i+1:Nat):Int)=(i:Int)+1:=rfl;refine⟨_,rfl,_,rfl,_,_,rfl,rfl,_,rfl,mQ (fun g1=>?_) fun g1=>?_⟩
   .have ad:G<t.2:=Ig g1;refine⟨_,rfl,_,_,rfl,rfl,_,rfl,mQ (fun g2=>?_) fun g2=>?_⟩
    .have aa:found<301:=Ig g2;rw[Ib ⟨ad,aa⟩]at J;obtain⟨N,hN⟩:∃ N,N=(t.2-G+2*s)/(2*s+1):=⟨_,rfl⟩
     have be:0<=N:=by rw[hN];exact Gk (by omega) (by omega)
     rw[<- hN]at J;obtain⟨M,hM⟩:∃ M,M=if N<301 then N else 301:=⟨_,rfl⟩
     have aj:0<=M/\M<=301:=by rw[hM];split<;>omega
     rw[<- hM]at J;have bc:0<=M*(2*s+1)/\M*(2*s+1)<=301*(2*s+1):=⟨Dp aj.1 (by omega),B5 aj.2 (by omega)⟩
     refine⟨_,rfl,_,rfl,_,_,rfl,rfl,_,rfl,_,_,rfl,rfl,.inl (by decide),_,_,rfl,rfl,_,rfl,_,_,rfl,rfl,.inl (by decide),_,_,rfl,rfl,_,_,rfl,rfl,qR.of (by omega) (Fc (show 2*s+1<2^60 by omega) (by decide)),_,_,rfl,?_⟩;rw[<- hN,<- hM];refine⟨_,rfl,_,rfl,_,_,rfl,rfl,_,rfl,_,rfl,_,rfl,_,_,rfl,rfl,.inl (by decide),_,_,rfl,rfl,_,_,rfl,rfl,⟨B0 (show M.natAbs<=301 by omega) (by decide),B0 (show(2*s+1).natAbs<=2^60 by omega) (by decide)⟩,_,_,rfl,rfl,?_⟩;rw[J]at O;exact⟨_,_,_,(found+M,G+M*(2*s+1)),rfl,rfl,O,by dsimp only;rw[Y];omega,by dsimp only;rw[Y];omega⟩
    .have aa:¬ found<301:=fun z=>g2 (Ic z);rw[Ia fun z=>aa z.2]at J;rw[J]at O;exact⟨_,_,_,(found,G),rfl,rfl,O,by dsimp only;rw[Y];omega,by dsimp only;rw[Y];omega⟩
   .have ad:¬ G<t.2:=fun z=>g1 (Ic z);rw[Ia fun z=>ad z.1]at J;rw[J]at O;exact dU ⟨_,_,_,(found,G),rfl,rfl,O,by dsimp only;rw[Y];omega,by dsimp only;rw[Y];omega⟩
  .rintro σ H' ⟨o4,o5,o6,st,rfl,rfl,U,hB,hF⟩;rw[Af,am]at U;obtain⟨e1,e2⟩:=aGk U;refine⟨_,rfl,_,_,rfl,k _ _ sD (fun z=>e1 ?_) fun z=>e2 ?_⟩
   .split at z<;>omega
   .split at z<;>omega
theorem aBs:bG ["_law_strip","_law_some","_law_sight","_law_low","_law_high","_law_one"] ["_law_strip","_law_some","_law_sight"] (aM zK):=⟨rfl,rfl,rfl,by decide,rfl,by decide,by decide⟩
theorem aEG{f:Ad}{fd:A4}(F:Fun K "_law_is_seen" "_law_is_seen" zK f fd)(G:mg "max"=none)
  :cA P w K mg base CX0 1 f fd ["_law_strip","_law_some","_law_sight"] aBq:=by
 refine F.ok aBs (fun vs H Q E h=>?_) (fun U A outer s H vs Q E Y h=>?_)
 .obtain⟨t,p,lo,hi,s,ps,rfl,_⟩:=h;rfl
 .obtain⟨t,p,lo,hi,s,ps,rfl,ht,hp,k⟩:=h;have nd:=aBs.nd;refine⟨_,(aE (jQ (pv 0) (dJ rfl (aQ (aP (i:=3) nd rfl (AC rfl)) (aQ (aP (i:=4) nd rfl (AC rfl)) cZ))))
   (aE (fO Bz rfl (dO (pv 1)) (g:=aW 5) (aP (i:=5) nd rfl (AC rfl))
   (aN (dN (cG wK (aU iV (pv 5) (pv 2)) (pv 3) (cH _)) (aN (aX (i:=3) nd rfl (AC rfl) (aV (pU rfl) (by rfl) G (by kernel_rfl) (aD (pv 3) (aD (aU cC (aU cC (pv 5) (pv 2)) aG) aB))))) cN)))
   (aN (bC (iP aHH (pv 3) (pv 4) (cH _)))))),?_⟩
  refine⟨_,rfl,t,_,rfl,bJ ht,rfl,_,_,rfl,_,_,rfl,rfl,_,rfl,p,rfl,⟨_,aO hp⟩,?_⟩;refine hJ (K:=K) (xs:=ps.map V.int) (fun i σ H'=>∃(J:Option V),σ=[some (.ref t),some (.ref p),some (.int s),some (.int (e7 s lo (ps.take i))),some (.int hi),J]/\H'=H) ⟨none,rfl,rfl⟩ (fun i σ H' _ q=>by obtain⟨_,_,rfl⟩:=q;exact aO hp) ?_ ?_
  .rintro i v σ H' O ⟨J,rfl,rfl⟩;rw[AB]at O;obtain⟨n,hn1,rfl⟩:=A5.mp O;have es:e7 s lo (ps.take (i+1))=(if n-s<=e7 s lo (ps.take i) then(if n+s+1>e7 s lo (ps.take i) then n+s+1 else e7 s lo (ps.take i)) else e7 s lo (ps.take i)):=by
    unfold e7;rw[Bk,hn1,EG];rfl
   rw[es];generalize e7 s lo (ps.take i)=low;dsimp only[aW];refine⟨_,rfl,_,rfl,_,_,rfl,rfl,_,rfl,_,_,rfl,rfl,_,rfl,mQ (fun g=>?_) fun g=>?_⟩
   .have g':n-s<=low:=Ig g;rw[Ib g'];exact⟨_,rfl,_,rfl,_,rfl,_,_,rfl,rfl,_,_,rfl,rfl,_,_,rfl,_,rfl,rfl⟩
   .have g':¬ n-s<=low:=fun z=>g (Ic z);rw[Ia g'];exact⟨_,rfl,rfl⟩
  .rintro σ H' ⟨J,rfl,rfl⟩;rw[Af,Bg];exact⟨_,rfl,_,rfl,_,_,rfl,rfl,k⟩
theorem aDE:bG ["_law_strips","_law_beyond","_law_sight","_law_thing","_law_some","_law_apart","_law_one"] ["_law_strips","_law_beyond","_law_sight","_law_thing"] (aM nY):=⟨rfl,rfl,rfl,by decide,rfl,by decide,by decide⟩
theorem aGx{f:Ad}{fd:A4}(F:Fun K "_law_holds" "_law_holds" nY f fd)(ae:mg "len"=none)(ar:mg "range"=none)(av:mg "set"=none)(ba:mg "sorted"=none)
  (GS:Cl P w K mg base 1 "_law_is_seen" ["_law_strip","_law_some","_law_sight"] aBq)
  :cA P w K mg base CX0 2 f fd ["_law_strips","_law_beyond","_law_sight","_law_thing"] aDD:=by
 refine F.ok aDE (fun vs H Q E h=>?_) (fun bV A outer s H vs Q E hr h=>?_)
 .obtain⟨l,rs,S,v,s,last,ls,b,rfl,_⟩:=h;rfl
 .obtain⟨l,rs,S,v,s,last,ls,b,rfl,hl,hS,h8,st,h0,hC,hlo,hz,gg,nx,k⟩:=h;have J:cF 1 _:=hr.mono (by decide);have hu:_<_:=hr.units0;have nd:=aDE.nd;refine⟨_,(aE (jQ (pv 3) (dJ rfl (aQ (aP (i:=4) nd rfl (Ej rfl)) (aQ (aP (i:=5) nd rfl (Ej rfl)) cZ))))
   (aE (dN (PW.pt (qM (cG wJ (aV cO (by rfl) ae BK (aD (pv 4) aB)) (aV cO (by rfl) ae BK (aD (pv 5) aB)) (cH _)) (qM (cG (aBZ hu) (pv 4) (aV (nB rfl) (by rfl) ba (by kernel_rfl) (aD (fU (uP rfl) (by rfl) av (by kernel_rfl) (aD (pv 4) aB)) aB)) (cH _)) (nN (cG (aAD hu) (dR (N:=["_law_one","_law_beyond"]) (src:=[none,some 1]) (osc:=aM nY) (oN:=["_law_strips","_law_beyond","_law_sight","_law_thing","_law_some","_law_apart","_law_one"]) ⟨by rfl,by decide,by decide,by decide,rfl,by rfl⟩ (dO (pv 4)) (fun cl s H fp df C=>⟨aP (i:=0) (show(["_law_one","_law_beyond"]:List Str).Nodup by decide) rfl (AC rfl),lX (j9 (aAb wK qN aG (pv 0) (pv 1))),pv 0⟩)) (cJ aB) (cH _)))))) (aN (bC jC)) cN)
   (aE (fO Bz rfl (dO (pv 5)) (g:=aW 6) (aP (i:=6) nd rfl (Ej rfl))
   (aN (dN (cG (aAE hu) (dR (N:=["_law_strip","_law_one"]) (src:=[none,some 6]) (osc:=aM nY) (oN:=["_law_strips","_law_beyond","_law_sight","_law_thing","_law_some","_law_apart","_law_one"]) ⟨by rfl,by decide,by decide,by decide,rfl,by rfl⟩ (dO (pv 0)) (fun cl s H fp df C=>⟨aP (i:=0) (show(["_law_strip","_law_one"]:List Str).Nodup by decide) rfl (AC rfl),lX (aAb wK qN (bO (r:=aAh K) dG (pv 0) aG Ih) (pv 1) (bO (r:=aAh K) dG (pv 0) aG Ih)),pv 0⟩)) (cJ aB) (cH _)) (aN (bC jC)) cN)))
   (aE (dN (cG (aAD hu) (dR (N:=["_law_k","_law_sight","_law_apart"]) (src:=[none,some 2,some 5]) (osc:=aM nY) (oN:=["_law_strips","_law_beyond","_law_sight","_law_thing","_law_some","_law_apart","_law_one"]) ⟨by rfl,by decide,by decide,by decide,rfl,by rfl⟩ (aDW rfl ar (aD aG (aD (aV cO (by rfl) ae BK (aD (pv 5) aB)) aB))) (fun cl s H fp df C=>⟨aP (i:=0) (show(["_law_k","_law_sight","_law_apart"]:List Str).Nodup by decide) rfl (AC rfl),lX (cG wK (aU iV (bO (r:=yM K) bW (pv 2) (pv 0) Ih) (bO (r:=yM K) bW (pv 2) (aU iV (pv 0) aG) Ih)) (aU eR aG (pv 1)) (cH _)),pv 0⟩)) (cJ aB) (cH _)) (aN (bC jC)) cN)
   (aN (bC (iP (aAE hu) (dR (N:=["_law_strip","_law_sight","_law_some"]) (src:=[none,some 2,some 4]) (osc:=aM nY) (oN:=["_law_strips","_law_beyond","_law_sight","_law_thing","_law_some","_law_apart","_law_one"]) ⟨by rfl,by decide,by decide,by decide,rfl,by rfl⟩ (dO (pv 0)) (fun cl s H fp df C=>⟨aP (i:=0) (show(["_law_strip","_law_sight","_law_some"]:List Str).Nodup by decide) rfl (AC rfl),lX (j9 (iU (dH GS J (aD (pv 0) (aD (pv 2) (aD (pv 1) aB)))))),pv 0⟩)) (cJ aB) (cH _)))))))),?_⟩
  obtain⟨t,p,a,rfl,e1,e2,e3⟩:=st.ex;have af:=GrP.info h0 gg;have bj:=aBh af h0 hC;have aI:=aBi af h0 hC;have al:((ls.map (post last s)).map V.int).length=ls.length:=by rw[Af,Af]
  refine⟨_,rfl,t,_,rfl,bJ e1,rfl,_,_,rfl,_,_,rfl,rfl,_,rfl,p,_,rfl,.inl (aO e2),_,rfl,a,_,rfl,.inl (aO e3),rfl,_,rfl,?_⟩;rw[al,Af,Ic rfl];refine dU ?_;refine⟨_,rfl,_,rfl,p,_,rfl,e2,by rw[Af];omega,fun q hq=>?_⟩;have sq:=aH (o:=rA P w q (ls.map (post last s))) hq;refine⟨q,_,rfl,aA,by rw[Af];omega,fun L ms hL br bo=>?_⟩;have sL:=aH (o:=.lst (ms.map V.int)) hL;have em:=rG br bo bj;subst em;have eL:upd (upd H q (rA P w q (ls.map (post last s)))) L (.lst ((ls.map (post last s)).map V.int)) L=some (.lst ((ls.map (post last s)).map V.int)):=aA;have S1:=sq.trans sL;obtain⟨H1,hH1⟩:∃ H1,H1=upd (upd H q (rA P w q (ls.map (post last s)))) L (.lst ((ls.map (post last s)).map V.int)):=⟨_,rfl⟩
  have bb:bU H H1:=by rw[hH1];exact S1
  refine⟨p,L,_,_,rfl,rfl,aO (S1 _ _ e2),aO eL,iS _,iS _,_,rfl,?_⟩;rw[p4,Ic rfl];refine dU ?_;refine⟨_,rfl,p,rfl,⟨_,aO (S1 _ _ e2)⟩,?_⟩;refine fW (K:=K) (xs:=(ls.map (post last s)).map V.int) (fun i ys O H'=>∃(U:Option V),O=[U,some (.int (last+1))]/\H'=H1/\ys=[]) ⟨none,rfl,hH1.symm,rfl⟩
   (Bd (by rw[A6,al];omega)) (fun i ys σ H p=>by obtain⟨_,_,_,rfl⟩:=p;exact AV _) (fun i ys σ H q=>by obtain⟨_,_,rfl,_⟩:=q;exact aO (bb _ _ e2)) ?_ ?_
  .rintro i v ys O H3 hv ⟨U,rfl,rfl,rfl⟩;rw[AB]at hv;obtain⟨n,hn1,rfl⟩:=A5.mp hv;have hb:=aI n (AU hn1);dsimp only[aW];refine⟨_,rfl,_,_,rfl,rfl,_,rfl,?_⟩;rw[Ic hb.1];refine iD ?_;refine⟨_,rfl,_,_,rfl,rfl,_,rfl,?_⟩;rw[Ic (show n<last+1 by omega)];refine dU ?_;exact⟨_,rfl,rfl,rfl⟩
  .rintro ys O H3 ⟨U,rfl,rfl,rfl⟩ D hD;have sD:=aH (o:=.lst ([]:List V)) hD;have eD:upd H3 D (.lst ([]:List V)) D=some (.lst []):=aA;have S3:=bb.trans sD;clear eL S1 hH1;generalize upd H3 D (.lst ([]:List V))=H4 at eD S3 ⊢;refine⟨AV _,fun D2 ad=>?_⟩;have G:=aH (o:=.lst ([]:List V)) ad;refine⟨D,D2,_,rfl,rfl,aO (G _ _ eD),aO aA,_,rfl,?_⟩;rw[show decide (0<([]:List V).length)=false from rfl];refine dU ?_;have S5:=S3.trans G;generalize upd H4 D2 (.lst ([]:List V))=H5 at S5 ⊢;clear S3 eD G;have bT:=S5 _ _ hl;have bP:=Paired.mapP hS fun _ _ z=>PrR.on z (aK S5);refine⟨_,rfl,a,rfl,⟨_,aO (S5 _ _ e3)⟩,?_⟩;refine hJ (K:=K) (xs:=ls.map V.int) (fun i σ H'=>∃(o6:Option V),σ=[some (.ref l),some (.int (last+1)),some (.int s),some (.ref t),some (.ref p),some (.ref a),o6]/\bU H H') ⟨none,rfl,S5⟩ (fun i σ H' _ q=>by obtain⟨_,_,S⟩:=q;exact aO (S _ _ e3)) ?_ ?_
   .rintro i v σ H' hv ⟨o6,rfl,S6⟩;rw[AB]at hv;obtain⟨n,hn1,rfl⟩:=A5.mp hv;obtain⟨x,hx,x1,x2⟩:=(af.c n (AU hn1)).1;have a0:=S6 _ _ hl;obtain⟨j0,hj0⟩:=BE hx;have bh:=Paired.mapP hS fun _ _ z=>PrR.on z (aK S6);have bA:=aZ hS;have bB:=(Ak.mp hj0).1;dsimp only[aW];refine⟨_,rfl,l,rfl,⟨_,aO a0⟩,?_⟩;refine fW (K:=K) (xs:=rs.map V.ref) (fun i ys O Z=>∃(U:Option V),Aw3 (O=[U,some (.int n)]) (Z=H') (ys.length<=i/\(j0<i->ys≠[]))) ⟨none,rfl,rfl,Aj _,fun z=>absurd z (Gj _)⟩
     (Bd (by rw[A6,Af];omega)) (fun i ys σ H p=>by obtain⟨_,_,_,e,_⟩:=p;exact e) (fun i ys σ H q=>by obtain⟨_,_,rfl,_⟩:=q;exact aO a0) ?_ ?_
    .rintro i v ys O H7 hv ⟨U,rfl,rfl,ag,ak⟩;rw[AB]at hv;obtain⟨r,J,rfl⟩:=A5.mp hv;have hi:i<S.length:=by
      have:=(Ak.mp J).1;omega
     have ah:S[i]?=some S[i]:=Ae hi;have hq:H7 r=some (.tup [.int S[i].1,.int S[i].2]):=Paired.at (R:=PrR H7) bh J ah;have am:i=j0->S[i]=x:=fun e=>by
      subst e;rw[ah]at hj0;exact Bt.inj hj0
     generalize S[i]=z at hq am;dsimp only[aW];refine⟨_,rfl,r,_,0,_,rfl,rfl,bJ hq,rfl,_,rfl,_,_,rfl,rfl,_,rfl,mQ (fun g1=>?_) fun g1=>?_⟩
     .refine⟨_,rfl,r,_,1,_,rfl,rfl,bJ hq,rfl,_,_,rfl,rfl,_,rfl,mQ (fun g2=>?_) fun g2=>?_⟩
      .exact⟨_,rfl,_,rfl,rfl,by rw[Ay];exact EU ag,fun _=>by simp⟩
      .refine⟨_,rfl,rfl,FZ ag,fun hj=>?_⟩;rcases B4 j0 i with y|y
       .exact ak y
       .have:=am (by omega);subst this;exact absurd (Ic x2) g2
     .refine⟨_,rfl,dU ?_⟩;refine⟨_,rfl,rfl,FZ ag,fun hj=>?_⟩;rcases B4 j0 i with y|y
      .exact ak y
      .have:=am (by omega);subst this;exact absurd (Ic x1) g1
    .rintro ys O H7 ⟨U,rfl,rfl,ag,ak⟩ D hD;have sD:=aH (o:=.lst ys) hD;have eD:upd H7 D (.lst ys) D=some (.lst ys):=aA;have S8:=S6.trans sD;generalize upd H7 D (.lst ys)=H8 at eD S8 ⊢;refine⟨AV _,fun D2 ad=>?_⟩;have G:=aH (o:=.lst ([]:List V)) ad;refine⟨D,D2,_,rfl,rfl,aO (G _ _ eD),aO aA,_,rfl,?_⟩;rw[Ie (ak (by rw[Af];omega))];refine dU ?_;exact⟨_,rfl,S8.trans G⟩
   .rintro σ H' ⟨o6,rfl,S6⟩;refine⟨_,rfl,a,_,rfl,.inl (aO (S6 _ _ e3)),1,_,rfl,?_,?_⟩
    .rw[Af];refine⟨by decide,by decide,?_,?_⟩<;>omega
    rw[Af];refine gP (fun i ys O Z=>∃(U:Option V),O=[U,some (.int s),some (.ref a)]/\Z=H'/\ys=[]) ⟨none,rfl,rfl,rfl⟩
     (Bd (by rw[A6];omega)) (fun i ys σ H p=>by obtain⟨_,_,_,rfl⟩:=p;exact AV _) ?_ ?_
    .rintro i ys O H7 hi ⟨U,rfl,rfl,rfl⟩;have az:i+1<ls.length:=by omega
     have aq:i<ls.length:=by omega
     have bF:=Bc.mp af.pw i (i+1) aq az (BR _);have a1:atI (ls.map V.int) (1+(i:Int))=some (.int ls[i+1]):=by
      have:=f6 (xs:=ls.map V.int) (j:=i+1) (v:=.int ls[i+1]) (by rw[AB,Ae az];rfl);rw[show 1+(i:Int)=((i+1:Nat):Int) by omega];exact this
     have a2:atI (ls.map V.int) (1+(i:Int)-1)=some (.int ls[i]):=by
      have:=f6 (xs:=ls.map V.int) (j:=i) (v:=.int ls[i]) (by rw[AB,Ae aq];rfl);rw[show 1+(i:Int)-1=(i:Int) by omega];exact this
     have ea:=S6 _ _ e3;dsimp only[aW];refine⟨_,rfl,_,rfl,a,_,_,_,rfl,rfl,aO ea,a1,_,rfl,_,rfl,_,_,rfl,rfl,a,_,_,_,rfl,rfl,aO ea,a2,_,_,rfl,rfl,_,rfl,_,_,rfl,rfl,.inl (by decide),_,_,rfl,rfl,_,rfl,?_⟩;rw[Ie (show¬ ls[i+1]-ls[i]<=2*s by omega)];refine dU ?_;exact⟨_,rfl,rfl,rfl⟩
    .rintro ys O H7 ⟨U,rfl,rfl,rfl⟩ D hD;have sD:=aH (o:=.lst ([]:List V)) hD;have eD:upd H7 D (.lst ([]:List V)) D=some (.lst []):=aA;have S8:=S6.trans sD;generalize upd H7 D (.lst ([]:List V))=H8 at eD S8 ⊢;refine⟨AV _,fun D2 ad=>?_⟩;have G:=aH (o:=.lst ([]:List V)) ad;refine⟨D,D2,_,rfl,rfl,aO (G _ _ eD),aO aA,_,rfl,?_⟩;rw[show decide (0<([]:List V).length)=false from rfl];refine dU ?_;have S9:=S8.trans G;generalize upd H8 D2 (.lst ([]:List V))=H9 at S9 ⊢;have bc:=S9 _ _ hl;have bn:=Paired.mapP hS fun _ _ z=>PrR.on z (aK S9);have bx:=S9 _ _ e2;have bA:=aZ hS;refine⟨_,rfl,l,rfl,⟨_,aO bc⟩,?_⟩;refine fW (K:=K) (xs:=rs.map V.ref) (fun i ys O Z=>∃(U:Option V),O=[U,some (.int s),some (.ref p)]/\Z=H9/\ys=[]) ⟨none,rfl,rfl,rfl⟩
      (Bd (by rw[A6,Af];omega)) (fun i ys σ H p=>by obtain⟨_,_,_,rfl⟩:=p;exact AV _) (fun i ys σ H q=>by obtain⟨_,_,rfl,_⟩:=q;exact aO bc) ?_ ?_
     .rintro i v ys O Y hv ⟨U,rfl,rfl,rfl⟩;rw[AB]at hv;obtain⟨r,J,rfl⟩:=A5.mp hv;have hi:i<S.length:=by
       have:=(Ak.mp J).1;omega
      have ah:S[i]?=some S[i]:=Ae hi;have hq:Y r=some (.tup [.int S[i].1,.int S[i].2]):=Paired.at (R:=PrR Y) bn J ah;have bw:=hlo _ (A2 hi);have ay:=aGr (last:=last) h0 hC bw (hi:=S[i].2) (fun x bg bv=>⟨S[i],A2 hi,bg,bv⟩) gg nx;dsimp only[aW];refine⟨_,rfl,_,rfl,_,rfl,r,p,S[i].1,S[i].2,s,ls.map (post last s),rfl,hq,bx,?_⟩;rw[Ic ay];refine⟨_,rfl,dU ?_⟩;exact⟨_,rfl,rfl,rfl⟩
     .rintro ys O Y ⟨U,rfl,rfl,rfl⟩ D3 bq;have bp:=aH (o:=.lst ([]:List V)) bq;have au:upd Y D3 (.lst ([]:List V)) D3=some (.lst []):=aA;have aw:=S9.trans bp;generalize upd Y D3 (.lst ([]:List V))=b3 at au aw ⊢;refine⟨AV _,fun D4 bf=>?_⟩;have aC:=aH (o:=.lst ([]:List V)) bf;exact⟨D3,D4,_,rfl,rfl,aO (aC _ _ au),aO aA,k _ (aw.trans aC)⟩
end K58
namespace L2
open PySem PySem.Spec PyProof.Rows PySem.W
inductive pQ(x:V)(y:V)(H:Hp)(Q:VK):Prop
 | mk (z:_) (k:_) (q0:x=.str z) (q1:y=.int k) (q2:(k=0\/k=1)) (q3:Q (.str (if k=1 then z else Dy)) H):pQ x y H Q
def aCw:V->V->Hp->VK->Prop:=fun x y H Q=>pQ x y H Q
theorem aBt{X:Cx}:OpR X (binaryOp .Mult) aCw:=by
 intro df s σ H x y v u Q I G F h;obtain⟨z,k,rfl,rfl,hk,q⟩:=h;obtain⟨t,rfl⟩:=G;obtain⟨t',rfl⟩:=F;rcases hk with rfl|rfl
 .refine PySem.P.mul_str (by decide) (fun h=>absurd (by decide) h) (fun h=>absurd (by decide) h) ?_;rw[Ib (by decide)];rw[Ia (by decide)]at q;exact⟨AV _,.str Dy,H,I.tok _,⟨_,rfl⟩,q⟩
 .refine PySem.P.mul_str (by decide) (fun _ h=>absurd h (by simp)) (fun _ h=>absurd h (by simp)) ?_;rw[Ia (by decide),Ib (by simp)];rw[Ib rfl]at q;exact⟨.str z,H,I,⟨_,rfl⟩,q⟩
end L2
namespace K58
open PySem L2
def isL(c:Nat):Bool:=decide (97<=c/\c<=122)
def gW(i:Nat):Nat:=97+i%26
theorem aCx(i:Nat):isL (gW i)=true:=by
 unfold isL gW;exact Ic (by omega)
abbrev abc:Str:=BJ "abcdefghijklmnopqrstuvwxyz"
theorem aGy:abc.cps.toList=Gc 97 26:=by decide
theorem aGz{i:Int}(F:0<=i)(h1:i<26):atI abc.cps.toList i=some (gW i.toNat):=by
 obtain⟨j,rfl⟩:∃ j:Nat,i=j:=⟨i.toNat,by omega⟩
 unfold atI ixN;rw[aGy,Ib F,Ib (by simpa using h1)];simp only[BV,Option.bind_some];rw[List.getElem?_range' (by omega)];unfold gW;congr 1;omega
theorem aDF:abc.length=26:=by decide
def mk(l:List Nat):Str:=⟨l.toArray⟩
theorem aIT{a b:List Nat}(h:mk a=mk b):a=b:=by
 have:=congrArg (fun z:Str=>z.cps.toList) h;simpa[mk]using this
theorem kW(l:List Nat):(mk l).length=l.length:=by
 show l.toArray.size=_;simp
theorem aCy(a b:List Nat):mk a++mk b=mk (a++b):=by
 show(⟨a.toArray++b.toArray⟩:Str)=_;simp[mk]
theorem oE(l:List Nat):∀(m s:Nat),(Gc s m).filterMap (fun j=>l.toArray[j]?)=(l.drop s).take m
 | 0,s=>by simp
 | m+1,s=>by
  rw[List.range'_succ,Ei];have F:=oE l m (s+1);by_cases h:s<l.length
  .have e:l.toArray[s]?=some l[s]:=by simp[h]
   rw[e];dsimp only;rw[F,EB h,Ft]
  .have e:l.toArray[s]?=none:=by simp;omega
   rw[e];dsimp only;rw[F,DV (by omega),DV (by omega)];simp
theorem aHt:∀ n:Nat,n<7->∀ s:Nat,s<7->s<=n->Builtin.Str.strSliceIndices none (some (s:Int)) 1 n=Gc 0 s:=by decide
theorem aEH:∀ n:Nat,n<7->∀ s:Nat,s<7->s<=n->Builtin.Str.strSliceIndices (some (s:Int)) none 1 n=Gc s (n-s):=by decide
theorem aJT{b:List Nat}{s:Nat}(hb:b.length<=6)(hs:s<=b.length):Dw (mk b) none (some (s:Int))=mk (b.take s):=by
 unfold Dw;rw[kW,aHt _ (by omega) _ (by omega) hs];split
 .next h=>
  simp at h;rw[h,Bg]
 .have e:=oE b s 0;rw[Cv]at e;exact congrArg mk e
theorem aHu{b:List Nat}{s:Nat}(hb:b.length<=6)(hs:s<=b.length):Dw (mk b) (some (s:Int)) none=mk (b.drop s):=by
 unfold Dw;rw[kW,aEH _ (by omega) _ (by omega) hs];split
 .next h=>
  simp at h;have:s=0\/b.length=0:=by omega
  rcases this with rfl|F
  .rfl
  .rw[List.length_eq_zero_iff.mp F];simp
 .have e:=oE b (b.length-s) s;rw[show(b.drop s).take (b.length-s)=b.drop s from Bj (by rw[BP];exact Aj _)]at e;exact congrArg mk e
theorem aEI(bs:List Nat):∀ acc:Array Nat,(bs.map fun c=>mk [c]).foldl (fun(acc:Array Nat) (p:Str)=>acc++(BJ "").cps++p.cps) acc=acc++bs.toArray:=by
 have F:(BJ "").cps=#[]:=by decide
 induction bs with
 | nil=>intro acc;simp
 | cons x r G=>
  intro acc;rw[AF,B1,G,F];simp[mk]
theorem aHv(bs:List Nat):Txt.join "" (bs.map fun c=>mk [c])=mk bs:=by
 show Builtin.Str.glued _ _=_;unfold Builtin.Str.glued;cases bs with
 | nil=>rfl
 | cons x r=>
  have:=aEI r #[x];simp only[AF,List.headD_cons,List.drop_succ_cons,Cv];show(⟨List.foldl _ _ _⟩:Str)=_;rw[show(mk [x]).cps=#[x] from rfl];rw[this];simp[mk]
theorem aHw(x:Nat){j:Int}(G:j=(x:Int)%26):atI abc.cps.toList j=some (gW x):=by
 have F:0<=j:=by omega
 have h1:j<26:=by omega
 rw[aGz F h1];unfold gW;congr 1;omega
theorem aHx{ws:List Str}(h:∀ w∈ws,w.length=1):(ws.map (·.length)).sum=ws.length:=by
 induction ws with
 | nil=>rfl
 | cons x r F=>
  rw[AF,List.sum_cons,F fun w hw=>h w (Al _ hw),h x Am,AQ];omega
def mO:List Nat:=[1,7,25,11]
def nm(b:List Nat)(st f sp k:Nat):Str:=mk (b.take st++[gW (f+sp*k)]++b.drop st++(if k%2=1 then[gW (f+sp*k)] else[]))
theorem aIU:∀ f<26,∀ sp∈mO,((B7 12).map fun k=>gW (f+sp*k)).Nodup:=by decide
theorem aIV{b:List Nat}{st f sp i j:Nat}(hf:f<26)(F:sp∈mO)(hi:i<12)(G:j<12)(h:nm b st f sp i=nm b st f sp j):i=j:=by
 have h1:=aIT h;rw[AW,AW,AW,AW]at h1;have h2:=List.append_cancel_left h1;have J:=(Hr.inj h2).1;have hn:=aIU f hf sp F;have:=(CH (i:=i) (j:=j) (h₀:=by simpa using hi) (h₁:=by simpa using G) hn).mp (by simpa using J);exact this
theorem aJU{b:List Nat}{st f sp k:Nat}(hb:b.length<=6)(ha:∀ c∈b,isL c=true):i6 (nm b st f sp k):=by
 refine⟨?_,?_⟩
 .unfold nm;rw[kW,Ay,Ay,Ay,Bm,BP,BU];split<;>simp<;>omega
 .unfold nm FA;rw[Array.all_eq_true_iff_forall_mem];intro c hc;have F:c∈b.take st++[gW (f+sp*k)]++b.drop st++(if k%2=1 then[gW (f+sp*k)] else[]):=by simpa[mk]using hc
  have hl:isL c=true:=by
   rcases AK.mp F with h|h
   .rcases AK.mp h with h|h
    .rcases AK.mp h with h|h
     .exact ha c (Ef h)
     .rw[Ax.mp h];exact aCx _
    .exact ha c (Eg h)
   .split at h
    .rw[Ax.mp h];exact aCx _
    .simp at h
  have:=Ig hl;exact Ic (by omega)
inductive xX(vs:List V)(H:Hp)(Q:VK)(u3_:XK):Prop
 | mk (p c:Ad) (ns:List Int) (a:Int) (q0:vs=[.ref p,.int 5]) (q1:dE H p c ns a) (q2:a<=900000) (q3:∀(t:Ad) (b:List Nat) (st f sp:Nat) (a':Int) H',H' t=some (.tup [.str (mk b),.int st,.int f,.int sp])->b.length<=6->(∀ c∈b,isL c=true)->st<=b.length->f<26->sp∈mO->a'<=a+20->dE H' p c ns a'->aY p H H'->Q (.ref t) H'):xX vs H Q u3_
def aDG:Sp:=fun vs H Q u3_=>xX vs H Q u3_
inductive aBu(vs:List V)(H:Hp)(Q:VK)(u3_:XK):Prop
 | mk (t:Ad) (b:List Nat) (st f sp k:Nat) (q0:vs=[.ref t,.int k]) (q1:H t=some (.tup [.str (mk b),.int st,.int f,.int sp])) (q2:b.length<=6) (q3:st<=b.length) (q4:f<26) (q5:sp∈mO) (q6:k<12) (q7:Q (.str (nm b st f sp k)) H):aBu vs H Q u3_
def aGA:Sp:=fun vs H Q u3_=>aBu vs H Q u3_
inductive xY(vs:List V)(H:Hp)(Q:VK)(u3_:XK):Prop
 | mk (p c:Ad) (ns:List Int) (a m:Int) (n:Nat) (q0:vs=[.ref p,.int m,.int n]) (q1:dE H p c ns a) (q2:a<=900000) (q3:0<=m) (q4:m<2^36) (q5:1<=n) (q6:n<=3) (q7:∀ L (ds:List Int) (a':Int) H',H' L=some (.lst (ds.map V.int))->ds.length=n->(∀ d∈ds,0<=d/\d<2^36)->a'<=a+3->dE H' p c ns a'->aY p H H'->Q (.ref L) H'):xY vs H Q u3_
def aDH:Sp:=fun vs H Q u3_=>xY vs H Q u3_
theorem aDI:bG ["_law_pen_here","_law_most","_law_letters","_law_base"] ["_law_pen_here","_law_most"] (aM zI):=⟨rfl,rfl,rfl,by decide,rfl,by decide,by decide⟩
theorem aGB{f:Ad}{fd:A4}(F:Fun K "_law_namer" "_law_namer" zI f fd)(af:mg "len"=none)(ae:mg "range"=none)
  (Z:Cl P w K mg base 1 "_law_take" ["_law_pen_here","_law_many"] qG)
  :cA P w K mg base CX0 2 f fd ["_law_pen_here","_law_most"] aDG:=by
 refine F.ok aDI (fun vs H Q E h=>?_) (fun bn A outer s H vs Q E hr h=>?_)
 .obtain⟨p,c,ns,a,rfl,_⟩:=h;rfl
 .obtain⟨p,c,ns,a,rfl,hp,ha,k⟩:=h;have G:cF 1 _:=hr.mono (by decide);have nd:=aDI.nd;refine⟨_,(aE (aX (i:=2) nd rfl (Ej rfl) cS)
   (aE (aX (i:=3) nd rfl (AC rfl) (lJ PySem.F.plainAttrs_str PySem.F.slot_str_join PySem.F.type_str_join aHc cS (aD (dR (N:=["_law_k","_law_pen_here","_law_letters"]) (src:=[none,some 0,some 2]) (osc:=aM zI) (oN:=["_law_pen_here","_law_most","_law_letters","_law_base"]) ⟨by rfl,by decide,by decide,by decide,rfl,by rfl⟩ (gN rfl ae (aD (dH Z G (aD (pv 0) (aD (pv 1) aB))) aB)) (fun cl s H fp df C=>⟨aP (i:=0) (show(["_law_k","_law_pen_here","_law_letters"]:List Str).Nodup by decide) rfl (AC rfl),f7,bO aBR (pv 2) (dH Z G (aD (pv 1) (aD aG aB))) Ih⟩)) aB)))
   (aN (bC (cE (aD (pv 3) (aD (dH Z G (aD (pv 0) (aD (aU cC (aV yP (by rfl) af BK (aD (pv 3) aB)) aG) aB))) (aD (dH Z G (aD (pv 0) (aD aG aB))) (aD (bO bW (cJ (aD aG (aD aG (aD aG (aD aG aB))))) (dH Z G (aD (pv 0) (aD aG aB))) Ih) aB))))))))),?_⟩
  have zA:abc.length<=sizeLine:=aR (by rw[aDF];decide);refine⟨rfl,_,rfl,_,rfl,p,c,ns,a,5,rfl,hp,by omega,by decide,by decide,fun n4 a4 H4 bp bu ba bg ak ap=>?_⟩;refine⟨n4,rfl,by omega,by omega,?_⟩;refine gP (fun i ys σ' H'=>∃(a':Int) (bs:List Nat) (o:Option V),σ'=[o,some (.ref p),some (.str abc)]/\dE H' p c ns a'/\aY p H H'/\a4<=a'/\a'<=a4+i/\ys=(bs.map fun c=>mk [c]).map V.str/\bs.length=i/\(∀ c∈bs,isL c=true))
   ⟨a4,[],none,rfl,ak,ap,by omega,by omega,rfl,rfl,fun w hw=>by simp at hw⟩ (aR (by omega)) (fun i ys σ H p=>by obtain⟨_,bs,_,_,_,_,_,_,rfl,e,_⟩:=p;rw[Af,Af,e];exact Aj _) ?_ ?_
  .rintro i' ys σ' H5 bd ⟨a',bs,o,rfl,J,Y,bj,bt,rfl,hl,hb⟩;dsimp only[aW];refine iD ?_;refine⟨_,rfl,_,rfl,p,c,ns,a',_,rfl,J,by omega,by decide,by decide,fun r6 a6 H6 am an l6 u6 O U=>?_⟩;refine⟨_,r6,gW r6.toNat,rfl,rfl,zA,aGz am an,a6,bs++[gW r6.toNat],_,rfl,O,Y.trans U,by omega,by omega,by rw[A1,A1];rfl,by rw[Ay,hl];rfl,fun c hc=>?_⟩;rcases AK.mp hc with z|z
   .exact hb c z
   .rw[Ax.mp z];exact aCx _
  .rintro ys σ' H5 ⟨a5,b,o,rfl,J,Y,l5,u5,rfl,bq,hb⟩ D hD;have aj:b.length<=6:=by omega
   have e0:(BJ "").length=0:=by decide
   refine⟨_,D,b.map (fun c=>mk [c]),rfl,rfl,aO aA,by
    rw[aHx (fun w hw=>by obtain⟨x,_,rfl⟩:=BA.mp hw;rfl),Af,e0];omega,?_⟩
   rw[aHv];have sD:=aH (o:=.lst ((b.map fun c=>mk [c]).map V.str)) hD;have O:=J.same sD;have U:aY p H _:=Y.same sD;generalize upd H5 D (.lst ((b.map fun c=>mk [c]).map V.str))=H6 at O U ⊢;clear sD hD J Y;refine⟨_,rfl,_,rfl,_,rfl,mk b,rfl,aR (by rw[kW];omega),_,_,rfl,rfl,p,c,ns,a5,_,rfl,O,by omega,by omega,by rw[kW];omega,fun ss a7 H7 s0 s1 l7 u7 al ar=>?_⟩;rw[kW]at s1;obtain⟨st,rfl⟩:∃ st:Nat,ss=st:=⟨ss.toNat,by omega⟩
   have k7:=U.trans ar;refine⟨_,rfl,p,c,ns,a7,26,rfl,al,by omega,by decide,by decide,fun fi a8 H8 f0 f1 l8 u8 ad aq=>?_⟩;obtain⟨f,rfl⟩:∃ f:Nat,fi=f:=⟨fi.toNat,by omega⟩
   have k8:=k7.trans aq;refine⟨zZ4,fun q hq=>?_⟩;have sq:=aH (o:=.lst [V.int 1,.int 7,.int 25,.int 11]) hq;refine⟨_,rfl,p,c,ns,a8,4,rfl,ad.same sq,by omega,by decide,by decide,fun r3 a9 H9 ai bc l9 u9 aw ag=>?_⟩;obtain⟨v,hv,hat⟩:=yS (xs:=[V.int 1,.int 7,.int 25,.int 11]) (i:=r3) ai (by show r3<4;omega);obtain⟨sp,rfl,hsp⟩:∃ s:Nat,v=.int s/\s∈mO:=by
    simp only[An,AO,or_false]at hv;rcases hv with rfl|rfl|rfl|rfl
    .exact⟨1,rfl,by decide⟩
    .exact⟨7,rfl,by decide⟩
    .exact⟨25,rfl,by decide⟩
    .exact⟨11,rfl,by decide⟩
   have au:q≠p:=by
    obtain⟨l0,_,e⟩:=ad.ob;exact(aJ e hq).symm
   have k9:=(k8.same sq).trans ag;refine⟨q,_,r3,_,rfl,rfl,aO (ag _ _ aA au),hat,zZ4,fun t ht=>?_⟩;have aa:=aH (o:=.tup [V.str (mk b),.int st,.int f,.int sp]) ht;exact k t b st f sp a9 _ aA aj hb (by omega) (by omega) hsp (by omega) (aw.same aa) (k9.same aa)
theorem aGC:bG ["_law_namer_here","_law_k","_law_letters","_law_base","_law_spot","_law_turn","_law_step","_law_letter","_law_more"] ["_law_namer_here","_law_k"] (aM aF0):=⟨rfl,rfl,rfl,by decide,rfl,by decide,by decide⟩
theorem aHy{f:Ad}{fd:A4}(F:Fun K "_law_name" "_law_name" aF0 f fd)
  :cA P w K mg base CX0 1 f fd ["_law_namer_here","_law_k"] aGA:=by
 refine F.ok aGC (fun vs H Q E h=>?_) (fun aj A outer s H vs Q E hr h=>?_)
 .obtain⟨t,b,st,f,sp,k,rfl,_⟩:=h;rfl
 .obtain⟨t,b,st,f,sp,k,rfl,ht,hb,hst,hf,hsp,hk,kk⟩:=h;have nd:=aGC.nd;refine⟨_,(aE (aX (i:=2) nd rfl (AC rfl) cS)
   (aE (jQ (pv 0) (dJ rfl (aQ (aP (i:=3) nd rfl (AC rfl)) (aQ (aP (i:=4) nd rfl (AC rfl)) (aQ (aP (i:=5) nd rfl (AC rfl)) (aQ (aP (i:=6) nd rfl (AC rfl)) cZ))))))
   (aE (aX (i:=7) nd rfl (AC rfl) (bO aBR (pv 2) (aU iW (aU cC (pv 5) (aU eR (pv 6) (pv 1))) aG) Ih))
   (aE (aX (i:=8) nd rfl (AC rfl) (aU iX (aU aBt (pv 7) (aU iW (pv 1) aG)) (aU aBt cS (aU aGV (pv 1) aG))))
   (aN (bC (aU iX (aU iX (aU iX (hU aFj (pv 3) jE (jF (pv 4))) (pv 7)) (hU aFj (pv 3) (jF (pv 4)) jE)) (pv 8)))))))),?_⟩
  have zA:abc.length<=sizeLine:=aR (by rw[aDF];decide);have Z:(mk b).length<=sizeLine:=aR (by rw[kW];omega);have Y:sp<=25:=by
   have:∀ x∈mO,x<=25:=by decide
   exact this sp hsp
  refine⟨_,rfl,t,_,rfl,bJ ht,rfl,_,_,rfl,_,_,rfl,_,_,rfl,_,_,rfl,rfl,_,rfl,_,rfl,_,rfl,_,rfl,_,_,rfl,rfl,.inl ⟨by omega,by omega⟩,_,_,rfl,rfl,_,_,rfl,rfl,(by show(0:Int)<26;decide),_,_,gW (f+sp*k),rfl,rfl,zA,aHw _ (by omega),?_⟩;dsimp only[aW];have O:∀ x:Int,(x=0\/x=1)->(if x=1 then(mk [gW (f+sp*k)]:Str) else Dy)++(if (0:Int)=1 then(BJ "ab") else Dy)=mk (if x=1 then[gW (f+sp*k)] else[]):=fun x hx=>by
   rcases hx with rfl|rfl
   .rfl
   .rw[Ib rfl,Ia (by decide),Ib rfl];show(⟨_⟩:Str)=_;simp[mk,Dy]
  have U:((k:Int)%2=0\/(k:Int)%2=1):=by omega
  have J:(k:Int)/26=0:=by omega
  refine⟨_,rfl,_,rfl,_,_,rfl,rfl,(by show(0:Int)<2;decide),_,_,rfl,rfl,U,?_⟩;have ai:(if (k:Int)%2=1 then(⟨#[gW (f+sp*k)]⟩:Str) else Dy).length<=1:=by
   split
   .exact Aj 1
   .exact AV _
  have ae:(if (k:Int)/26=1 then(BJ "ab":Str) else Dy).length<=0:=by rw[J,Ia (by decide)];decide
  refine⟨_,rfl,_,_,rfl,rfl,⟨by decide,by decide⟩,_,_,rfl,rfl,.inl J,_,_,rfl,rfl,aR (by omega),?_⟩;rw[J,show(if (k:Int)%2=1 then(⟨#[gW (f+sp*k)]⟩:Str) else Dy)++(if (0:Int)=1 then(BJ "ab") else Dy)=mk (if (k:Int)%2=1 then[gW (f+sp*k)] else[]) from O _ U];have G:∀{x y},(Dw (mk b) x y).length<=6:=fun{x y}=>AM (E7 _ x y) (by rw[kW];omega);have ad:(mk (if (k:Int)%2=1 then[gW (f+sp*k)] else[])).length<=1:=by rw[kW];split<;>simp
  have ag:(⟨#[gW (f+sp*k)]⟩:Str).length=1:=rfl;dsimp only[aW];refine⟨_,rfl,_,rfl,_,rfl,mk b,rfl,Z,_,rfl,_,_,rfl,rfl,aR (by have:=G (x:=none) (y:=some (st:Int));omega),_,rfl,_,rfl,_,rfl,mk b,rfl,Z,_,_,rfl,rfl,aR (by have:=G (x:=none) (y:=some (st:Int));have:=G (x:=some (st:Int)) (y:=none);rw[FU];omega),_,rfl,_,_,rfl,rfl,aR (by have:=G (x:=none) (y:=some (st:Int));have:=G (x:=some (st:Int)) (y:=none);rw[FU,FU];omega),?_⟩;have ew:Dw (mk b) none (some (st:Int))++(⟨#[gW (f+sp*k)]⟩:Str)++Dw (mk b) (some (st:Int)) none++mk (if (k:Int)%2=1 then[gW (f+sp*k)] else[])=nm b st f sp k:=by
   rw[aJT hb hst,aHu hb hst,show(⟨#[gW (f+sp*k)]⟩:Str)=mk [gW (f+sp*k)] from rfl,aCy,aCy,aCy];unfold nm;congr 2;by_cases e:k%2=1
   .rw[Ib e,Ib (by omega)]
   .rw[Ia e,Ia (by omega)]
  show Q (.str (Dw (mk b) none (some (st:Int))++(⟨#[gW (f+sp*k)]⟩:Str)++Dw (mk b) (some (st:Int)) none++mk (if (k:Int)%2=1 then[gW (f+sp*k)] else[]))) H;rw[ew];exact kk
theorem aDJ:bG ["_law_pen_here","_law_many","_law_parts","_law_ends"] ["_law_pen_here","_law_many","_law_parts"] (aM uT):=⟨rfl,rfl,rfl,by decide,rfl,by decide,by decide⟩
theorem aGD{f:Ad}{fd:A4}(F:Fun K "_law_split" "_law_split" uT f fd)(U:mg "range"=none)(ao:mg "sorted"=none)
  (GT:Cl P w K mg base 1 "_law_take" ["_law_pen_here","_law_many"] qG)
  :cA P w K mg base CX0 2 f fd ["_law_pen_here","_law_many","_law_parts"] aDH:=by
 refine F.ok aDJ (fun vs H Q E h=>?_) (fun bu A outer s H vs Q E hr h=>?_)
 .obtain⟨p,c,ns,a,m,n,rfl,_⟩:=h;rfl
 .obtain⟨p,c,ns,a,m,n,rfl,hp,ha,hm0,hm,hn1,hn3,k⟩:=h;have aq:cF 1 _:=hr.mono (by decide);have nd:=aDJ.nd;refine⟨_,(aE (aX (i:=3) nd rfl (Ej rfl) (aV aAr (by rfl) ao (by kernel_rfl) (aD (aU aFa (cJ (aD aG (aD (pv 1) aB))) (dR (N:=["_law_k","_law_pen_here","_law_many"]) (src:=[none,some 0,some 1]) (osc:=aM uT) (oN:=["_law_pen_here","_law_many","_law_parts","_law_ends"]) ⟨by rfl,by decide,by decide,by decide,rfl,by rfl⟩ (gN rfl U (aD (aU iV (pv 2) aG) aB)) (fun cl s H fp df C=>⟨aP (i:=0) (show(["_law_k","_law_pen_here","_law_many"]:List Str).Nodup by decide) rfl (AC rfl),f7,dH GT aq (aD (pv 1) (aD (aU cC (pv 2) aG) aB))⟩))) aB)))
   (aN (bC (dR (N:=["_law_k","_law_ends"]) (src:=[none,some 3]) (osc:=aM uT) (oN:=["_law_pen_here","_law_many","_law_parts","_law_ends"]) ⟨by rfl,by decide,by decide,by decide,rfl,by rfl⟩ (gN rfl U (aD (pv 2) aB)) (fun cl s H fp df C=>⟨aP (i:=0) (show(["_law_k","_law_ends"]:List Str).Nodup by decide) rfl (AC rfl),f7,aU iV (bO (r:=yM K) bW (pv 1) (aU cC (pv 0) aG) Ih) (bO (r:=yM K) bW (pv 1) (pv 0) Ih)⟩))))),?_⟩
  refine⟨_,rfl,zZ2,fun q hq=>?_⟩;have sq:=aH (o:=.lst [V.int 0,.int m]) hq;have e0:upd H q (.lst [V.int 0,.int m]) q=some (.lst [V.int 0,.int m]):=aA;have af:=hp.same sq;have k0:aY p H (upd H q (.lst [V.int 0,.int m])):=(aY.refl p H).same sq;generalize upd H q (.lst [V.int 0,.int m])=H0 at e0 af k0 ⊢;have az:q≠p:=by
   obtain⟨l0,_,e⟩:=af.ob;exact dL e0 e (fun z=>nomatch z)
  refine⟨_,rfl,_,_,rfl,rfl,_,rfl,by omega,by omega,?_⟩;refine gP (fun i ys σ' H'=>∃(a':Int) (bs:List Int) (o:Option V),σ'=[o,some (.ref p),some (.int m)]/\dE H' p c ns a'/\aY p H H'/\H' q=some (.lst [V.int 0,.int m])/\a'<=a+i/\ys=bs.map V.int/\bs.length=i/\∀ x∈bs,0<=x/\x<=m)
   ⟨a,[],none,rfl,af,k0,e0,by omega,rfl,rfl,fun x hx=>by simp at hx⟩ (aR (by omega)) (fun i ys σ H p=>by obtain⟨_,bs,_,_,_,_,_,_,rfl,e,_⟩:=p;rw[Af,e];exact Aj _) ?_ ?_
  .rintro i ys σ' H5 hi ⟨a',bs,o,rfl,Z,ag,e5,br,rfl,hl,hb⟩;dsimp only[aW];refine iD ?_;refine⟨_,rfl,_,rfl,_,_,rfl,rfl,p,c,ns,a',_,rfl,Z,by omega,by omega,Fc (show m+1<2^40 by omega) (by decide),fun r a6 H6 r0 r1 l6 u6 O J=>?_⟩;refine⟨a6,bs++[r],_,rfl,O,ag.trans J,J _ _ e5 az,by omega,by rw[A1];rfl,by rw[Ay,hl];rfl,fun x hx=>?_⟩;rcases AK.mp hx with z|z
   .exact hb x z
   .rw[Ax.mp z];omega
  .rintro ys σ' H5 ⟨a5,bs,o,rfl,Z,ag,e5,bg,rfl,bj,hb⟩ D hD;have sD:=aH (o:=.lst (bs.map V.int)) hD;have eD:upd H5 D (.lst (bs.map V.int)) D=some (.lst (bs.map V.int)):=aA;have O:=Z.same sD;have J:=ag.same sD;have e6:=sD _ _ e5;generalize upd H5 D (.lst (bs.map V.int))=H6 at eD O J e6 ⊢;refine⟨q,D,_,_,rfl,rfl,e6,eD,aR (by rw[Af];show 2+_<=_;omega),fun C1 ay=>?_⟩;have sC:=aH (o:=.lst ([V.int 0,.int m]++bs.map V.int)) ay;refine⟨C1,0::m::bs,rfl,aO aA,by simp;omega,fun l G hl al av=>?_⟩;have sl:=aH (o:=.lst (G.map V.int)) hl;have el:upd (upd H6 C1 (.lst ([V.int 0,.int m]++bs.map V.int))) l (.lst (G.map V.int)) l=some (.lst (G.map V.int)):=aA;have S7:=sC.trans sl;have ah:=O.same S7;have aj:=J.same S7;generalize upd (upd H6 C1 (.lst ([V.int 0,.int m]++bs.map V.int))) l (.lst (G.map V.int))=H7 at el ah aj ⊢;have bi:G.length=n+1:=by
    have:=al.length_eq;simp at this;omega
   have ak:∀ x∈G,0<=x/\x<=m:=fun x hx=>by
    rcases An.mp (al.mem_iff.mp hx)with rfl|h
    .exact⟨B2 _,hm0⟩
    .rcases An.mp h with rfl|h
     .exact⟨hm0,B2 _⟩
     .exact hb x h
   dsimp only[aW];refine⟨_,rfl,_,rfl,by omega,by omega,?_⟩;refine gP (fun i ys σ' H'=>∃(ds:List Int) (o:Option V),Aw3 (σ'=[o,some (.ref l)]) (H'=H7) (Aw3 (ys=ds.map V.int) (ds.length=i) (∀ d∈ds,0<=d/\d<2^36))) ⟨[],none,rfl,rfl,rfl,rfl,fun d hd=>by simp at hd⟩ (aR (by omega)) (fun i ys σ H p=>by obtain⟨ds,_,_,_,rfl,e,_⟩:=p;rw[Af,e];exact Aj _) ?_ ?_
   .rintro i ys σ' H' hi ⟨ds,o,rfl,rfl,rfl,an,aa⟩;have ae:i+1<G.length:=by omega
    have Y:i<G.length:=by omega
    have bo:=Bc.mp av i (i+1) Y ae (BR _);have b1:=ak _ (A2 ae);have b0:=ak _ (A2 Y);have a1:atI (G.map V.int) (0+(i:Int)+1)=some (.int G[i+1]):=by
     have:=f6 (xs:=G.map V.int) (j:=i+1) (v:=.int G[i+1]) (by rw[AB,Ae ae];rfl);rw[show 0+(i:Int)+1=((i+1:Nat):Int) by omega];exact this
    have a2:atI (G.map V.int) (0+(i:Int))=some (.int G[i]):=by
     have:=f6 (xs:=G.map V.int) (j:=i) (v:=.int G[i]) (by rw[AB,Ae Y];rfl);rw[DZ];exact this
    dsimp only[aW];refine iD ?_;refine⟨_,rfl,_,rfl,_,_,rfl,rfl,l,_,_,_,rfl,rfl,aO el,a1,_,rfl,_,rfl,l,_,_,_,rfl,rfl,aO el,a2,_,_,rfl,rfl,ds++[G[i+1]-G[i]],_,rfl,rfl,by rw[A1];rfl,by rw[Ay,an];rfl,fun d hd=>?_⟩;rcases AK.mp hd with hd|hd
    .exact aa d hd
    .rw[Ax.mp hd];omega
   .rintro ys σ' H' ⟨ds,o,rfl,rfl,rfl,an,aa⟩ D2 ax;have am:=aH (o:=.lst (ds.map V.int)) ax;exact k D2 ds a5 _ aA (by omega) aa (by omega) (ah.same am) (aj.same am)
def cQ(n1:Str)(b:Bool):Int->List L4->List Pr
 | _,[]=>[]
 | p,l::Ls=>(if decide (l.2.1=n1)=b then[(p,p+l.2.2.2)] else[])++cQ n1 b (p+l.2.2.2) Ls
theorem iF(n1:Str)(b:Bool):∀(p:Int) (Ls:List L4) (l:L4),cQ n1 b p (Ls++[l])=cQ n1 b p Ls++if decide (l.2.1=n1)=b then[(p+inS Ls,p+inS Ls+l.2.2.2)] else[]
 | p,[],l=>by
  show(if decide (l.2.1=n1)=b then[(p,p+l.2.2.2)] else[])++[]=[]++if decide (l.2.1=n1)=b then[(p+0,p+0+l.2.2.2)] else[]
  rw[Bp,CS,D0]
 | p,x::Ls,l=>by
  show(if decide (x.2.1=n1)=b then[(p,p+x.2.2.2)] else[])++cQ n1 b (p+x.2.2.2) (Ls++[l])=((if decide (x.2.1=n1)=b then[(p,p+x.2.2.2)] else[])++cQ n1 b (p+x.2.2.2) Ls)++if decide (l.2.1=n1)=b then[(p+(x.2.2.2+inS Ls),p+(x.2.2.2+inS Ls)+l.2.2.2)] else[]
  rw[iF n1 b (p+x.2.2.2) Ls l,AW,FF]
theorem i8(n1:Str)(b:Bool)(r:Int):∀{Ls:List L4}{p:Int},Cov (cQ n1 b p Ls) r↔jB (fun l=>decide (l.2.1=n1)=b) p Ls r
 | [],p=>⟨fun⟨_,z,_⟩=>by simp[cQ]at z,fun z=>z.elim⟩
 | l::Ls,p=>by
  show Cov ((if decide (l.2.1=n1)=b then[(p,p+l.2.2.2)] else[])++cQ n1 b (p+l.2.2.2) Ls) r↔(p<=r/\r<p+l.2.2.2/\decide (l.2.1=n1)=b)\/jB (fun l=>decide (l.2.1=n1)=b) (p+l.2.2.2) Ls r;rw[<- i8 n1 b r];by_cases e:decide (l.2.1=n1)=b
  .rw[Ib e];constructor
   .rintro⟨t,ht,a,c⟩;rcases AK.mp ht with ht|ht
    .rw[Ax.mp ht]at a c;exact .inl ⟨a,c,e⟩
    .exact .inr ⟨t,ht,a,c⟩
   .rintro(⟨a,c,_⟩|⟨t,ht,a,c⟩)
    .exact⟨_,BN _ (Ax.mpr rfl),a,c⟩
    .exact⟨t,AH _ ht,a,c⟩
  .rw[Ia e,CS];exact⟨fun z=>.inr z,fun z=>z.elim (fun⟨_,_,y⟩=>absurd y e) id⟩
theorem xZ{n1:Str}{b:Bool}{B:Int}:∀{Ls:List L4}{p:Int},(∀ l∈Ls,0<=l.2.2.2/\l.2.2.2<=B)->∀ t∈cQ n1 b p Ls,p<=t.1/\t.1<=t.2/\t.2<=p+(Ls.length:Int)*B
 | [],p,_,t,ht=>by simp[cQ]at ht
 | l::Ls,p,h,t,ht=>by
  have J:=h l Am;have G:((l::Ls).length:Int)*B=(Ls.length:Int)*B+B:=by
   rw[AQ,Int.natCast_add,He];simp
  have O:0<=(Ls.length:Int)*B:=Dp (Ey _) (by omega);rw[G];rcases AK.mp (show t∈(if decide (l.2.1=n1)=b then[(p,p+l.2.2.2)] else[])++cQ n1 b (p+l.2.2.2) Ls from ht)with ht|ht
  .split at ht
   .rw[Ax.mp ht];dsimp only;omega
   .simp at ht
  .have:=xZ (fun x F=>h x (Al _ F)) t ht;omega
theorem kX(n1:Str)(b:Bool):∀(p:Int) (Ls:List L4),(cQ n1 b p Ls).length<=Ls.length
 | _,[]=>Aj _
 | p,l::Ls=>by
  have:=kX n1 b (p+l.2.2.2) Ls;show((if decide (l.2.1=n1)=b then[(p,p+l.2.2.2)] else[])++cQ n1 b (p+l.2.2.2) Ls).length<=_;rw[Ay,AQ];split<;>simp<;>omega
def fIx:List Nat:=[3,4,5,9]
structure aJV(ws:List Str)(Ls:List L4):Prop where
 nd:(Ls.map (·.1)).Nodup
 ok:∀ l∈Ls,LOk l/\l.2.2.2<=2^36
 len:Ls.length<=4
 hs:∀ l∈Ls,(ws[0]?=some l.2.1\/ws[1]?=some l.2.1)/\∃ j∈fIx,ws[j]?=some l.1
inductive aBv(vs:List V)(H:Hp)(Q:VK)(u3_:XK):Prop
 | mk (p nl c:Ad) (ns:List Int) (a m:Int) (ws:List Str) (q0:vs=[.ref p,.ref nl,.int m]) (q1:dE H p c ns a) (q2:a<=800000) (q3:0<=m) (q4:m<2^36) (q5:H nl=some (.lst (ws.map V.str))) (q6:ws.length=12) (q7:ws.Nodup) (q8:nl≠p) (q9:∀ t lay bt b0 b1 (xs:List V) (r0 r1:List Ad) (Ls:List L4) (n1:Str) (a':Int) H',H' t=some (.tup [.ref lay,.ref bt])->H' lay=some (.tup xs)->AZ (dS H') xs Ls->aJV ws Ls->ws[1]?=some n1->H' bt=some (.tup [.ref b0,.ref b1])->H' b0=some (.lst (r0.map V.ref))->AZ (PrR H') r0 (cQ n1 false 0 Ls)->H' b1=some (.lst (r1.map V.ref))->AZ (PrR H') r1 (cQ n1 true 0 Ls)->b0≠b1->
  a'<=a+40->dE H' p c ns a'->aY p H H'->Q (.ref t) H'):aBv vs H Q u3_
def aGE:Sp:=fun vs H Q u3_=>aBv vs H Q u3_
theorem rL{ws:List Str}(h:ws.length=12){j:Nat}(F:j<12):∃ z,ws[j]?=some z/\atI (ws.map V.str) (j:Int)=some (.str z):=by
 have e:ws[j]?=some ws[j]:=Ae (by omega);exact⟨_,e,f6 (by rw[AB,e];rfl)⟩
theorem pR{ws:List Str}(h:ws.Nodup){i j:Nat}{z:Str}(e1:ws[i]?=some z)(F:ws[j]?=some z):i=j:=by
 obtain⟨h1,rfl⟩:=Ak.mp e1;obtain⟨h2,e3⟩:=Ak.mp F;exact((CH h).mp e3).symm
theorem aGF{H:Hp}{p c:Ad}{ns:List Int}{a:Int}{L:Ad}{o:HO}(h:dE H p c ns a)(n1:L≠p)(F:L≠c):dE (upd H L o) p c ns a:=by
 obtain⟨⟨l,hl,e⟩,ce,ge,sm⟩:=h;exact⟨⟨l,hl,by rw[aF n1.symm];exact e⟩,by rw[aF F.symm];exact ce,ge,sm⟩
theorem aCz{p L:Ad}{o:HO}{H H':Hp}(k:aY p H H')(hL:H L=none):aY p H (upd H' L o):=fun b u e n=>by
 rw[aF (aJ e hL)];exact k b u e n
theorem butT{p:Ad}{H H':Hp}{c:Ad}{ns:List Int}{a:Int}(k:aY p H H')(h:dE H p c ns a):gU H H':=fun q xs e=>k _ _ e (fun z=>by
 obtain⟨⟨l,_,e2⟩,_⟩:=h;rw[z,e2]at e;cases e)
theorem aGG:bG ["_law_pen_here","_law_names","_law_many","_law_own","_law_fields","_law_k","_law_far","_law_both","_law_place","_law_field","_law_house","_law_acres","_law_inches"] ["_law_pen_here","_law_names","_law_many"] (aM aF1):=⟨rfl,rfl,rfl,by decide,rfl,by decide,by decide⟩
theorem aHz{f:Ad}{fd:A4}(F:Fun K "_law_laid" "_law_laid" aF1 f fd)(bp:mg "len"=none)(cs:mg "range"=none)(dh:mg "int"=none)(cx:mg "tuple"=none)
  (GP:Cl P w K mg base 2 "_law_split" ["_law_pen_here","_law_many","_law_parts"] aDH)
  (GT:Cl P w K mg base 1 "_law_take" ["_law_pen_here","_law_many"] qG)
  :cA P w K mg base CX0 3 f fd ["_law_pen_here","_law_names","_law_many"] aGE:=by
 refine F.ok aGG (fun vs H Q E h=>?_) (fun fE A outer s H vs Q E hr h=>?_)
 .obtain⟨p,nl,c,ns,a,m,ws,rfl,_⟩:=h;rfl
 .obtain⟨p,nl,c,ns,a,m,ws,rfl,hp,ha,hm0,hm,hnl,hwl,hnd,hnp,k⟩:=h;have ap:cF 1 _:=hr.mono (by decide);have e4:cF 2 _:=hr.mono (by decide);have nd:=aGG.nd;refine⟨_,(aE (aX (i:=3) nd rfl (AC rfl) (dH GP e4 (aD (pv 0) (aD (pv 2) (aD (aU cC aG (dH GT ap (aD (pv 0) (aD aG aB)))) aB)))))
   (aE (aX (i:=4) nd rfl (AC rfl) (cJ aB))
   (aE (fO Bz rfl (gN rfl cs (aD (aV cO (by rfl) bp BK (aD (pv 3) aB)) aB)) (g:=aW 5) (aP (i:=5) nd rfl (AC rfl))
   (aN (iO (lJ BC B9 B8 gO (pv 4) (aD (cE (aD (bO bW (pv 1) (aU cC (pv 5) aG) Ih) (aD (bO bW (pv 1) aG Ih) (aD (aU cC aG (dH GT ap (aD (pv 0) (aD (aU nQ aG aG) aB)))) (aD (bO bW (pv 3) (pv 5) Ih) aB))))) aB)))))
   (aE (aX (i:=6) nd rfl (AC rfl) (bO bW (cJ (aD aG (aD aG (aD (aU cC aG (dH GT ap (aD (pv 0) (aD aG aB)))) (aD (aU nQ aG aG) aB))))) (dH GT ap (aD (pv 0) (aD aG aB))) Ih))
   (aE (iO (lJ BC PySem.F.slot_list_insert PySem.F.type_list_insert aEj (pv 4) (aD (dH GT ap (aD (pv 0) (aD (aU cC (aV cO (by rfl) bp BK (aD (pv 4) aB)) aG) aB))) (aD (cE (aD (bO bW (pv 1) aG Ih) (aD (bO bW (pv 1) aG Ih) (aD (aU cC aG (dH GT ap (aD (pv 0) (aD aG aB)))) (aD (pv 6) aB))))) aB))))
   (aE (aX (i:=7) nd rfl (AC rfl) (cE (aD (cJ aB) (aD (cJ aB) aB))))
   (aE (aX (i:=8) nd rfl (AC rfl) aG)
   (aE (fO Bz rfl (dO (pv 4)) (g:=oJ K 4 (cW (aW 9) (cW (aW 10) (cW (aW 11) (cW (aW 12) nO))))) (dJ rfl (aQ (aP (i:=9) nd rfl (AC rfl)) (aQ (aP (i:=10) nd rfl (AC rfl)) (aQ (aP (i:=11) nd rfl (AC rfl)) (aQ (aP (i:=12) nd rfl (AC rfl)) cZ)))))
   (aE (iO (lJ BC B9 B8 gO (bO dG (pv 7) (fU wL (by rfl) dh (by kernel_rfl) (aD (iP wI (pv 10) (bO bW (pv 1) aG Ih) (cH _)) aB)) Ih) (aD (cE (aD (pv 8) (aD (aU cC (pv 8) (pv 12)) aB))) aB)))
    (aN (aX (i:=8) nd rfl (AC rfl) (aU cC (pv 8) (pv 12))))))
   (aN (bC (cE (aD (fU mY (by rfl) cx (by kernel_rfl) (aD (pv 4) aB)) (aD (pv 7) aB))))))))))))),?_⟩
  obtain⟨n0,en0,at0⟩:=rL hwl (j:=0) (by decide);obtain⟨n1,en1,at1⟩:=rL hwl (j:=1) (by decide);obtain⟨n9,en9,at9⟩:=rL hwl (j:=9) (by decide);have fI:M4=1000000000000:=rfl;refine⟨_,rfl,_,rfl,_,rfl,p,c,ns,a,3,rfl,hp,by omega,by decide,by decide,fun q3 a1 H1 fM fR l1 u1 eE eq=>?_⟩;obtain⟨n,rfl⟩:∃ n:Nat,q3=n:=⟨q3.toNat,by omega⟩
  refine⟨_,_,rfl,rfl,p,c,ns,a1,m,n+1,(by show[V.ref p,V.int m,V.int (1+(n:Int))]=[V.ref p,V.int m,V.int ((n+1:Nat):Int)];rw[show 1+(n:Int)=((n+1:Nat):Int) by omega]),eE,by omega,hm0,hm,by omega,by omega,fun Lo ds a2 H2 eO ey dw u2 a0 eX=>?_⟩;have k2:=eq.trans eX;have bx:H2 nl=some (.lst (ws.map V.str)):=k2 _ _ hnl hnp;have e6:∀{G:Hp} {x:Int} {b:Ad} {o:HO},dE G p c ns x->G b=some o->(∀ fo,o≠.dK fo)->b≠p:=fun{G x b o} hP e n z=>by
   obtain⟨⟨l0,_,e0⟩,_⟩:=hP.ob,hP.ce;rw[z,e0]at e;cases e;exact n _ rfl
  have cI:Lo≠p:=e6 a0 eO (fun _ z=>nomatch z);dsimp only[aW];refine⟨AV _,fun L hL=>?_⟩;have sL:=aH (o:=.lst ([]:List V)) hL;have ah:L≠p:=by
   obtain⟨l0,_,e⟩:=a0.ob;exact(aJ e hL).symm
  have bT:L≠c:=(aJ a0.ce hL).symm;have eb:nl≠L:=aJ bx hL;have fP:Lo≠L:=aJ eO hL;dsimp only[aW];refine⟨_,rfl,Lo,_,rfl,.inl (aO (sL _ _ eO)),_,rfl,(by rw[Af];omega),(by rw[Af];omega),?_⟩;rw[Af,ey];have e2:aY p H2 (upd H2 L (.lst ([]:List V))):=(aY.refl p H2).same sL;refine wG (n:=n+1) (fun i σ H'=>Ex3 fun(o5:Option V) (a':Int) (xs:List V)=>∃(Z:List L4),Aw6 (σ=[some (.ref p),some (.ref nl),some (.int m),some (.ref Lo),some (.ref L),o5,none,none,none,none,none,none,none]) (dE H' p c ns a') (a'<=a2+i) (aY p H2 H') (H' L=some (.lst xs)) (Aw3 (AZ (dS H') xs Z) (Z.length=i) (∀ j l,Z[j]?=some l->ws[j+3]?=some l.1/\l.2.1=n0/\LOk l/\l.2.2.2<=2^36)))
   ⟨none,a2,[],[],rfl,aGF a0 ah bT,by omega,e2,aA,.nil,rfl,fun j l h=>by simp at h⟩ ?_ ?_
  .rintro i σ H3 hi ⟨o5,a',xs,Z,rfl,au,eP,k3,eL,hX,cc,hR⟩;obtain⟨z,ez,atz⟩:=rL hwl (j:=i+3) (by omega);have bq:=k3 _ _ bx hnp;have eC:=k3 _ _ eO cI;have ck:atI (ds.map V.int) ((i:Nat):Int)=some (.int ds[i]):=f6 (by rw[AB,Ae (by omega)];rfl);have cm:=dw _ (A2 (show i<ds.length by omega));have eD:=aZ hX;generalize ds[i]=d at ck cm;dsimp only[aW];refine⟨_,rfl,.inl ⟨rfl,_,aO eL⟩,_,rfl,_,rfl,_,_,rfl,rfl,nl,_,_,_,rfl,rfl,aO bq,(by rw[show 0+(i:Int)+3=((i+3:Nat):Int) by omega];exact atz),_,rfl,nl,_,0,_,rfl,rfl,aO bq,at0,_,rfl,_,_,rfl,rfl,⟨by decide,by decide,by decide⟩,p,c,ns,a',_,rfl,au,by omega,by decide,by decide,fun r a6 H6 r0 r1 l6 u6 ea bd=>?_⟩;have fS:r<1000000:=Int.lt_of_lt_of_le r1 (by decide);have bV:=bd _ _ eL ah;have eH:=bd _ _ eC cI;refine⟨_,_,rfl,rfl,_,rfl,_,rfl,Lo,_,_,_,rfl,rfl,aO eH,(by rw[DZ];exact ck),zZ4,fun q hq=>?_⟩;have sq:=aH (o:=.tup [V.str z,.str n0,.int (1+r),.int d]) hq;refine⟨L,_,_,rfl,rfl,sq _ _ bV,(by rw[A6];omega),?_⟩;have dv:=ea.same sq;have tt:gU H6 (upd (upd H6 q (.tup [V.str z,.str n0,.int (1+r),.int d])) L (.lst (xs++[.ref q]))):=fun b us e=>by
    rw[aF (fun z=>by rw[z,bV]at e;cases e)];exact sq _ _ e
   have d1:q≠L:=(aJ bV hq).symm;have tX:=Paired.mapP (Paired.mapP hX fun _ _ z=>z.on (butT bd au)) fun _ _ z=>z.on tt;refine⟨_,a6,xs++[.ref q],Z++[(z,n0,1+r,d)],rfl,aGF dv ah bT,by omega,fun b u e nb=>?_,aA,Ce ⟨q,rfl,by rw[aF d1];exact aA⟩ tX,by rw[Ay,cc];rfl,fun j l hj=>?_⟩
   .rw[aF (aJ e hL)];exact sq _ _ (bd _ _ (k3 _ _ e nb) nb)
   .rcases B4 j Z.length with y|y
    .rw[B6 y]at hj;exact hR j l hj
    .rw[BL y]at hj;have du:j-Z.length=0:=by
      have:=(Ak.mp hj).1;simp at this;omega
     rw[du]at hj;have hl:(z,n0,1+r,d)=l:=by simpa using hj
     subst hl;have ew:j=i:=by omega
     subst ew;exact⟨ez,rfl,⟨by show 1<=1+r;omega,by show 1+r<M4;omega,cm.1,by show d<M4;omega⟩,by show d<=2^36;omega⟩
  .rintro σ H3 ⟨o5,a',xs,Z,rfl,au,eP,k3,eL,hX,cc,hR⟩;have d4:aY p H H3:=k2.trans k3;dsimp only;refine⟨_,rfl,p,c,ns,a',8,rfl,au,by omega,by decide,by decide,fun r a4 H4 r0 r1 l4 u4 bI ed=>?_⟩;refine⟨_,_,rfl,rfl,_,_,rfl,rfl,⟨by decide,by decide,by decide⟩,zZ4,fun q hq=>?_⟩;have ft:(10:Int)^(7:Int).toNat=10000000:=by decide
   have sq:=aH (o:=.lst [V.int 0,.int 5,.int (297+r),.int (10^(7:Int).toNat)]) hq;refine⟨_,rfl,p,c,ns,a4,4,rfl,bI.same sq,by omega,by decide,by decide,fun r3 a5 H5 dt fw l5 u5 bE dg=>?_⟩;obtain⟨v,hv,hat⟩:=yS (xs:=[V.int 0,.int 5,.int (297+r),.int (10^(7:Int).toNat)]) (i:=r3) dt (by show r3<4;omega);obtain⟨Fr,rfl,hFr0,hFr1⟩:∃ F:Int,v=.int F/\0<=F/\F<=10000000:=by
    simp only[An,AO,or_false]at hv;rcases hv with rfl|rfl|rfl|rfl
    .exact⟨0,rfl,by decide,by decide⟩
    .exact⟨5,rfl,by decide,by decide⟩
    .exact⟨_,rfl,by omega,by omega⟩
    .exact⟨_,rfl,by omega,by omega⟩
   have eN:q≠p:=by
    obtain⟨l0,_,e⟩:=bI.ob;exact(aJ e hq).symm
   have k5:aY p H3 H5:=(ed.same sq).trans dg;have cL:=d4.trans k5;have ba:=k5 _ _ eL ah;have cD:=Paired.mapP hX fun _ _ z=>z.on (butT k5 au);have eD:=aZ hX;refine⟨q,_,r3,_,rfl,rfl,aO (dg _ _ aA eN),hat,?_⟩;clear hq sq;dsimp only[aW];have bo:=cL _ _ hnl hnp;refine⟨_,rfl,.inl ⟨rfl,_,aO ba⟩,_,rfl,_,rfl,L,_,rfl,.inl (aO ba),_,_,rfl,rfl,p,c,ns,a5,_,rfl,bE,by omega,by omega,Fc (show((xs.length:Nat):Int)+1<100 by omega) (by decide),fun i7 a7 H7 fN fC l7 u7 d0 cR=>?_⟩;obtain⟨i9,rfl⟩:∃ x:Nat,i7=x:=⟨i7.toNat,by omega⟩
   have bu:=cR _ _ bo hnp;refine⟨_,rfl,nl,_,9,_,rfl,rfl,aO bu,at9,_,rfl,nl,_,1,_,rfl,rfl,aO bu,at1,_,rfl,p,c,ns,a7,9,rfl,d0,by omega,by decide,by decide,fun r8 a8 H8 fF fD l8 u8 cr ee=>?_⟩;have k8:aY p H5 H8:=cR.trans ee;have c5:=k8 _ _ ba ah;have cn:=k8 _ _ bo hnp;have cv:=Paired.mapP cD fun _ _ z=>z.on (butT k8 bE);have d5:=cL.trans k8;refine⟨_,_,rfl,rfl,_,rfl,zZ4,fun q9 d3=>?_⟩;have ay:=aH (o:=.tup [V.str n9,.str n1,.int (1+r8),.int Fr]) d3;have e9:upd H8 q9 (.tup [V.str n9,.str n1,.int (1+r8),.int Fr]) q9=some (.tup [V.str n9,.str n1,.int (1+r8),.int Fr]):=aA;have b4:=cr.same ay;have di:=d5.same ay;have bc:=ay _ _ c5;have bj:=ay _ _ cn;have bh:=Paired.mapP cv fun _ _ z=>z.on (aK ay);generalize upd H8 q9 (.tup [V.str n9,.str n1,.int (1+r8),.int Fr])=H9 at e9 b4 di bc bj bh ⊢;refine⟨L,xs,i9,.ref q9,rfl,rfl,bc,by omega,(by rw[A6];omega),?_⟩;obtain⟨Ls,hLs⟩:∃ Ls,Ls=Z.take i9++(n9,n1,1+r8,Fr)::Z.drop i9:=⟨_,rfl⟩
   have bL:∀{xs:List V} {Z:List L4} (k:Nat),AZ (dS H9) xs Z->AZ (dS H9) (xs.take k) (Z.take k)/\AZ (dS H9) (xs.drop k) (Z.drop k):=by
    intro xs Z k hp
    induction hp generalizing k with
    | nil=>exact⟨by rw[Gx,Gx];exact .nil,by rw[List.drop_nil,List.drop_nil];exact .nil⟩
    | cons r t ih=>
     cases k with
     | zero=>exact⟨.nil,.cons r t⟩
     | succ k=>exact⟨.cons r (ih k).1,(ih k).2⟩
   have bw:∀{as bs:List V} {As Bs:List L4},AZ (dS H9) as As->AZ (dS H9) bs Bs->AZ (dS H9) (as++bs) (As++Bs):=by
    intro as bs As Bs h1 h2
    induction h1 with
    | nil=>exact h2
    | cons r t ih=>exact .cons r ih
   have bN:AZ (dS H9) (xs.take i9++V.ref q9::xs.drop i9) Ls:=by
    rw[hLs];exact bw (bL i9 bh).1 (.cons ⟨q9,rfl,e9⟩ (bL i9 bh).2)
   have U:Ls.Perm ((n9,n1,1+r8,Fr)::Z):=by
    rw[hLs];refine List.perm_middle.trans (List.Perm.cons _ ?_);rw[CK]
   have lr:aJV ws Ls:=by
    have dz:(Z.map (·.1)).Nodup:=by
     rw[List.nodup_iff_pairwise_ne,Bc];intro x y hx hy fL e;rw[B3,B3]at e;rw[Af]at hx hy;have h1:=(hR x _ (Ae hx)).1;have h2:=(hR y _ (Ae hy)).1;rw[e]at h1;have:=pR hnd h1 h2;omega
    have dV:n9∉Z.map (·.1):=fun hm=>by
     obtain⟨l,hl,e⟩:=BA.mp hm;obtain⟨j,hj⟩:=BE hl;have h1:=(hR j l hj).1;rw[show l.1=n9 from e]at h1;have:=pR hnd h1 en9;have:=(Ak.mp hj).1;omega
    refine⟨((U.map _).nodup_iff).mpr (Bo.mpr ⟨dV,dz⟩),fun l hl=>?_,by rw[U.length_eq,AQ];omega,fun l hl=>?_⟩
    .rcases An.mp (U.mem_iff.mp hl)with rfl|hl
     .exact⟨⟨by show 1<=1+r8;omega,by show 1+r8<M4;omega,hFr0,by show Fr<M4;omega⟩,by show Fr<=2^36;omega⟩
     .obtain⟨j,hj⟩:=BE hl;exact(hR j l hj).2.2
    .rcases An.mp (U.mem_iff.mp hl)with rfl|hl
     .exact⟨.inr en1,9,by decide,en9⟩
     .obtain⟨j,hj⟩:=BE hl;obtain⟨h1,h2,_⟩:=hR j l hj;have fK:j<3:=by have:=(Ak.mp hj).1;omega
      refine⟨.inl (by rw[h2];exact en0),j+3,?_,h1⟩;have:j=0\/j=1\/j=2:=by omega
      rcases this with rfl|rfl|rfl<;>decide
   clear hLs bL bw U;generalize xs.take i9++V.ref q9::xs.drop i9=ys at bN ⊢;have eY:upd H9 L (.lst ys) L=some (.lst ys):=aA;have tY:gU H9 (upd H9 L (.lst ys)):=fun b us e=>by
    rw[aF (fun z=>by rw[z,bc]at e;cases e)];exact e
   have bH:=Paired.mapP bN fun _ _ z=>z.on tY;have ad:=aGF (o:=.lst ys) b4 ah bT;have eg:H L=none:=by
    cases q:H L with
    | none=>rfl
    | some o=>rw[k2 _ _ q ah]at hL;cases hL
   have kY:aY p H (upd H9 L (.lst ys)):=aCz di eg;have ae:upd H9 L (.lst ys) nl=some (.lst (ws.map V.str)):=by rw[aF eb];exact bj
   generalize upd H9 L (.lst ys)=HA at eY bH ad kY ae ⊢;clear hX cD cv bh bN tY bc c5 ba b4 cr bE bI au e9;dsimp only;refine⟨AV _,fun b0 af=>⟨AV _,fun O aq=>⟨zZ2,fun bt aa=>?_⟩⟩⟩;have ao:O≠b0:=fun z=>by rw[z,aA]at aq;cases aq
   have Y:HA O=none:=by rw[aF ao]at aq;exact aq
   have cM:bt≠O:=fun z=>by rw[z,aA]at aa;cases aa
   have cg:bt≠b0:=fun z=>by rw[z,aF (fun z=>ao z.symm),aA]at aa;cases aa
   have c4:HA bt=none:=by rw[aF cM,aF cg]at aa;exact aa
   have sB:bU HA (upd (upd (upd HA b0 (.lst ([]:List V))) O (.lst ([]:List V))) bt (.tup [.ref b0,.ref O])):=((aH af).trans (aH aq)).trans (aH aa);have de:upd (upd (upd HA b0 (.lst ([]:List V))) O (.lst ([]:List V))) bt (.tup [.ref b0,.ref O]) b0=some (.lst ([]:List V)):=by
    rw[aF (fun z=>cg z.symm),aF (fun z=>ao z.symm)];exact aA
   have c3:upd (upd (upd HA b0 (.lst ([]:List V))) O (.lst ([]:List V))) bt (.tup [.ref b0,.ref O]) O=some (.lst ([]:List V)):=by
    rw[aF (fun z=>cM z.symm)];exact aA
   have eT:upd (upd (upd HA b0 (.lst ([]:List V))) O (.lst ([]:List V))) bt (.tup [.ref b0,.ref O]) bt=some (.tup [.ref b0,.ref O]):=aA;have c1:=ad.same sB;have kB:=kY.same sB;have b2:=sB _ _ eY;have bz:=sB _ _ ae;have b6:=Paired.mapP bH fun _ _ z=>z.on (aK sB);have bF:∀{b:Ad},HA b=none->H b=none:=fun{b} e=>by
    cases q:H b with
    | none=>rfl
    | some o=>
     rcases Decidable.em (b=p)with z|z
     .obtain⟨l0,_,e0⟩:=ad.ob;rw[z,e0]at e;cases e
     .rw[kY _ _ q z]at e;cases e
   have dy:=bF af;have d2:=bF Y;have dc:b0≠p:=fun z=>by
    obtain⟨l0,_,e0⟩:=ad.ob;rw[z,e0]at af;cases af
   have db:O≠p:=fun z=>by
    obtain⟨l0,_,e0⟩:=ad.ob;rw[z,e0]at Y;cases Y
   have c0:b0≠c:=(aJ ad.ce af).symm;have ci:O≠c:=(aJ ad.ce Y).symm;have ev:L≠b0:=aJ eY af;have eh:L≠O:=aJ eY Y;have eA:nl≠b0:=aJ ae af;have e3:nl≠O:=aJ ae Y;generalize upd (upd (upd HA b0 (.lst ([]:List V))) O (.lst ([]:List V))) bt (.tup [.ref b0,.ref O])=HB at sB de c3 eT c1 kB b2 bz b6 ⊢;clear af aq aa Y c4 bH ad kY ae eY sB bF;have eK:ws[1]?=some n1:=en1;have fy:=aZ b6;dsimp only[aW];refine⟨_,rfl,L,rfl,⟨_,aO b2⟩,?_⟩;refine hJ (K:=K) (xs:=ys) (fun i σ H'=>Ex3 fun(o5 o9 bR:Option V)=>Ex3 fun(bP bB:Option V) (r0:List Ad)=>∃(r1:List Ad),Aw6 (σ=[some (.ref p),some (.ref nl),some (.int m),some (.ref Lo),some (.ref L),o5,some (.int Fr),some (.ref bt),some (.int (0+inS (Ls.take i))),o9,bR,bP,bB]) (H' b0=some (.lst (r0.map V.ref))) (H' O=some (.lst (r1.map V.ref))) (AZ (PrR H') r0 (cQ n1 false 0 (Ls.take i))) (AZ (PrR H') r1 (cQ n1 true 0 (Ls.take i))) (Aw6 (H' bt=some (.tup [.ref b0,.ref O])) (H' L=some (.lst ys)) (H' nl=some (.lst (ws.map V.str))) (dE H' p c ns a8) (aY p H H') (AZ (dS H') ys Ls)))
    ⟨_,none,none,none,none,[],[],rfl,de,c3,.nil,.nil,eT,b2,bz,c1,kB,b6⟩ (fun i σ H' _ q=>by obtain⟨_,_,_,_,_,_,_,_,_,_,_,_,_,e,_⟩:=q;exact aO e) ?_ ?_
   .rintro i v σ H3 hv ⟨o5,o9,bR,bP,bB,r0,r1,rfl,e0,e1,h0,h1,et,eL,en,hP,kk,hX⟩;obtain⟨hi0,_⟩:=Ak.mp hv;have ej:i<Ls.length:=by omega
    have hl:Ls[i]?=some Ls[i]:=Ae ej;obtain⟨q,rfl,hq⟩:=Paired.at hX hv hl;have eS:Ls.take (i+1)=Ls.take i++[Ls[i]]:=by rw[Bk,hl];rfl
    have eM:(Ls.take i).length<=4:=by
     rw[Bm];have:=lr.len;omega
    rw[eS];generalize Ls[i]=l at hq;generalize Ls.take i=R at h0 h1 eM ⊢;have fv:=aZ h0;have fx:=aZ h1;have fu:=kX n1 false 0 R;have fz:=kX n1 true 0 R;refine⟨q,_,rfl,bJ hq,rfl,?_⟩;dsimp only[cW,aW,nO];refine⟨_,_,rfl,_,_,rfl,_,_,rfl,_,_,rfl,rfl,_,rfl,_,rfl,_,rfl,nl,_,1,_,rfl,rfl,aO en,at1,rfl,.inr ⟨_,rfl,?_⟩⟩;rw[show decide (V.str l.2.1=V.str n1)=decide (l.2.1=n1) from decide_eq_decide.mpr ⟨fun z=>V.str.inj z,fun z=>congrArg V.str z⟩];have cj:sizeLine=16777216:=A6;have eI:0+inS (R++[l])=0+inS R+l.2.2.2:=by simp[inS,FF]
    cases hd:decide (l.2.1=n1)
    .refine⟨bt,_,_,_,rfl,rfl,bJ et,rfl,.inl ⟨rfl,_,aO e0⟩,_,rfl,_,rfl,_,rfl,_,_,rfl,rfl,zZ2,fun q1 b5=>?_⟩;have J:=aH (o:=.tup [V.int (0+inS R),.int (0+inS R+l.2.2.2)]) b5;have aL:upd H3 q1 (.tup [V.int (0+inS R),.int (0+inS R+l.2.2.2)]) q1=some (.tup [V.int (0+inS R),.int (0+inS R+l.2.2.2)]):=aA;have ax:=hP.same J;have kq:=kk.same J;generalize upd H3 q1 (.tup [V.int (0+inS R),.int (0+inS R+l.2.2.2)])=H4 at J aL ax kq ⊢;refine⟨b0,_,_,rfl,rfl,J _ _ e0,(by rw[Af,cj];omega),?_⟩;have s0:cQ n1 false 0 (R++[l])=cQ n1 false 0 R++[(0+inS R,0+inS R+l.2.2.2)]:=by
      rw[iF,hd];rfl
     have s1:cQ n1 true 0 (R++[l])=cQ n1 true 0 R:=by
      rw[iF,hd];exact Bp _
     have aj:∀{a:Ad} {us:List V},H4 a=some (.tup us)->upd H4 b0 (.lst (r0.map V.ref++[.ref q1])) a=some (.tup us):=fun{a us} e=>by
      rw[aF (fun z=>by rw[z,J _ _ e0]at e;cases e)];exact e
     have tt:gU H3 (upd H4 b0 (.lst (r0.map V.ref++[.ref q1]))):=fun a us e=>aj (J _ _ e);refine⟨_,rfl,_,rfl,_,_,rfl,rfl,?_⟩;dsimp only[aW];rw[eI];exact⟨o5,_,_,_,_,r0++[q1],r1,rfl,(by rw[A1];exact aA),(by rw[aF ao];exact J _ _ e1),(by rw[s0];exact Ce (show PrR _ q1 (0+inS R,0+inS R+l.2.2.2) from aj aL) (Paired.mapP h0 fun _ _ z=>z.on tt)),(by rw[s1];exact Paired.mapP h1 fun _ _ z=>z.on tt),aj (J _ _ et),(by rw[aF ev];exact J _ _ eL),(by rw[aF eA];exact J _ _ en),aGF ax dc c0,aCz kq dy,Paired.mapP hX fun _ _ z=>z.on tt⟩
    .refine⟨bt,_,_,_,rfl,rfl,bJ et,rfl,.inl ⟨rfl,_,aO e1⟩,_,rfl,_,rfl,_,rfl,_,_,rfl,rfl,zZ2,fun q1 b5=>?_⟩;have J:=aH (o:=.tup [V.int (0+inS R),.int (0+inS R+l.2.2.2)]) b5;have aL:upd H3 q1 (.tup [V.int (0+inS R),.int (0+inS R+l.2.2.2)]) q1=some (.tup [V.int (0+inS R),.int (0+inS R+l.2.2.2)]):=aA;have ax:=hP.same J;have kq:=kk.same J;generalize upd H3 q1 (.tup [V.int (0+inS R),.int (0+inS R+l.2.2.2)])=H4 at J aL ax kq ⊢;refine⟨O,_,_,rfl,rfl,J _ _ e1,(by rw[Af,cj];omega),?_⟩;have s1:cQ n1 true 0 (R++[l])=cQ n1 true 0 R++[(0+inS R,0+inS R+l.2.2.2)]:=by
      rw[iF,hd];rfl
     have s0:cQ n1 false 0 (R++[l])=cQ n1 false 0 R:=by
      rw[iF,hd];exact Bp _
     have aj:∀{a:Ad} {us:List V},H4 a=some (.tup us)->upd H4 O (.lst (r1.map V.ref++[.ref q1])) a=some (.tup us):=fun{a us} e=>by
      rw[aF (fun z=>by rw[z,J _ _ e1]at e;cases e)];exact e
     have tt:gU H3 (upd H4 O (.lst (r1.map V.ref++[.ref q1]))):=fun a us e=>aj (J _ _ e);refine⟨_,rfl,_,rfl,_,_,rfl,rfl,?_⟩;dsimp only[aW];rw[eI];exact⟨o5,_,_,_,_,r0,r1++[q1],rfl,(by rw[aF (fun z=>ao z.symm)];exact J _ _ e0),(by rw[A1];exact aA),(by rw[s0];exact Paired.mapP h0 fun _ _ z=>z.on tt),(by rw[s1];exact Ce (show PrR _ q1 (0+inS R,0+inS R+l.2.2.2) from aj aL) (Paired.mapP h1 fun _ _ z=>z.on tt)),aj (J _ _ et),(by rw[aF eh];exact J _ _ eL),(by rw[aF e3];exact J _ _ en),aGF ax db ci,aCz kq d2,Paired.mapP hX fun _ _ z=>z.on tt⟩
   .rintro σ H3 ⟨o5,o9,bR,bP,bB,r0,r1,rfl,e0,e1,h0,h1,et,eL,en,hP,kk,hX⟩;rw[Bj (by omega)]at h0 h1;dsimp only;refine⟨_,rfl,L,_,rfl,.inl ⟨aO eL,fun aI cf=>?_⟩⟩;have s1:=aH (o:=.tup ys) cf;have da:upd H3 aI (.tup ys) aI=some (.tup ys):=aA;have cu:=hP.same s1;have cw:=kk.same s1;generalize upd H3 aI (.tup ys)=H4 at s1 da cu cw ⊢;refine⟨_,rfl,zZ2,fun t ht=>?_⟩;have s2:=aH (o:=.tup [V.ref aI,.ref bt]) ht;have am:=s1.trans s2;exact k t aI bt b0 O ys r0 r1 Ls n1 a8 _ aA (s2 _ _ da) (Paired.mapP hX fun _ _ z=>z.on (aK am)) lr eK (am _ _ et) (am _ _ e0) (Paired.mapP h0 fun _ _ z=>z.on (aK am)) (am _ _ e1) (Paired.mapP h1 fun _ _ z=>z.on (aK am)) (fun z=>ao z.symm) (by omega) (cu.same s2) (cw.same s2)
end K58
namespace L2
open PySem
theorem aFU.mono{P:Aq}{w:AL}{K:Ag}{mg:Str->Option Ab}{base:A9}{k:Nat}{f:Ad}{H:Hp}{Q G:VK}{E J:XK}(h:aFU P w K mg base k f H Q E)(Y:∀ v H',Q v H'->G v H')(Z:∀ C dx H',E C dx H'->J C dx H'):aFU P w K mg base k f H G J:=
 ⟨h.1,fun A outer s O U=>C2 (h.2 A outer s O U) fun r s' z=>by
  cases r with
  | error e=>
   obtain⟨x,C,H',e1,F,q⟩:=z;exact⟨x,C,H',e1,F,Z _ _ _ q⟩
  | ok fl=>
   cases fl with
   | ret u=>
    obtain⟨v,H',os,bare,un,hok,r,q⟩:=z;exact⟨v,H',os,bare,un,hok,r,Y _ _ q⟩
   | next=>exact z
   | brk=>exact z
   | cont=>exact z⟩
open PySem PySem.Spec PyProof.Rows PySem.W
section
variable{X:Cx}
inductive nG(x:V)(xs:List V)(H:Hp)(Q:VK):Prop
 | mk (a:Ad) (q0:x=.ref a) (q1:xs=[.bl true]) (q2:H a=some (.lst [.bl true])) (q3:Q (.int 1) H):nG x xs H Q
def aBw:V->List V->Hp->VK->Prop:=fun x xs H Q=>nG x xs H Q
theorem aEJ:MtR X "list.count" aBw:=by
 intro df s σ H x xs v O Q I J r h;obtain⟨a,rfl,rfl,ha,q⟩:=h;cases J;obtain⟨u,rfl,rfl⟩:=eV r;obtain⟨its,rv,p,_⟩:=I.list (aO ha);obtain⟨u0,rfl,rfl⟩:=eV rv;obtain⟨⟨cls,dd,data,sl⟩,ho,hc,n',hd⟩:=id p.isList;simp only at hc hd;subst hc hd;refine G0 F.slot_list_count ⟨_,ho,rfl⟩ F.entry_list_count (F.args_list_count_2 _ _) (SeqAt.list_countAt a _ n' dd sl (.bool true) (fun _=>true)) ⟨ho,fun y G=>?_,⟨.int 1,H,I.tok _,⟨_,rfl⟩,q⟩⟩;have G:y=.bool true:=by simpa using G
 subst G;exact EN _ _
inductive nJ(x:V)(xs:List V)(H:Hp)(Q:VK):Prop
 | mk (a:Ad) (q0:x=.ref a) (q1:xs=[.bl true]) (q2:H a=some (.lst [.bl true])) (q3:Q (.int 0) H):nJ x xs H Q
def aBx:V->List V->Hp->VK->Prop:=fun x xs H Q=>nJ x xs H Q
theorem aEK:MtR X "list.index" aBx:=by
 intro df s σ H x xs v O Q I J r h;obtain⟨a,rfl,rfl,ha,q⟩:=h;cases J;obtain⟨u,rfl,rfl⟩:=eV r;obtain⟨its,rv,p,_⟩:=I.list (aO ha);obtain⟨u0,rfl,rfl⟩:=eV rv;obtain⟨⟨cls,dd,data,sl⟩,ho,hc,n',hd⟩:=id p.isList;simp only at hc hd;subst hc hd;refine G0 F.slot_list_index ⟨_,ho,rfl⟩ F.entry_list_index (F.args_list_index_2 _ _) (SeqAt.list_indexAt a _ n' dd sl (.bool true) (fun _=>true) 0 (by decide) (by decide) rfl (fun m _ hm=>absurd hm (Gj m))) ⟨ho,fun y G=>?_,⟨.int 0,H,I.tok _,⟨_,rfl⟩,q⟩⟩;have G:y=.bool true:=by simpa using G
 subst G;exact EN _ _
end
end L2
namespace K58
open PySem L2
def aBy(K:Ag)(D:Ad)(cs:List Ad)(bs:List Bool)(ts:List Ad):Bool:=
 ((cs.zip bs).all fun p=>Ck K (.ref D) (.ref p.1)==some p.2)&&(PySem.W.kitAny K (.ref D) (ts.map AD)==some false)&&(Ck K (.ref D) (.type "ValueError")==some true) &&
 (Br K (.ref D) "__getattribute__"==some (some (.builtin "BaseException.__getattribute__")))&&(Br K (.ref D) "__getattr__"==some none)&&(Gi K D (.type "BaseException")==some true)&&DP K D&&(Br K (.ref D) "__class__"==some (some (.builtin "object.__class__")))&&(Gi K D (.type "object")==some true) &&
 (Fu K (.builtin "object.__class__") "__get__"==some (some (.builtin "getset_descriptor.__get__")))&&(PySem.W.takesIn K (.builtin "object.__class__")==some true)
theorem aDK{K:Ag}{D:Ad}{F:List Ad}{bs:List Bool}{ts:List Ad}(h:aBy K D F bs ts=true):y7 K D/\(∀(i:Nat) c b,F[i]?=some c->bs[i]?=some b->Ck K (.ref D) (.ref c)=some b)/\PySem.W.kitAny K (.ref D) (ts.map AD)=some false/\Ck K (.ref D) (.type "ValueError")=some true:=by
 unfold aBy at h;simp only[Cq,beq_iff_eq,C4]at h;obtain⟨⟨⟨⟨⟨⟨⟨⟨⟨⟨h1,h2⟩,h3⟩,h4⟩,h5⟩,h5'⟩,h6⟩,h7⟩,h8⟩,h9⟩,h10⟩:=h;refine⟨⟨h4,h5,h5',h6,h7,h8,h9,h10⟩,fun i c b G J=>h1 (c,b) ?_,h2,h3⟩;exact AU (i:=i) (List.getElem?_zip_eq_some.mpr ⟨G,J⟩)
inductive rM(P:Aq)(w:AL)(K:Ag)(mg:Str->Option Ab)(base:A9)(cD cM:Ad)(ts1 ts2:List Ad)(vs:List V)(H:Hp)(Q:VK)(u3_:XK):Prop
 | mk (f D:Ad) (q0:vs=[.ref f]) (q1:Ga K (.ref D) (.ref cD)=some true) (q2:aBy K D [cM] [true] ts1=true) (q3:aBy K D [] [] ts2=true) (q4:aFU P w K mg base 10 f H (fun _ _=>False) (fun C _ H'=>C=.ref D/\∀ H'',bU H' H''->Q (.str "toomany") H'')):rM P w K mg base cD cM ts1 ts2 vs H Q u3_
def x9(P:Aq)(w:AL)(K:Ag)(mg:Str->Option Ab)(base:A9)(cD cM:Ad)(ts1 ts2:List Ad):Sp:=fun vs H Q u3_=>rM P w K mg base cD cM ts1 ts2 vs H Q u3_
theorem yA:bG ["_law_asked","_law_caught","_law_some","e"] ["_law_asked"] (aM uS):=⟨rfl,rfl,rfl,by decide,rfl,by decide,by decide⟩
theorem aCA{f:Ad}{fd:A4}(F:Fun K "_law_refused" "_law_refused" uS f fd)(ah:mg "isinstance"=none)(ax:mg "ValueError"=none){af:Ad}{ad:Ad}{G:Ad}{J:Ad}{O:Ad}{Y:Ad}{aa:Ad}{Z:Ad}{ae:Ad}{U:Ad}{cD:Ad}(aj:mg "TooMany"=some (.ref af))(av:mg "Clash"=some (.ref ad))(ag:mg "NoBreach"=some (.ref G))(ak:mg "NoField"=some (.ref J))(al:mg "NoInch"=some (.ref O))(ap:mg "NoMend"=some (.ref Y))(am:mg "NoName"=some (.ref aa))(an:mg "NoRoll"=some (.ref Z))(aq:mg "NoRow"=some (.ref ae))(ao:mg "NoThen"=some (.ref U))(mD:mg "DykeError"=some (.ref cD))
  :cA P w K mg base CX0 11 f fd ["_law_asked"] (x9 P w K mg base cD af [ad,G,J,O,Y] [aa,Z,ae,U]):=by
 refine F.ok yA (fun vs H Q E h=>?_) (fun bd A outer s H vs Q E hr h=>?_)
 .obtain⟨f,D,rfl,_⟩:=h;rfl
 .obtain⟨f,D,rfl,hx,hk1,hk2,lc⟩:=h;have nd:=yA.nd;refine⟨_,(aE (aX (i:=1) nd rfl (AC rfl) aBD)
   (aE (aFP (ie:=3) rfl rfl rfl (aFO (aIE (k:=10) (pv 0) hr)) rfl mD nd rfl rfl (fun v=>aN (aX (i:=1) nd rfl (AC rfl) (pv 3))))
   (aE (dN (sS (aBE (pv 1))) (aN (bC cS)) cN)
   (aE (aX (i:=2) nd rfl (AC rfl) (cJ (aD (aV pC (by rfl) ah (by kernel_rfl) (aD (pv 1) (aD (eG (v:=.ref af) rfl aj rfl) aB))) aB)))
   (aE (dN (PW.pt (qM (iU (aV m6 (by rfl) ah (by kernel_rfl) (aD (pv 1) (aD (cE (aD (eG (v:=.ref ad) rfl av rfl) (aD (eG (v:=.ref G) rfl ag rfl) (aD (eG (v:=.ref J) rfl ak rfl) (aD (eG (v:=.ref O) rfl al rfl) (aD (eG (v:=.ref Y) rfl ap rfl) aB)))))) aB)))) (nN (j9 (iU (aV pC (by rfl) ah (by kernel_rfl) (aD (pv 1) (aD (oI (v:=.ty "ValueError") (by rfl) ax (by kernel_rfl) rfl) aB)))))))) (aN (bC cS)) cN)
   (aE (dN (PW.pt (qM (iU (aV m6 (by rfl) ah (by kernel_rfl) (aD (pv 1) (aD (cE (aD (eG (v:=.ref aa) rfl am rfl) (aD (eG (v:=.ref Z) rfl an rfl) (aD (eG (v:=.ref ae) rfl aq rfl) (aD (eG (v:=.ref U) rfl ao rfl) aB))))) aB)))) (nN (cG wJ (lJ BC PySem.F.slot_list_count PySem.F.type_list_count aEJ (pv 2) (aD jC aB)) aG (cH _))))) (aN (bC cS)) cN)
   (aN (bC (bO bW (cJ (aD cS aB)) (lJ BC PySem.F.slot_list_index PySem.F.type_list_index aEK (pv 2) (aD jC aB)) Ih))))))))),?_⟩
  obtain⟨ek,h1,h2,h3⟩:=aDK hk1;obtain⟨_,_,h4,_⟩:=aDK hk2;refine⟨_,rfl,f,rfl,lc.mono (fun _ _ z=>z.elim) fun C dx H' ⟨e,k⟩=>⟨by rw[e];exact hx,fun y hy=>?_⟩⟩;subst e;have sy:=aH (o:=m5 y (.ref D)) hy;have ey:upd H' y (m5 y (.ref D)) y=some (m5 y (.ref D)):=aA;generalize upd H' y (m5 y (.ref D))=H1 at sy ey ⊢;refine⟨_,rfl,_,rfl,_,rfl,?_⟩;rw[Ie (fun z=>nomatch z)];refine dU ?_;refine⟨_,rfl,y,D,_,_,_,rfl,(fun u r=>r),ey,ek,h1 0 _ _ rfl rfl,zZ1,fun L hL=>?_⟩;have s2:=sy.trans (aH (o:=.lst [V.bl true]) hL);have au:=aH (o:=.lst [V.bl true]) hL _ _ ey;have eL:upd H1 L (.lst [.bl true]) L=some (.lst [V.bl true]):=aA;generalize upd H1 L (.lst [.bl true])=H2 at s2 au eL ⊢;refine⟨_,rfl,zZ5,fun tp aL=>?_⟩;have st:=aH (o:=.tup ([ad,G,J,O,Y].map V.ref)) aL;refine⟨y,D,tp,[ad,G,J,O,Y],_,rfl,aA,st _ _ au,ek,h2,_,rfl,dU ?_⟩;refine⟨_,rfl,y,D,_,_,_,rfl,(fun u r=>r),st _ _ au,ek,h3,_,rfl,dU ?_⟩;have s3:=s2.trans st;have aT:=st _ _ au;have ar:=st _ _ eL;refine⟨_,rfl,zZ4,fun aI aw=>?_⟩;have ai:=aH (o:=.tup ([aa,Z,ae,U].map V.ref)) aw;refine⟨y,D,aI,[aa,Z,ae,U],_,rfl,aA,ai _ _ aT,ek,h4,_,rfl,dU ?_⟩;refine⟨_,rfl,.inl ⟨rfl,_,aO (ai _ _ ar)⟩,L,rfl,rfl,ai _ _ ar,rfl,_,rfl,dU ?_⟩;refine⟨zZ1,fun L2 az=>?_⟩;have s5:=aH (o:=.lst [V.str "toomany"]) az;exact⟨_,rfl,.inl ⟨rfl,_,aO (s5 _ _ (ai _ _ ar))⟩,L,rfl,rfl,s5 _ _ (ai _ _ ar),L2,_,_,_,rfl,rfl,aO aA,rfl,k _ ((s3.trans ai).trans s5)⟩
end K58
namespace L2
open PySem
theorem aH0{P:Aq}{w:AL}{X:Cx}:lH (CXr P w) X E0:=fun _ _ _ _ _ _ _ ⟨_,_,_,_,_,q⟩=>q.elim
theorem yB{H:Hp}{L:List (Ad×Obj)}(h:∀ b o,L.lookup b=some o->H b=none):eZ (jR H L) L=H:=by
 funext b;cases e:L.lookup b with
 | none=>rw[bY e,cT e]
 | some o=>rw[dX e,h b o e]
theorem aBz{H:Hp}{L:List (Ad×Obj)}(h:∀ b o,L.lookup b=some o->H b=none):bU H (jR H L):=fun b o e=>by
 cases F:L.lookup b with
 | none=>rw[cT F];exact e
 | some o'=>rw[h b o' F]at e;cases e
theorem vX{H H':Hp}{L:List (Ad×Obj)}(s:bU (jR H L) H')(h:∀ b o,L.lookup b=some o->H b=none):bU H (eZ H' L):=fun b o e=>by
 cases F:L.lookup b with
 | none=>rw[bY F];exact s b o (by rw[cT F];exact e)
 | some o'=>rw[h b o' F]at e;cases e
end L2
namespace K58
open PySem L2
variable{H H':Hp}
theorem aIW{H H1:Hp}{b:Ad}{o:HO}(s:bU H H1)(hb:H1 b=none):bU H (upd H1 b o)/\upd H1 b o b=some o:=⟨s.trans (aH hb),aA⟩
abbrev wp1:Pos:=⟨309,24,309,101⟩
abbrev wp2:Pos:=⟨311,28,311,87⟩
abbrev rN:Str:=(("_law_right":Str)++".<locals>.")++"<lambda>"
inductive yC(T T2:Ad)(vs:List V)(H:Hp)(Q:VK)(u3_:XK):Prop
 | mk (p c:Ad) (ns:List Int) (a:Int) (t:Ad) (Ls:List L4) (rs:List Rw) (hl:Ad) (hs:List Str) (s:Int) (sl:Ad) (ss:List Ad) (S:List Pr) (q0:vs=[.ref p,.ref t,.ref hl,.int s,.ref sl]) (q1:dE H p c ns a) (q2:a<=900000) (q3:nC H t Ls rs) (q4:H hl=some (.lst (hs.map V.str))) (q5:Tb T H) (q6:gC T2 [wp1,wp2] rN H) (q7:(Ls.map (·.1)).Nodup) (q8:(∀ l∈Ls,LOk l)) (q9:Ls.length<=8) (q10:rs.length<=8) (q11:NmS (dC Ls rs).1 (dC Ls rs).2) (q12:0<=s) (q13:s<2^40) (q14:H sl=some (.lst (ss.map V.ref))) (q15:AZ (PrR H) ss S) (q16:S.length<=8) (q17:(∀ t∈S,0<=t.1/\t.1<2^40/\0<=t.2/\t.2<2^40)) (q18:(∀ r,Cov S r↔Cov (eQ hs Ls rs) r)) (q19:∀(a':Int) (H':Hp),a'<=a+1->dE H' p c ns a'->dF [p,T,T2] H H'->Tb T H'->gC T2 [wp1,wp2] rN H'->Q (.bl true) H'):yC T T2 vs H Q u3_
def aDL(T T2:Ad):Sp:=fun vs H Q u3_=>yC T T2 vs H Q u3_
structure Sit(T T2 p c:Ad)(ns:List Int)(H0:Hp)(t:Ad)(Ls:List L4)(rs:List Rw)(hl:Ad)(hs:List Str)(sl:Ad)(ss:List Ad)(S:List Pr)(a:Int)(H:Hp):Prop where
 pen:dE H p c ns a
 roll:nC H t Ls rs
 hh:H hl=some (.lst (hs.map V.str))
 tb:Tb T H
 g2:gC T2 [wp1,wp2] rN H
 hs:H sl=some (.lst (ss.map V.ref))
 hS:AZ (PrR H) ss S
 kx:dF [p,T,T2] H0 H
 ne:T≠T2
section
variable{T T2 p c:Ad}{ns:List Int}{H0:Hp}{t:Ad}{Ls:List L4}{rs:List Rw}{hl:Ad}{hs:List Str}{sl:Ad}{ss:List Ad}{S:List Pr}{a:Int}
theorem Sit.same(h:Sit T T2 p c ns H0 t Ls rs hl hs sl ss S a H)(s:bU H H'):Sit T T2 p c ns H0 t Ls rs hl hs sl ss S a H':=
 ⟨h.pen.same s,h.roll.on (aK s),s _ _ h.hh,h.tb.same s,h.g2.same s,s _ _ h.hs,Paired.mapP h.hS fun _ _ z=>z.on (aK s),h.kx.same s,h.ne⟩
theorem Sit.but{Y:Int}(h:Sit T T2 p c ns H0 t Ls rs hl hs sl ss S a H)(k:aY p H H')(O:dE H' p c ns Y):Sit T T2 p c ns H0 t Ls rs hl hs sl ss S Y H':=by
 obtain⟨⟨l,_,e⟩,_,_,_⟩:=h.pen;have n:∀{b:Ad} {o:HO},H b=some o->(∀ fo,o≠.dK fo)->b≠p:=fun{b o} G n z=>by
  rw[z,e]at G;cases G;exact n _ rfl
 have U:gU H H':=fun q xs G=>k _ _ G (n G fun _ z=>nomatch z);refine⟨O,h.roll.on U,k _ _ h.hh (n h.hh fun _ z=>nomatch z),?_,?_,k _ _ h.hs (n h.hs fun _ z=>nomatch z),Paired.mapP h.hS fun _ _ z=>z.on U,fun b o n e=>k _ _ (h.kx b o n e) (fun z=>n (by simp[z])),h.ne⟩
 .obtain⟨ps,h1,h2,F⟩:=h.tb.ex;refine⟨ps,k _ _ h1 (n h1 fun _ z=>nomatch z),h2,?_⟩;rcases F with F|⟨c',F,J⟩
  .exact .inl F
  .exact .inr ⟨c',F,k _ _ J (n J fun _ z=>nomatch z)⟩
 .obtain⟨ps,h1,h2,F⟩:=h.g2.ex;refine⟨ps,k _ _ h1 (n h1 fun _ z=>nomatch z),h2,fun pos O=>?_⟩;rcases F pos O with F|⟨c',F,J⟩
  .exact .inl F
  .exact .inr ⟨c',F,k _ _ J (n J fun _ z=>nomatch z)⟩
theorem Sit.toT(h:Sit T T2 p c ns H0 t Ls rs hl hs sl ss S a H)(s:dW T H H')(g:Tb T H'):Sit T T2 p c ns H0 t Ls rs hl hs sl ss S a H':=by
 obtain⟨qs,hT,_⟩:=h.tb.ex;have n:∀{b:Ad} {o:HO},H b=some o->(∀ ps,o≠.tbl ps)->b≠T:=fun{b o} F n z=>by
  rw[z,hT]at F;cases F;exact n _ rfl
 have U:gU H H':=fun q xs F=>s _ _ (n F fun _ z=>nomatch z) F;have J:dE H' p c ns a:=by
  obtain⟨⟨l,hl,e⟩,ce,ge,sm⟩:=h.pen;exact⟨⟨l,hl,s _ _ (n e fun _ z=>nomatch z) e⟩,s _ _ (n ce fun _ z=>nomatch z) ce,ge,sm⟩
 refine⟨J,h.roll.on U,s _ _ (n h.hh fun _ z=>nomatch z) h.hh,g,?_,s _ _ (n h.hs fun _ z=>nomatch z) h.hs,Paired.mapP h.hS fun _ _ z=>z.on U,fun b o n e=>s _ _ (fun z=>n (by simp[z])) (h.kx b o n e),h.ne⟩;obtain⟨ps,h1,h2,G⟩:=h.g2.ex;refine⟨ps,s _ _ h.ne.symm h1,h2,fun pos J=>?_⟩;rcases G pos J with G|⟨c',G,O⟩
 .exact .inl G
 .exact .inr ⟨c',G,s _ _ (n O fun _ z=>nomatch z) O⟩
theorem Sit.toT2(h:Sit T T2 p c ns H0 t Ls rs hl hs sl ss S a H)(s:dW T2 H H')(g:gC T2 [wp1,wp2] rN H'):Sit T T2 p c ns H0 t Ls rs hl hs sl ss S a H':=by
 obtain⟨qs,hT,_⟩:=h.g2.ex;have n:∀{b:Ad} {o:HO},H b=some o->(∀ ps,o≠.tbl ps)->b≠T2:=fun{b o} G n z=>by
  rw[z,hT]at G;cases G;exact n _ rfl
 have O:gU H H':=fun q xs G=>s _ _ (n G fun _ z=>nomatch z) G;have U:dE H' p c ns a:=by
  obtain⟨⟨l,hl,e⟩,ce,ge,sm⟩:=h.pen;exact⟨⟨l,hl,s _ _ (n e fun _ z=>nomatch z) e⟩,s _ _ (n ce fun _ z=>nomatch z) ce,ge,sm⟩
 refine⟨U,h.roll.on O,s _ _ (n h.hh fun _ z=>nomatch z) h.hh,?_,g,s _ _ (n h.hs fun _ z=>nomatch z) h.hs,Paired.mapP h.hS fun _ _ z=>z.on O,fun b o n e=>s _ _ (fun z=>n (by simp[z])) (h.kx b o n e),h.ne⟩;obtain⟨ps,h1,h2,F⟩:=h.tb.ex;refine⟨ps,s _ _ h.ne h1,h2,?_⟩;rcases F with F|⟨c',F,J⟩
 .exact .inl F
 .exact .inr ⟨c',F,s _ _ (n J fun _ z=>nomatch z) J⟩
end
theorem aDM:bG ["_law_pen_here","_law_roll","_law_houses","_law_sight","_law_strips","_law_at","_law_thing","_law_found"] ["_law_pen_here","_law_roll","_law_houses","_law_sight","_law_strips"] (aM nZ):=⟨rfl,rfl,rfl,by decide,rfl,by decide,by decide⟩
theorem aGH{f fS fP fN fL fH fR  C T T2 cR cD cM DM:Ad}{aI bc:List Ad}{fd bb bj bz bF bi a0:A4}(F:Fun K "_law_right" "_law_right" nZ f fd)(cs:fd.code=.ref cR)(hC:Dm K cR T2=true)(hB:p9 mg base)(cg:T≠T2)(bA:mg "len"=none)(aL:mg "sum"=none)(xM:Ga K (.ref DM) (.ref cD)=some true)(az:aBy K DM [cM] [true] aI=true)(bq:aBy K DM [] [] bc=true)
  (GS:cA P w K mg base (CXr P w) 9 fS bb ["roll","at","houses","sight"] (aBn C T DM)) (mS:mg "stands"=some (.ref fS)) (kS:AJ K (.ref fS)=true) (bS:dA K bb ["roll","at","houses","sight"] [])
  (GP:cA P w K mg base CX0 1 fP bj ["_law_pen_here","_law_many"] qG) (mP:mg "_law_take"=some (.ref fP)) (kP:AJ K (.ref fP)=true) (bP:dA K bj ["_law_pen_here","_law_many"] [])
  (GN:cA P w K mg base CX0 2 fN bz ["_law_strips","_law_sight"] aBp) (mN:mg "_law_needed"=some (.ref fN)) (kN:AJ K (.ref fN)=true) (bN:dA K bz ["_law_strips","_law_sight"] [])
  (GL:cA P w K mg base CX0 3 fL bF ["_law_strips","_law_beyond","_law_sight","_law_thing"] aDD) (mL:mg "_law_holds"=some (.ref fL)) (kL:AJ K (.ref fL)=true) (bL:dA K bF ["_law_strips","_law_beyond","_law_sight","_law_thing"] [])
  (GH:cA P w K mg base (CXr P w) 9 fH bi ["roll","at","houses","sight","thing"] (aDB C T DM)) (mH:mg "shows_stands"=some (.ref fH)) (kH:AJ K (.ref fH)=true) (bH:dA K bi ["roll","at","houses","sight","thing"] [])
  (GR:cA P w K mg base CX0 11 fR a0 ["_law_asked"] (x9 P w K mg base cD cM aI bc)) (mR:mg "_law_refused"=some (.ref fR)) (kR:AJ K (.ref fR)=true) (bR:dA K a0 ["_law_asked"] [])
  :cA P w K mg base CX0 12 f fd ["_law_pen_here","_law_roll","_law_houses","_law_sight","_law_strips"] (aDL T T2):=by
 refine F.okC aDM (fun vs H Q E h=>?_) (fun eb A outer s H vs Q E bn hr h=>?_)
 .obtain⟨p,c,ns,a,t,Ls,rs,hl,hs,s0,sl,ss,S,rfl,_⟩:=h;rfl
 .obtain⟨p,c,ns,a,t,Ls,rs,hl,hs,s0,sl,ss,S,rfl,hp,ha,roll,hhl,tb,g2,hnn,hLO,h8,r8,hnm,h0,h40,hsl,hS,hSl,hSb,hcov,k⟩:=h;have nd:=aDM.nd;rw[cs]at bn;subst bn;have hu:_<_:=hr.units0;have cn:cF 1 _:=hr.mono (by decide);have c3:cF 2 _:=hr.mono (by decide);have c1:cF 3 _:=hr.mono (by decide);have bI:cF 9 _:=hr.mono (by decide);have ap:cF 11 _:=hr.mono (by decide);refine⟨_,(aE (aX (i:=5) nd rfl (Ej rfl) (aV cO (by rfl) bA BK (aD (bO dG (pv 1) aG Ih) aB)))
   (aE (aX (i:=6) nd rfl (Ej rfl) (bO bW (cJ (aD aBD (aD (cE (aD (cJ aB) (aD (cJ aB) aB))) (aD aG (aD (cJ aB) (aD (cE (aD (cJ (aD aG aB)) (aD (cJ (aD aG aB)) aB))) (aD (cE (aD (cE aB) (aD (cE aB) aB))) aB))))))) (cB GP cn rfl mP kP bP .nil dP (aD (pv 0) (aD aG aB))) Ih))
   (aE (dN (cG aCF (cB GN c3 rfl mN kN bN .nil dP (aD (pv 4) (aD (pv 3) aB))) aG (cH _)) (aE (dN (cG wJ (aAG (Ps:=[wp1,wp2]) (c:=cR) (T:=T2) (fs:=["_law_roll","_law_at","_law_houses","_law_sight","_law_thing"]) (cl:=[("_law_thing",s.heap.objs.size+5),("_law_sight",s.heap.objs.size+3),("_law_roll",s.heap.objs.size+1),("_law_houses",s.heap.objs.size+2),("_law_at",s.heap.objs.size+4)]) GR ap rfl mR kR bR (by simp) rfl hC hB ?hc0 ?hhas0 (fun _=>rfl) rfl rfl rfl) cS (cH _)) (aN (bC jC)) cN)
    (aN (bC (iP wI (aAG (Ps:=[wp1,wp2]) (c:=cR) (T:=T2) (fs:=["_law_roll","_law_at","_law_houses","_law_sight"]) (cl:=[("_law_sight",s.heap.objs.size+3),("_law_roll",s.heap.objs.size+1),("_law_houses",s.heap.objs.size+2),("_law_at",s.heap.objs.size+4)]) GR ap rfl mR kR bR (by simp) rfl hC hB ?hc1 ?hhas1 (fun _=>rfl) rfl rfl rfl) cS (cH _))))) cN)
   (aE (aX (i:=7) nd rfl (AC rfl) (cB GS bI rfl mS kS bS .nil aH0 (aD (pv 1) (aD (pv 5) (aD (pv 2) (aD (pv 3) aB))))))
   (aE (dN (j9 (iU (cB GL c1 rfl mL kL bL .nil dP (aD (pv 4) (aD (aV (aFr rfl) (by rfl) aL PyProof.Rows.boot_sum (aD (dR (N:=["_law_row"]) (src:=[none]) (osc:=aM nZ) (oN:=["_law_pen_here","_law_roll","_law_houses","_law_sight","_law_strips","_law_at","_law_thing","_law_found"]) ⟨by rfl,by decide,by decide,by decide,rfl,by rfl⟩ (sV (bO dG (pv 1) aG Ih)) (fun cl s H fp df C=>⟨aP (i:=0) (show(["_law_row"]:List Str).Nodup by decide) rfl (AC rfl),f7,bO (r:=aAh K) dG (pv 0) aG Ih⟩)) aB)) (aD (pv 3) (aD (pv 7) aB))))))) (aN (bC jC)) cN)
   (aN (bC (iP aIs (cB GH bI rfl mH kH bH .nil aH0 (aD (pv 1) (aD (pv 5) (aD (pv 2) (aD (pv 3) (aD (pv 7) aB)))))) jC (cH _))))))))),?_⟩
  case hc0=>
   intro y b h;have hm:=Bl h;simp only[An,Prod.mk.injEq,AO,or_false]at hm;rcases hm with⟨rfl,rfl⟩|⟨rfl,rfl⟩|⟨rfl,rfl⟩|⟨rfl,rfl⟩|⟨rfl,rfl⟩<;>exact⟨rfl,by simp⟩
  case hc1=>
   intro y b h;have hm:=Bl h;simp only[An,Prod.mk.injEq,AO,or_false]at hm;rcases hm with⟨rfl,rfl⟩|⟨rfl,rfl⟩|⟨rfl,rfl⟩|⟨rfl,rfl⟩<;>exact⟨rfl,by simp⟩
  case hhas0=>
   intro y h;simp only[An,AO,or_false]at h;rcases h with rfl|rfl|rfl|rfl|rfl<;>exact⟨_,rfl⟩
  case hhas1=>
   intro y h;simp only[An,AO,or_false]at h;rcases h with rfl|rfl|rfl|rfl<;>exact⟨_,rfl⟩
  obtain⟨lay,rw,xs,ys,e1,e2,e3,e4,e5⟩:=roll.ex;have cq:=aZ e5;have bv:=aZ e3;obtain⟨pps,hT2,_⟩:=g2.ex;refine⟨_,rfl,t,_,1,_,rfl,rfl,bJ e1,rfl,rw,_,rfl,.inr (bJ e4),?_⟩;rw[cq];have z:∀{n:Nat},n<=1000000->n<=sizeLine:=aR;refine⟨z (by show 0<=_;decide),fun b0 bo=>⟨z (by show 0<=_;decide),fun b1 be=>⟨z (by show 2<=_;decide),fun b2 bd=>⟨z (by show 0<=_;decide),fun b3 bD=>⟨z (by show 1<=_;decide),fun b4 bg=>⟨z (by show 1<=_;decide),fun b5 bE=>⟨z (by show 2<=_;decide),fun b6 bu=>⟨z (by show 0<=_;decide),fun b7 ba=>⟨z (by show 0<=_;decide),fun b8 bT=>⟨z (by show 2<=_;decide),fun b9 bM=>⟨z (by show 6<=_;decide),fun bx bp=>?_⟩⟩⟩⟩⟩⟩⟩⟩⟩⟩⟩;have S0:=aIW (o:=.lst [V.non,.ref b2,.int 7,.ref b3,.ref b6,.ref b9]) ((((((((((aH bo).trans (aH be)).trans (aH bd)).trans (aH bD)).trans (aH bg)).trans (aH bE)).trans (aH bu)).trans (aH ba)).trans (aH bT)).trans (aH bM)) bp;generalize upd _ bx _=HX at S0 ⊢;obtain⟨S0,ebx⟩:=S0;clear bo be bd bD bg bE bu ba bT bM bp;have ar:Sit T T2 p c ns H t Ls rs hl hs sl ss S a H:=⟨hp,roll,hhl,tb,g2,hsl,hS,dF.refl H,cg⟩
  have ae:=ar.same S0;have cw:bx≠p:=fun z=>by
   obtain⟨⟨l,_,e⟩,_,_,_⟩:=ae.pen;rw[z,e]at ebx;cases ebx
  refine⟨_,rfl,p,c,ns,a,6,rfl,ae.pen,by omega,by decide,by decide,fun r a1 H1 r0 r1 l1 u1 bw aw=>?_⟩;have aa:=ae.but aw bw;obtain⟨v,hv,hat⟩:=yS (xs:=[V.non,.ref b2,.int 7,.ref b3,.ref b6,.ref b9]) (i:=r) r0 (by show r<6;omega);have aq:=aw _ _ ebx cw;refine⟨bx,_,r,v,rfl,rfl,aO aq,hat,?_⟩;clear hp roll hhl tb g2 hsl hS S0 ar ebx ae bw aw e1 e2 e3 e4 e5 aq hv hat;dsimp only[aW];refine⟨_,rfl,_,rfl,sl,s0,ss,S,rfl,aa.hs,aa.hS,hSl,h0,h40,hSb,fun n H2 S2 sh lo=>?_⟩;have O:=aa.same S2;clear aa S2;have eC:Cov S=Cov (eQ hs Ls rs):=funext fun q=>propext (hcov q);rw[eC]at sh lo;refine⟨_,_,rfl,rfl,_,rfl,?_⟩;rcases Dc 300 n with hn|hn
  .rw[Ic hn];have aj:=lo hn;refine iD ?_;refine⟨[.ref t,.int rs.length,.ref hl,.int s0,v],.cons ⟨1,rfl,rfl,rfl⟩ (.cons ⟨5,rfl,rfl,rfl⟩ (.cons ⟨2,rfl,rfl,rfl⟩ (.cons ⟨3,rfl,rfl,rfl⟩ (.cons ⟨6,rfl,rfl,rfl⟩ .nil)))),O.g2,fun f' c' H3 L S3 g3 ag Z tk af=>?_⟩;have sf:=aBz af;have G:=O.toT2 S3 g3;refine⟨f',DM,rfl,xM,az,bq,⟨⟨_,_,_,_,_,c',sf _ _ Z⟩,fun A' an s' ah e0=>?_⟩⟩;refine aC5 (k:=9) e0 ah ⟨rfl,rfl,rfl,by decide,by decide,by decide,by decide⟩ ?hhas2 (sf _ _ Z) (sf _ _ ag) (fun _ _ _=>rfl) tk (fun b o e=>jM e) (fun b o e z=>by have:=e0.frf b z;rw[jM e]at this;cases this)
    (fun cI=>cB GH (ah.deeper _) rfl mH kH bH .nil (aAA fun _ _ _ h=>h) (aD (pv 0) (aD (pv 1) (aD (pv 2) (aD (pv 3) (aD (pv 4) aB)))))) ?_
   .intro y h;have hm:=Bl h;have e:=(show∀ y∈_,y.2=Bb->y.1=("_law_roll":Str)\/y.1=("_law_at":Str)\/y.1=("_law_houses":Str)\/y.1=("_law_sight":Str)\/y.1=("_law_thing":Str) from by decide) (y,Bb) hm rfl;rcases e with rfl|rfl|rfl|rfl|rfl<;>exact⟨_,rfl⟩
   rw[yB af];refine⟨_,rfl,_,rfl,_,rfl,_,rfl,_,rfl,t,Ls,rs,hl,hs,s0,v,rfl,G.roll,G.hh,G.tb,hnn,hLO,h8,r8,hnm,h0,.inl ⟨aj,fun H4 S4 Y ao=>⟨rfl,fun H5 S5=>?_⟩⟩⟩;have U:=(G.toT S4 Y).same (vX S5 ao);clear G O S3 S4 S5 Y g3 ag Z tk sf e0;clear af ao;refine⟨rfl,_,rfl,?_⟩;rw[Ic rfl];refine dU ?_;refine⟨[.ref t,.int rs.length,.ref hl,.int s0],.cons ⟨1,rfl,rfl,rfl⟩ (.cons ⟨5,rfl,rfl,rfl⟩ (.cons ⟨2,rfl,rfl,rfl⟩ (.cons ⟨3,rfl,rfl,rfl⟩ .nil))),U.g2,fun f' c' H3 L S3 g3 ag Z tk af=>?_⟩;have sf:=aBz af;have G:=U.toT2 S3 g3;refine⟨f',DM,rfl,xM,az,bq,⟨⟨_,_,_,_,_,c',sf _ _ Z⟩,fun A' an s' ah e0=>?_⟩⟩;refine aC5 (k:=9) e0 ah ⟨rfl,rfl,rfl,by decide,by decide,by decide,by decide⟩ ?hhas3 (sf _ _ Z) (sf _ _ ag) (fun _ _ _=>rfl) tk (fun b o e=>jM e) (fun b o e z=>by have:=e0.frf b z;rw[jM e]at this;cases this)
    (fun cI=>cB GS (ah.deeper _) rfl mS kS bS .nil (aAA fun _ _ _ h=>h) (aD (pv 0) (aD (pv 1) (aD (pv 2) (aD (pv 3) aB))))) ?_
   .intro y h;have hm:=Bl h;have e:=(show∀ y∈_,y.2=Bb->y.1=("_law_roll":Str)\/y.1=("_law_at":Str)\/y.1=("_law_houses":Str)\/y.1=("_law_sight":Str) from by decide) (y,Bb) hm rfl;rcases e with rfl|rfl|rfl|rfl<;>exact⟨_,rfl⟩
   rw[yB af];refine⟨_,rfl,_,rfl,_,rfl,_,rfl,t,Ls,rs,hl,hs,s0,rfl,G.roll,G.hh,G.tb,hnn,hLO,h8,r8,hnm,h0,fun l b v' H4 g n l3 _ _ _=>?_,fun H4 S4 Y _ ao=>⟨rfl,fun H5 S5=>?_⟩⟩
   .exfalso;obtain⟨l4,b4,g4,hl4⟩:=aj;have:=lV g n g4;omega
   have J:=(G.toT S4 Y).same (vX S5 ao);clear G U S3 S4 S5 Y g3 ag Z tk sf e0;refine⟨rfl,?_⟩;rw[Ic rfl];exact k a1 _ (by omega) J.pen J.kx J.tb J.g2
  .rw[Ie (Int.not_lt.mpr hn)];refine dU ?_;obtain⟨l,b,gr,hl3,nx⟩:=sh hn;refine⟨_,rfl,_,rfl,_,rfl,_,rfl,t,Ls,rs,hl,hs,s0,rfl,O.roll,O.hh,O.tb,hnn,hLO,h8,r8,hnm,h0,fun l2 b2 v' H4 g4 n4 aC S4 Y aT=>?_,fun H4 S4 Y aj=>?_⟩
   .have el:=(pL g4 gr (Nat.le_antisymm (lV gr nx g4) (lV g4 n4 gr))).1;subst el;have G:=O.toT S4 Y;clear O S4 Y;dsimp only[aW];obtain⟨lay,rw,xs,ys,e1,e2,e3,e4,e5⟩:=G.roll.ex;have bv:=aZ e3;refine⟨_,rfl,_,rfl,t,_,0,_,rfl,rfl,bJ e1,rfl,lay,rfl,⟨_,bJ e2⟩,?_⟩;refine aAq (K:=K) (xs:=xs) (fun i ys σ' H'=>∃(o1:Option V),σ'=[o1]/\bU H4 H'/\ys=((Ls.take i).map fun l=>l.2.2.2).map V.int) ⟨none,rfl,bU.refl H4,by simp⟩
     (aR (by omega)) (fun i ys σ H' p=>by obtain⟨_,_,_,rfl⟩:=p;simp;omega) (fun i ys σ H' p=>by obtain⟨_,_,S,_⟩:=p;exact bJ (S _ _ e2)) ?_ ?_
    .rintro i v ys σ' H5 hv ⟨o1,rfl,S,rfl⟩;have cz:i<Ls.length:=by
      have:=(Ak.mp hv).1;omega
     have hl:Ls[i]?=some Ls[i]:=Ae cz;obtain⟨q,rfl,hq⟩:=Paired.at e3 hv hl;dsimp only[aW];refine iD ?_;refine⟨_,rfl,q,_,3,_,rfl,rfl,bJ (S _ _ hq),rfl,_,rfl,S,?_⟩;rw[Bk,hl,A1,A1];rfl
    .rintro ys σ' H5 ⟨o1,rfl,Sx,rfl⟩ D hD;rw[bv,Bg];have S5:=Sx.trans (aH (o:=.lst ((Ls.map fun l=>l.2.2.2).map V.int)) hD);refine⟨D,Ls.map (fun l=>l.2.2.2),rfl,aO aA,?_⟩;have U:=G.same S5;obtain⟨w1,w2,w3⟩:=vT (hs:=hs) (rs:=rs) hLO;refine⟨_,rfl,_,rfl,sl,ss,S,v',s0,inS Ls-1,l2,b2,?_,U.hs,U.hS,hSl,aT.on (T:=T) S5.butT G.tb,h0,?_,fun t ht=>(hSb t ht).1,aC,by rw[eC];exact g4,by rw[eC];exact n4,fun H6 S6=>?_⟩
     .show[V.ref sl,V.int (inS Ls),V.int s0,v']=[V.ref sl,V.int (inS Ls-1+1),V.int s0,v']
      rw[Int.sub_add_cancel]
     .rw[eC];exact w2
     .refine⟨_,rfl,dU ?_⟩;have J:=U.same S6;refine⟨_,rfl,_,rfl,_,rfl,_,rfl,_,rfl,t,Ls,rs,hl,hs,s0,v',rfl,J.roll,J.hh,J.tb,hnn,hLO,h8,r8,hnm,h0,.inr ⟨l2,b2,g4,n4,aC,aT.on (T:=T) (S5.trans S6).butT G.tb,fun H7 S7 c0=>?_⟩⟩;have ad:=J.toT S7 c0;refine⟨_,rfl,?_⟩;rw[Ic rfl];exact k a1 _ (by omega) ad.pen ad.kx ad.tb ad.g2
   .obtain⟨l4,b4,g4,hl4⟩:=aj;have:=lV gr nx g4;omega
theorem aHA(h:Str):nxt [] h=none:=rfl
theorem aGI(h:Str):rd [] h=[h]:=c6.rd (.stop (aHA h))
theorem oF(h:Str):dB [] h=h:=by
 unfold dB;rw[aGI];rfl
theorem aBA{x y:Str}(h:x≠y):i4 [] x y=dM [] (Ao x) (.str y):=by
 unfold i4;rw[aGI,Ia (fun z=>h (Ax.mp z))]
theorem aEL{x y:Str}(h:x≠y):dB (i4 [] x y) x=y:=by
 unfold dB;rw[aBA h,c6.rd (.on (o:=y) (by rw[pH,Ib rfl]) (.stop (by rw[pH,Ia h.symm];rfl)))];rfl
theorem aCB{x y z:Str}(h:x≠y)(F:z≠x):dB (i4 [] x y) z=z:=by
 unfold dB;rw[aBA h,c6.rd (.stop (by rw[pH,Ia F];rfl))];rfl
def vY(own n1:Str)(Ls:List L4)(S:List L4×Mnd):Prop:=AZ (fun f l=>f.2.2.2=l.2.2.2/\f.1=l.1/\i6 f.2.1/\dB S.2 f.2.1=if l.2.1=n1 then n1 else own) S.1 Ls
theorem lW{α:Type}{R:α->α->Prop}:∀{l:List α},(∀ x∈l,R x x)->AZ R l l
 | [],_=>.nil
 | x::l,h=>.cons (h x Am) (lW fun y F=>h y (Al _ F))
theorem vZ{α:Type}{R:α->α->Prop}{g:α->α}:∀{l:List α},(∀ x∈l,R (g x) x)->AZ R (l.map g) l
 | [],_=>.nil
 | x::l,h=>.cons (h x Am) (vZ fun y F=>h y (Al _ F))
theorem aGJ{F n1:Str}{Ls:List L4}(h:∀ l∈Ls,(l.2.1=F\/l.2.1=n1)/\i6 l.2.1)(G:F≠n1):vY F n1 Ls (dC Ls []):=lW fun l hl=>⟨rfl,rfl,(h l hl).2,by
 show dB [] l.2.1=_;rw[oF];rcases(h l hl).1 with e|e
 .rw[e,Ia G]
 .rw[e,Ib rfl]⟩
theorem aGK{F n1 J O:Str}{d:Int}{Ls:List L4}(h:∀ l∈Ls,(l.2.1=F\/l.2.1=n1)/\i6 l.2.1)(G:F≠n1)(h2:F≠J):vY J n1 Ls (dC Ls [⟨"mend",O,d,F,J⟩]):=lW fun l hl=>⟨rfl,rfl,(h l hl).2,by
 show dB (i4 [] F J) l.2.1=_;rcases(h l hl).1 with e|e
 .rw[e,Ia G,aEL h2]
 .rw[e,Ib rfl,aCB h2 G.symm]⟩
theorem aBB{F:Str}:∀(rs:List Rw) (S:List L4×Mnd),(∀ r∈rs,r.word="forfeit"/\r.y=F)->rs.foldl d9 S=(S.1.map (fun l=>if l.1∈rs.map (·.x) then(l.1,F,l.2.2) else l),S.2)
 | [],S,_=>by
  simp
 | r::rs,S,h=>by
  obtain⟨e1,e2⟩:=h r Am;have J:d9 S r=(gJ S.1 r.x F,S.2):=by
   unfold d9;rw[e1,e2,Ia (by decide)]
  rw[B1,aBB rs _ (fun q O=>h q (Al _ O)),J];refine Hz ?_ rfl;show(gJ S.1 r.x F).map _=_;unfold gJ;rw[DT];refine DC fun l _=>?_;show(fun l:L4=>if l.1∈rs.map (·.x) then(l.1,F,l.2.2) else l) (if l.1=r.x then(l.1,F,l.2.2) else l)=if l.1∈(r::rs).map (·.x) then(l.1,F,l.2.2) else l
  dsimp only;by_cases q:l.1=r.x
  .rw[Ib q,Ib (show l.1∈(r::rs).map (·.x) by rw[AF,q];exact Am)]
   split<;>rfl
  .rw[Ia q];have:(l.1∈(r::rs).map (·.x))↔l.1∈rs.map (·.x):=by
    rw[AF,An];exact⟨fun z=>z.elim (fun y=>absurd y q) id,.inr⟩
   by_cases G:l.1∈rs.map (·.x)
   .rw[Ib G,Ib (this.mpr G)]
   .rw[Ia G,Ia (fun z=>G (this.mp z))]
theorem aGL{F n1 J:Str}{Ls:List L4}{rs:List Rw}(h:∀ l∈Ls,(l.2.1=F\/l.2.1=n1)/\i6 l.2.1)(G:F≠n1)(U:J≠n1)(h2:i6 J)(O:(Ls.map (·.1)).Nodup)(Y:∀ r∈rs,r.word="forfeit"/\r.y=J)(hm:rs.map (·.x)=(Ls.filter fun l=>decide (l.2.1=F)).map (·.1)):vY J n1 Ls (dC Ls rs):=by
 unfold vY dC;rw[aBB rs _ Y,hm];refine vZ fun l hl=>?_;dsimp only;have key:l.1∈(Ls.filter fun l=>decide (l.2.1=F)).map (·.1)↔l.2.1=F:=by
  refine⟨fun z=>?_,fun z=>BA.mpr ⟨l,Cz.mpr ⟨hl,Ic z⟩,rfl⟩⟩;obtain⟨x,hx,e⟩:=BA.mp z;obtain⟨hx1,hx2⟩:=Cz.mp hx;obtain⟨i,hi,ei⟩:=AR.mp hl;obtain⟨j,hj,ej⟩:=AR.mp hx1;have:(Ls.map (·.1))[j]'(by simpa using hj)=(Ls.map (·.1))[i]'(by simpa using hi):=by
   rw[B3,B3,ei,ej];exact e
  have:=(CH O).mp this;subst this;rw[<- ei,ej];exact Ig hx2
 rcases(h l hl).1 with e|e
 .rw[Ib (key.mpr e)];refine⟨rfl,rfl,h2,?_⟩;dsimp only;rw[oF,e,Ia G]
 .rw[Ia (fun z=>G ((key.mp z).symm.trans e))];refine⟨rfl,rfl,(h l hl).2,?_⟩;rw[oF,e,Ib rfl]
theorem aGM{P G:L4->Prop}{F Ls:List L4}(h:AZ (fun f l=>f.2.2.2=l.2.2.2/\(P f↔G l)) F Ls):∀ p r,jB P p F r↔jB G p Ls r:=by
 induction h with
 | nil=>exact fun p r=>Iff.rfl
 | @cons f l F Ls a _ J=>
  intro p r;show((p<=r/\r<p+f.2.2.2/\P f)\/jB P (p+f.2.2.2) F r)↔((p<=r/\r<p+l.2.2.2/\G l)\/jB G (p+l.2.2.2) Ls r);rw[a.1,a.2,J]
theorem aBC{P F:L4->Prop}:∀{Ls:List L4}{p r:Int},jB (fun l=>P l\/F l) p Ls r↔jB P p Ls r\/jB F p Ls r
 | [],_,_=>⟨fun z=>z.elim,fun z=>z.elim id id⟩
 | l::Ls,p,r=>by
  show((p<=r/\r<p+l.2.2.2/\(P l\/F l))\/jB (fun l=>P l\/F l) (p+l.2.2.2) Ls r)↔((p<=r/\r<p+l.2.2.2/\P l)\/jB P (p+l.2.2.2) Ls r)\/((p<=r/\r<p+l.2.2.2/\F l)\/jB F (p+l.2.2.2) Ls r)
  rw[aBC];constructor
  .rintro(⟨a,b,c|c⟩|c|c)
   .exact .inl (.inl ⟨a,b,c⟩)
   .exact .inr (.inl ⟨a,b,c⟩)
   .exact .inl (.inr c)
   .exact .inr (.inr c)
  .rintro((⟨a,b,c⟩|c)|(⟨a,b,c⟩|c))
   .exact .inl ⟨a,b,.inl c⟩
   .exact .inr (.inl c)
   .exact .inl ⟨a,b,.inr c⟩
   .exact .inr (.inr c)
theorem aDN:∀{Ls:List L4}{p r:Int},¬ jB (fun _=>False) p Ls r
 | [],_,_,z=>z
 | l::Ls,p,r,z=>z.elim (fun q=>q.2.2) aDN
theorem aHB{A B:List Pr}{r:Int}:Cov (A++B) r↔Cov A r\/Cov B r:=by
 constructor
 .rintro⟨t,ht,a,b⟩;rcases AK.mp ht with ht|ht
  .exact .inl ⟨t,ht,a,b⟩
  .exact .inr ⟨t,ht,a,b⟩
 .rintro(⟨t,ht,a,b⟩|⟨t,ht,a,b⟩)
  .exact⟨t,BN _ ht,a,b⟩
  .exact⟨t,AH _ ht,a,b⟩
section
variable{own n1:Str}{Ls:List L4}{rs:List Rw}{hs:List Str}
theorem sO(h:vY own n1 Ls (dC Ls rs))(ok:∀ l∈Ls,LOk l)(r:Int):Cov (eQ hs Ls rs) r↔jB (fun l=>(if l.2.1=n1 then n1 else own)∈hs) 0 Ls r:=by
 rw[show Cov (eQ hs Ls rs) r↔_ from(aBm (hs:=hs) (m:=(dC Ls rs).2) (aDA ok rs)).2.1 r];exact aGM (Paired.mapP h fun f l ⟨a,_,_,b⟩=>⟨a,by rw[b]⟩) 0 r
theorem zW(h:vY own n1 Ls (dC Ls rs))(ok:∀ l∈Ls,LOk l)(h1:own∈hs)(h2:n1∉hs)(r:Int):Cov (cQ n1 false 0 Ls) r↔Cov (eQ hs Ls rs) r:=by
 rw[sO h ok,i8];have:(fun l:L4=>decide (l.2.1=n1)=false)=fun l=>(if l.2.1=n1 then n1 else own)∈hs:=funext fun l=>propext (by
  by_cases e:l.2.1=n1
  .rw[Ib e,Ic e];exact⟨fun z=>(nomatch z),fun z=>absurd z h2⟩
  .rw[Ia e,Ie e];exact⟨fun _=>h1,fun _=>rfl⟩)
 rw[this]
theorem aHC(h:vY own n1 Ls (dC Ls rs))(ok:∀ l∈Ls,LOk l)(h1:own∉hs)(h2:n1∈hs)(r:Int):Cov (cQ n1 true 0 Ls) r↔Cov (eQ hs Ls rs) r:=by
 rw[sO h ok,i8];have:(fun l:L4=>decide (l.2.1=n1)=true)=fun l=>(if l.2.1=n1 then n1 else own)∈hs:=funext fun l=>propext (by
  by_cases e:l.2.1=n1
  .rw[Ib e,Ic e];exact⟨fun _=>h2,fun _=>rfl⟩
  .rw[Ia e,Ie e];exact⟨fun z=>(nomatch z),fun z=>absurd z h1⟩)
 rw[this]
theorem aGN(h:vY own n1 Ls (dC Ls rs))(ok:∀ l∈Ls,LOk l)(h1:own∈hs)(h2:n1∈hs)(r:Int):Cov (cQ n1 false 0 Ls++cQ n1 true 0 Ls) r↔Cov (eQ hs Ls rs) r:=by
 rw[sO h ok,aHB,i8,i8,<- aBC];have:(fun l:L4=>decide (l.2.1=n1)=false\/decide (l.2.1=n1)=true)=fun l=>(if l.2.1=n1 then n1 else own)∈hs:=funext fun l=>propext ⟨fun _=>by split<;>assumption,fun _=>by
  cases decide (l.2.1=n1)
  .exact .inl rfl
  .exact .inr rfl⟩
 rw[this]
theorem aGO(h:vY own n1 Ls (dC Ls rs))(ok:∀ l∈Ls,LOk l)(h1:own∉hs)(h2:n1∉hs)(r:Int):Cov [] r↔Cov (eQ hs Ls rs) r:=by
 rw[sO h ok];have:(fun l:L4=>(if l.2.1=n1 then n1 else own)∈hs)=fun _=>False:=funext fun l=>propext ⟨fun z=>by split at z<;>contradiction,fun z=>z.elim⟩;rw[this];exact⟨fun⟨_,z,_⟩=>(AO z).elim,fun z=>(aDN z).elim⟩
theorem aHD(h:vY own n1 Ls (dC Ls rs))(O:i6 own)(h1:i6 n1)(hl:∀ l∈Ls,i6 l.1):NmS (dC Ls rs).1 (dC Ls rs).2:=by
 have key:∀{G F:List L4} {m:Mnd},AZ (fun f l=>f.2.2.2=l.2.2.2/\f.1=l.1/\i6 f.2.1/\dB m f.2.1=if l.2.1=n1 then n1 else own) G F->(∀ l∈F,i6 l.1)->∀ f∈G,(i6 f.1/\i6 f.2.1)/\i6 (dB m f.2.1):=by
  intro G F m h hl
  induction h with
  | nil=>exact fun f hf=>(AO hf).elim
  | cons a _ J=>
   intro f hf;rcases An.mp hf with rfl|hf
   .obtain⟨_,a2,a3,a4⟩:=a;refine⟨⟨by rw[a2];exact hl _ Am,a3⟩,?_⟩;rw[a4];split<;>assumption
   .exact J (fun l z=>hl l (Al _ z)) f hf
 exact⟨fun f hf=>(key h hl f hf).1,fun f hf=>(key h hl f hf).2⟩
end
inductive aDO(K:Ag)(T T2:Ad)(vs:List V)(H:Hp)(Q:VK)(u3_:XK):Prop
 | mk (a:Ad) (ns:List Int) (q0:vs=[.ref a]) (q1:SqL K H a (ns.map V.int)) (q2:ns.length<=63) (q3:Tb T H) (q4:gC T2 [wp1,wp2] rN H) (q5:∀ H',Q (.bl true) H'):aDO K T T2 vs H Q u3_
def aDP(K:Ag)(T T2:Ad):Sp:=fun vs H Q u3_=>aDO K T T2 vs H Q u3_
structure Wd(T T2 p c:Ad)(ns:List Int)(nl:Ad)(ws:List Str)(a:Int)(H:Hp):Prop where
 pen:dE H p c ns a
 tb:Tb T H
 g2:gC T2 [wp1,wp2] rN H
 hn:H nl=some (.lst (ws.map V.str))
section
variable{T T2 p c:Ad}{ns:List Int}{nl:Ad}{ws:List Str}{a:Int}
theorem Wd.same(h:Wd T T2 p c ns nl ws a H)(s:bU H H'):Wd T T2 p c ns nl ws a H':=⟨h.pen.same s,h.tb.same s,h.g2.same s,s _ _ h.hn⟩
theorem Wd.np(h:Wd T T2 p c ns nl ws a H){b:Ad}{o:HO}(e:H b=some o)(n:∀ fo,o≠.dK fo):b≠p:=fun z=>by
 obtain⟨⟨l,_,e2⟩,_,_,_⟩:=h.pen;rw[z,e2]at e;cases e;exact n _ rfl
theorem aGP{a:Int}(g:Tb T H)(J:dE H p c ns a)(k:aY p H H'):Tb T H':=by
 obtain⟨⟨l,_,e⟩,_,_,_⟩:=J;obtain⟨ps,h1,h2,F⟩:=g.ex;refine⟨ps,k _ _ h1 (fun z=>by rw[z,e]at h1;cases h1),h2,?_⟩;rcases F with F|⟨c',F,G⟩
 .exact .inl F
 .exact .inr ⟨c',F,k _ _ G fun z=>by rw[z,e]at G;cases G⟩
theorem aGQ{a:Int}(g:gC T2 [wp1,wp2] rN H)(G:dE H p c ns a)(k:aY p H H'):gC T2 [wp1,wp2] rN H':=by
 obtain⟨⟨l,_,e⟩,_,_,_⟩:=G;obtain⟨ps,h1,h2,F⟩:=g.ex;refine⟨ps,k _ _ h1 (fun z=>by rw[z,e]at h1;cases h1),h2,fun pos G=>?_⟩;rcases F pos G with F|⟨c',F,J⟩
 .exact .inl F
 .exact .inr ⟨c',F,k _ _ J fun z=>by rw[z,e]at J;cases J⟩
theorem Wd.but{F:Int}(h:Wd T T2 p c ns nl ws a H)(k:aY p H H')(G:dE H' p c ns F):Wd T T2 p c ns nl ws F H':=
 ⟨G,aGP h.tb h.pen k,aGQ h.g2 h.pen k,k _ _ h.hn (h.np h.hn fun _ z=>nomatch z)⟩
end
theorem pS{H:Hp}{h t:Ad}{o:HO}{xs:List V}(a:H h=none)(b:upd H h o t=none):∃ G,G=upd (upd H h o) t (.tup xs)/\bU H G/\G h=some o/\G t=some (.tup xs):=
 ⟨_,rfl,(aH a).trans (aH b),aH b _ _ aA,aA⟩
theorem aDQ{H:Hp}{h:Ad}{o:HO}(a:H h=none):∃ G,G=upd H h o/\bU H G/\G h=some o:=⟨_,rfl,aH a,aA⟩
structure Ask(H:Hp)(Ls:List L4)(rs:List Rw)(v:V):Prop where
 ex:∃ tq hl hs sl ss S,v=.ref tq/\H tq=some (.tup [.ref hl,.ref sl])/\H hl=some (.lst (hs.map V.str))/\H sl=some (.lst (ss.map V.ref))/\AZ (PrR H) ss S/\S.length<=8/\(∀ t∈S,0<=t.1/\t.1<2^40/\0<=t.2/\t.2<2^40)/\∀ r,Cov S r↔Cov (eQ hs Ls rs) r
theorem Ask.same{H H':Hp}{Ls:List L4}{rs:List Rw}{v:V}(h:Ask H Ls rs v)(s:bU H H'):Ask H' Ls rs v:=by
 obtain⟨tq,hl,hs,sl,ss,S,e,a,b,c,d,r⟩:=h.ex;exact⟨tq,hl,hs,sl,ss,S,e,s _ _ a,s _ _ b,s _ _ c,Paired.mapP d fun _ _ z=>z.on (aK s),r⟩
section
variable{T T2 p c:Ad}{ns:List Int}{nl:Ad}{ws:List Str}{a:Int}
theorem Wd.nx(h:Wd T T2 p c ns nl ws a H){b:Ad}{o:HO}(e:H b=some o)(n1:∀ fo,o≠.dK fo)(F:∀ ps,o≠.tbl ps):b∉[p,T,T2]:=fun hm=>by
 simp only[An,AO,or_false]at hm;rcases hm with z|z|z
 .exact h.np e n1 z
 .obtain⟨ps,h1,_⟩:=h.tb.ex;rw[z,h1]at e;cases e;exact F _ rfl
 .obtain⟨ps,h1,_⟩:=h.g2.ex;rw[z,h1]at e;cases e;exact F _ rfl
theorem Wd.tups(h:Wd T T2 p c ns nl ws a H)(k:dF [p,T,T2] H H'):gU H H':=fun b xs e=>k _ _ (h.nx e (fun _ z=>nomatch z) fun _ z=>nomatch z) e
end
theorem aDR{H:Hp}{h c t:Ad}{o o2:HO}{xs:List V}(a:H h=none)(b:upd H h o c=none)(d:upd (upd H h o) c o2 t=none):∃ G,G=upd (upd (upd H h o) c o2) t (.tup xs)/\bU H G/\G h=some o/\G c=some o2/\G t=some (.tup xs):=
 ⟨_,rfl,((aH a).trans (aH b)).trans (aH d),aH d _ _ (aH b _ _ aA),aH d _ _ aA,aA⟩
theorem aEM{α β:Type}{R:α->β->Prop}{as bs:List α}{As F:List β}(h1:AZ R as As)(h2:AZ R bs F):AZ R (as++bs) (As++F):=by
 induction h1 with
 | nil=>exact h2
 | cons r t G=>exact .cons r G
theorem aH1:bG ["_law_script","_law_pen_here","_law_namer_here","_law_names","_law_turn","_law_sight","_law_step","_law_many","_law_laying","_law_both","_law_way","_law_rows","_law_own","_law_mine","_law_roll","_law_houses","_law_right_here"] ["_law_script"] (aM rV):=⟨rfl,rfl,rfl,by decide,rfl,by decide,by decide⟩
theorem aIX{f fP fN fM fL fT fR  T T2:Ad}{fd eW fa gh gi gx fg:A4}(F:Fun K "law" "law" rV f fd)(gc:mg "len"=none)(bV:mg "range"=none)(cR:mg "min"=none)(fx:mg "int"=none)(gq:mg "tuple"=none)(j2:T≠T2)
  (GP:cA P w K mg base CX0 1 fP eW ["_law_script"] (aHW K)) (mP:mg "_law_pen"=some (.ref fP)) (kP:AJ K (.ref fP)=true) (bP:dA K eW ["_law_script"] [])
  (GN:cA P w K mg base CX0 2 fN fa ["_law_pen_here","_law_most"] aDG) (mN:mg "_law_namer"=some (.ref fN)) (kN:AJ K (.ref fN)=true) (bN:dA K fa ["_law_pen_here","_law_most"] [])
  (GM:cA P w K mg base CX0 1 fM gh ["_law_namer_here","_law_k"] aGA) (mM:mg "_law_name"=some (.ref fM)) (kM:AJ K (.ref fM)=true) (bM:dA K gh ["_law_namer_here","_law_k"] [])
  (GL:cA P w K mg base CX0 3 fL gi ["_law_pen_here","_law_names","_law_many"] aGE) (mL:mg "_law_laid"=some (.ref fL)) (kL:AJ K (.ref fL)=true) (bL:dA K gi ["_law_pen_here","_law_names","_law_many"] [])
  (GT:cA P w K mg base CX0 1 fT gx ["_law_pen_here","_law_many"] qG) (mT:mg "_law_take"=some (.ref fT)) (kT:AJ K (.ref fT)=true) (bT:dA K gx ["_law_pen_here","_law_many"] [])
  (GR:cA P w K mg base CX0 12 fR fg ["_law_pen_here","_law_roll","_law_houses","_law_sight","_law_strips"] (aDL T T2)) (mR:mg "_law_right"=some (.ref fR)) (kR:AJ K (.ref fR)=true) (bR:dA K fg ["_law_pen_here","_law_roll","_law_houses","_law_sight","_law_strips"] [])
  :cA P w K mg base CX0 13 f fd ["_law_script"] (aDP K T T2):=by
 refine F.ok aH1 (fun vs H Q E h=>?_) (fun kj A outer s H vs Q E hr h=>?_)
 .obtain⟨x,ns,rfl,_⟩:=h;rfl
 .obtain⟨x,ns,rfl,hx,hx63,hT,hT2,k⟩:=h;have nd:=aH1.nd;have aa:cF 1 _:=hr.mono (by decide);have iI:cF 2 _:=hr.mono (by decide);have hy:cF 3 _:=hr.mono (by decide);have aC:cF 12 _:=hr.mono (by decide);refine⟨_,(aE (aX (i:=1) nd rfl (AC rfl) (cB GP aa rfl mP kP bP .nil dP (aD (pv 0) aB)))
   (aE (aX (i:=2) nd rfl (Ej rfl) (cB GN iI rfl mN kN bN .nil dP (aD (pv 1) (aD aG aB))))
   (aE (aX (i:=3) nd rfl (Ej rfl) (dR (N:=["_law_k","_law_namer_here"]) (src:=[none,some 2]) (osc:=aM rV) (oN:=["_law_script","_law_pen_here","_law_namer_here","_law_names","_law_turn","_law_sight","_law_step","_law_many","_law_laying","_law_both","_law_way","_law_rows","_law_own","_law_mine","_law_roll","_law_houses","_law_right_here"]) ⟨by rfl,by decide,by decide,by decide,rfl,by rfl⟩ (gN rfl bV (aD aG aB)) (fun cl s H fp df C=>⟨aP (i:=0) (show(["_law_k","_law_namer_here"]:List Str).Nodup by decide) rfl (AC rfl),f7,cB GM aa rfl mM kM bM .nil dP (aD (pv 1) (aD (pv 0) aB))⟩)))
   (aE (fO Bz rfl (gN rfl bV (aD aG aB)) (g:=aW 4) (aP (i:=4) nd rfl (AC rfl))
   (aE (p3 (aX (i:=5) nd rfl (AC rfl) (bO bW (cJ (aD aG (aD aG (aD aG (aD (cB GT aa rfl mT kT bT .nil dP (aD (pv 1) (aD aG aB))) (aD (cB GT aa rfl mT kT bT .nil dP (aD (pv 1) (aD (aU nQ aG aG) aB))) (aD (aU nQ aG aG) aB))))))) (cB GT aa rfl mT kT bT .nil dP (aD (pv 1) (aD aG aB))) Ih)))
    (aE (aX (i:=6) nd rfl (AC rfl) (aV (jU rfl) (by rfl) cR (by kernel_rfl) (aD (aU cC (aU eR aG (pv 5)) aG) (aD aG aB))))
    (aE (aX (i:=7) nd rfl (AC rfl) (aU iV (aU eR (aU cC aG (cB GT aa rfl mT kT bT .nil dP (aD (pv 1) (aD aG aB)))) (pv 6)) (cB GT aa rfl mT kT bT .nil dP (aD (pv 1) (aD (pv 6) aB)))))
    (aE (jQ (cB GL hy rfl mL kL bL .nil dP (aD (pv 1) (aD (pv 3) (aD (pv 7) aB)))) (dJ rfl (aQ (aP (i:=8) nd rfl (AC rfl)) (aQ (aP (i:=9) nd rfl (AC rfl)) cZ))))
    (aE (aX (i:=10) nd rfl (AC rfl) (cB GT aa rfl mT kT bT .nil dP (aD (pv 1) (aD aG aB))))
    (aE (p3 (aX (i:=11) nd rfl (AC rfl) (bO bW (cJ (aD (cE aB) (aD (cE aB) (aD (cE (aD (cE (aD cS (aD cS (aD aG (aD (bO bW (pv 3) aG Ih) (aD (bO bW (pv 3) aG Ih) aB)))))) aB)) aB)))) (aV (jU rfl) (by rfl) cR (by kernel_rfl) (aD (pv 10) (aD aG aB))) Ih)))
    (aE (p3 (aX (i:=12) nd rfl (AC rfl) (bO bW (cJ (aD (bO bW (pv 3) aG Ih) (aD (bO bW (pv 3) aG Ih) aB))) (fU wL (by rfl) fx (by kernel_rfl) (aD (iP aCF (pv 10) aG (cH _)) aB)) Ih)))
    (aE (p3 (dN (cG wI (pv 10) aG (cH _)) (aE (aX (i:=13) nd rfl (Ej rfl) (dR (N:=["_law_row","_law_names"]) (src:=[none,some 3]) (osc:=aM rV) (oN:=["_law_script","_law_pen_here","_law_namer_here","_law_names","_law_turn","_law_sight","_law_step","_law_many","_law_laying","_law_both","_law_way","_law_rows","_law_own","_law_mine","_law_roll","_law_houses","_law_right_here"]) ⟨by rfl,by decide,by decide,by decide,rfl,by rfl⟩ (sV (pv 8)) (fun cl s H fp df C=>⟨aP (i:=0) (show(["_law_row","_law_names"]:List Str).Nodup by decide) rfl (AC rfl),lX (cG wI (bO (r:=aAh K) dG (pv 0) aG Ih) (bO (r:=yM K) bW (pv 1) aG Ih) (cH _)),bO (r:=aAh K) dG (pv 0) aG Ih⟩)))
     (aN (aX (i:=11) nd rfl (AC rfl) (fU mY (by rfl) gq (by kernel_rfl) (aD (dR (N:=["_law_k","_law_names","_law_mine"]) (src:=[none,some 3,some 13]) (osc:=aM rV) (oN:=["_law_script","_law_pen_here","_law_namer_here","_law_names","_law_turn","_law_sight","_law_step","_law_many","_law_laying","_law_both","_law_way","_law_rows","_law_own","_law_mine","_law_roll","_law_houses","_law_right_here"]) ⟨by rfl,by decide,by decide,by decide,rfl,by rfl⟩ (gN rfl bV (aD (aV cO (by rfl) gc BK (aD (pv 13) aB)) aB)) (fun cl s H fp df C=>⟨aP (i:=0) (show(["_law_k","_law_names","_law_mine"]:List Str).Nodup by decide) rfl (AC rfl),f7,cE (aD cS (aD (aU iX cS (bO aBR cS (pv 0) Ih)) (aD aG (aD (bO (r:=yM K) bW (pv 2) (pv 0) Ih) (aD (bO (r:=yM K) bW (pv 1) aG Ih) aB)))))⟩)) aB))))) cN))
    (aE (aX (i:=14) nd rfl (AC rfl) (cE (aD (pv 8) (aD (pv 11) aB))))
    (aN (fO Bz rfl (dO (cJ (aD (cE (aD (cJ (aD (pv 12) aB)) (aD (bO dG (pv 9) aG Ih) aB))) (aD (cE (aD (cJ (aD (pv 12) (aD (pv 12) (aD (bO bW (pv 3) aG Ih) aB)))) (aD (bO dG (pv 9) aG Ih) aB))) (aD (cE (aD (cJ (aD (bO bW (pv 3) aG Ih) aB)) (aD (bO dG (pv 9) aG Ih) aB))) (aD (cE (aD (cJ (aD (bO bW (pv 3) aG Ih) (aD (pv 12) aB))) (aD (aU aFa (bO dG (pv 9) aG Ih) (bO dG (pv 9) aG Ih)) aB))) (aD (cE (aD (cJ (aD (bO bW (pv 3) aG Ih) aB)) (aD (cJ aB) aB))) (aD (cE (aD (cJ (aD (pv 12) aB)) (aD (bO dG (pv 9) aG Ih) aB))) aB)))))))) (g:=oJ K 2 (cW (aW 15) (cW (aW 16) nO))) (dJ rfl (aQ (aP (i:=15) nd rfl (AC rfl)) (aQ (aP (i:=16) nd rfl (AC rfl)) cZ)))
    (aN (dN (j9 (iU (cB GR aC rfl mR kR bR .nil dP (aD (pv 1) (aD (pv 14) (aD (pv 15) (aD (pv 5) (aD (pv 16) aB)))))))) (aN (bC jC)) cN))))))))))))))
   (aN (bC jC)))))),?_⟩
  refine⟨_,rfl,x,ns,rfl,hx,hx63,fun p c H1 cn S1 hI=>?_⟩;refine⟨_,rfl,p,c,ns,0,rfl,cn,by decide,fun t b st f1 sp a2 H2 et hb fl e4 hf ec j3 fA k2=>?_⟩;refine⟨12,rfl,by decide,by decide,?_⟩;refine gP (n:=12) (fun i ys σ' H'=>∃(o:Option V),σ'=[o,some (.ref t)]/\H'=H2/\ys=((B7 i).map (nm b st f1 sp)).map V.str) ⟨none,rfl,rfl,rfl⟩ (aR (by decide)) (fun i ys σ H p=>by obtain⟨_,_,_,rfl⟩:=p;simp) ?_ ?_
  .rintro i ys σ' H5 hi ⟨o,rfl,rfl,rfl⟩;dsimp only[aW];refine iD ?_;refine⟨_,rfl,_,rfl,t,b,st,f1,sp,i,(by show[V.ref t,V.int (0+(i:Int))]=_;rw[DZ]),et,hb,e4,hf,ec,hi,_,rfl,rfl,?_⟩;rw[List.range_succ,A1,A1];rfl
  .rintro ys σ' H5 ⟨o,rfl,rfl,rfl⟩ nl fj;obtain⟨ws,hws⟩:∃ ws,ws=(B7 12).map (nm b st f1 sp):=⟨_,rfl⟩
   rw[<- hws];have bi:ws.length=12:=by rw[hws];simp
   have ai:ws.Nodup:=by
    rw[hws,List.nodup_iff_pairwise_ne,Bc];intro i j hi hj kY e;rw[B3,B3,List.getElem_range,List.getElem_range]at e;rw[Af,List.length_range]at hi hj;have:=aIV hf ec hi hj e;omega
   have ck:∀ z∈ws,i6 z:=fun z hz=>by
    rw[hws]at hz;obtain⟨j,_,rfl⟩:=BA.mp hz;exact aJU hb fl
   have sN:=aH (o:=.lst (ws.map V.str)) fj;have w0:Wd T T2 p c ns nl ws a2 (upd H5 nl (.lst (ws.map V.str))):=⟨fA.same sN,(aGP (hT.same S1) cn k2).same sN,(aGQ (hT2.same S1) cn k2).same sN,aA⟩
   clear sN;generalize upd H5 nl _=H6 at w0 ⊢;clear fj hws et hb fl e4 hf ec fA k2 cn S1 hI;dsimp only[aW];refine⟨2,rfl,by decide,by decide,wG (n:=2) (fun i σ H'=>Ex3 fun(a':Int) (o4 o5:Option V)=>Ex3 fun(o6 o7 o8:Option V)=>Ex3 fun(o9 cm cs:Option V)=>Ex3 fun(br al ay:Option V)=>∃(Z Y:Option V),Aw3 (σ=[some (.ref x),some (.ref p),some (.ref t),some (.ref nl),o4,o5,o6,o7,o8,o9,cm,cs,br,al,ay,Z,Y]) (Wd T T2 p c ns nl ws a' H') (a'<=20+300*(i:Int))) ⟨a2,none,none,none,none,none,none,none,none,none,none,none,none,none,rfl,w0,by omega⟩ ?_ ?_⟩
   .rintro i σ H7 hi ⟨a',o4,o5,o6,o7,o8,o9,cm,cs,br,al,ay,Z,Y,rfl,wd,ha⟩;dsimp only[aW];refine⟨fun σ' H'=>∃(s0 a3:Int),σ'=[some (.ref x),some (.ref p),some (.ref t),some (.ref nl),some (.int (0+(i:Int))),some (.int s0),o6,o7,o8,o9,cm,cs,br,al,ay,Z,Y]/\0<=s0/\s0<2^40/\Wd T T2 p c ns nl ws a3 H'/\a3<=a'+3,?_,?_⟩
    .refine⟨_,rfl,p,c,ns,a',40,rfl,wd.pen,by omega,by decide,by decide,fun s1 b1 G1 kE kz l1 u1 fe iv=>?_⟩;have v1:=wd.but iv fe;refine⟨_,rfl,_,_,rfl,rfl,⟨by decide,by decide,by decide⟩,p,c,ns,b1,_,rfl,fe,by omega,by decide,by decide,fun s2 b2 G2 km hQ l2 u2 ip hu=>?_⟩;have v2:=v1.but hu ip;have kq:s2<10000:=Int.lt_of_lt_of_le hQ (by decide);refine⟨_,_,rfl,rfl,⟨by decide,by decide,by decide⟩,zZ6,fun L hL=>?_⟩;have v3:=v2.same (aH (o:=.lst [V.int 0,.int 0,.int 1,.int s1,.int s2,.int (10^(9:Int).toNat)]) hL);have eL:upd G2 L (.lst [V.int 0,.int 0,.int 1,.int s1,.int s2,.int (10^(9:Int).toNat)]) L=some (.lst [V.int 0,.int 0,.int 1,.int s1,.int s2,.int (10^(9:Int).toNat)]):=aA;refine⟨_,rfl,p,c,ns,b2,6,rfl,v3.pen,by omega,by decide,by decide,fun r b3 G3 r0 r1 l3 u3 is eN=>?_⟩;have v4:=v3.but eN is;obtain⟨v,hv,hat⟩:=yS (xs:=[V.int 0,.int 0,.int 1,.int s1,.int s2,.int (10^(9:Int).toNat)]) (i:=r) r0 (by show r<6;omega);have h9:(10:Int)^(9:Int).toNat=1000000000:=by decide
     obtain⟨s0,rfl,eq,eO⟩:∃ s0:Int,v=.int s0/\0<=s0/\s0<=1000000000:=by
      simp only[An,AO,or_false]at hv;rcases hv with rfl|rfl|rfl|rfl|rfl|rfl
      .exact⟨_,rfl,by decide,by decide⟩
      .exact⟨_,rfl,by decide,by decide⟩
      .exact⟨_,rfl,by decide,by decide⟩
      .exact⟨_,rfl,by omega,by omega⟩
      .exact⟨_,rfl,by omega,by omega⟩
      .exact⟨_,rfl,by omega,by omega⟩
     exact⟨L,_,r,_,rfl,rfl,aO (eN _ _ eL (v3.np eL fun _ z=>nomatch z)),hat,s0,b3,rfl,eq,by omega,v4,by omega⟩
    rintro σ H8 ⟨s0,a3,rfl,eq,eO,aq,kh⟩;clear wd;dsimp only[aW];refine⟨_,rfl,_,_,rfl,rfl,.inl ⟨by decide,by decide⟩,_,_,rfl,rfl,_,_,rfl,?_⟩;obtain⟨sp1,hsp1⟩:∃ z:Int,z=if 20001<2*s0+1 then 20001 else 2*s0+1:=⟨_,rfl⟩
    have ii:1<=sp1/\sp1<=20001:=by rw[hsp1];split<;>omega
    rw[<- hsp1];clear hsp1;refine⟨_,rfl,p,c,ns,a3,6,rfl,aq.pen,by omega,by decide,by decide,fun q a4 H9 q0 q1 l4 u4 fB gr=>?_⟩;have au:=aq.but gr fB;refine⟨_,_,rfl,rfl,_,rfl,_,_,rfl,rfl,.inl ⟨by omega,by omega⟩,_,rfl,_,rfl,p,c,ns,a4,sp1,rfl,au.pen,by omega,by omega,Int.lt_of_le_of_lt ii.2 (by decide),fun d a5 ic d0 d1 l5 u5 gl fw=>?_⟩;have ae:=au.but fw gl;refine⟨_,_,rfl,rfl,?_⟩;have ik:298*sp1<=(298+q)*sp1:=B5 (by omega) (by omega);have hA:(298+q)*sp1<=303*sp1:=B5 (by omega) (by omega);generalize (298+q)*sp1=qs at ik hA ⊢;dsimp only[aW];clear aq au gr fB fw gl;refine⟨_,rfl,_,rfl,_,rfl,p,nl,c,ns,a5,qs-d,ws,rfl,ae.pen,by omega,by omega,by omega,ae.hn,bi,ai,ae.np ae.hn (fun _ z=>nomatch z),?_⟩;intro tt av bt b0 b1 xs r0 r1 Ls n1 a6 G e1 e2 hX lr ap fF eT fH e3 aa jk lf fD gt;have ak:=ae.but gt fD;clear ae gt fD;refine⟨tt,_,rfl,bJ e1,rfl,_,_,rfl,_,_,rfl,rfl,?_⟩;dsimp only[aW];refine⟨_,rfl,p,c,ns,a6,4,rfl,ak.pen,by omega,by decide,by decide,fun U a7 G7 y0 y1 l7 u7 fh cu=>?_⟩;have ar:=ak.but cu fh;have tu:=butT cu ak.pen;have np:=fun{b:Ad} {o:HO} (e:G b=some o) n=>cu _ _ e (ak.np e n);have em:=Paired.mapP hX fun _ _ z=>z.on tu;have c1:=Paired.mapP fH fun _ _ z=>z.on tu;have dq:=Paired.mapP aa fun _ _ z=>z.on tu;have eg:=tu _ _ e2;have du:=tu _ _ fF;have dV:=np eT fun _ z=>nomatch z;have dv:=np e3 fun _ z=>nomatch z;clear np hX fH aa e2 fF eT e3 e1 tu cu fh ak;obtain⟨n0,en0,at0⟩:=rL bi (j:=0) (by decide);obtain⟨n2,en2,at2⟩:=rL bi (j:=2) (by decide);have m0:i6 n0:=ck _ (AU en0)
    have m1:i6 n1:=ck _ (AU ap);have m2:i6 n2:=ck _ (AU en2);have ej:n0≠n1:=fun z=>by
     have:=pR ai en0 (z▸ap);omega
    have hR:n2≠n1:=fun z=>by
     have:=pR ai en2 (z▸ap);omega
    have h7:n0≠n2:=fun z=>by
     have:=pR ai en0 (z▸en2);omega
    dsimp only[aW];refine⟨fun σ' H'=>∃(rw:Ad) (ys:List V) (rs:List Rw),σ'=[some (.ref x),some (.ref p),some (.ref t),some (.ref nl),some (.int (0+(i:Int))),some (.int s0),some (.int sp1),some (.int (qs-d)),some (.ref av),some (.ref bt),some (.int U),some (.ref rw),br,al,ay,Z,Y]/\bU G7 H'/\H' rw=some (.tup ys)/\AZ (zL H') ys rs/\((U<=1/\rs=[])\/(2<=U/\rs=[⟨"mend","m",3,n0,n2⟩])),?_,?_⟩
    .refine⟨zZ0,fun g1 hH=>⟨zZ0,fun g2 fu=>?_⟩⟩;have s1:=aH (o:=.tup ([]:List V)) hH;have s2:=s1.trans (aH (o:=.tup ([]:List V)) fu);have f1:=aH (o:=.tup ([]:List V)) fu _ _ (show upd G7 g1 (.tup ([]:List V)) g1=_ from aA);have f2:upd (upd G7 g1 (.tup ([]:List V))) g2 (.tup ([]:List V)) g2=some (.tup []):=aA;refine⟨_,rfl,nl,_,0,_,rfl,rfl,aO (s2 _ _ ar.hn),at0,_,rfl,nl,_,2,_,rfl,rfl,aO (s2 _ _ ar.hn),at2,zZ5,fun g3 i3=>⟨zZ1,fun g4 e5=>⟨zZ3,fun g5 fE=>?_⟩⟩⟩;have t3:=aH (o:=.tup [V.str "mend",.str "m",.int 3,.str n0,.str n2]) i3;have f3:upd (upd (upd G7 g1 (.tup ([]:List V))) g2 (.tup ([]:List V))) g3 (.tup [V.str "mend",.str "m",.int 3,.str n0,.str n2]) g3=some (.tup [V.str "mend",.str "m",.int 3,.str n0,.str n2]):=aA;have s3:=s2.trans t3;have fz:=t3 _ _ f1;have fb:=t3 _ _ f2;generalize upd (upd (upd G7 g1 (.tup ([]:List V))) g2 (.tup ([]:List V))) g3 (.tup [V.str "mend",.str "m",.int 3,.str n0,.str n2])=G8 at s3 f3 fz fb e5 fE ⊢;have t4:=aH (o:=.tup [V.ref g3]) e5;have f4:upd G8 g4 (.tup [V.ref g3]) g4=some (.tup [V.ref g3]):=aA;have t5:=aH (o:=.lst [V.ref g1,.ref g2,.ref g4]) fE;have f5:upd (upd G8 g4 (.tup [V.ref g3])) g5 (.lst [V.ref g1,.ref g2,.ref g4]) g5=some (.lst [V.ref g1,.ref g2,.ref g4]):=aA;have cr:=t4.trans t5;have s5:=s3.trans cr;have u1:=cr _ _ fz;have u2:=cr _ _ fb;have u3:=cr _ _ f3;have u4:=t5 _ _ f4;refine⟨_,rfl,_,_,rfl,?_⟩;have hw:U=0\/U=1\/U=2\/U=3:=by omega
     rcases hw with rfl|rfl|rfl|rfl
     .exact⟨g5,_,0,_,rfl,rfl,aO f5,rfl,g1,[],[],rfl,s5,u1,.nil,.inl ⟨by decide,rfl⟩⟩
     .exact⟨g5,_,1,_,rfl,rfl,aO f5,rfl,g2,[],[],rfl,s5,u2,.nil,.inl ⟨by decide,rfl⟩⟩
     .exact⟨g5,_,2,_,rfl,rfl,aO f5,rfl,g4,[.ref g3],_,rfl,s5,u4,.cons ⟨g3,rfl,u3,.inl rfl⟩ .nil,.inr ⟨by decide,rfl⟩⟩
     .exact⟨g5,_,2,_,rfl,rfl,aO f5,rfl,g4,[.ref g3],_,rfl,s5,u4,.cons ⟨g3,rfl,u3,.inl rfl⟩ .nil,.inr ⟨by decide,rfl⟩⟩
    rintro σ H8 ⟨rw,ys,rs,rfl,S8,erw,hrs,b7⟩;refine⟨fun σ' H'=>∃(own:Str),σ'=[some (.ref x),some (.ref p),some (.ref t),some (.ref nl),some (.int (0+(i:Int))),some (.int s0),some (.int sp1),some (.int (qs-d)),some (.ref av),some (.ref bt),some (.int U),some (.ref rw),some (.str own),al,ay,Z,Y]/\bU G7 H'/\H' rw=some (.tup ys)/\AZ (zL H') ys rs/\((U<=1/\rs=[]/\own=n0)\/(2<=U/\rs=[⟨"mend","m",3,n0,n2⟩]/\own=n2)),?_,?_⟩
    .refine⟨_,rfl,nl,_,0,_,rfl,rfl,aO (S8 _ _ ar.hn),at0,_,rfl,nl,_,2,_,rfl,rfl,aO (S8 _ _ ar.hn),at2,zZ2,fun L hL=>?_⟩;have sL:=aH (o:=.lst [V.str n0,.str n2]) hL;have fL:upd H8 L (.lst [V.str n0,.str n2]) L=some (.lst [V.str n0,.str n2]):=aA;have dt:=Paired.mapP hrs fun _ _ z=>z.on (aK sL);refine⟨_,rfl,_,_,rfl,rfl,.inr ⟨_,rfl,?_⟩⟩;rcases b7 with⟨hw,e⟩|⟨hw,e⟩
     .rw[Ie (by omega)];exact⟨L,_,0,_,rfl,rfl,aO fL,rfl,n0,rfl,S8.trans sL,sL _ _ erw,dt,.inl ⟨hw,e,rfl⟩⟩
     .rw[Ic (by omega)];exact⟨L,_,1,_,rfl,rfl,aO fL,rfl,n2,rfl,S8.trans sL,sL _ _ erw,dt,.inr ⟨hw,e,rfl⟩⟩
    rintro σ H9 ⟨own,rfl,S9,bx,bI,ag⟩;clear b7 hrs erw S8;have ed:∀ l∈Ls,(l.2.1=n0\/l.2.1=n1)/\i6 l.2.1:=fun l hl=>by
     rcases(lr.hs l hl).1 with e|e
     .rw[en0]at e;cases e;exact⟨.inl rfl,m0⟩
     .rw[ap]at e;cases e;exact⟨.inr rfl,m1⟩
    have an:∀ l∈Ls,LOk l:=fun l hl=>(lr.ok l hl).1;refine⟨fun σ' H'=>∃(bw:Option V) (rw:Ad) (ys:List V) (rs:List Rw),σ'=[some (.ref x),some (.ref p),some (.ref t),some (.ref nl),some (.int (0+(i:Int))),some (.int s0),some (.int sp1),some (.int (qs-d)),some (.ref av),some (.ref bt),some (.int U),some (.ref rw),some (.str own),bw,ay,Z,Y]/\bU G7 H'/\H' rw=some (.tup ys)/\AZ (zL H') ys rs/\rs.length<=8/\(own=n0\/own=n2)/\vY own n1 Ls (dC Ls rs),?_,?_⟩
    .refine⟨_,rfl,rfl,_,rfl,?_⟩;rw[yI];by_cases hw:U=3
     .subst hw;obtain⟨rfl⟩:own=n2:=by
       rcases ag with⟨z,_⟩|⟨_,_,e⟩
       .omega
       .exact e
      refine iD ?_;have fC:=ar.same S9;have gw:=Paired.mapP em fun _ _ z=>z.on (aK S9);have ft:=S9 _ _ eg;have hY:=aZ gw;have l4:=lr.len;refine⟨_,rfl,av,rfl,⟨_,bJ ft⟩,?_⟩;refine aAq (K:=K) (xs:=xs) (fun i ys σ' H'=>∃(o1:Option V),σ'=[o1,some (.ref nl)]/\H'=H9/\ys=(((Ls.take i).filter fun l=>decide (l.2.1=n0)).map (·.1)).map V.str) ⟨none,rfl,rfl,rfl⟩ (aR (by omega)) (fun i ys σ H p=>by
       obtain⟨_,_,_,rfl⟩:=p;rw[Af,Af];have:=CM (fun l:L4=>decide (l.2.1=n0)) (Ls.take i);rw[Bm]at this;omega) (fun i ys σ H' p=>by obtain⟨_,_,rfl,_⟩:=p;exact bJ ft) ?_ ?_
      .rintro j v ys σ' H5 hv ⟨o1,rfl,rfl,rfl⟩;have hW:j<Ls.length:=by
        have:=(Ak.mp hv).1;omega
       have hl:Ls[j]?=some Ls[j]:=Ae hW;obtain⟨q',rfl,hq⟩:=Paired.at gw hv hl;rw[Bk,hl,FE];generalize Ls[j]=l at hq ⊢;dsimp only[aW];refine⟨_,rfl,q',_,1,_,rfl,rfl,bJ hq,rfl,_,rfl,nl,_,0,_,rfl,rfl,aO fC.hn,at0,rfl,_,rfl,?_⟩;rw[show decide (V.str l.2.1=V.str n0)=decide (l.2.1=n0) from decide_eq_decide.mpr ⟨fun z=>V.str.inj z,fun z=>congrArg V.str z⟩];by_cases e:l.2.1=n0
       .rw[Ic e];refine iD ?_;refine⟨_,rfl,q',_,0,_,rfl,rfl,bJ hq,rfl,_,rfl,rfl,?_⟩;rw[show(Bt l).toList.filter (fun l:L4=>decide (l.2.1=n0))=[l] from List.filter_cons_of_pos (Ic e),A1,A1];rfl
       .rw[Ie e];refine dU ?_;refine⟨_,rfl,rfl,?_⟩;rw[show(Bt l).toList.filter (fun l:L4=>decide (l.2.1=n0))=[] from List.filter_cons_of_neg (by simpa using e),Bp]
      .rintro ys σ' H5 ⟨o1,rfl,rfl,rfl⟩ D hD;rw[hY,Bg];obtain⟨J,hmine⟩:∃ J,J=(Ls.filter fun l=>decide (l.2.1=n0)).map (·.1):=⟨_,rfl⟩
       rw[<- hmine];have ld:J.length<=4:=by
        rw[hmine,Af];have:=CM (fun l:L4=>decide (l.2.1=n0)) Ls;omega
       have sD:=aH (o:=.lst (J.map V.str)) hD;have eD:upd H5 D (.lst (J.map V.str)) D=some (.lst (J.map V.str)):=aA;generalize upd H5 D (.lst (J.map V.str))=HD at sD eD ⊢;have iu:=fC.same sD;dsimp only[aW];refine⟨_,rfl,D,_,rfl,.inl (aO eD),J.length,(by rw[Af]),(by omega),(by omega),?_⟩;refine gP (n:=J.length) (fun j ys σ' H'=>∃(o1:Option V) (rs:List Rw),Aw6 (σ'=[o1,some (.ref nl),some (.ref D)]) (bU HD H') (AZ (zL H') ys rs) (rs.map (·.x)=J.take j) ((∀ r∈rs,r.word="forfeit"/\r.y=n2)) (ys.length=j)) ⟨none,[],rfl,bU.refl HD,.nil,rfl,fun r hr=>(AO hr).elim,rfl⟩ (aR (by omega)) (fun j ys σ' H' p=>by obtain⟨_,_,_,_,_,_,_,e⟩:=p;omega) ?_ ?_
       .rintro j ys σ' H5 hj ⟨o1,rs,rfl,S5,hP,bp,en,gm⟩;have e9:∀ k<4,(atI (BJ "abcd").cps.toList ((k:Nat):Int)).isSome=true:=by decide
        obtain⟨ch,hch⟩:=EA.mp (e9 j (by omega));have eb:J[j]?=some J[j]:=Ae hj;generalize J[j]=mj at eb;have eS:(0+(j:Int))=((j:Nat):Int):=DZ _;dsimp only[aW];refine iD ?_;refine⟨_,rfl,_,_,ch,rfl,rfl,aR (by decide),(by rw[eS];exact hch),_,_,rfl,rfl,aR (by show 1+1<=1000000;decide),_,rfl,_,rfl,D,_,_,_,rfl,rfl,aO (S5 _ _ eD),(by rw[eS];exact f6 (by rw[AB,eb];rfl)),?_⟩;refine⟨_,rfl,nl,_,2,_,rfl,rfl,aO (S5 _ _ iu.hn),at2,zZ5,fun q' hC=>?_⟩;have sq:=aH (o:=.tup [V.str "forfeit",.str (BJ "f"++⟨#[ch]⟩),.int 5,.str mj,.str n2]) hC;refine⟨_,rs++[⟨"forfeit",BJ "f"++⟨#[ch]⟩,5,mj,n2⟩],rfl,S5.trans sq,Ce ⟨q',rfl,aA,.inr rfl⟩ (Paired.mapP hP fun _ _ z=>z.on (aK sq)),?_,?_,by rw[Ay,gm];rfl⟩
        .rw[A1,bp,Bk,eb];rfl
        .intro r hr;rcases AK.mp hr with hr|hr
         .exact en r hr
         .rw[Ax.mp hr];exact⟨rfl,rfl⟩
       .rintro ys σ' H5 ⟨o1,rs,rfl,S5,hP,bp,en,gm⟩ D2 iy;rw[Bg]at bp;have hp:=aH (o:=.lst ys) iy;refine⟨D2,_,rfl,.inl ⟨aO aA,fun tq iB=>?_⟩⟩;have ho:=aH (o:=.tup ys) iB;have fk:=hp.trans ho;dsimp only[aW];have eu:rs.length<=8:=by
         have:=congrArg CU bp;rw[Af]at this;omega
        exact⟨_,tq,ys,rs,rfl,((S9.trans sD).trans S5).trans fk,aA,Paired.mapP hP fun _ _ z=>z.on (aK fk),eu,.inr rfl,aGL ed ej hR m2 lr.nd en (by rw[bp,hmine])⟩
     .rw[beq_eq_false_iff_ne.mpr hw];refine dU ?_;rcases ag with⟨_,rfl,rfl⟩|⟨_,rfl,rfl⟩
      .exact⟨al,rw,ys,_,rfl,S9,bx,bI,AV _,.inl rfl,aGJ ed ej⟩
      .exact⟨al,rw,ys,_,rfl,S9,bx,bI,(by show 1<=8;decide),.inr rfl,aGK ed ej h7⟩
    rintro σ ic ⟨bw,rw,ys,rs,rfl,ah,erw,hrs,eu,bo,aw⟩;obtain⟨n5,en5,at5⟩:=rL bi (j:=5) (by decide);obtain⟨n10,en10,at10⟩:=rL bi (j:=10) (by decide);have fI:atI (ws.map V.str) 1=some (.str n1):=f6 (j:=1) (by rw[AB,ap];rfl);have mo:i6 own:=by rcases bo with rfl|rfl<;>assumption
    have cg:own≠n1:=by rcases bo with rfl|rfl<;>assumption
    have hG:n5≠n1:=fun z=>by
     have:=pR ai en5 (z▸ap);omega
    have ih:n10≠n1:=fun z=>by
     have:=pR ai en10 (z▸ap);omega
    have hg:own≠n5:=fun z=>by
     rcases bo with y|y
     .have:=pR ai en0 (y▸z▸en5);omega
     .have:=pR ai en2 (y▸z▸en5);omega
    have ff:=ar.same ah;have cz:=ah _ _ du;have dn:=ah _ _ dV;have dz:=ah _ _ dv;have c3:=Paired.mapP c1 fun _ _ z=>z.on (aK ah);have cL:=Paired.mapP dq fun _ _ z=>z.on (aK ah);have fS:=Paired.mapP em fun _ _ z=>z.on (aK ah);have eK:=ah _ _ eg;clear ah ag bI S9 bx ar du dV dv c1 dq em eg;dsimp only[aW];refine⟨_,rfl,_,rfl,zZ2,fun tr fy=>?_⟩;obtain⟨HA,eHA,sA,etr⟩:=aDQ (o:=.tup [V.ref av,.ref rw]) fy;rw[<- eHA];clear fy eHA;have roll:nC HA tr Ls rs:=⟨av,rw,xs,ys,etr,sA _ _ eK,Paired.mapP fS fun _ _ z=>z.on (aK sA),sA _ _ erw,Paired.mapP hrs fun _ _ z=>z.on (aK sA)⟩
    have gB:=ff.same sA;have cy:=sA _ _ cz;have dc:=sA _ _ dn;have dk:=sA _ _ dz;have cI:=Paired.mapP c3 fun _ _ z=>z.on (aK sA);have cv:=Paired.mapP cL fun _ _ z=>z.on (aK sA);clear sA etr eK fS erw hrs ff cz dn dz c3 cL;have O:∀(b:Bool),(cQ n1 b 0 Ls).length<=4/\∀ t∈cQ n1 b 0 Ls,0<=t.1/\t.1<2^40/\0<=t.2/\t.2<2^40:=fun b=>by
     have h4:=lr.len;refine⟨AM (kX n1 b 0 Ls) h4,fun t ht=>?_⟩;obtain⟨x1,x2,x3⟩:=xZ (B:=2^36) (fun l hl=>⟨(an l hl).i1,(lr.ok l hl).2⟩) t ht;have:(Ls.length:Int)*2^36<=4*2^36:=B5 (by omega) (by decide);omega
    dsimp only[aW];have e0:=gB;have bd:=cy;have cD:=dc;have dm:=dk;have di:=cI;have dr:=cv;have bq:=roll;clear gB cy dc dk cI cv roll;refine⟨_,rfl,zZ1,fun h1 d3=>⟨_,rfl,bt,_,0,_,rfl,rfl,bJ ((aH d3 _ _ bd)),rfl,zZ2,fun t1 fK=>?_⟩⟩;obtain⟨K1,eK1,s1,fh1,ft1⟩:=pS (o:=.lst [V.str own]) (xs:=[.ref h1,.ref b0]) d3 fK;rw[<- eK1];clear d3 fK eK1;have d4:=e0.same s1;have bj:=s1 _ _ bd;have bS:=s1 _ _ cD;have d2:=s1 _ _ dm;have bD:=Paired.mapP di fun _ _ z=>z.on (aK s1);have cw:=Paired.mapP dr fun _ _ z=>z.on (aK s1);have bg:=bq.on (aK s1);have q1:Ask K1 Ls rs (.ref t1):=⟨⟨t1,h1,[own],b0,r0,_,rfl,ft1,fh1,bS,bD,AM (O false).1 (by decide),(O false).2,zW aw an (by simp) (by simp;exact cg.symm)⟩⟩
    clear s1 fh1 ft1 e0 bd cD dm di dr bq;refine⟨_,rfl,_,rfl,_,rfl,nl,_,10,_,rfl,rfl,aO (d4.hn),at10,zZ3,fun h2 d5=>⟨_,rfl,bt,_,0,_,rfl,rfl,bJ ((aH d5 _ _ bj)),rfl,zZ2,fun t2 eY=>?_⟩⟩;obtain⟨K2,eK2,s2,fh2,ft2⟩:=pS (o:=.lst [V.str own,.str own,.str n10]) (xs:=[.ref h2,.ref b0]) d5 eY;rw[<- eK2];clear d5 eY eK2;have ea:=d4.same s2;have bn:=s2 _ _ bj;have bu:=s2 _ _ bS;have dg:=s2 _ _ d2;have bA:=Paired.mapP bD fun _ _ z=>z.on (aK s2);have aC:=Paired.mapP cw fun _ _ z=>z.on (aK s2);have be:=bg.on (aK s2);have q2:Ask K2 Ls rs (.ref t2):=⟨⟨t2,h2,[own,own,n10],b0,r0,_,rfl,ft2,fh2,bu,bA,AM (O false).1 (by decide),(O false).2,zW aw an (by simp) (by simp;exact⟨cg.symm,ih.symm⟩)⟩⟩
    have q1:=q1.same s2;clear s2 fh2 ft2 d4 bj bS d2 bD cw bg;refine⟨_,rfl,nl,_,1,_,rfl,rfl,aO (ea.hn),fI,zZ1,fun h3 ef=>⟨_,rfl,bt,_,1,_,rfl,rfl,bJ ((aH ef _ _ bn)),rfl,zZ2,fun t3 gy=>?_⟩⟩;obtain⟨K3,eK3,s3,fh3,ft3⟩:=pS (o:=.lst [V.str n1]) (xs:=[.ref h3,.ref b1]) ef gy;rw[<- eK3];clear ef gy eK3;have aq:=ea.same s3;have aL:=s3 _ _ bn;have bz:=s3 _ _ bu;have az:=s3 _ _ dg;have b6:=Paired.mapP bA fun _ _ z=>z.on (aK s3);have aI:=Paired.mapP aC fun _ _ z=>z.on (aK s3);have bE:=be.on (aK s3);have q3:Ask K3 Ls rs (.ref t3):=⟨⟨t3,h3,[n1],b1,r1,_,rfl,ft3,fh3,az,aI,AM (O true).1 (by decide),(O true).2,aHC aw an (by simp;exact cg) (by simp)⟩⟩
    have q1:=q1.same s3;have q2:=q2.same s3;clear s3 fh3 ft3 ea bn bu dg bA aC be;refine⟨_,rfl,nl,_,1,_,rfl,rfl,aO (aq.hn),fI,_,rfl,zZ2,fun h4 a0=>⟨_,rfl,bt,_,0,_,rfl,rfl,bJ ((aH a0 _ _ aL)),rfl,_,rfl,bt,_,1,_,rfl,rfl,bJ ((aH a0 _ _ aL)),rfl,b0,b1,_,_,rfl,rfl,aH a0 _ _ bz,aH a0 _ _ az,aR (by rw[Af,Af,aZ b6,aZ aI];have:=(O false).1;have:=(O true).1;omega),fun c4 gv=>⟨zZ2,fun t4 gg=>?_⟩⟩⟩;obtain⟨K4,eK4,s4,fh4,fc4,ft4⟩:=aDR (o:=.lst [V.str n1,.str own]) (o2:=.lst (r0.map V.ref++r1.map V.ref)) (xs:=[.ref h4,.ref c4]) a0 gv gg;rw[<- eK4];clear a0 gg eK4 gv;have au:=aq.same s4;have de:=s4 _ _ aL;have dy:=s4 _ _ bz;have c0:=s4 _ _ az;have bB:=Paired.mapP b6 fun _ _ z=>z.on (aK s4);have b4:=Paired.mapP aI fun _ _ z=>z.on (aK s4);have bH:=bE.on (aK s4);have q4:Ask K4 Ls rs (.ref t4):=⟨⟨t4,h4,[n1,own],c4,r0++r1,cQ n1 false 0 Ls++cQ n1 true 0 Ls,rfl,ft4,fh4,(by rw[A1];exact fc4),aEM bB b4,(by rw[Ay];have:=(O false).1;have:=(O true).1;omega),(fun t ht=>by rcases AK.mp ht with ht|ht;exact(O false).2 t ht;exact(O true).2 t ht),aGN aw an (by simp) (by simp)⟩⟩
    have q1:=q1.same s4;have q2:=q2.same s4;have q3:=q3.same s4;clear s4 fh4 ft4 aq aL bz az b6 aI bE;refine⟨_,rfl,nl,_,5,_,rfl,rfl,aO (au.hn),at5,zZ1,fun h5 e6=>⟨zZ0,fun c5 fV=>⟨zZ2,fun t5 eP=>?_⟩⟩⟩;obtain⟨K5,eK5,s5,fh5,fc5,ft5⟩:=aDR (o:=.lst [V.str n5]) (o2:=.lst ([]:List V)) (xs:=[.ref h5,.ref c5]) e6 fV eP;rw[<- eK5];clear e6 eP eK5 fV;have ae:=au.same s5;have bF:=s5 _ _ de;have dl:=s5 _ _ dy;have da:=s5 _ _ c0;have dw:=Paired.mapP bB fun _ _ z=>z.on (aK s5);have dj:=Paired.mapP b4 fun _ _ z=>z.on (aK s5);have b5:=bH.on (aK s5);have q5:Ask K5 Ls rs (.ref t5):=⟨⟨t5,h5,[n5],c5,[],[],rfl,ft5,fh5,fc5,.nil,AV _,(fun t ht=>(AO ht).elim),aGO aw an (by simp;exact hg) (by simp;exact hG.symm)⟩⟩
    have q1:=q1.same s5;have q2:=q2.same s5;have q3:=q3.same s5;have q4:=q4.same s5;clear s5 fh5 ft5 au de dy c0 bB b4 bH;refine⟨_,rfl,zZ1,fun h6 eh=>⟨_,rfl,bt,_,0,_,rfl,rfl,bJ ((aH eh _ _ bF)),rfl,zZ2,fun t6 gz=>?_⟩⟩;obtain⟨K6,eK6,s6,fh6,ft6⟩:=pS (o:=.lst [V.str own]) (xs:=[.ref h6,.ref b0]) eh gz;rw[<- eK6];clear eh gz eK6;have ak:=ae.same s6;have fc:=s6 _ _ bF;have cM:=s6 _ _ dl;have gj:=s6 _ _ da;have cx:=Paired.mapP dw fun _ _ z=>z.on (aK s6);have gk:=Paired.mapP dj fun _ _ z=>z.on (aK s6);have bh:=b5.on (aK s6);have q6:Ask K6 Ls rs (.ref t6):=⟨⟨t6,h6,[own],b0,r0,_,rfl,ft6,fh6,cM,cx,AM (O false).1 (by decide),(O false).2,zW aw an (by simp) (by simp;exact cg.symm)⟩⟩
    have q1:=q1.same s6;have q2:=q2.same s6;have q3:=q3.same s6;have q4:=q4.same s6;have q5:=q5.same s6;clear s6 fh6 ft6 ae bF dl da dw dj b5;refine⟨zZ6,fun M hM=>?_⟩;obtain⟨HM,eHM,sM,eM⟩:=aDQ (o:=.lst [V.ref t1,.ref t2,.ref t3,.ref t4,.ref t5,.ref t6]) hM;rw[<- eHM];clear hM eHM;have cf:=ak.same sM;have ek:=bh.on (aK sM);have fi:∀ v∈[V.ref t1,.ref t2,.ref t3,.ref t4,.ref t5,.ref t6],Ask HM Ls rs v:=fun v hv=>by
     simp only[An,AO,or_false]at hv;rcases hv with rfl|rfl|rfl|rfl|rfl|rfl
     .exact q1.same sM
     .exact q2.same sM
     .exact q3.same sM
     .exact q4.same sM
     .exact q5.same sM
     .exact q6.same sM
    clear q1 q2 q3 q4 q5 q6 ak fc cM gj cx gk bh sM;refine⟨M,rfl,⟨_,aO eM⟩,?_⟩;have iA:([V.ref t1,.ref t2,.ref t3,.ref t4,.ref t5,.ref t6]:List V).length=6:=rfl;generalize ([V.ref t1,.ref t2,.ref t3,.ref t4,.ref t5,.ref t6]:List V)=hE at eM fi iA;refine hJ (K:=K) (xs:=hE) (fun j σ H'=>Ex3 fun(a':Int) (Z Y:Option V)=>Aw3 (σ=[some (.ref x),some (.ref p),some (.ref t),some (.ref nl),some (.int (0+(i:Int))),some (.int s0),some (.int sp1),some (.int (qs-d)),some (.ref av),some (.ref bt),some (.int U),some (.ref rw),some (.str own),bw,some (.ref tr),Z,Y]) (Wd T T2 p c ns nl ws a' H') (a'<=a7+j/\dF [p,T,T2] HM H')) ⟨a7,Z,Y,rfl,cf,by omega,dF.refl HM⟩ (fun j σ H' _ q=>by
     obtain⟨_,_,_,_,_,_,kx⟩:=q;exact aO (kx _ _ (cf.nx eM (fun _ z=>nomatch z) fun _ z=>nomatch z) eM)) ?_ ?_
    .rintro j v σ G1 hv ⟨a',Z,Y,rfl,ao,ij,kx⟩;have hj:=(Ak.mp hv).1;obtain⟨tq,hl,hs,sl,ss,S,rfl,x1,x2,x3,x4,x5,x6,x7⟩:=(fi v (AU hv)).ex;have tu:=cf.tups kx;have lst:∀{b:Ad} {us:List V},HM b=some (.lst us)->G1 b=some (.lst us):=fun e=>kx _ _ (cf.nx e (fun _ z=>nomatch z) fun _ z=>nomatch z) e;refine⟨tq,_,rfl,bJ (tu _ _ x1),rfl,_,_,rfl,_,_,rfl,rfl,?_⟩;dsimp only[aW];refine⟨_,rfl,_,rfl,_,rfl,_,rfl,_,rfl,p,c,ns,a',tr,Ls,rs,hl,hs,s0,sl,ss,S,rfl,ao.pen,by omega,ek.on tu,lst x2,ao.tb,ao.g2,lr.nd,an,AM lr.len (by decide),eu,aHD aw mo m1 (fun l hl=>?_),eq,eO,lst x3,Paired.mapP x4 (fun _ _ z=>z.on tu),x5,x6,x7,fun a9 G2 k8 gu fv hk g9=>?_⟩
     .obtain⟨_,q0,_,eq0⟩:=lr.hs l hl;exact ck _ (AU eq0)
     .refine⟨_,rfl,dU ?_⟩;exact⟨a9,_,_,rfl,⟨gu,hk,g9,fv _ _ (ao.nx ao.hn (fun _ z=>nomatch z) fun _ z=>nomatch z) ao.hn⟩,by omega,kx.trans fv⟩
    .rintro σ G1 ⟨a',Z,Y,rfl,ao,ij,kx⟩;exact⟨a',_,_,_,_,_,_,_,_,_,_,_,_,_,rfl,ao,by omega⟩
   .rintro σ H7 ⟨a',o4,o5,o6,o7,o8,o9,cm,cs,br,al,ay,Z,Y,rfl,wd,ha⟩;exact k _
theorem iG(w:AL)(s:Str):Bx w.params s=aH2 w (Ao s):=by
 first|rfl|(unfold aH2 hashStr Bx;rfl)
theorem isS(s:Str)(t:Tok):qL (Ao s) (.str s t)=true:=by
 show Fo s (.str s t)=true;simp[Fo]
theorem aHE{P:Aq}{w:AL}{K:Ag}{a:Ad}{e:Nat}{O U Z Y F x5 J G:Tok}{g0 g1 g2 g3 g4 g5 g6 g7:Ad}(l:K.lookup a=some { cls:=.type "dict",data:=.dict #[⟨Bx w.params "part",.str "part" O,.ref g0⟩,⟨Bx w.params "join",.str "join" U,.ref g1⟩,⟨Bx w.params "forfeit",.str "forfeit" Z,.ref g2⟩,⟨Bx w.params "measure",.str "measure" Y,.ref g3⟩,⟨Bx w.params "mend",.str "mend" F,.ref g4⟩,⟨Bx w.params "alone",.str "alone" x5,.ref g5⟩,⟨Bx w.params "breach",.str "breach" J,.ref g6⟩,⟨Bx w.params "view",.str "view" G,.ref g7⟩] e }):∀ h:A9,K.In h->h.DictOf (cK P w) a (fmR g0 g1 g2 g3 g4 g5 g6 g7):=by
 intro h hK;refine⟨_,_,_,hK _ _ l,⟨rfl,rfl,rfl⟩,rfl,?_,?_,?_⟩
 .intro en he;simp only[List.mem_toArray,An,AO,or_false]at he;rcases he with rfl|rfl|rfl|rfl|rfl|rfl|rfl|rfl
  .exact⟨Ao "part",isS "part" O,iG w "part"⟩
  .exact⟨Ao "join",isS "join" U,iG w "join"⟩
  .exact⟨Ao "forfeit",isS "forfeit" Z,iG w "forfeit"⟩
  .exact⟨Ao "measure",isS "measure" Y,iG w "measure"⟩
  .exact⟨Ao "mend",isS "mend" F,iG w "mend"⟩
  .exact⟨Ao "alone",isS "alone" x5,iG w "alone"⟩
  .exact⟨Ao "breach",isS "breach" J,iG w "breach"⟩
  .exact⟨Ao "view",isS "view" G,iG w "view"⟩
 .exact .cons (isS "part" O) rfl (.cons (isS "join" U) rfl (.cons (isS "forfeit" Z) rfl (.cons (isS "measure" Y) rfl (.cons (isS "mend" F) rfl (.cons (isS "alone" x5) rfl (.cons (isS "breach" J) rfl (.cons (isS "view" G) rfl (.nil))))))))
 .show([Ao "part",Ao "join",Ao "forfeit",Ao "measure",Ao "mend",Ao "alone",Ao "breach",Ao "view"]:List Key).Nodup;decide
inductive aJW(K:Ag)(n:Str)(st:Cd):Prop
 | mk (f:_) (q0:AX K mainGlobals n=some (some (.ref f))) (q1:(∃ oc od kV dc pm an cd ct sl,K.lookup f=some ⟨oc,od,.func (Cc n n (fG st) (dQ st) (aM st) .none kV dc pm an cd ct),sl⟩/\Cr K cd n=true)) (q2:AJ K (.ref f)=true):aJW K n st
def Dx(K:Ag)(n:Str)(st:Cd):Prop:=aJW K n st
theorem cY{K:Ag}{h:A9}{mg:Str->Option Ab}{n:Str}{st:Cd}(d:Dx K n st)(X:K.In h)(G:h.Ns mainGlobals mg):∃ f fd,Fun K n n st f fd/\mg n=some (.ref f)/\AJ K (.ref f)=true:=by
 obtain⟨f,a,⟨_,_,_,_,_,_,_,_,_,l,c⟩,k⟩:=d;exact⟨f,_,nX l c k,Bu X G a,k⟩
theorem all_mk{l:FX}{w:AL}{K:Ag}{h:A9}{mg:Str->Option Ab}{fa:Ad}(X:K.In h)(G:h.Ns mainGlobals mg)(hfa:mg "law"=some (.ref fa))
  {fFo:Ad} {odFo anFo:Option Ad} {slFo:Array (Option Ab)} {ocFo kVFo dcFo pmFo cdFo ctFo:Ab} {fMe:Ad} {odMe anMe:Option Ad} {slMe:Array (Option Ab)} {ocMe kVMe dcMe pmMe cdMe ctMe:Ab} {fSt:Ad} {odSt anSt:Option Ad} {slSt:Array (Option Ab)} {ocSt kVSt dcSt pmSt ctSt:Ab} {fRg:Ad} {odRg anRg:Option Ad} {slRg:Array (Option Ab)} {ocRg kVRg dcRg pmRg ctRg:Ab} {fL:Ad} {odL anL:Option Ad} {slL:Array (Option Ab)} {ocL kVL dcL pmL cdL ctL:Ab}
  {t_DEEDS:Ad} {eF:Nat} {xk0 xk1 xk2 xk3 xk4 xk5 xk6 xk7:Tok}
  {t_MOST_STANDS:Tok}
  {C fI:Ad} {odI anI:Option Ad} {slI:Array (Option Ab)} {ocI kVI dcI pmI cdI ctI:Ab} {T1 T2 qSt qRg:Ad} {gPa gJo gMs gAl gLo:Ad} {cTooMany cClash cNoBreach cNoField cNoInch cNoMend cNoName cNoRoll cNoRow cNoThen cDykeError:Ad}
  (aC:AX K mainGlobals "Moment"=some (some (.ref C)))
  (aI:Br K (.ref C) "__init__"=some (some (.ref fI))) (iI:Gv K (.ref fI)=true) (lI:K.lookup fI=some ⟨ocI,odI,.func (Cc "__init__" "Moment.__init__" (fG xF) (dQ xF) (aM xF) .none kVI dcI pmI anI cdI ctI),slI⟩) (cI:Cr K cdI "Moment.__init__"=true) (kI:AJ K (.ref fI)=true)
  (pg:ED K C Dy=true) (hd:DP K C=true) (po:Fv K C=true) (sa:Br K (.ref C) "__setattr__"=some (some (.builtin "object.__setattr__"))) (mk:FW K C=true) (kc:AJ K (.ref C)=true)
  (nR:Br K (.ref C) "ranks"=some none) (nH:Br K (.ref C) "holdings"=some none) (nA:Br K (.ref C) "acres"=some none) (nI:Br K (.ref C) "inches"=some none) (nM:Br K (.ref C) "menders"=some none)
  (aTooMany:AX K mainGlobals "TooMany"=some (some (.ref cTooMany)))
  (aClash:AX K mainGlobals "Clash"=some (some (.ref cClash)))
  (aNoBreach:AX K mainGlobals "NoBreach"=some (some (.ref cNoBreach)))
  (aNoField:AX K mainGlobals "NoField"=some (some (.ref cNoField)))
  (aNoInch:AX K mainGlobals "NoInch"=some (some (.ref cNoInch)))
  (aNoMend:AX K mainGlobals "NoMend"=some (some (.ref cNoMend)))
  (aNoName:AX K mainGlobals "NoName"=some (some (.ref cNoName)))
  (aNoRoll:AX K mainGlobals "NoRoll"=some (some (.ref cNoRoll)))
  (aNoRow:AX K mainGlobals "NoRow"=some (some (.ref cNoRow)))
  (aNoThen:AX K mainGlobals "NoThen"=some (some (.ref cNoThen)))
  (aDykeError:AX K mainGlobals "DykeError"=some (some (.ref cDykeError)))
  (zxM:PySem.W.excIn K cTooMany [.type "ValueError",.type "Exception",.type "BaseException",.type "object"] "ValueError.__new__"=true) (zeM:Ga K (.ref cTooMany) (.ref cDykeError)=some true)
  (zk1:aBy K cTooMany [cTooMany] [true] [cClash,cNoBreach,cNoField,cNoInch,cNoMend]=true) (zk2:aBy K cTooMany [] [] [cNoName,cNoRoll,cNoRow,cNoThen]=true) (h12:T1≠T2)
  (aFo:AX K mainGlobals "do_forfeit"=some (some (.ref fFo))) (lFo:K.lookup fFo=some ⟨ocFo,odFo,.func (Cc "do_forfeit" "do_forfeit" (fG gQ) (dQ gQ) (aM gQ) .none kVFo dcFo pmFo anFo cdFo ctFo),slFo⟩) (cFo:Cr K cdFo "do_forfeit"=true) (kFo:AJ K (.ref fFo)=true)
  (aMe:AX K mainGlobals "do_mend"=some (some (.ref fMe))) (lMe:K.lookup fMe=some ⟨ocMe,odMe,.func (Cc "do_mend" "do_mend" (fG mI) (dQ mI) (aM mI) .none kVMe dcMe pmMe anMe cdMe ctMe),slMe⟩) (cMe:Cr K cdMe "do_mend"=true) (kMe:AJ K (.ref fMe)=true)
  (aSt:AX K mainGlobals "stretches"=some (some (.ref fSt))) (lSt:K.lookup fSt=some ⟨ocSt,odSt,.func (Cc "stretches" "stretches" (fG gS) (dQ gS) (aM gS) .none kVSt dcSt pmSt anSt (.ref qSt) ctSt),slSt⟩) (cSt:Cr K (.ref qSt) "stretches"=true) (kSt:AJ K (.ref fSt)=true)
  (aRg:AX K mainGlobals "_law_right"=some (some (.ref fRg))) (lRg:K.lookup fRg=some ⟨ocRg,odRg,.func (Cc "_law_right" "_law_right" (fG nZ) (dQ nZ) (aM nZ) .none kVRg dcRg pmRg anRg (.ref qRg) ctRg),slRg⟩) (cRg:Cr K (.ref qRg) "_law_right"=true) (kRg:AJ K (.ref fRg)=true)
  (aL:AX K mainGlobals "law"=some (some (.ref fL))) (lL:K.lookup fL=some ⟨ocL,odL,.func (Cc "law" "law" (fG rV) (dQ rV) (aM rV) .none kVL dcL pmL anL cdL ctL),slL⟩) (cL:Cr K cdL "law"=true) (kL:AJ K (.ref fL)=true)
  (z_len:AX K mainGlobals "len"=some none)
  (z_sum:AX K mainGlobals "sum"=some none)
  (z_max:AX K mainGlobals "max"=some none)
  (z_min:AX K mainGlobals "min"=some none)
  (z_tuple:AX K mainGlobals "tuple"=some none)
  (z_sorted:AX K mainGlobals "sorted"=some none)
  (z_any:AX K mainGlobals "any"=some none)
  (z_all:AX K mainGlobals "all"=some none)
  (z_abs:AX K mainGlobals "abs"=some none)
  (z_range:AX K mainGlobals "range"=some none)
  (z_int:AX K mainGlobals "int"=some none)
  (z_set:AX K mainGlobals "set"=some none)
  (z_zip:AX K mainGlobals "zip"=some none)
  (z_list:AX K mainGlobals "list"=some none)
  (z_bool:AX K mainGlobals "bool"=some none)
  (z_isinstance:AX K mainGlobals "isinstance"=some none)
  (z_ValueError:AX K mainGlobals "ValueError"=some none)
  (q_DEEDS:AX K mainGlobals "DEEDS"=some (some (.ref t_DEEDS)))
  (lFm:K.lookup t_DEEDS=some { cls:=.type "dict",data:=.dict #[⟨Bx w.params "part",.str "part" xk0,.ref gPa⟩,⟨Bx w.params "join",.str "join" xk1,.ref gJo⟩,⟨Bx w.params "forfeit",.str "forfeit" xk2,.ref fFo⟩,⟨Bx w.params "measure",.str "measure" xk3,.ref gMs⟩,⟨Bx w.params "mend",.str "mend" xk4,.ref fMe⟩,⟨Bx w.params "alone",.str "alone" xk5,.ref gAl⟩,⟨Bx w.params "breach",.str "breach" xk6,.ref gLo⟩,⟨Bx w.params "view",.str "view" xk7,.ref gLo⟩] eF }) (hcS:Dm K qSt T1=true) (hcR:Dm K qRg T2=true)
  (q_MOST_STANDS:AX K mainGlobals "MOST_STANDS"=some (some (.int 300 t_MOST_STANDS)))
  (zRf:Dx K "road_from" qC)
  (zCa:Dx K "carry_out" aCg)
  (zBh:Dx K "moment_behind" zF)
  (zSb:Dx K "share_below" lR)
  (zFp:Dx K "first_places" aCh)
  (zDr:Dx K "drawn_together" aCi)
  (zRu:Dx K "runs_in" sJ)
  (zTi:Dx K "tended_in" mJ)
  (zVo:Dx K "view_of" sK)
  (zFw:Dx K "first_wanted" kO)
  (zFe:Dx K "fewest" zG)
  (zNu:Dx K "is_number" qE)
  (zWh:Dx K "is_whole" uQ)
  (zRi:Dx K "is_rising" qF)
  (zAp:Dx K "are_places" kQ)
  (zSa:Dx K "sees_all" uR)
  (zAa:Dx K "are_apart" j7)
  (zSd:Dx K "stands" zH)
  (zSh:Dx K "shows_stands" aCj)
  (zP:Dx K "_law_pen" aIK)
  (zT:Dx K "_law_take" aDd)
  (zNe:Dx K "_law_needed" zJ)
  (zIs:Dx K "_law_is_seen" zK)
  (zHo:Dx K "_law_holds" nY)
  (zNr:Dx K "_law_namer" zI)
  (zNm:Dx K "_law_name" aF0)
  (zSp:Dx K "_law_split" uT)
  (zLa:Dx K "_law_laid" aF1)
  (zRe:Dx K "_law_refused" uS)
  :∃ fd:A4,(∀(s:Ac) (v:Ab),Gn s fd ⟨[v],[]⟩ [("_law_script",v)])/\∀ base:A9,K.In base->base.Ns mainGlobals mg->p9 mg base->cA l.prog w K mg base CX0 13 fa fd ["_law_script"] (aDP K T1 T2):=by
 have e:=hfa.symm.trans (Bu X G aL);cases e;have FFo:=nX (st:=gQ) lFo cFo kFo;have mFo:=Bu X G aFo;have bFo:=FFo.binds (ps:=["moment","row"]) fun _ _ _ _ _ _ us hl=>by obtain⟨_,_,rfl⟩:=sP hl;rfl
 have FMe:=nX (st:=mI) lMe cMe kMe;have mMe:=Bu X G aMe;have bMe:=FMe.binds (ps:=["moment","row"]) fun _ _ _ _ _ _ us hl=>by obtain⟨_,_,rfl⟩:=sP hl;rfl
 have FSt:=nX (st:=gS) lSt cSt kSt;have mSt:=Bu X G aSt;have bSt:=FSt.binds (ps:=["moment"]) fun _ _ _ _ _ _ us hl=>by obtain⟨_,rfl⟩:=v5 hl;rfl
 have FRg:=nX (st:=nZ) lRg cRg kRg;have mRg:=Bu X G aRg;have bRg:=FRg.binds (ps:=["_law_pen_here","_law_roll","_law_houses","_law_sight","_law_strips"]) fun _ _ _ _ _ _ us hl=>by obtain⟨_,_,_,_,_,rfl⟩:=aIZ hl;rfl
 have FL:=nX (st:=rV) lL cL kL;have mL:=Bu X G aL;have bL:=FL.binds (ps:=["_law_script"]) fun _ _ _ _ _ _ us hl=>by obtain⟨_,rfl⟩:=v5 hl;rfl
 have n_len:=Be X G z_len;have n_sum:=Be X G z_sum;have n_max:=Be X G z_max;have n_min:=Be X G z_min;have n_tuple:=Be X G z_tuple;have n_sorted:=Be X G z_sorted;have n_any:=Be X G z_any;have n_all:=Be X G z_all;have n_abs:=Be X G z_abs;have n_range:=Be X G z_range;have n_int:=Be X G z_int;have n_set:=Be X G z_set;have n_zip:=Be X G z_zip;have n_list:=Be X G z_list;have n_bool:=Be X G z_bool;have n_isinstance:=Be X G z_isinstance;have n_ValueError:=Be X G z_ValueError;have g_DEEDS:=Bu X G q_DEEDS;have g_MOST_STANDS:=Bu X G q_MOST_STANDS;refine⟨Cc "law" "law" (fG rV) (dQ rV) (aM rV) .none kVL dcL pmL anL cdL ctL,fun s v=>.of_eq rfl,fun base _ _ hB=>?_⟩;obtain⟨_,_,FRf,mRf,kRf⟩:=cY zRf X G;have bRf:=FRf.binds (ps:=["menders","house"]) fun _ _ _ _ _ _ us hl=>by obtain⟨_,_,rfl⟩:=sP hl;rfl
 obtain⟨_,_,FCa,mCa,kCa⟩:=cY zCa X G;have bCa:=FCa.binds (ps:=["moment","row"]) fun _ _ _ _ _ _ us hl=>by obtain⟨_,_,rfl⟩:=sP hl;rfl
 obtain⟨_,_,FBh,mBh,kBh⟩:=cY zBh X G;have bBh:=FBh.binds (ps:=["roll","at"]) fun _ _ _ _ _ _ us hl=>by obtain⟨_,_,rfl⟩:=sP hl;rfl
 obtain⟨_,_,FSb,mSb,kSb⟩:=cY zSb X G;have bSb:=FSb.binds (ps:=["total","every","acre"]) fun _ _ _ _ _ _ us hl=>by obtain⟨_,_,_,rfl⟩:=v6 hl;rfl
 obtain⟨_,_,FFp,mFp,kFp⟩:=cY zFp X G;have bFp:=FFp.binds (ps:=["moment"]) fun _ _ _ _ _ _ us hl=>by obtain⟨_,rfl⟩:=v5 hl;rfl
 obtain⟨_,_,FDr,mDr,kDr⟩:=cY zDr X G;have bDr:=FDr.binds (ps:=["rows"]) fun _ _ _ _ _ _ us hl=>by obtain⟨_,rfl⟩:=v5 hl;rfl
 obtain⟨_,_,FRu,mRu,kRu⟩:=cY zRu X G;have bRu:=FRu.binds (ps:=["moment"]) fun _ _ _ _ _ _ us hl=>by obtain⟨_,rfl⟩:=v5 hl;rfl
 obtain⟨_,_,FTi,mTi,kTi⟩:=cY zTi X G;have bTi:=FTi.binds (ps:=["moment"]) fun _ _ _ _ _ _ us hl=>by obtain⟨_,rfl⟩:=v5 hl;rfl
 obtain⟨_,_,FVo,mVo,kVo⟩:=cY zVo X G;have bVo:=FVo.binds (ps:=["roll","at","houses"]) fun _ _ _ _ _ _ us hl=>by obtain⟨_,_,_,rfl⟩:=v6 hl;rfl
 obtain⟨_,_,FFw,mFw,kFw⟩:=cY zFw X G;have bFw:=FFw.binds (ps:=["wanted","place"]) fun _ _ _ _ _ _ us hl=>by obtain⟨_,_,rfl⟩:=sP hl;rfl
 obtain⟨_,_,FFe,mFe,kFe⟩:=cY zFe X G;have bFe:=FFe.binds (ps:=["wanted","last","sight"]) fun _ _ _ _ _ _ us hl=>by obtain⟨_,_,_,rfl⟩:=v6 hl;rfl
 obtain⟨_,_,FNu,mNu,kNu⟩:=cY zNu X G;have bNu:=FNu.binds (ps:=["thing"]) fun _ _ _ _ _ _ us hl=>by obtain⟨_,rfl⟩:=v5 hl;rfl
 obtain⟨_,_,FWh,mWh,kWh⟩:=cY zWh X G;have bWh:=FWh.binds (ps:=["thing","least","most"]) fun _ _ _ _ _ _ us hl=>by obtain⟨_,_,_,rfl⟩:=v6 hl;rfl
 obtain⟨_,_,FRi,mRi,kRi⟩:=cY zRi X G;have bRi:=FRi.binds (ps:=["things"]) fun _ _ _ _ _ _ us hl=>by obtain⟨_,rfl⟩:=v5 hl;rfl
 obtain⟨_,_,FAp,mAp,kAp⟩:=cY zAp X G;have bAp:=FAp.binds (ps:=["thing","many","last"]) fun _ _ _ _ _ _ us hl=>by obtain⟨_,_,_,rfl⟩:=v6 hl;rfl
 obtain⟨_,_,FSa,mSa,kSa⟩:=cY zSa X G;have bSa:=FSa.binds (ps:=["wanted","sight","posts"]) fun _ _ _ _ _ _ us hl=>by obtain⟨_,_,_,rfl⟩:=v6 hl;rfl
 obtain⟨_,_,FAa,mAa,kAa⟩:=cY zAa X G;have bAa:=FAa.binds (ps:=["wanted","sight","places"]) fun _ _ _ _ _ _ us hl=>by obtain⟨_,_,_,rfl⟩:=v6 hl;rfl
 obtain⟨_,_,FSd,mSd,kSd⟩:=cY zSd X G;have bSd:=FSd.binds (ps:=["roll","at","houses","sight"]) fun _ _ _ _ _ _ us hl=>by obtain⟨_,_,_,_,rfl⟩:=aIY hl;rfl
 obtain⟨_,_,FSh,mSh,kSh⟩:=cY zSh X G;have bSh:=FSh.binds (ps:=["roll","at","houses","sight","thing"]) fun _ _ _ _ _ _ us hl=>by obtain⟨_,_,_,_,_,rfl⟩:=aIZ hl;rfl
 obtain⟨_,_,FP,mP,kP⟩:=cY zP X G;have bP:=FP.binds (ps:=["_law_script"]) fun _ _ _ _ _ _ us hl=>by obtain⟨_,rfl⟩:=v5 hl;rfl
 obtain⟨_,_,FT,mT,kT⟩:=cY zT X G;have bT:=FT.binds (ps:=["_law_pen_here","_law_many"]) fun _ _ _ _ _ _ us hl=>by obtain⟨_,_,rfl⟩:=sP hl;rfl
 obtain⟨_,_,FNe,mNe,kNe⟩:=cY zNe X G;have bNe:=FNe.binds (ps:=["_law_strips","_law_sight"]) fun _ _ _ _ _ _ us hl=>by obtain⟨_,_,rfl⟩:=sP hl;rfl
 obtain⟨_,_,FIs,mIs,kIs⟩:=cY zIs X G;have bIs:=FIs.binds (ps:=["_law_strip","_law_some","_law_sight"]) fun _ _ _ _ _ _ us hl=>by obtain⟨_,_,_,rfl⟩:=v6 hl;rfl
 obtain⟨_,_,FHo,mHo,kHo⟩:=cY zHo X G;have bHo:=FHo.binds (ps:=["_law_strips","_law_beyond","_law_sight","_law_thing"]) fun _ _ _ _ _ _ us hl=>by obtain⟨_,_,_,_,rfl⟩:=aIY hl;rfl
 obtain⟨_,_,FNr,mNr,kNr⟩:=cY zNr X G;have bNr:=FNr.binds (ps:=["_law_pen_here","_law_most"]) fun _ _ _ _ _ _ us hl=>by obtain⟨_,_,rfl⟩:=sP hl;rfl
 obtain⟨_,_,FNm,mNm,kNm⟩:=cY zNm X G;have bNm:=FNm.binds (ps:=["_law_namer_here","_law_k"]) fun _ _ _ _ _ _ us hl=>by obtain⟨_,_,rfl⟩:=sP hl;rfl
 obtain⟨_,_,FSp,mSp,kSp⟩:=cY zSp X G;have bSp:=FSp.binds (ps:=["_law_pen_here","_law_many","_law_parts"]) fun _ _ _ _ _ _ us hl=>by obtain⟨_,_,_,rfl⟩:=v6 hl;rfl
 obtain⟨_,_,FLa,mLa,kLa⟩:=cY zLa X G;have bLa:=FLa.binds (ps:=["_law_pen_here","_law_names","_law_many"]) fun _ _ _ _ _ _ us hl=>by obtain⟨_,_,_,rfl⟩:=v6 hl;rfl
 obtain⟨_,_,FRe,mRe,kRe⟩:=cY zRe X G;have bRe:=FRe.binds (ps:=["_law_asked"]) fun _ _ _ _ _ _ us hl=>by obtain⟨_,rfl⟩:=v5 hl;rfl
 have hc:MC K C:=⟨⟨pg,hd,po,sa⟩,nR,nH,nA,nI,nM⟩
 have mC:=Bu X G aC;have mTooMany:=Bu X G aTooMany;have mClash:=Bu X G aClash;have mNoBreach:=Bu X G aNoBreach;have mNoField:=Bu X G aNoField;have mNoInch:=Bu X G aNoInch;have mNoMend:=Bu X G aNoMend;have mNoName:=Bu X G aNoName;have mNoRoll:=Bu X G aNoRoll;have mNoRow:=Bu X G aNoRow;have mNoThen:=Bu X G aNoThen;have mDykeError:=Bu X G aDykeError;have FI:=nX (st:=xF) lI cI kI;have bI:=FI.binds (ps:=["self","laying"]) fun _ _ _ _ _ _ us hl=>by obtain⟨_,_,rfl⟩:=sP hl;rfl
 have GI:=aHq (P:=l.prog) (w:=w) (base:=base) FI hc n_len;have GRf:=aAN (P:=l.prog) (w:=w) (mg:=mg) (base:=base) FRf;have GFo:=zM (P:=l.prog) (w:=w) (mg:=mg) (base:=base) FFo hc;have GMe:=aEs FMe hc ⟨_,_,GRf,mRf,kRf,bRf⟩;have GCa:=aGa FCa (aHE lFm) g_DEEDS ⟨⟨_,GFo.mono (by decide),kFo,bFo⟩⟩ ⟨⟨_,GMe.mono (by decide),kMe,bMe⟩⟩;have GBh:=aEu FBh ⟨mk,aI,iI,kc⟩ GI mC bI GCa mCa kCa bCa;have GSb:=aGd (P:=l.prog) (w:=w) (mg:=mg) (base:=base) FSb;have GFp:=aGe (P:=l.prog) (w:=w) (mg:=mg) (base:=base) FFp hc;have GSt:=zO FSt hc rfl hcS hB n_sorted ⟨_,_,GSb,mSb,kSb,bSb⟩;have GDr:=aGg (P:=l.prog) (w:=w) (mg:=mg) (base:=base) FDr;have GRu:=aEv FRu ⟨_,_,GFp,mFp,kFp,bFp⟩ ⟨_,_,GDr,mDr,kDr,bDr⟩ ⟨_,_,GSt,mSt,kSt,bSt⟩;have GTi:=aA9 FTi hc ⟨_,_,GDr,mDr,kDr,bDr⟩ ⟨_,_,GRu,mRu,kRu,bRu⟩ ⟨_,_,GRf,mRf,kRf,bRf⟩;have GVo:=aEw FVo hc n_sum ⟨_,_,GBh,mBh,kBh,bBh⟩ ⟨_,_,GTi,mTi,kTi,bTi⟩;have GFw:=aEz (P:=l.prog) (w:=w) (base:=base) FFw n_max;have GFe:=aEA FFe n_len n_min ⟨_,g_MOST_STANDS⟩ mTooMany zxM GFw mFw kFw bFw;have GNu:=aBf (P:=l.prog) (w:=w) (base:=base) FNu n_isinstance n_int n_bool;have GWh:=aCu FWh ⟨_,_,GNu,mNu,kNu,bNu⟩;have GRi:=aBg (P:=l.prog) (w:=w) (base:=base) FRi n_list n_set n_sorted;have GAp:=zV FAp n_isinstance n_list n_len n_all ⟨_,_,GRi,mRi,kRi,bRi⟩ ⟨_,_,GWh,mWh,kWh,bWh⟩;have GSa:=aCv FSa ⟨_,_,GFw,mFw,kFw,bFw⟩;have GAa:=aBj FAa n_any n_all n_zip ⟨_,_,GFw,mFw,kFw,bFw⟩;have GSd:=aEE FSd GVo mVo kVo bVo GFe mFe kFe bFe;have GSh:=aGt FSh n_len n_isinstance n_tuple GVo mVo kVo bVo GSa mSa kSa bSa GAa mAa kAa bAa GFe mFe kFe bFe GAp mAp kAp bAp
 have GT:=aHp (P:=l.prog) (w:=w) (base:=base) FT n_len n_abs;have GNe:=aEF (P:=l.prog) (w:=w) (base:=base) FNe n_sorted n_max n_min;have GIs:=aEG (P:=l.prog) (w:=w) (base:=base) FIs n_max;have GHo:=aGx FHo n_len n_range n_set n_sorted ⟨_,_,GIs,mIs,kIs,bIs⟩;have GNr:=aGB FNr n_len n_range ⟨_,_,GT,mT,kT,bT⟩;have GNm:=aHy (P:=l.prog) (w:=w) (mg:=mg) (base:=base) FNm;have GSp:=aGD FSp n_range n_sorted ⟨_,_,GT,mT,kT,bT⟩;have GLa:=aHz FLa n_len n_range n_int n_tuple ⟨_,_,GSp,mSp,kSp,bSp⟩ ⟨_,_,GT,mT,kT,bT⟩;have GRe:=aCA (P:=l.prog) (w:=w) (base:=base) FRe n_isinstance n_ValueError mTooMany mClash mNoBreach mNoField mNoInch mNoMend mNoName mNoRoll mNoRow mNoThen mDykeError;have GRg:=aGH FRg rfl hcR hB h12 n_len n_sum zeM zk1 zk2 GSd mSd kSd bSd GT mT kT bT (GNe.mono (by decide)) mNe kNe bNe (GHo.mono (by decide)) mHo kHo bHo GSh mSh kSh bSh GRe mRe kRe bRe;exact aIX FL n_len n_range n_min n_int n_tuple h12 (aIQ FP n_list) mP kP bP GNr mNr kNr bNr GNm mNm kNm bNm GLa mLa kLa bLa GT mT kT bT GRg mRg kRg bRg
theorem walk{l:FX}{q:Aq}{loose:List Str}{XP:(Str->Option Ab)->A9->Prop}{YP:AL->A9->Prop}{d:DefRec}{K:Params->Ag}{c T c2 T2:Ad}(hn:l.most=some 63)(hdf:d.params.defaults=[])
  (hY:∀(w:AL) (h:A9),YP w h->(K w.params).In h/\∀ P∈[T,T2],h.get? P=some (PySem.W.tabObj #[]))
  (F:∀(w:AL) (mg:Str->Option Ab) (fa:Ad) (h:A9),(K w.params).In h->h.Ns mainGlobals mg->mg d.name=some (.ref fa)->
   ∃ fd:A4,(∀(s:Ac) (u:Ab),Gn s fd ⟨[u],[]⟩ [("_law_script",u)])/\∀ base:A9,(K w.params).In base->base.Ns mainGlobals mg->p9 mg base->cA l.prog w (K w.params) mg base CX0 13 fa fd ["_law_script"] (aDP (K w.params) T T2))
  (hC:∀(w:AL),(Dm (K w.params) c T=true/\(K w.params).lookup T=none)/\(Dm (K w.params) c2 T2=true/\(K w.params).lookup T2=none)):
  PySem.W.WalkO q loose XP YP l.row.toRowW d [] (fun f vs=>Hc f vs):=
 L2.walk_ofT (n:=63) (k:=13) (x:="_law_script") (cts:=[(c,T),(c2,T2)]) (sp:=fun w=>aDP (K w.params) T T2) hn (by decide) hdf ⟨rfl,by decide,by decide,rfl⟩ hY (fun w p hp=>by
  obtain⟨h1,h2⟩:=hC w;simp only[An,AO,or_false]at hp;rcases hp with rfl|rfl
  .exact h1
  .exact h2) F fun w H a ns hl hT hS=>⟨a,ns,rfl,hS,hl,lA.start (hT T (by simp)),gC.start (hT T2 (by simp)),fun _=>rfl⟩
end K58
end
namespace PySem.W.Fast
def tw9719752478728272391:=0
def tw6243716556591127180:=0
def tw17946003867315635745:=0
def tw17777801875546634324:=0
def tw15291525712485859283:=0
def tw12168679397073558355:=0
def tw8712822365627426862:=0
def tw12096625189191398995:=0
def tw17667999970296112503:=0
def tw9080809204142192962:=0
def tw3410468985475261175:=0
def tw16807368639540192979:=0
def tw15283573093603898691:=0
def tw3313073458955151834:=0
def tw11074994207868287998:=0
def tw7148728561573371216:=0
def tw16985325748656144147:=0
def tw2969471183603050909:=0
def tw3383105797985612591:=0
def tw6417739393490593792:=0
def tw631646560238127119:=0
def tw6562117791756599647:=0
def tw13796401080071484096:=0
def tw17914451188596380432:=0
def tw9665914550565112773:=0
def tw670653653456985681:=0
def tw7411761020737823410:=0
def tw14948190102603559666:=0
def tw3747273601989796272:=0
def tw6350760006216932532:=0
def tw9636504171512810354:=0
def tw4089356814748713738:=0
def tw2303096272407322872:=0
def tw16460498747824606964:=0
def tw2700588572289080501:=0
def tw8356430630796054079:=0
def tw14986125218377181349:=0
def tw11751028702678211054:=0
def tw6350471959821278560:=0
def tw2278985135706177731:=0
def tw4485619873847926437:=0
def tw5088733729271192202:=0
def tw6135701587523465607:=0
def tw8915811106452968350:=0
def tw5810867231263852097:=0
def tw6898179522504452159:=0
def tw15974626471377623931:=0
def tw11339127060584396494:=0
def tw8602967714851239495:=0
def tw11962324620015537578:=0
def tw4945833683177567016:=0
def tw12072790830393424908:=0
def tw1583597655488346699:=0
def tw2983725974361605913:=0
def tw14320191927568665772:=0
def tw10778790813462039034:=0
def tw2850524354252538429:=0
def tw7024065930080822304:=0
def tw10982471580410330019:=0
def tw7085154999176325154:=0
def tw8575286293465079748:=0
def tw13644797830425479474:=0
def tw15015325165465557700:=0
def tw9664597927248719417:=0
def tw7716829710034563173:=0
def tw8841974876179333959:=0
def tw5660057671780007250:=0
def tw383967224886343971:=0
def tw5053656031841929666:=0
def tw13412846787883986299:=0
def tw7381596844569806573:=0
def tw15016407873526739965:=0
def tw4699031937812178687:=0
def tw13753714452562247898:=0
def tw2890959267806829541:=0
def tw8620731789338736665:=0
def tw12489658583639242644:=0
def tw6408954739623599651:=0
def tw16739958472056715142:=0
def tw609038126552375624:=0
def tw12307180618739356630:=0
def tw1766885581231775157:=0
def tw7636515730666592704:=0
def tw8598990630920429350:=0
def tw2359497658489547653:=0
def tw3299711553244530008:=0
def tw1126630235887552813:=0
def tw15975278424126646279:=0
def tw350290053179399939:=0
def tw16794486495188403589:=0
def tw7614872118211578311:=0
def tw7523013915733261525:=0
def tw3585906219082339957:=0
def tw4048522886261030627:=0
def tw2636928749232406923:=0
def tw10745316278783981428:=0
def tw17313317313882794180:=0
def tw14573071635666907011:=0
def tw1905692613132234215:=0
def tw10566138845011391180:=0
def tw12005659395362029303:=0
def tw11186948115139151135:=0
def tw13359181629544621642:=0
def tw8661178328195869277:=0
def tw18068931445876388860:=0
def tw16149842621463809993:=0
def tw13164068672743255577:=0
def tw11661408285774000396:=0
def tw2409677994285959274:=0
def tw13366254258020926982:=0
def tw16703050578403503532:=0
def tw13170031841437564440:=0
def tw5765500513520695160:=0
def tw208016872649397416:=0
def tw2478972328228598871:=0
def tw17505001294689166234:=0
def tw11530310011221532758:=0
def tw841614469338221858:=0
def tw7188361621672952396:=0
def tw5393452833976390950:=0
def tw11235621428958473090:=0
def tw5765204296466564005:=0
def tw2595791529952012054:=0
def tw3929964676206840400:=0
def tw4150435654291345931:=0
def tw5534466848328500877:=0
def tw16828554914697318710:=0
def tw10994762460317264956:=0
def tw8378676152503726577:=0
def tw2834294634724907270:=0
def tw497571431090005568:=0
def tw18257831068922816910:=0
def tw5825680281902962704:=0
def tw13281056401257565280:=0
def tw12837560774814140866:=0
def tw11843026475062987187:=0
def tw5520382454024133551:=0
def tw14928343468254508922:=0
def tw14779147281129996627:=0
def tw7223395435340994429:=0
def tw15511288011927290328:=0
def tw13837860236359856566:=0
def tw9850169846988804365:=0
def tw17974260706281983374:=0
def tw1156831083791370702:=0
def tw5066568886209305877:=0
def tw12403000541388757109:=0
def tw8209521436113133618:=0
def tw9708838463298387485:=0
def tw6946322183640263712:=0
def tw13045995915107766992:=0
def tw15538027368124247827:=0
def tw11463079967125847633:=0
def tw8575041182265063961:=0
def tw18425671600430092389:=0
def tw3940375153911288974:=0
def tw5671574966441671713:=0
def tw1960373367130300910:=0
def tw4079634041807202036:=0
def tw15272060792036779291:=0
def tw268873105942065843:=0
def tw15143869805412969834:=0
def tw2973189541493748942:=0
def tw9375565096764327675:=0
def tw123395486642636652:=0
def tw13562058959793569093:=0
def tw9311577349859214633:=0
def tw15566194817608507206:=0
def tw8357138383038495323:=0
def tw3431533422851151868:=0
def tw4993873189695923027:=0
def tw5806826788718092848:=0
def tw15402508926492055664:=0
def tw4921757921502152394:=0
def tw9407474588719370758:=0
def tw4269592951040934034:=0
def tw15708628639087107838:=0
def tw7901372226940608360:=0
def tw3167100170625360681:=0
def tw13810721299187978524:=0
def tw1904251696494439288:=0
def tw8306541923308214707:=0
def tw16076427027099112856:=0
def tw9015962090600058233:=0
def tw8247453035008566841:=0
def tw14164090991110468850:=0
def tw12287450504897880012:=0
def tw797837951187063864:=0
def tw5774413166056963172:=0
def tw12124664827672883027:=0
def tw17989345570224828151:=0
def tw4743833620416527700:=0
def tw1309472962087297966:=0
def tw9965495476720478311:=0
def tw6455600262142693336:=0
def tw18203024084373950981:=0
def tw6399811324685615406:=0
def tw18252866819623777309:=0
def tw12225202751062998778:=0
def tw8991322873738147400:=0
def tw9873471096166468902:=0
def tw10012785801112544657:=0
def tw2633890554073158782:=0
def tw8972612968403702149:=0
def tw5035931405795205213:=0
def tw11888283238494407737:=0
def tw8019088980407280779:=0
def tw1588973813647481384:=0
def tw15107505886471527741:=0
def tw13359055743117619743:=0
def tw3015679186845180137:=0
def tw12649527858379116581:=0
def tw3628816271406386220:=0
def tw7941746387005450337:=0
def tw15815737853278824343:=0
def tw8712378343418201444:=0
def tw15552571105520111998:=0
def tw900203805264542704:=0
def tw5417648401357286326:=0
def tw16326524527923936362:=0
def tw3457059751766564221:=0
def tw16623391071132344745:=0
def tw1940294667348435933:=0
def tw7650214020888365806:=0
def tw2306062559287666489:=0
def tw210689867174864788:=0
def tw4989944261203408984:=0
def tw1770540322297639219:=0
def tw9039159905217264476:=0
def tw5130629972586894765:=0
def tw17921937262622129213:=0
def tw15468770132613985314:=0
def tw1837317471533062611:=0
def tw1376613314542986241:=0
def tw4690443191433439882:=0
def tw12942273612860891244:=0
def tw9977833615665457886:=0
def tw9734687775433394443:=0
def tw1917273803580320825:=0
def tw8265285304353698659:=0
def tw10192930647292013166:=0
def tw423167951245039284:=0
def tw1595545203132549750:=0
def tw15630763010841685220:=0
def tw6763637218045902802:=0
def tw6856040242373460557:=0
def tw5513630861508820708:=0
def tw6083133771547409092:=0
def tw7551010707278810923:=0
def tw2959103902610701920:=0
def tw3677479067456960173:=0
def tw5962443406991500395:=0
def tw4541845361940661068:=0
def tw16421995902738493398:=0
def tw2176237198554661925:=0
def tw12424290591064171974:=0
def tw6253551337950259051:=0
def tw11791679836468349765:=0
def tw4371451058288785029:=0
def tw849468923085723477:=0
def tw9378463928257970036:=0
def tw12176370177078051020:=0
def tw13784080624240931538:=0
def tw11728359282804783760:=0
def tw12398608455433919017:=0
def tw6573602374176572775:=0
def tw285963514632389072:=0
def tw6790378840552120287:=0
def tw2876408359054647979:=0
def tw6714281082250302860:=0
def tw14243724790133816505:=0
def tw78681620551036792:=0
def tw16738678706643025884:=0
def tw4319984012419001344:=0
def tw4162666584128142796:=0
def tw10134957110062296773:=0
def tw11296136513107272790:=0
def tw13737450223499499667:=0
def tw1206385772731721200:=0
def tw3210317935167024832:=0
def tw70356709663338851:=0
def tw8861240712196985067:=0
def tw8519519146707590161:=0
def tw15451197882499717811:=0
def tw10153668588100774526:=0
def tw12371558869487720125:=0
def tw4386509561744076759:=0
def tw8922487051605573141:=0
def tw15157519240432634920:=0
def tw4899718078319174528:=0
def tw8470107053060234507:=0
def tw16172877991837252027:=0
def tw11020359347052507366:=0
def tw11923624260225366254:=0
def tw8667721114347069740:=0
def tw1695954185209072803:=0
def tw3255966630583277528:=0
def tw11685864498219716756:=0
def tw14061403407920021217:=0
def tw9858227726338765755:=0
def tw8851362166210655054:=0
def tw10636182251196732980:=0
def tw4516294665156550327:=0
def tw1560371999328328249:=0
def tw6908398622730556369:=0
def tw14206081610969423794:=0
def tw2603668589139594820:=0
def tw3067564295699180528:=0
def tw11223085532608064816:=0
def tw8663035666544350253:=0
def tw1857279686969120578:=0
def tw11053023024761335317:=0
def tw18333680651222210915:=0
def tw996382399605099792:=0
def tw5287028499985390736:=0
def tw10404375613327804789:=0
def tw16852356113590386167:=0
def tw15584638569334683669:=0
def tw4239393542171777556:=0
def tw9264701710048536317:=0
def tw9510342553890237122:=0
def tw10136191086791832004:=0
def tw15594585606834760537:=0
def tw6946087809537226329:=0
def tw8000270139037751644:=0
def tw3717925059771628158:=0
def tw16501077676651371616:=0
def tw12090473881209357280:=0
def tw9227197430460063100:=0
def tw14301546964116879899:=0
def tw4980711316966301477:=0
def tw15919508263015536743:=0
def tw16338926365805067067:=0
def tw15678893952177991490:=0
def tw11377789370557405303:=0
def tw10115171421873909901:=0
def tw12301718031019394853:=0
def tw11261562606688005527:=0
def tw7478943984570402780:=0
def tw7770022941468414500:=0
def tw11556807096224326367:=0
def tw5764774444101458171:=0
def tw10718862943464032293:=0
def tw5390417541955150172:=0
def tw16302874228955929701:=0
def tw7432662821719556622:=0
def tw1565518356940135451:=0
def tw5981447941792873066:=0
def tw2611336824424408841:=0
def tw2661765284472727717:=0
def tw1385590123438037565:=0
def tw4449159539631282548:=0
def tw5207908264764092990:=0
def tw13964442739641612193:=0
def tw5312895843077940177:=0
def tw91706029022833005:=0
def tw2767596309378280633:=0
def tw16641496539468322479:=0
def tw5729827968274083219:=0
def tw13068811726310472310:=0
def tw14170891444986015693:=0
def tw16512670464440500828:=0
def tw13989619102446699226:=0
def tw17493969938647619694:=0
def tw6918291410735841345:=0
def tw11594049690945576511:=0
def tw15113395318999324894:=0
def tw9030970503885257333:=0
def tw15030909169393970542:=0
def tw4852909450416961861:=0
def tw10197150977420818244:=0
def tw17311463219227184448:=0
def tw12268168493799880124:=0
def tw14630986751302071310:=0
def tw4985838129529638273:=0
def tw8327000765530336399:=0
def tw4183532875703471723:=0
def tw14401226243782979708:=0
def tw16189766882053917763:=0
def tw4828799881666635949:=0
def tw14465778763802030276:=0
def tw6218496661536331612:=0
def tw10395332888727355665:=0
def tw11882674594274531187:=0
def tw2579515502882283816:=0
def tw17338685189642297738:=0
def tw383715562861997390:=0
def tw14980436561564323605:=0
def tw15722304363913227223:=0
def tw1244413103887686970:=0
def tw13712354095475546003:=0
def tw10201398637491862819:=0
def tw1878076317874370140:=0
def tw14663725991815663211:=0
def tw15943350556401266080:=0
def tw15142418235478013483:=0
def tw12133139489114142442:=0
def tw15314976250583634416:=0
def tw1054649162914460669:=0
def tw4276781565285685644:=0
def tw16471643956228386003:=0
def tw15062500470024766375:=0
def tw8865170392194218613:=0
def tw5916285023714344640:=0
def tw4307138228165522686:=0
def tw12398458870392678586:=0
def tw4794789860571336889:=0
def tw14976387463558636987:=0
def tw15957388970088749152:=0
def tw6137688521275715524:=0
def tw13045583418188305194:=0
def tw4066126448521858974:=0
def tw12562563658299574397:=0
def tw2438526092519433338:=0
def tw5248311321238071347:=0
def tw7891955294832421469:=0
def tw4459264268948671592:=0
def tw5948944157318003178:=0
def tw11209083990901434815:=0
def tw8796385803895252243:=0
def tw15693693048050064930:=0
def tw3166081587387381424:=0
def tw14839641970091212362:=0
def tw14918214205956137846:=0
def tw10452105702664271611:=0
def tw14476560281470951655:=0
def tw13558502791847134797:=0
def tw3471464925305822968:=0
def tw8042412545228172466:=0
def tw12063924998128555500:=0
def tw18266280668801432965:=0
def tw2635821530399773440:=0
def tw3641748938775228751:=0
def tw8618758511330135749:=0
def tw6086988420097475860:=0
def tw14146120070147717493:=0
def tw6072741671907070159:=0
def tw4787605535583339842:=0
def tw6125203089110439693:=0
def tw16494858144631144573:=0
def tw12457246702372591838:=0
def tw13266838234660726416:=0
def tw4224100327544890162:=0
def tw4350305008508071362:=0
def tw9922249477074965011:=0
def tw13122241051339304269:=0
def tw14967891216147165328:=0
def tw1696426590061837250:=0
def tw8601162220026950990:=0
def tw13209400442431955103:=0
def tw2919871881135359708:=0
def tw5723323769913967736:=0
def tw964485640812738738:=0
def tw7745573794424842596:=0
def tw12205570131692241000:=0
def tw6322936955925109763:=0
def tw14505033017706981140:=0
def tw14300978327544830194:=0
def tw4998252844818358748:=0
def tw11698917198147944719:=0
def tw17463261013727581561:=0
def tw11197873328992739686:=0
def tw11408065247800021957:=0
def tw17627573453179997890:=0
def tw15933308384987464208:=0
def tw1139287726889571801:=0
def tw5811353325568220676:=0
def tw16326888731849399257:=0
def tw11711859941170365689:=0
def tw17773666801746426523:=0
def tw4717390472534641256:=0
def tw17310075247505850681:=0
def tw8991916986443035981:=0
def tw16709974431749760532:=0
def tw160784085968726896:=0
def tw13592510389914090208:=0
def tw651322177974883080:=0
def tw7220332390106836908:=0
def tw553284387468961159:=0
def tw13329813022229837681:=0
def tw5778395250581249808:=0
def tw10553352115807229093:=0
def tw1745701520983194921:=0
def tw9319993479164180465:=0
def tw15536007278128447119:=0
def tw16152487746008532749:=0
def tw10753097891290184350:=0
def tw4138966726879521041:=0
def tw2234928252178956022:=0
def tw16601776158298480926:=0
def tw14750151222869614511:=0
def tw7656451909854443414:=0
def tw12469654408938695176:=0
def tw16929552570326954307:=0
def tw6414735135201348400:=0
def tw5893402433877407319:=0
def tw16588394038233102084:=0
def tw16429191395000484743:=0
def tw17358466171359830536:=0
def tw4785662408108481829:=0
def tw11990799113455878844:=0
def tw9840229886790379220:=0
def tw4401905290708202067:=0
def tw17183743000886435271:=0
def tw16392548125051082096:=0
def tw4729410033520209738:=0
def tw1609684215133827417:=0
def tw2317252033054586950:=0
def tw4604756132205339283:=0
def tw5793021109050462130:=0
def tw1988973031874791428:=0
def tw3869535402167555029:=0
def tw9423719046221893229:=0
def tw5295453091469277479:=0
def tw6664729511230153176:=0
def tw13177355226673513039:=0
end PySem.W.Fast
open PySem PySem.W PyProof.Rows
set_option maxRecDepth 100000 in
set_option maxHeartbeats 0 in
theorem PySem.Challenge.cw_dykelengths_k58_three_hundred_holds : PySem.Challenge.rw_dykelengths_k58_three_hundred.Holds := by
 w_on;o_law;k_head;(case hw=>w_witness2)
 k_fill
 refine K58.walk (l:=PySem.Challenge.rw_dykelengths_k58_three_hundred) (c:=274) (T:=270) (c2:=438) (T2:=436) rfl rfl (fun w h Y=>⟨PySem.W.km_in_of Y,fun P hP=>PySem.W.km_tabs_of Y P (by simp only [List.mem_cons,List.not_mem_nil,or_false] at hP ⊢;rcases hP with h | h<;>simp [h])⟩) ?F ?hC
 case F=>
  intro w mg fa h KX G hmg
  refine' K58.all_mk KX G hmg ?aC ?aI ?iI ?lI ?cI ?kI ?pg ?hd ?po ?sa ?mk ?kc ?nR ?nH ?nA ?nI ?nM ?aTooMany ?aClash ?aNoBreach ?aNoField ?aNoInch ?aNoMend ?aNoName ?aNoRoll ?aNoRow ?aNoThen ?aDykeError ?zxM ?zeM ?zk1 ?zk2 ?h12 ?aFo ?lFo ?cFo ?kFo ?aMe ?lMe ?cMe ?kMe ?aSt ?lSt ?cSt ?kSt ?aRg ?lRg ?cRg ?kRg ?aL ?lL ?cL ?kL ?z_len ?z_sum ?z_max ?z_min ?z_tuple ?z_sorted ?z_any ?z_all ?z_abs ?z_range ?z_int ?z_set ?z_zip ?z_list ?z_bool ?z_isinstance ?z_ValueError ?q_DEEDS ?lFm ?hcS ?hcR ?q_MOST_STANDS ?zRf ?zCa ?zBh ?zSb ?zFp ?zDr ?zRu ?zTi ?zVo ?zFw ?zFe ?zNu ?zWh ?zRi ?zAp ?zSa ?zAa ?zSd ?zSh ?zP ?zT ?zNe ?zIs ?zHo ?zNr ?zNm ?zSp ?zLa ?zRe
  case aC|aI|iI|lI|cI|kI|pg|hd|po|sa|mk|kc|nR|nH|nA|nI|nM|aTooMany|aClash|aNoBreach|aNoField|aNoInch|aNoMend|aNoName|aNoRoll|aNoRow|aNoThen|aDykeError=>k_is
  case zxM|zeM|zk1|zk2=>kernel_rfl
  case h12=>decide
  case aFo|lFo|cFo|kFo|aMe|lMe|cMe|kMe|aSt|lSt|cSt|kSt|aRg|lRg|cRg|kRg|aL|lL|cL|kL|z_len|z_sum|z_max|z_min|z_tuple|z_sorted|z_any|z_all|z_abs|z_range|z_int|z_set|z_zip|z_list|z_bool|z_isinstance|z_ValueError|q_DEEDS|lFm=>k_is
  case hcS|hcR=>kernel_rfl
  case q_MOST_STANDS=>k_is
  case zRf|zCa|zBh|zSb|zFp|zDr|zRu|zTi|zVo|zFw|zFe|zNu|zWh|zRi|zAp|zSa|zAa|zSd|zSh|zP|zT|zNe|zIs|zHo|zNr|zNm|zSp|zLa|zRe=>exact ⟨_,by k_is,⟨_,_,_,_,_,_,_,_,_,by k_is,by k_is⟩,by k_is⟩
 case hC=>exact fun w=>⟨⟨by kernel_rfl,by kernel_rfl⟩,⟨by kernel_rfl,by kernel_rfl⟩⟩
