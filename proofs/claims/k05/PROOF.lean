import PyProof.Rows.All
import Wide.All
import OpenK.AllK
import Wide.FinOn
import Lean
import PyProof.EqAt
import PyProof.EqKinds
import PyProof.TupleCall
import PySem.Challenge.RW_dykelengths_k05_rolls_made
set_option linter.all false
set_option maxRecDepth 100000
set_option Elab.async false
set_option maxHeartbeats 16000000
noncomputable section
local macro_rules
|`(tactic|omega)=>`(tactic|lia)
local macro_rules
|`(tactic|decide)=>`(tactic|decide +kernel)
namespace L2
open PySem PySem.Spec PyProof.Rows
inductive Ex1 {A0:Type} (p:A0→Prop):Prop
 | mk (a0:A0) (h:p a0):Ex1 p
inductive Ex2 {A0 A1:Type} (p:A0→A1→Prop):Prop
 | mk (a0:A0) (a1:A1) (h:p a0 a1):Ex2 p
inductive Ex3 {A0 A1 A2:Type} (p:A0→A1→A2→Prop):Prop
 | mk (a0:A0) (a1:A1) (a2:A2) (h:p a0 a1 a2):Ex3 p
inductive Ex4 {A0 A1 A2 A3:Type} (p:A0→A1→A2→A3→Prop):Prop
 | mk (a0:A0) (a1:A1) (a2:A2) (a3:A3) (h:p a0 a1 a2 a3):Ex4 p
inductive Ex5 {A0 A1 A2 A3 A4:Type} (p:A0→A1→A2→A3→A4→Prop):Prop
 | mk (a0:A0) (a1:A1) (a2:A2) (a3:A3) (a4:A4) (h:p a0 a1 a2 a3 a4):Ex5 p
inductive Ex7 {A0 A1 A2 A3 A4 A5 A6:Type} (p:A0→A1→A2→A3→A4→A5→A6→Prop):Prop
 | mk (a0:A0) (a1:A1) (a2:A2) (a3:A3) (a4:A4) (a5:A5) (a6:A6) (h:p a0 a1 a2 a3 a4 a5 a6):Ex7 p
inductive Aw2 (p0 p1:Prop):Prop
 | mk (h0:p0) (h1:p1):Aw2 p0 p1
inductive Aw3 (p0 p1 p2:Prop):Prop
 | mk (h0:p0) (h1:p1) (h2:p2):Aw3 p0 p1 p2
inductive Aw4 (p0 p1 p2 p3:Prop):Prop
 | mk (h0:p0) (h1:p1) (h2:p2) (h3:p3):Aw4 p0 p1 p2 p3
inductive Aw7 (p0 p1 p2 p3 p4 p5 p6:Prop):Prop
 | mk (h0:p0) (h1:p1) (h2:p2) (h3:p3) (h4:p4) (h5:p5) (h6:p6):Aw7 p0 p1 p2 p3 p4 p5 p6
inductive Aw8 (p0 p1 p2 p3 p4 p5 p6 p7:Prop):Prop
 | mk (h0:p0) (h1:p1) (h2:p2) (h3:p3) (h4:p4) (h5:p5) (h6:p6) (h7:p7):Aw8 p0 p1 p2 p3 p4 p5 p6 p7
inductive Aw9 (p0 p1 p2 p3 p4 p5 p6 p7 p8:Prop):Prop
 | mk (h0:p0) (h1:p1) (h2:p2) (h3:p3) (h4:p4) (h5:p5) (h6:p6) (h7:p7) (h8:p8):Aw9 p0 p1 p2 p3 p4 p5 p6 p7 p8
inductive Aw10 (p0 p1 p2 p3 p4 p5 p6 p7 p8 p9:Prop):Prop
 | mk (h0:p0) (h1:p1) (h2:p2) (h3:p3) (h4:p4) (h5:p5) (h6:p6) (h7:p7) (h8:p8) (h9:p9):Aw10 p0 p1 p2 p3 p4 p5 p6 p7 p8 p9
inductive Aw11 (p0 p1 p2 p3 p4 p5 p6 p7 p8 p9 p10:Prop):Prop
 | mk (h0:p0) (h1:p1) (h2:p2) (h3:p3) (h4:p4) (h5:p5) (h6:p6) (h7:p7) (h8:p8) (h9:p9) (h10:p10):Aw11 p0 p1 p2 p3 p4 p5 p6 p7 p8 p9 p10
inductive Aw13 (p0 p1 p2 p3 p4 p5 p6 p7 p8 p9 p10 p11 p12:Prop):Prop
 | mk (h0:p0) (h1:p1) (h2:p2) (h3:p3) (h4:p4) (h5:p5) (h6:p6) (h7:p7) (h8:p8) (h9:p9) (h10:p10) (h11:p11) (h12:p12):Aw13 p0 p1 p2 p3 p4 p5 p6 p7 p8 p9 p10 p11 p12
theorem len1 {α:Type}{us:List α} (h:us.length=1):∃ a0,us=[a0]:=by
 cases us with
 | nil=>simp at h
 | cons a0 r0=>
  cases r0 with
  | nil=>exact ⟨a0,rfl⟩
  | cons _ _=>simp at h
theorem len2 {α:Type}{us:List α} (h:us.length=2):∃ a0 a1,us=[a0,a1]:=by
 cases us with
 | nil=>simp at h
 | cons a0 r0=>
  cases r0 with
  | nil=>simp at h
  | cons a1 r1=>
   cases r1 with
   | nil=>exact ⟨a0,a1,rfl⟩
   | cons _ _=>simp at h
theorem len3 {α:Type}{us:List α} (h:us.length=3):∃ a0 a1 a2,us=[a0,a1,a2]:=by
 cases us with
 | nil=>simp at h
 | cons a0 r0=>
  cases r0 with
  | nil=>simp at h
  | cons a1 r1=>
   cases r1 with
   | nil=>simp at h
   | cons a2 r2=>
    cases r2 with
    | nil=>exact ⟨a0,a1,a2,rfl⟩
    | cons _ _=>simp at h
theorem len4 {α:Type}{us:List α} (h:us.length=4):∃ a0 a1 a2 a3,us=[a0,a1,a2,a3]:=by
 cases us with
 | nil=>simp at h
 | cons a0 r0=>
  cases r0 with
  | nil=>simp at h
  | cons a1 r1=>
   cases r1 with
   | nil=>simp at h
   | cons a2 r2=>
    cases r2 with
    | nil=>simp at h
    | cons a3 r3=>
     cases r3 with
     | nil=>exact ⟨a0,a1,a2,a3,rfl⟩
     | cons _ _=>simp at h
theorem len5 {α:Type}{us:List α} (h:us.length=5):∃ a0 a1 a2 a3 a4,us=[a0,a1,a2,a3,a4]:=by
 cases us with
 | nil=>simp at h
 | cons a0 r0=>
  cases r0 with
  | nil=>simp at h
  | cons a1 r1=>
   cases r1 with
   | nil=>simp at h
   | cons a2 r2=>
    cases r2 with
    | nil=>simp at h
    | cons a3 r3=>
     cases r3 with
     | nil=>simp at h
     | cons a4 r4=>
      cases r4 with
      | nil=>exact ⟨a0,a1,a2,a3,a4,rfl⟩
      | cons _ _=>simp at h
abbrev Key:=Sum Int Str
def keyIs:Key→Value→Bool
 | .inl k,v=>Value.isInt k v
 | .inr x,v=>Value.isStrOf x v
def keyH (w:World):Key→Int
 | .inl k=>hashInt k
 | .inr x=>hashStr w x
theorem keyIs_shape:∀ {k:Key}{v:Value},keyIs k v=true→(∃ i t,k=Sum.inl i∧v=Value.int i t)∨(∃ x t,k=Sum.inr x∧v=Value.str x t)
 | .inl i,v,h=>by
  obtain ⟨t,e⟩:=Value.isInt_shape (k:=i) (v:=v) h
  exact .inl ⟨i,t,rfl,e⟩
 | .inr x,v,h=>by
  obtain ⟨t,e⟩:=Value.isStrOf_shape (x:=x) (v:=v) h
  exact .inr ⟨x,t,rfl,e⟩
theorem keyIs_int (i:Int) (t:Tok):keyIs (.inl i) (.int i t)=true:=by simp[keyIs,Value.isInt]
theorem keyIs_str (x:Str) (t:Tok):keyIs (.inr x) (.str x t)=true:=by simp[keyIs,Value.isStrOf]
theorem key_ll (a b:Int):decide ((Sum.inl a:Key)=Sum.inl b)=(a == b):=by
 by_cases e:a=b
 ·subst e;simp
 ·have h:¬ (Sum.inl a:Key)=Sum.inl b:=fun q=>e (Sum.inl.inj q)
  rw[decide_eq_false h]
  exact (beq_eq_false_iff_ne.mpr e).symm
theorem key_rr (a b:Str):decide ((Sum.inr a:Key)=Sum.inr b)=decide (a=b):=by
 by_cases e:a=b
 ·subst e;simp
 ·have h:¬ (Sum.inr a:Key)=Sum.inr b:=fun q=>e (Sum.inr.inj q)
  rw[decide_eq_false h,decide_eq_false e]
theorem key_lr (a:Int) (b:Str):decide ((Sum.inl a:Key)=Sum.inr b)=false:=decide_eq_false (fun q=>nomatch q)
theorem key_rl (a:Str) (b:Int):decide ((Sum.inr a:Key)=Sum.inl b)=false:=decide_eq_false (fun q=>nomatch q)
def mixKind (prog:Program) (w:World):PySem.KeyKind prog w Key where
 is:=keyIs
 hash:=keyH w
 inj:=fun v a b ha hb=>by
  rcases keyIs_shape ha with ⟨i,t,rfl,rfl⟩ | ⟨x,t,rfl,rfl⟩
  ·rcases keyIs_shape hb with ⟨j,u,rfl,e⟩ | ⟨y,u,rfl,e⟩
   ·injection e with e1 _;rw[e1]
   ·exact nomatch e
  ·rcases keyIs_shape hb with ⟨j,u,rfl,e⟩ | ⟨y,u,rfl,e⟩
   ·exact nomatch e
   ·injection e with e1 _;rw[e1]
 byValue:=fun k v h=>by
  rcases keyIs_shape h with ⟨i,t,rfl,rfl⟩ | ⟨x,t,rfl,rfl⟩ <;> rfl
 pyHash:=fun hv h=>by
  rcases keyIs_shape hv with ⟨i,t,rfl,rfl⟩ | ⟨x,t,rfl,rfl⟩
  ·exact wpAny_pyHash_int h
  ·exact wpAny_pyHash_str h
 eqBool:=fun hu hv h=>by
  rcases keyIs_shape hu with ⟨i,t,rfl,rfl⟩ | ⟨x,t,rfl,rfl⟩
  ·rcases keyIs_shape hv with ⟨j,u,rfl,rfl⟩ | ⟨y,u,rfl,rfl⟩
   ·rw[key_ll] at h;exact wpAny_eqBool_int h
   ·rw[key_lr] at h;exact SeqAt.EqAt.int_str i t y u _ _ _ _ h
  ·rcases keyIs_shape hv with ⟨j,u,rfl,rfl⟩ | ⟨y,u,rfl,rfl⟩
   ·rw[key_rl] at h;exact SeqAt.EqAt.str_int x t j u _ _ _ _ h
   ·rw[key_rr] at h;exact wpAny_eqBool_str h
 «strs»:=fun k x t v h=>by
  rcases keyIs_shape h with ⟨i,u,rfl,e⟩ | ⟨y,u,rfl,e⟩
  ·exact nomatch e
  ·injection e with e1 _
   subst e1
   cases v <;> rfl
theorem mixKind_int (prog:Program) (w:World) (i:Int) (t:Tok):(mixKind prog w).is (.inl i) (.int i t)=true:=keyIs_int i t
theorem mixKind_str (prog:Program) (w:World) (x:Str) (t:Tok):(mixKind prog w).is (.inr x) (.str x t)=true:=keyIs_str x t
end L2
namespace L2
open PySem PySem.Spec PyProof.Rows
inductive V where
 | non | bl (b:Bool) | int (i:Int) | str (x:Str) | byt (b:Array UInt8) | flt (b:UInt64) | ref (a:Addr) | ty (n:String)
 deriving DecidableEq
def RelV:V→Value→Prop
 | .non,u=>u=Value.none
 | .bl b,u=>u=Value.bool b
 | .int i,u=>∃ t,u=Value.int i t
 | .str x,u=>∃ t,u=Value.str x t
 | .byt b,u=>∃ t,u=Value.bytes b t
 | .flt b,u=>∃ t,u=Value.float b t
 | .ref a,u=>u=Value.ref a
 | .ty n,u=>u=Value.type n
abbrev Vals:List V→List Value→Prop:=Paired RelV
theorem Vals.length {xs:List V}{us:List Value} (r:Vals xs us):xs.length=us.length:=Paired.length r
theorem Vals.get:∀ {xs:List V}{us:List Value}{i:Nat}{x:V},Vals xs us→xs[i]?=some x→∃ u,us[i]?=some u∧RelV x u
 | _,_,_,_,.nil,e=>by simp at e
 | _,_,0,_,.cons r _,e=>by simp at e;subst e;exact ⟨_,rfl,r⟩
 | _,_,i + 1,x,.cons _ t,e=>by
  obtain ⟨u,h1,h2⟩:=Vals.get (i:=i) (x:=x) t (by simpa using e)
  exact ⟨u,by simpa using h1,h2⟩
theorem Vals.set {x:V}{u:Value} (r:RelV x u):∀ {xs:List V}{us:List Value} (i:Nat),Vals xs us→Vals (xs.set i x) (us.set i u)
 | _,_,_,.nil=>.nil
 | _,_,0,.cons _ t=>.cons r t
 | _,_,i + 1,.cons q t=>.cons q (Vals.set r i t)
theorem Vals.append:∀ {xs ys:List V}{us ws:List Value},Vals xs us→Vals ys ws→Vals (xs ++ ys) (us ++ ws)
 | _,_,_,_,.nil,s=>s
 | _,_,_,_,.cons r t,s=>.cons r (Vals.append t s)
theorem Vals.take:∀ {xs:List V}{us:List Value} (n:Nat),Vals xs us→Vals (xs.take n) (us.take n)
 | _,_,0,_=>.nil
 | _,_,_ + 1,.nil=>.nil
 | _,_,n + 1,.cons r t=>.cons r (Vals.take n t)
theorem Vals.drop:∀ {xs:List V}{us:List Value} (n:Nat),Vals xs us→Vals (xs.drop n) (us.drop n)
 | _,_,0,r=>r
 | _,_,_ + 1,.nil=>.nil
 | _,_,n + 1,.cons _ t=>Vals.drop n t
def RelO:Option V→Option Value→Prop
 | some v,some u=>RelV v u
 | none,none=>True
 | _,_=>False
def KV {κ:Type}:List (κ×V)→List (κ×Value)→Prop:=Paired fun (p:κ×V) (q:κ×Value)=>p.1=q.1∧RelV p.2 q.2
def kV:Key→V
 | .inl i=>.int i
 | .inr x=>.str x
inductive HO where
  | lst (xs:List V)
  | tup (xs:List V)
  | dK (kvs:List (Key×V)) | dT (kvs:List (List Key×V))
  | set (S:Int→Bool) (n:Nat)
  | ins (C dx:Addr) (fs:List (Str×V))
  | own (x:Addr)
  | xd (fs:List (Str×V))
  | met (f x:Addr)
  | rng (lo hi:Int)
  | frz (o:Obj) (u:HO)
  | tbl (ps:Array Value)
  | ext (φ:Heap→Prop)
abbrev Hp:=Addr→Option HO
def upd (H:Hp) (a:Addr) (o:HO):Hp:=fun b=>if b=a then some o else H b
theorem upd_same {H:Hp}{a:Addr}{o:HO}:upd H a o a=some o:=by unfold upd;rw[if_pos rfl]
theorem upd_ne {H:Hp}{a b:Addr}{o:HO} (h:b≠a):upd H a o b=H b:=by unfold upd;rw[if_neg h]
theorem upd_upd {H:Hp}{a:Addr}{o u:HO}:upd (upd H a o) a u=upd H a u:=by
 funext b;unfold upd;split <;> rfl
theorem ne_of {H:Hp}{a b:Addr}{o u:HO} (h:H a=some o) (h':H b=some u) (d:o≠u):a≠b:=by
 intro e;subst e;rw[h] at h';exact d (Option.some.inj h')
theorem ne_of_none {H:Hp}{a b:Addr}{o:HO} (h:H a=some o) (h':H b=none):a≠b:=by
 intro e;subst e;rw[h] at h';cases h'
section
variable (P:Program) (w:World)
def ObjOk (H:Hp) (h:Heap) (a:Addr):HO→Prop
 | .lst xs=>xs.length≤sizeLine∧∃ (its:List Value) (n:Nat),Vals xs its∧h.get? a=some { cls:=.type "list",data:=.seq its.toArray n }
 | .tup xs=>xs.length≤sizeLine∧∃ its:List Value,Vals xs its∧IsTup h a its.toArray
 | .dK kvs=>kvs.length≤sizeLine∧(a == sysModules)=false∧∃ vs,KV kvs vs∧h.DictOf (mixKind P w) a vs
 | .dT kvs=>kvs.length≤sizeLine∧(a == sysModules)=false∧∃ xs:List (List Key×Addr×Value),
   Paired (fun (p:List Key×V) (q:List Key×Addr×Value)=>p.1=q.1∧H q.2.1=some (.tup (p.1.map kV))∧RelV p.2 q.2.2) kvs xs∧
   ∃ o es ep,h.get? a=some o∧o.ExactDict∧o.data=.dict es ep∧es.toList=xs.map (entryOfKey (tupleKind (mixKind P w)))∧(xs.map (·.1)).Nodup
 | .set S n=>h.SetOf (intKind P w) a S n
 | .ins C dx fs=>H dx=some (.own a)∧fs.length≤1000∧dx≠a∧h.get? a=some (PySem.W.instObj C dx)∧
   ∃ mA,h.Ns1 dx mA∧(∀ f,RelO (fs.lookup f) (mA f))∧PySem.Within mA (fs.map (·.1))
 | .own _=>∃ o,h.get? a=some o
 | .xd fs=>∃ mA,h.Ns1 a mA∧∀ f,RelO (fs.lookup f) (mA f)
 | .rng lo hi=>∃ t u v,h.get? a=some { cls:=.type "range",data:=.fields #[.int lo t,.int hi u,.int 1 v] }
 | .frz o u=>h.get? a=some o∧ObjOk H h a u
 | .tbl ps=>h.get? a=some { cls:=.none,data:=.fields ps }
 | .met f x=>h.get? a=some (PySem.W.methodObj (.ref f) (.ref x))
 | .ext φ=>φ h∧(∃ o,h.get? a=some o)∧∀ h1 h2:Heap,φ h1→(∀ o,h1.get? a=some o→h2.get? a=some o)→φ h2
def HOk (H:Hp) (h:Heap):Prop:=∀ a o,H a=some o→ObjOk P w H h a o
end
section
variable {P:Program}{w:World}{H H':Hp}{h h':Heap}{a:Addr}{o:HO}
theorem ObjOk.lt (x:ObjOk P w H h a o):a < h.objs.size:=by
 cases o with
 | lst xs=>obtain ⟨_,_,_,_,e⟩:=x;exact Heap.lt_size e
 | tup xs=>obtain ⟨_,_,_,p⟩:=x;exact p.lt
 | dK kvs=>obtain ⟨_,_,_,_,o,_,_,e,_⟩:=x;exact Heap.lt_size e
 | dT kvs=>obtain ⟨_,_,_,_,o,_,_,e,_⟩:=x;exact Heap.lt_size e
 | set S n=>obtain ⟨o,_,_,_,e,_⟩:=x;exact Heap.lt_size e
 | ins C dx fs=>obtain ⟨_,_,_,e,_⟩:=x;exact Heap.lt_size e
 | own y=>obtain ⟨_,e⟩:=x;exact Heap.lt_size e
 | xd fs=>obtain ⟨_,⟨_,_,_,e,_⟩,_⟩:=x;exact Heap.lt_size e
 | rng lo hi=>obtain ⟨_,_,_,e⟩:=x;exact Heap.lt_size e
 | frz ob u=>obtain ⟨e,_⟩:=x;exact Heap.lt_size e
 | tbl ps=>exact Heap.lt_size (show h.get? a=some _ from x)
 | met f y=>exact Heap.lt_size (show h.get? a=some _ from x)
 | ext φ=>obtain ⟨_,⟨_,e⟩,_⟩:=x;exact Heap.lt_size e
theorem Paired.mapP {α β:Type}{F G:α→β→Prop}:∀ {l₁:List α}{l₂:List β},Paired F l₁ l₂→(∀ a b,F a b→G a b)→Paired G l₁ l₂
 | _,_,.nil,_=>.nil
 | _,_,.cons r t,f=>.cons (f _ _ r) (Paired.mapP t f)
theorem ObjOk.stay (x:ObjOk P w H h a o) (k:∀ b u,(b=a∨H b=some (.own a))→h.get? b=some u→h'.get? b=some u)
  (ho:∀ b,H b=some (.own a)→H' b=some (.own a)) (ht:∀ b xs,H b=some (.tup xs)→H' b=some (.tup xs)):ObjOk P w H' h' a o:=by
 induction o with
 | lst xs=>obtain ⟨z,its,n,r,e⟩:=x;exact ⟨z,its,n,r,k _ _ (.inl rfl) e⟩
 | tup xs=>obtain ⟨z,its,r,ob,e,c⟩:=x;exact ⟨z,its,r,ob,k _ _ (.inl rfl) e,c⟩
 | dK kvs=>obtain ⟨z,y,vs,r,ob,es,ep,e,c⟩:=x;exact ⟨z,y,vs,r,ob,es,ep,k _ _ (.inl rfl) e,c⟩
 | dT kvs=>
  obtain ⟨z,y,xs,r,ob,es,ep,e,c⟩:=x
  exact ⟨z,y,xs,Paired.mapP r fun p q z=>⟨z.1,ht _ _ z.2.1,z.2.2⟩,ob,es,ep,k _ _ (.inl rfl) e,c⟩
 | set S n=>obtain ⟨ob,es,ep,t,e,c⟩:=x;exact ⟨ob,es,ep,t,k _ _ (.inl rfl) e,c⟩
 | ins C dx fs=>
  obtain ⟨d,z,ne,e,mA,⟨od,es,ep,e2,c⟩,r⟩:=x
  exact ⟨ho _ d,z,ne,k _ _ (.inl rfl) e,mA,⟨od,es,ep,k _ _ (.inr d) e2,c⟩,r⟩
 | own y=>obtain ⟨ob,e⟩:=x;exact ⟨ob,k _ _ (.inl rfl) e⟩
 | xd fs=>obtain ⟨mA,⟨od,es,ep,e,c⟩,r⟩:=x;exact ⟨mA,⟨od,es,ep,k _ _ (.inl rfl) e,c⟩,r⟩
 | rng lo hi=>obtain ⟨t,u,v,e⟩:=x;exact ⟨t,u,v,k _ _ (.inl rfl) e⟩
 | frz ob u ih=>obtain ⟨e,q⟩:=x;exact ⟨k _ _ (.inl rfl) e,ih q⟩
 | tbl ps=>
  have e:h.get? a=some { cls:=.none,data:=.fields ps }:=x
  show h'.get? a=some { cls:=.none,data:=.fields ps }
  exact k a _ (.inl rfl) e
 | met f y=>
  have e:h.get? a=some (PySem.W.methodObj (.ref f) (.ref y)):=x
  show h'.get? a=some (PySem.W.methodObj (.ref f) (.ref y))
  exact k a _ (.inl rfl) e
 | ext φ=>obtain ⟨p,⟨o,e⟩,st⟩:=x;exact ⟨st _ _ p fun o q=>k _ _ (.inl rfl) q,⟨o,k _ _ (.inl rfl) e⟩,st⟩
theorem HOk.lt (x:HOk P w H h) (e:H a=some o):a < h.objs.size:=(x a o e).lt
theorem HOk.fresh (x:HOk P w H h) (e:h.objs.size≤a):H a=none:=by
 cases q:H a with
 | none=>rfl
 | some u=>exact absurd (Nat.lt_of_lt_of_le (x.lt q) e) (Nat.lt_irrefl _)
theorem HOk.kept (x:HOk P w H h) (k:∀ b u,h.get? b=some u→h'.get? b=some u):HOk P w H h':=fun a o e=>
 (x a o e).stay (fun b u _ q=>k b u q) (fun _ q=>q) fun _ _ q=>q
theorem HOk.laid (x:HOk P w H h) (k:∀ b u,h.get? b=some u→h'.get? b=some u) (hp:h.objs.size≤a) (new:ObjOk P w (upd H a o) h' a o):HOk P w (upd H a o) h':=fun b u e=>by
 have hn:=x.fresh hp
 by_cases hb:b=a
 ·subst hb;rw[upd_same] at e;cases e;exact new
 ·rw[upd_ne hb] at e
  exact (x b u e).stay (fun c v _ q=>k c v q) (fun c q=>by rw[upd_ne (ne_of_none q hn)];exact q) fun c xs q=>by rw[upd_ne (ne_of_none q hn)];exact q
end
def Rd (H:Hp) (a:Addr) (u:HO):Prop:=H a=some u∨∃ o,H a=some (.frz o u)
theorem Rd.ok {P:Program}{w:World}{H:Hp}{h:Heap}{a:Addr}{u:HO} (r:Rd H a u) (x:HOk P w H h):ObjOk P w H h a u:=by
 rcases r with r | ⟨o,r⟩
 ·exact x a u r
 ·obtain ⟨_,q⟩:=x a _ r
  exact q
def Mut:Option HO→Prop
 | some (.lst _)=>True
 | some (.dK _)=>True
 | some (.dT _)=>True
 | some (.set _ _)=>True
 | some (.ins _ _ _)=>True
 | some (.ext _)=>True
 | _=>False
section
variable {P:Program}{w:World}{H:Hp}{h h':Heap}{x e:Addr}{o':HO}
theorem HOk.write (ok:HOk P w H h) (mu:Mut (H x)) (he:e=x∨H e=some (.own x)) (k:∀ b u,b≠e→h.get? b=some u→h'.get? b=some u) (heo:∃ u,h'.get? e=some u)
  (new:ObjOk P w (upd H x o') h' x o'):HOk P w (upd H x o') h':=fun b u q=>by
 have nown:∀ c y,H c=some (.own y)→c≠x:=fun c y r z=>by subst z;rw[r] at mu;exact mu
 have ntup:∀ c xs,H c=some (.tup xs)→c≠x:=fun c xs r z=>by subst z;rw[r] at mu;exact mu
 by_cases hb:b=x
 ·subst hb;rw[upd_same] at q;cases q;exact new
 ·rw[upd_ne hb] at q
  by_cases hbe:b=e
  ·have q':H b=some (.own x):=by
    rcases he with z | z
    ·exact absurd (hbe.trans z) hb
    ·rw[hbe];exact z
   rw[q] at q';cases q'
   obtain ⟨v,hv⟩:=heo
   exact ⟨v,by rw[hbe];exact hv⟩
  ·refine (ok b u q).stay (fun c v hc r=>k c v ?_ r) (fun c r=>by rw[upd_ne (nown c b r)];exact r) fun c xs r=>by rw[upd_ne (ntup c xs r)];exact r
   rcases hc with rfl | hc
   ·exact hbe
   ·rintro rfl
    rcases he with z | z
    ·exact nown c b hc z
    ·rw[hc] at z;cases z;exact hb rfl
end
structure Un (fs ex:List Addr) (H H':Hp) (h h':Heap):Prop where
 keep:∀ b o,h.get? b=some o→H b=none→b ∉ fs→b ∉ ex→h'.get? b=some o
 slot:∀ b o,h.get? b=some o→H b=none→b∈fs→b ∉ ex→∃ sl,h'.get? b=some { o with slots:=sl }
 free:∀ b o,h.get? b=some o→H b=none→b ∉ ex→H' b=none
 there:∀ b o,h.get? b=some o→b ∉ ex→∃ o',h'.get? b=some o'
 tups:∀ b xs,H b=some (.tup xs)→H' b=some (.tup xs)
 frzs:∀ b o u,H b=some (.frz o u)→H' b=some (.frz o u)
 tbls:∀ b ps,H b=some (.tbl ps)→∃ more,H' b=some (.tbl (ps ++ more))
section
variable {fs fs' ex ex':List Addr}{H H1 H2:Hp}{h h1 h2 h':Heap}{a x e:Addr}{o:HO}
theorem Un.any (u:Un fs ex H H1 h h1) {b:Addr}{ob:Obj} (q:h.get? b=some ob) (n:H b=none) (hx:b ∉ ex):∃ sl,h1.get? b=some { ob with slots:=sl }:=by
 by_cases hb:b∈fs
 ·exact u.slot b ob q n hb hx
 ·exact ⟨ob.slots,u.keep b ob q n hb hx⟩
theorem Un.kept (k:∀ b u,h.get? b=some u→h'.get? b=some u):Un fs ex H H h h':=
 ⟨fun b ob q _ _ _=>k b ob q,fun b ob q _ _ _=>⟨ob.slots,k b ob q⟩,fun _ _ _ n _=>n,fun b ob q _=>⟨ob,k b ob q⟩,fun _ _ q=>q,fun _ _ _ q=>q,fun _ ps q=>⟨#[],by rw[q];simp⟩⟩
theorem Un.refl:Un fs ex H H h h:=Un.kept fun _ _ q=>q
theorem Un.laid (k:∀ b u,h.get? b=some u→h'.get? b=some u) (hp:h.objs.size≤a) (hn:H a=none):Un fs ex H (upd H a o) h h' where
 keep:=fun b u q _ _ _=>k b u q
 slot:=fun b u q _ _ _=>⟨u.slots,k b u q⟩
 free:=fun b u q n _=>by rw[upd_ne (Nat.ne_of_lt (Nat.lt_of_lt_of_le (Heap.lt_size q) hp))];exact n
 there:=fun b u q _=>⟨u,k b u q⟩
 tups:=fun b xs q=>by rw[upd_ne (ne_of_none q hn)];exact q
 frzs:=fun b u xs q=>by rw[upd_ne (ne_of_none q hn)];exact q
 tbls:=fun b ps q=>⟨#[],by rw[upd_ne (ne_of_none q hn),q];simp⟩
theorem Un.write (mu:Mut (H x)) (he:e=x∨H e=some (.own x)) (k:∀ b u,b≠e→h.get? b=some u→h'.get? b=some u) (heo:∃ u,h'.get? e=some u):Un fs ex H (upd H x o) h h':=by
 have hx:∀ b,H b=none→b≠x:=fun b n z=>by subst z;rw[n] at mu;exact mu
 have hb:∀ b,H b=none→b≠e:=fun b n z=>by
  subst z
  rcases he with r | r
  ·exact hx b n r
  ·rw[n] at r;cases r
 have hm:∀ b u,H b=some u→¬ Mut (some u)→b≠x:=fun b u q nm z=>by subst z;rw[q] at mu;exact nm mu
 refine ⟨fun b u q n _ _=>k b u (hb b n) q,fun b u q n _ _=>⟨u.slots,k b u (hb b n) q⟩,fun b u q n _=>by rw[upd_ne (hx b n)];exact n,fun b u q _=>?_,
  fun b xs q=>by rw[upd_ne (hm b _ q fun z=>z)];exact q,fun b u xs q=>by rw[upd_ne (hm b _ q fun z=>z)];exact q,fun b ps q=>⟨#[],by rw[upd_ne (hm b _ q fun z=>z),q];simp⟩⟩
 by_cases hbe:b=e
 ·subst hbe;exact heo
 ·exact ⟨u,k b u hbe q⟩
end
def trk (h:Heap) (H:Hp):List Addr:=(List.range h.objs.size).filter fun a=>(H a).isSome
def hidT (h:Heap) (H:Hp):Heap:=PySem.W.hideAll h (trk h H)
theorem hidT_size (h:Heap) (H:Hp):(hidT h H).objs.size=h.objs.size:=PySem.W.hideAll_size _ _
theorem hidT_get {h:Heap}{H:Hp}{b:Addr}{o:Obj} (e:h.get? b=some o) (n:H b=none):(hidT h H).get? b=some o:=
 PySem.W.hideAll_get _ e fun hm=>by
  have q:(H b).isSome=true:=(List.mem_filter.mp hm).2
  rw[n] at q;simp at q
theorem of_hidT {h:Heap}{H:Hp}{b:Addr}{o:Obj} (e:(hidT h H).get? b=some o):h.get? b=some o∧H b=none:=by
 have e':h.get? b=some o:=PySem.W.of_hideAll (trk h H) e
 refine ⟨e',?_⟩
 cases q:H b with
 | none=>rfl
 | some x=>
  have hm:b∈trk h H:=List.mem_filter.mpr ⟨List.mem_range.mpr (Heap.lt_size e'),by simp[q]⟩
  have z:(hidT h H).get? b=none:=PySem.W.hideAll_none (trk h H) hm
  rw[z] at e;cases e
def allNews (g h:Heap) (L:Addr):List (Addr×Obj):=(List.range h.objs.size).filterMap fun a=>if a=L∨(g.get? a).isSome=true then none else (h.get? a).map fun o=>(a,o)
def rest (g h:Heap) (L d:Addr):List (Addr×Obj):=(allNews g h L).filter fun p=>decide (p.1≠d)
end L2
namespace L2
open PySem PySem.Spec PyProof.Rows
structure Mod (K:PySem.W.Frag) (mg:Str→Option Value) (base:Heap):Prop where
 kin:K.In base
 glob:base.Ns mainGlobals mg
 blt:∃ mb,base.Ns builtinsNs mb∧∀ x:Str,x≠"__name__"→mb x=bootBuiltins x
 nolimit:base.NoLimit
structure Cx where
 prog:Program
 w:World
 K:PySem.W.Frag
 mg:Str→Option Value
 base:Heap
 A:Around
 N:List Str
 s₀:Shared
 H₀:Hp
 env:Env
 outer:List Env
 stack:List Env
 ex:List Addr
 fn:Str→Bool
 calm:Bool
 pn:List (Addr×Obj)
 xe:Value→Shared→Prop
def frs (l:List Env):List Addr:=l.filterMap (·.frame)
abbrev Cx.fs (X:Cx):List Addr:=frs X.outer
def Vis (sc:Scope) (x:Str):Prop:=sc.names.lookup x=some .local∨sc.names.lookup x=some .cell∨sc.names.lookup x=some .free
def Loc (sc:Scope) (x:Str):Prop:=sc.names.lookup x=some .local∨sc.names.lookup x=some .cell
def Look (env:Env) (h:Heap) (m:Str→Option Value) (x:Str) (u:Value):Prop:=
 (env.kindOf x=some .local∧m x=some u)∨((env.kindOf x=some .cell∨env.kindOf x=some .free)∧∃ c,env.cells.lookup x=some c∧h.IsCell c (some u))
structure Cx.Ok (X:Cx):Prop where
 mod:Mod X.K X.mg X.base
 kind:X.env.scope.kind=.function
 glob:X.env.globals=mainGlobals
 blt:X.env.builtins=builtinsNs
 above:X.s₀.heap.objs.size≤X.env.locals
 inj:∀ x y c,X.env.cells.lookup x=some c→X.env.cells.lookup y=some c→x=y
 has:∀ x,(X.env.kindOf x=some .cell∨X.env.kindOf x=some .free)→∃ c,X.env.cells.lookup x=some c
 cab:∀ x c,X.fn x=true→X.env.cells.lookup x=some c→X.s₀.heap.objs.size≤c
 hd:X.calm=true→X.A.handled=none
 frames:X.A.frames=some X.stack
 stk:X.stack=X.outer∨(X.stack=X.env :: X.outer∧X.env.frame=some X.env.locals)
 exf:∀ b∈X.ex,b≠X.env.locals∧∀ x c,X.env.cells.lookup x=some c→c≠b
 bs:∀ b o,X.base.get? b=some o→X.s₀.heap.get? b=some o∧X.H₀ b=none
 bsz:X.base.objs.size≤X.s₀.heap.objs.size
 noex:∀ b o,X.base.get? b=some o→b ∉ X.ex
 exfs:∀ b∈X.ex,b ∉ X.fs
 funs:X.s₀.heap.FunFrames X.base X.outer
 frf:∀ b∈X.fs,X.H₀ b=none
structure Inv (X:Cx) (pins:List (Addr×Obj)) (σ:List (Option V)) (H:Hp) (s:Shared):Prop where
 ok:X.Ok
 os:s.os=X.s₀.os
 bare:AllBare s.gens
 base:Un X.fs X.ex X.H₀ H X.s₀.heap s.heap
 loc:∃ m,s.heap.Ns X.env.locals m∧∀ (i:Nat) (x:Str) (v:V),X.N[i]?=some x→σ[i]?=some (some v)→Vis X.env.scope x→∃ u,RelV v u∧Look X.env s.heap m x u
 cell:∀ x c,X.env.cells.lookup x=some c→∃ v,s.heap.IsCell c v
 free:H X.env.locals=none
 freeC:∀ x c,X.env.cells.lookup x=some c→H c=none
 pin:∀ p∈X.pn ++ pins,s.heap.get? p.1=some p.2∧H p.1=none∧p.1≠X.env.locals∧p.1 ∉ X.fs∧∀ v,p.2.data≠.cell v
 hok:HOk X.prog X.w H s.heap
 len:σ.length=X.N.length
section
variable {X:Cx}{pins:List (Addr×Obj)}{σ:List (Option V)}{H H':Hp}{s:Shared}{h':Heap}
theorem Cx.Ok.nofr (ok:X.Ok) {b:Addr}{o:Obj} (e:X.base.get? b=some o):b ∉ X.fs:=fun hb=>by
 have:=(ok.funs.mem hb).1
 rw[e] at this;cases this
theorem Inv.bs (I:Inv X pins σ H s):∀ b o,X.base.get? b=some o→s.heap.get? b=some o∧H b=none:=fun b o e=>
 ⟨I.base.keep b o (I.ok.bs b o e).1 (I.ok.bs b o e).2 (I.ok.nofr e) (I.ok.noex b o e),I.base.free b o (I.ok.bs b o e).1 (I.ok.bs b o e).2 (I.ok.noex b o e)⟩
theorem Inv.bk (I:Inv X pins σ H s):∀ b o,X.base.get? b=some o→s.heap.get? b=some o:=fun b o e=>(I.bs b o e).1
theorem Inv.mod (I:Inv X pins σ H s):Mod X.K X.mg X.base:=I.ok.mod
theorem Inv.kIn (I:Inv X pins σ H s):X.K.In s.heap:=I.ok.mod.kin.keeps I.bk
theorem Inv.lt (I:Inv X pins σ H s):X.env.locals < s.heap.objs.size:=let ⟨_,hn,_⟩:=I.loc;hn.lt
theorem Inv.sz (I:Inv X pins σ H s):X.s₀.heap.objs.size≤s.heap.objs.size:=Nat.le_trans I.ok.above (Nat.le_of_lt I.lt)
theorem Inv.nofs (I:Inv X pins σ H s) {a:Addr} (h:s.heap.objs.size≤a):a ∉ X.fs:=fun hb=>by
 obtain ⟨_,o,ho,_⟩:=I.ok.funs.mem hb
 exact absurd (Nat.lt_of_lt_of_le (Heap.lt_size ho) (Nat.le_trans I.sz h)) (Nat.lt_irrefl _)
theorem Inv.cne (I:Inv X pins σ H s):∀ x c,X.env.cells.lookup x=some c→c≠X.env.locals:=fun x c e z=>by
 obtain ⟨v,o,ho,hd⟩:=I.cell x c e
 obtain ⟨m,⟨o',es,ep,ho',hd',_⟩,_⟩:=I.loc
 rw[z,ho'] at ho;cases ho;rw[hd'] at hd;cases hd
theorem Inv.funs (I:Inv X pins σ H s):s.heap.FunFrames X.base X.outer:=by
 have all:∀ (l:List Env),(∀ b∈frs l,b∈X.fs)→X.s₀.heap.FunFrames X.base l→s.heap.FunFrames X.base l:=by
  intro l
  induction l with
  | nil=>intro _ _;trivial
  | cons env r ih=>
   intro hs hl
   obtain ⟨hk,⟨L,o,hf,hn,ho,hd⟩,hr⟩:=hl
   have hL:L∈X.fs:=hs L (by unfold frs;rw[List.filterMap_cons,hf];exact List.mem_cons_self)
   obtain ⟨sl,e⟩:=I.base.slot L o ho (I.ok.frf L hL) hL fun z=>I.ok.exfs L z hL
   exact ⟨hk,⟨L,_,hf,hn,e,hd⟩,ih (fun b hb=>hs b (by unfold frs;rw[List.filterMap_cons,hf];exact List.mem_cons_of_mem _ hb)) hr⟩
 exact all X.outer (fun _ hb=>hb) I.ok.funs
theorem Inv.stack (I:Inv X pins σ H s):s.heap.FunFrames X.base X.stack:=by
 rcases I.ok.stk with e | ⟨e,hf⟩
 ·rw[e];exact I.funs
 ·rw[e]
  obtain ⟨m,hn,_⟩:=I.loc
  refine .cons (by rw[I.ok.kind];decide) hf hn ?_ I.funs
  exact Heap.get?_none_of_le (Nat.le_trans I.ok.bsz I.ok.above)
theorem Inv.stkSub (I:Inv X pins σ H s):∀ b∈frs X.stack,b∈X.env.locals :: X.fs:=fun b hb=>by
 rcases I.ok.stk with e | ⟨e,hf⟩
 ·rw[e] at hb;exact List.mem_cons_of_mem _ hb
 ·rw[e] at hb
  unfold frs at hb
  rw[List.filterMap_cons,hf] at hb
  exact hb
theorem Inv.stkFree (I:Inv X pins σ H s):∀ b∈frs X.stack,H b=none:=fun b hb=>by
 rcases List.mem_cons.mp (I.stkSub b hb) with e | hb
 ·rw[e];exact I.free
 ·obtain ⟨_,o,ho,_⟩:=I.ok.funs.mem hb
  exact I.base.free b o ho (I.ok.frf b hb) fun z=>I.ok.exfs b z hb
theorem Inv.step {g':Array GenState}{t':Nat}{d':Drawn}{ch:List Addr} (I:Inv X pins σ H s)
  (hch:∀ b∈ch,(b∈X.ex∨X.s₀.heap.objs.size≤b)∧b≠X.env.locals∧(∀ x c,X.env.cells.lookup x=some c→c≠b)∧∀ p∈X.pn ++ pins,p.1≠b)
  (keep:∀ b o,b≠X.env.locals→b ∉ X.fs→b ∉ ch→s.heap.get? b=some o→H b=none→h'.get? b=some o)
  (slot:∀ b o,b≠X.env.locals→b∈X.fs→b ∉ ch→s.heap.get? b=some o→H b=none→∃ sl,h'.get? b=some { o with slots:=sl }) (free:∀ b o,b ∉ ch→s.heap.get? b=some o→H b=none→H' b=none)
  (there:∀ b o,b ∉ ch→s.heap.get? b=some o→∃ o',h'.get? b=some o')
  (tups:∀ b xs,H b=some (.tup xs)→H' b=some (.tup xs)) (frzs:∀ b o u,H b=some (.frz o u)→H' b=some (.frz o u)) (tbls:∀ b ps,H b=some (.tbl ps)→∃ more,H' b=some (.tbl (ps ++ more)))
  (ns:∀ m,s.heap.Ns X.env.locals m→h'.Ns X.env.locals m) (hok:HOk X.prog X.w H' h') (hg:AllBare g'):
  Inv X pins σ H' { s with heap:=h',gens:=g',drawn:=d',toks:=t' }:=by
 have neL:∀ b o,X.s₀.heap.get? b=some o→b≠X.env.locals:=fun b o e=>Nat.ne_of_lt (Nat.lt_of_lt_of_le (Heap.lt_size e) I.ok.above)
 have neC:∀ b o,X.s₀.heap.get? b=some o→b ∉ X.ex→b ∉ ch:=fun b o e hx hb=>by
  rcases (hch b hb).1 with z | z
  ·exact hx z
  ·exact absurd (Nat.lt_of_lt_of_le (Heap.lt_size e) z) (Nat.lt_irrefl _)
 have cellK:∀ x c,X.env.cells.lookup x=some c→∀ v,s.heap.IsCell c v→h'.IsCell c v:=fun x c e v ⟨o,ho,hd⟩=>by
  have nch:c ∉ ch:=fun z=>(hch c z).2.2.1 x c e rfl
  by_cases hc:c∈X.fs
  ·obtain ⟨sl,q⟩:=slot c o (I.cne x c e) hc nch ho (I.freeC x c e)
   exact ⟨_,q,hd⟩
  ·exact ⟨o,keep c o (I.cne x c e) hc nch ho (I.freeC x c e),hd⟩
 refine ⟨I.ok,I.os,hg,⟨fun b o e n hb hx=>?_,fun b o e n hb hx=>?_,fun b o e n hx=>?_,fun b o e hx=>?_,fun b xs e=>tups b xs (I.base.tups b xs e),fun b o xs e=>frzs b o xs (I.base.frzs b o xs e),fun b ps e=>?_⟩,?_,fun x c e=>?_,?_,fun x c e=>?_,fun p hp=>?_,hok,I.len⟩
 ·exact keep b o (neL b o e) hb (neC b o e hx) (I.base.keep b o e n hb hx) (I.base.free b o e n hx)
 ·obtain ⟨sl,e1⟩:=I.base.slot b o e n hb hx
  obtain ⟨sl',e2⟩:=slot b _ (neL b o e) hb (neC b o e hx) e1 (I.base.free b o e n hx)
  exact ⟨sl',e2⟩
 ·obtain ⟨o',e1⟩:=I.base.there b o e hx
  exact free b o' (neC b o e hx) e1 (I.base.free b o e n hx)
 ·obtain ⟨o',e1⟩:=I.base.there b o e hx
  exact there b o' (neC b o e hx) e1
 ·obtain ⟨m1,e1⟩:=I.base.tbls b ps e
  obtain ⟨m2,e2⟩:=tbls b _ e1
  exact ⟨m1 ++ m2,by rw[e2,Array.append_assoc]⟩
 ·obtain ⟨m,hn,hl⟩:=I.loc
  refine ⟨m,ns m hn,fun i x v e1 e2 e3=>?_⟩
  obtain ⟨u,r,l⟩:=hl i x v e1 e2 e3
  refine ⟨u,r,?_⟩
  rcases l with l | ⟨k,c,e,z⟩
  ·exact .inl l
  ·exact .inr ⟨k,c,e,cellK x c e _ z⟩
 ·obtain ⟨v,z⟩:=I.cell x c e
  exact ⟨v,cellK x c e v z⟩
 ·obtain ⟨m,⟨o,_,_,ho,_⟩,_⟩:=I.loc
  exact free _ o (fun z=>(hch _ z).2.1 rfl) ho I.free
 ·obtain ⟨v,o,ho,hd⟩:=I.cell x c e
  exact free c o (fun z=>(hch c z).2.2.1 x c e rfl) ho (I.freeC x c e)
 ·obtain ⟨e,n,ne,nf,d⟩:=I.pin p hp
  have nch:p.1 ∉ ch:=fun z=>(hch p.1 z).2.2.2 p hp rfl
  exact ⟨keep p.1 p.2 ne nf nch e n,free p.1 p.2 nch e n,ne,nf,d⟩
theorem Inv.un {t':Nat} (I:Inv X pins σ H s) (u:Un X.fs [] H H' s.heap h') (hok:HOk X.prog X.w H' h'):Inv X pins σ H' { s with heap:=h',toks:=t' }:=by
 obtain ⟨m,⟨o,es,ep,ho,r⟩,_⟩:=id I.loc
 obtain ⟨sl,hL⟩:=u.any ho I.free (by simp)
 exact I.step (g':=s.gens) (d':=s.drawn) (ch:=[]) (fun _ z=>nomatch z) (fun b o _ hb _ e n=>u.keep b o e n hb (by simp)) (fun b o _ hb _ e n=>u.slot b o e n hb (by simp)) (fun b o _ e n=>u.free b o e n (by simp)) (fun b o _ e=>u.there b o e (by simp)) u.tups u.frzs u.tbls (fun m' hm=>by
  obtain ⟨o',es',ep',ho',r'⟩:=hm
  rw[ho] at ho';cases ho'
  exact ⟨_,es',ep',hL,r'⟩) hok I.bare
theorem Inv.call {g':Array GenState}{t':Nat}{d':Drawn}{ch:List Addr} (I:Inv X pins σ H s) (u:Un (frs X.stack) ch H H' s.heap h') (hok:HOk X.prog X.w H' h') (hg:AllBare g')
  (hch:∀ b∈ch,(b∈X.ex∨X.s₀.heap.objs.size≤b)∧b≠X.env.locals∧(∀ x c,X.env.cells.lookup x=some c→c≠b)∧∀ p∈X.pn ++ pins,p.1≠b):
  Inv X pins σ H' { s with heap:=h',gens:=g',drawn:=d',toks:=t' }:=by
 obtain ⟨m,⟨o,es,ep,ho,r⟩,_⟩:=id I.loc
 obtain ⟨sl,hL⟩:=u.any ho I.free fun z=>(hch _ z).2.1 rfl
 exact I.step (ch:=ch) hch (fun b o hL hb hc e n=>u.keep b o e n (fun z=>(List.mem_cons.mp (I.stkSub b z)).elim hL hb) hc) (fun b o _ _ hc e n=>u.any e n hc) (fun b o hc e n=>u.free b o e n hc) (fun b o hc e=>u.there b o e hc) u.tups u.frzs u.tbls (fun m' hm=>by
  obtain ⟨o',es',ep',ho',r'⟩:=hm
  rw[ho] at ho';cases ho'
  exact ⟨_,es',ep',hL,r'⟩) hok hg
theorem Inv.turned {t':Nat}{it:Addr} (I:Inv X pins σ H s) (k:∀ b o,b≠it→s.heap.get? b=some o→h'.get? b=some o) (hn:H it=none) (hL:it≠X.env.locals)
  (h1:it∈X.ex∨X.s₀.heap.objs.size≤it) (h2:∀ x c,X.env.cells.lookup x=some c→c≠it) (h3:∀ p∈X.pn ++ pins,p.1≠it):Inv X pins σ H { s with heap:=h',toks:=t' }:=by
 have nit:∀ b u,H b=some u→b≠it:=fun b u e z=>by rw[z,hn] at e;cases e
 refine I.step (g':=s.gens) (d':=s.drawn) (ch:=[it]) (fun b hb=>?_) (fun b o _ _ hc e _=>k b o (fun z=>hc (by simp[z])) e) (fun b o _ _ hc e _=>⟨o.slots,k b o (fun z=>hc (by simp[z])) e⟩) (fun _ _ _ _ n=>n)
  (fun b o hc e=>⟨o,k b o (fun z=>hc (by simp[z])) e⟩) (fun _ _ e=>e) (fun _ _ _ e=>e) (fun b ps e=>⟨#[],by rw[e];simp⟩) (fun m hm=>?_) (fun b u e=>?_) I.bare
 ·have e:b=it:=by simpa using hb
  subst e
  exact ⟨h1,hL,h2,h3⟩
 ·obtain ⟨o,es,ep,ho,r⟩:=hm
  exact ⟨o,es,ep,k _ o (Ne.symm hL) ho,r⟩
 ·refine (I.hok b u e).stay (fun c v hc q=>k c v ?_ q) (fun _ q=>q) fun _ _ q=>q
  rcases hc with z | z
  ·rw[z];exact nit b u e
  ·exact nit c _ z
theorem Inv.tok (I:Inv X pins σ H s) (t:Nat):Inv X pins σ H { s with toks:=t }:=I.un (h':=s.heap) (t':=t) Un.refl I.hok
theorem Inv.kept {t':Nat} (I:Inv X pins σ H s) (k:∀ b u,s.heap.get? b=some u→h'.get? b=some u):Inv X pins σ H { s with heap:=h',toks:=t' }:=I.un (Un.kept k) (I.hok.kept k)
theorem Inv.laid {a:Addr}{o:HO}{t':Nat} (I:Inv X pins σ H s) (k:∀ b u,s.heap.get? b=some u→h'.get? b=some u) (hp:s.heap.objs.size≤a) (new:ObjOk X.prog X.w (upd H a o) h' a o):
  Inv X pins σ (upd H a o) { s with heap:=h',toks:=t' }:=I.un (Un.laid k hp (I.hok.fresh hp)) (I.hok.laid k hp new)
theorem Inv.write {x e:Addr}{o:HO}{t':Nat} (I:Inv X pins σ H s) (mu:Mut (H x)) (he:e=x∨H e=some (.own x)) (k:∀ b u,b≠e→s.heap.get? b=some u→h'.get? b=some u) (heo:∃ u,h'.get? e=some u)
  (new:ObjOk X.prog X.w (upd H x o) h' x o):Inv X pins σ (upd H x o) { s with heap:=h',toks:=t' }:=I.un (Un.write mu he k heo) (I.hok.write mu he k heo new)
theorem Inv.pins_of {pins':List (Addr×Obj)} (I:Inv X pins σ H s) (h:∀ p∈pins',s.heap.get? p.1=some p.2∧H p.1=none∧p.1≠X.env.locals∧p.1 ∉ X.fs∧∀ v,p.2.data≠.cell v):Inv X pins' σ H s:=
 ⟨I.ok,I.os,I.bare,I.base,I.loc,I.cell,I.free,I.freeC,fun p hp=>(List.mem_append.mp hp).elim (fun z=>I.pin p (List.mem_append_left _ z)) (h p),I.hok,I.len⟩
theorem nodup_ix {N:List Str} (hN:N.Nodup) {i j:Nat}{x:Str} (a:N[i]?=some x) (b:N[j]?=some x):i=j:=by
 obtain ⟨h1,e1⟩:=List.getElem?_eq_some_iff.mp a
 obtain ⟨h2,e2⟩:=List.getElem?_eq_some_iff.mp b
 exact (List.getElem_inj hN).mp (e1.trans e2.symm)
theorem store_ok2 {M:Model}{A:Around}{E:Value→Shared→Prop}{i:Nat}{x:Str}{v:V}{u:Value}{Q:Unit→Shared→Prop} (I:Inv X pins σ H s) (hN:X.N.Nodup) (hi:X.N[i]?=some x) (hx:Loc X.env.scope x) (r:RelV v u)
  (h:∀ s',Inv X pins (σ.set i (some v)) H s'→(∃ a,Heap.SameBut a s.heap s'.heap∧(a=X.env.locals∨X.env.cells.lookup x=some a))→Q () s') (hf:X.fn x=true∨X.env.scope.names.lookup x=some .local:=by first | exact .inl rfl | exact .inr rfl | assumption):wpAny M A (storeName X.env x u) Q E s:=by
 obtain ⟨m,hn,hl⟩:=id I.loc
 have hcls:(X.env.scope.kind == .class || (X.env.scope.kind == .module && X.env.locals != X.env.globals))=false:=by rw[I.ok.kind];rfl
 have hiσ:i < σ.length:=by rw[I.len];exact (List.getElem?_eq_some_iff.mp hi).1
 have cne:=I.cne
 have tracked:∀ {a:Addr} {h':Heap},(∃ o,s.heap.get? a=some o∧H a=none)→Heap.SameBut a s.heap h'→HOk X.prog X.w H h':=fun {a h'} ha hs b ob e=>by
  obtain ⟨_,_,hfree⟩:=ha
  refine (I.hok b ob e).stay (fun c w' hc q=>(hs.2 c ?_).trans q) (fun _ q=>q) fun _ _ q=>q
  rintro rfl
  rcases hc with rfl | hc
  ·rw[hfree] at e;cases e
  ·rw[hfree] at hc;cases hc
 rcases hx with hk | hk
 ·refine wpAny_storeName_local hk hn (fun h' hn' hs=>?_) hcls
  obtain ⟨oL,_,_,hoL,_⟩:=id hn
  refine h _ ⟨I.ok,I.os,I.bare,⟨fun b o e n hb hx=>?_,fun b o e n hb hx=>?_,I.base.free,fun b o e hx=>?_,I.base.tups,I.base.frzs,I.base.tbls⟩,⟨_,hn',fun j y v' e1 e2 e3=>?_⟩,fun y c e=>?_,I.free,I.freeC,fun p hp=>?_,tracked ⟨oL,hoL,I.free⟩ hs,by simpa using I.len⟩ ⟨_,hs,.inl rfl⟩
  ·exact (hs.2 b (Nat.ne_of_lt (Nat.lt_of_lt_of_le (Heap.lt_size e) I.ok.above))).trans (I.base.keep b o e n hb hx)
  ·obtain ⟨sl,e1⟩:=I.base.slot b o e n hb hx
   exact ⟨sl,(hs.2 b (Nat.ne_of_lt (Nat.lt_of_lt_of_le (Heap.lt_size e) I.ok.above))).trans e1⟩
  ·obtain ⟨o',e1⟩:=I.base.there b o e hx
   exact ⟨o',(hs.2 b (Nat.ne_of_lt (Nat.lt_of_lt_of_le (Heap.lt_size e) I.ok.above))).trans e1⟩
  ·by_cases hj:j=i
   ·subst hj
    rw[hi] at e1;cases e1
    rw[List.getElem?_set_self hiσ] at e2
    cases e2
    exact ⟨u,r,.inl ⟨hk,by simp⟩⟩
   ·rw[List.getElem?_set_ne (Ne.symm hj)] at e2
    obtain ⟨u',r',q⟩:=hl j y v' e1 e2 e3
    refine ⟨u',r',?_⟩
    rcases q with ⟨k,e⟩ | ⟨k,c,e,z⟩
    ·refine .inl ⟨k,?_⟩
     have:y≠x:=fun e=>hj (nodup_ix hN e1 (e ▸ hi))
     simp[this,e]
    ·exact .inr ⟨k,c,e,z.sameBut hs (cne y c e)⟩
  ·obtain ⟨w',z⟩:=I.cell y c e
   exact ⟨w',z.sameBut hs (cne y c e)⟩
  ·obtain ⟨e,n,ne,nf,d⟩:=I.pin p hp
   exact ⟨(hs.2 p.1 ne).trans e,n,ne,nf,d⟩
 ·have hfn:X.fn x=true:=by
   rcases hf with z | z
   ·exact z
   ·rw[z] at hk;cases hk
  obtain ⟨c,hc⟩:=I.ok.has x (.inl hk)
  obtain ⟨w',z⟩:=I.cell x c hc
  refine wpAny_storeName_cell I.ok.kind hk hc z (fun h' hc' hs=>?_)
  obtain ⟨oc,hoc,hocd⟩:=id z
  refine h { s with heap:=h' } ⟨I.ok,I.os,I.bare,⟨fun b o e n hb hx=>?_,fun b o e n hb hx=>?_,I.base.free,fun b o e hx=>?_,I.base.tups,I.base.frzs,I.base.tbls⟩,⟨m,hn.sameBut hs (Ne.symm (cne x c hc)),fun j y v' e1 e2 e3=>?_⟩,fun y c' e=>?_,I.free,I.freeC,fun p hp=>?_,tracked ⟨oc,hoc,I.freeC x c hc⟩ hs,by simpa using I.len⟩ ⟨c,hs,.inr hc⟩
  ·exact (hs.2 b (Nat.ne_of_lt (Nat.lt_of_lt_of_le (Heap.lt_size e) (I.ok.cab x c hfn hc)))).trans (I.base.keep b o e n hb hx)
  ·obtain ⟨sl,e1⟩:=I.base.slot b o e n hb hx
   exact ⟨sl,(hs.2 b (Nat.ne_of_lt (Nat.lt_of_lt_of_le (Heap.lt_size e) (I.ok.cab x c hfn hc)))).trans e1⟩
  ·obtain ⟨o',e1⟩:=I.base.there b o e hx
   exact ⟨o',(hs.2 b (Nat.ne_of_lt (Nat.lt_of_lt_of_le (Heap.lt_size e) (I.ok.cab x c hfn hc)))).trans e1⟩
  ·by_cases hj:j=i
   ·subst hj
    rw[hi] at e1;cases e1
    rw[List.getElem?_set_self hiσ] at e2
    cases e2
    exact ⟨u,r,.inr ⟨.inl hk,c,hc,hc'⟩⟩
   ·rw[List.getElem?_set_ne (Ne.symm hj)] at e2
    obtain ⟨u',r',q⟩:=hl j y v' e1 e2 e3
    refine ⟨u',r',?_⟩
    rcases q with q | ⟨k,c',e,z'⟩
    ·exact .inl q
    ·refine .inr ⟨k,c',e,z'.sameBut hs ?_⟩
     rintro rfl
     exact hj (nodup_ix hN e1 (I.ok.inj _ _ _ e hc ▸ hi))
  ·by_cases hcc:c'=c
   ·subst hcc;exact ⟨_,hc'⟩
   ·obtain ⟨w2,z2⟩:=I.cell y c' e
    exact ⟨w2,z2.sameBut hs hcc⟩
  ·obtain ⟨e,n,ne,nf,d⟩:=I.pin p hp
   refine ⟨(hs.2 p.1 ?_).trans e,n,ne,nf,d⟩
   intro q
   rw[q,hoc] at e
   have q':oc=p.2:=Option.some.inj e
   exact d w' (by rw[← q'];exact hocd)
theorem store_ok {M:Model}{A:Around}{E:Value→Shared→Prop}{i:Nat}{x:Str}{v:V}{u:Value}{Q:Unit→Shared→Prop} (I:Inv X pins σ H s) (hN:X.N.Nodup) (hi:X.N[i]?=some x) (hx:Loc X.env.scope x) (r:RelV v u)
  (h:∀ s',Inv X pins (σ.set i (some v)) H s'→Q () s') (hf:X.fn x=true∨X.env.scope.names.lookup x=some .local:=by first | exact .inl rfl | exact .inr rfl | assumption):wpAny M A (storeName X.env x u) Q E s:=
 store_ok2 I hN hi hx r (fun s' I' _=>h s' I') hf
theorem Inv.call' {s':Shared}{ch:List Addr} (I:Inv X pins σ H s) (ho:s'.os=s.os) (u:Un (frs X.stack) ch H H' s.heap s'.heap) (hok:HOk X.prog X.w H' s'.heap) (hg:AllBare s'.gens)
  (hch:∀ b∈ch,(b∈X.ex∨X.s₀.heap.objs.size≤b)∧b≠X.env.locals∧(∀ x c,X.env.cells.lookup x=some c→c≠b)∧∀ p∈X.pn ++ pins,p.1≠b):Inv X pins σ H' s':=by
 obtain ⟨h',g',d',t',o'⟩:=s'
 have e:o'=s.os:=ho
 subst e
 exact I.call (g':=g') (t':=t') (d':=d') u hok hg hch
end
abbrev XK:=Value→Option Addr→Hp→Prop
abbrev St:=List (Option V)
abbrev VK:=V→Hp→Prop
abbrev TE:=St→Hp→VK→Prop
abbrev TT:=St→Hp→(Bool→Hp→Prop)→Prop
abbrev TA:=St→Hp→(List V→Hp→Prop)→Prop
structure Ends where
 nx:St→Hp→Prop
 rt:VK
 bk:St→Hp→Prop:=fun _ _=>False
 ct:St→Hp→Prop:=fun _ _=>False
abbrev TS:=Ends→St→Hp→Prop
inductive I_EP (X:Cx) (pins:List (Addr×Obj)) (σ:St) (Q:VK) (u:Value) (s':Shared):Prop
 | mk (v:_) (H':_) (q0:Inv X pins σ H' s') (q1:RelV v u) (q2:Q v H'):I_EP X pins σ Q u s'
def EP (X:Cx) (pins:List (Addr×Obj)) (σ:St) (Q:VK) (u:Value) (s':Shared):Prop:=I_EP X pins σ Q u s'
def TP (X:Cx) (pins:List (Addr×Obj)) (σ:St) (Q:Bool→Hp→Prop) (b:Bool) (s':Shared):Prop:=∃ H',Inv X pins σ H' s'∧Q b H'
inductive I_AP (X:Cx) (pins:List (Addr×Obj)) (σ:St) (Q:List V→Hp→Prop) (us:List Value) (s':Shared):Prop
 | mk (vs:_) (H':_) (q0:Inv X pins σ H' s') (q1:Vals vs us) (q2:Q vs H'):I_AP X pins σ Q us s'
def AP (X:Cx) (pins:List (Addr×Obj)) (σ:St) (Q:List V→Hp→Prop) (us:List Value) (s':Shared):Prop:=I_AP X pins σ Q us s'
def SP (X:Cx) (pins:List (Addr×Obj)) (D:Ends) (f:Flow) (s':Shared):Prop:=
 match f with
 | .next=>∃ σ' H',Inv X pins σ' H' s'∧D.nx σ' H'
 | .brk=>∃ σ' H',Inv X pins σ' H' s'∧D.bk σ' H'
 | .cont=>∃ σ' H',Inv X pins σ' H' s'∧D.ct σ' H'
 | .ret u=>∃ v σ' H',Inv X pins σ' H' s'∧RelV v u∧D.rt v H'
structure PE (X:Cx) (e:Expr) (t:TE):Prop where
 run:
  ∀ (pins:List (Addr×Obj)) (s:Shared) (σ:St) (H:Hp) (Q:VK),Inv X pins σ H s→t σ H Q→wpAny (model X.prog X.w) X.A (eval e X.env) (EP X pins σ Q) X.xe s
instance {X:Cx} {e:Expr} {t:TE}:CoeFun (PE X e t) (fun _=>
 ∀ (pins:List (Addr×Obj)) (s:Shared) (σ:St) (H:Hp) (Q:VK),Inv X pins σ H s→t σ H Q→wpAny (model X.prog X.w) X.A (eval e X.env) (EP X pins σ Q) X.xe s):=⟨fun h=>h.run⟩
structure PT (X:Cx) (e:Expr) (t:TT):Prop where
 run:
  ∀ (pins:List (Addr×Obj)) (s:Shared) (σ:St) (H:Hp) (Q:Bool→Hp→Prop),Inv X pins σ H s→t σ H Q→wpAny (model X.prog X.w) X.A (isTrue e X.env (eval e X.env)) (TP X pins σ Q) X.xe s
instance {X:Cx} {e:Expr} {t:TT}:CoeFun (PT X e t) (fun _=>
 ∀ (pins:List (Addr×Obj)) (s:Shared) (σ:St) (H:Hp) (Q:Bool→Hp→Prop),Inv X pins σ H s→t σ H Q→wpAny (model X.prog X.w) X.A (isTrue e X.env (eval e X.env)) (TP X pins σ Q) X.xe s):=⟨fun h=>h.run⟩
structure PW (X:Cx) (e:Expr) (t:TT):Prop where
 run:
  ∀ (whole:Sem Value) (pins:List (Addr×Obj)) (s:Shared) (σ:St) (H:Hp) (Q:Bool→Hp→Prop),Inv X pins σ H s→t σ H Q→wpAny (model X.prog X.w) X.A (isTrue e X.env whole) (TP X pins σ Q) X.xe s
instance {X:Cx} {e:Expr} {t:TT}:CoeFun (PW X e t) (fun _=>
 ∀ (whole:Sem Value) (pins:List (Addr×Obj)) (s:Shared) (σ:St) (H:Hp) (Q:Bool→Hp→Prop),Inv X pins σ H s→t σ H Q→wpAny (model X.prog X.w) X.A (isTrue e X.env whole) (TP X pins σ Q) X.xe s):=⟨fun h=>h.run⟩
theorem PW.pt {X:Cx}{e:Expr}{t:TT} (h:PW X e t):PT X e t:=⟨h.run _⟩
structure PA (X:Cx) (es:List Expr) (t:TA):Prop where
 run:
  ∀ (pos:Pos) (pins:List (Addr×Obj)) (s:Shared) (σ:St) (H:Hp) (Q:List V→Hp→Prop),Inv X pins σ H s→t σ H Q→wpAny (model X.prog X.w) X.A (spliced (backTo pos (starEach es X.env))) (AP X pins σ Q) X.xe s
instance {X:Cx} {es:List Expr} {t:TA}:CoeFun (PA X es t) (fun _=>
 ∀ (pos:Pos) (pins:List (Addr×Obj)) (s:Shared) (σ:St) (H:Hp) (Q:List V→Hp→Prop),Inv X pins σ H s→t σ H Q→wpAny (model X.prog X.w) X.A (spliced (backTo pos (starEach es X.env))) (AP X pins σ Q) X.xe s):=⟨fun h=>h.run⟩
structure PS (X:Cx) (st:Stmt) (t:TS):Prop where
 run:
  ∀ (pins:List (Addr×Obj)) (s:Shared) (σ:St) (H:Hp) (D:Ends),Inv X pins σ H s→t D σ H→wpAny (model X.prog X.w) X.A (exec st X.env) (SP X pins D) X.xe s
instance {X:Cx} {st:Stmt} {t:TS}:CoeFun (PS X st t) (fun _=>
 ∀ (pins:List (Addr×Obj)) (s:Shared) (σ:St) (H:Hp) (D:Ends),Inv X pins σ H s→t D σ H→wpAny (model X.prog X.w) X.A (exec st X.env) (SP X pins D) X.xe s):=⟨fun h=>h.run⟩
structure PSs (X:Cx) (st:List Stmt) (t:TS):Prop where
 run:
  ∀ (pins:List (Addr×Obj)) (s:Shared) (σ:St) (H:Hp) (D:Ends),Inv X pins σ H s→t D σ H→wpAny (model X.prog X.w) X.A (execs st X.env) (SP X pins D) X.xe s
instance {X:Cx} {st:List Stmt} {t:TS}:CoeFun (PSs X st t) (fun _=>
 ∀ (pins:List (Addr×Obj)) (s:Shared) (σ:St) (H:Hp) (D:Ends),Inv X pins σ H s→t D σ H→wpAny (model X.prog X.w) X.A (execs st X.env) (SP X pins D) X.xe s):=⟨fun h=>h.run⟩
theorem thn {α:Type}{t:Sem α}{Q Q':α→Shared→Prop}{M:Model}{A:Around}{E:Value→Shared→Prop}{s:Shared} (h:wpAny M A t Q E s) (hQ:∀ a s,Q a s→Q' a s):wpAny M A t Q' E s:=wpAny_mono h hQ fun _ _ x=>x
end L2
namespace L2
open PySem PySem.Spec PyProof.Rows
section
variable {X:Cx}
inductive I_tVar (i:Nat) (σ:St) (H:Hp) (Q:VK):Prop
 | mk (v:_) (q0:σ[i]?=some (some v)) (q1:Q v H):I_tVar i σ H Q
def tVar (i:Nat):TE:=fun σ H Q=>I_tVar i σ H Q
def tC (v:V):TE:=fun _ H Q=>Q v H
theorem pe_var {i:Nat}{x:Str}{pos:Pos} (hN:X.N[i]?=some x) (hv:Vis X.env.scope x) (hd:(x == ("__debug__":Str))=false:=by decide) (hcd:(x == ("__classdict__":Str))=false:=by decide):PE X (.Name x pos) (tVar i):=by
 constructor
 intro pins s σ H Q I h
 obtain ⟨v,e,h⟩:=h
 obtain ⟨m,hn,hl⟩:=I.loc
 obtain ⟨u,r,l⟩:=hl i x v hN e hv
 have fin:EP X pins σ Q u s:=⟨v,H,I,r,h⟩
 rcases l with ⟨hk,hm⟩ | ⟨hk,c,hc,hcell⟩
 ·exact wpAny_Name (wpAny_loadName_local I.ok.kind hk hn hm fin) hd
 ·rcases hk with hk | hk
  ·exact wpAny_Name (wpAny_loadName_cell I.ok.kind hk hc hcell fin) hd
  ·exact wpAny_Name (wpAny_loadName_free I.ok.kind hk hc hcell fin hcd) hd
theorem pe_int {i j pos}:PE X (.Constant (.int i) j pos) (tC (.int i)):=⟨fun _ _ _ H _ I h=>wpAny_Constant_int ⟨.int i,H,I.tok _,⟨_,rfl⟩,h⟩⟩
theorem pe_bl {b j pos}:PE X (.Constant (.bool b) j pos) (tC (.bl b)):=⟨fun _ _ _ H _ I h=>Constant_bool ⟨.bl b,H,I,rfl,h⟩⟩
theorem pe_non {j pos}:PE X (.Constant .none j pos) (tC .non):=⟨fun _ _ _ H _ I h=>Constant_none ⟨.non,H,I,rfl,h⟩⟩
theorem pe_str {x j pos}:PE X (.Constant (.str x) j pos) (tC (.str x)):=⟨fun _ _ _ H _ I h=>Calls.Constant_str ⟨.str x,H,I.tok _,⟨_,rfl⟩,h⟩⟩
def Gl (X:Cx) (x:Str):Prop:=X.env.kindOf x=some .globalImplicit
theorem ld_glob {E:Value→Shared→Prop}{pins:List (Addr×Obj)}{s:Shared}{σ:St}{H:Hp}{x:Str}{u:Value}{pos:Pos}{Q:Value→Shared→Prop} (I:Inv X pins σ H s) (hg:Gl X x) (hm:X.mg x=some u) (h:Q u s)
  (hd:(x == ("__debug__":Str))=false:=by decide):wpAny (model X.prog X.w) X.A (eval (.Name x pos) X.env) Q E s:=
 Calls.Name_function_global I.ok.kind hg (Calls.loadGlobal_global (by rw[I.ok.glob];exact I.mod.glob.keeps I.bk) hm h) hd
theorem ld_blt {E:Value→Shared→Prop}{pins:List (Addr×Obj)}{s:Shared}{σ:St}{H:Hp}{x:Str}{u:Value}{pos:Pos}{Q:Value→Shared→Prop} (I:Inv X pins σ H s) (hg:Gl X x) (hm:X.mg x=none) (hv:bootBuiltins x=some u) (h:Q u s)
  (hn:x≠"__name__":=by decide) (hd:(x == ("__debug__":Str))=false:=by decide):wpAny (model X.prog X.w) X.A (eval (.Name x pos) X.env) Q E s:=by
 obtain ⟨mb,h1,h2⟩:=I.mod.blt
 exact Calls.Name_function_global I.ok.kind hg (Calls.loadGlobal_builtin (by rw[I.ok.glob];exact I.mod.glob.keeps I.bk) hm (by rw[I.ok.blt];exact h1.keeps I.bk) ((h2 x hn).trans hv) h) hd
theorem pe_glob {x:Str}{v:V}{u:Value}{pos:Pos} (hg:Gl X x) (hm:X.mg x=some u) (r:RelV v u) (hd:(x == ("__debug__":Str))=false:=by decide):PE X (.Name x pos) (tC v):=
 ⟨fun _ _ _ H _ I h=>ld_glob I hg hm ⟨v,H,I,r,h⟩ hd⟩
theorem pe_bltn {x:Str}{v:V}{u:Value}{pos:Pos} (hg:Gl X x) (hm:X.mg x=none) (hv:bootBuiltins x=some u) (r:RelV v u) (hn:x≠"__name__":=by decide) (hd:(x == ("__debug__":Str))=false:=by decide):PE X (.Name x pos) (tC v):=
 ⟨fun _ _ _ H _ I h=>ld_blt I hg hm hv ⟨v,H,I,r,h⟩ hn hd⟩
variable {a b:Expr}{ta tb:TE}{pos:Pos}
structure PC (X:Cx) (op:CmpOp) (a b:Expr) (t:TE):Prop where
 run:
  ∀ (pins:List (Addr×Obj)) (s:Shared) (σ:St) (H:Hp) (Q:VK),Inv X pins σ H s→t σ H Q→
   wpAny (model X.prog X.w) X.A (eval a X.env) (fun v s₁=>wpAny (model X.prog X.w) X.A (eval b X.env) (fun u s₂=>wpAny (model X.prog X.w) X.A (compareOp op v u) (EP X pins σ Q) X.xe s₂) X.xe s₁) X.xe s
instance {X:Cx} {op:CmpOp} {a b:Expr} {t:TE}:CoeFun (PC X op a b t) (fun _=>
 ∀ (pins:List (Addr×Obj)) (s:Shared) (σ:St) (H:Hp) (Q:VK),Inv X pins σ H s→t σ H Q→
  wpAny (model X.prog X.w) X.A (eval a X.env) (fun v s₁=>wpAny (model X.prog X.w) X.A (eval b X.env) (fun u s₂=>wpAny (model X.prog X.w) X.A (compareOp op v u) (EP X pins σ Q) X.xe s₂) X.xe s₁) X.xe s):=⟨fun h=>h.run⟩
inductive As {α:Type} (f:α→V) (x:V) (Q:α→Prop):Prop
 | mk (c:α) (h:x=f c) (q:Q c):As f x Q
def tB (t:TE):TT:=fun σ H Q=>t σ H fun x H1=>As V.bl x fun c=>Q c H1
theorem pt_val {e:Expr}{t:TE} (h:PE X e t) (he:∀ whole,isTrue e X.env whole=(do let v ← whole;standAt e.pos;holding [v] (truthy v)):=by intro _;rfl):PT X e (tB t):=by
 constructor
 intro pins s σ H Q I hw
 refine isTrue_plain (thn (h pins s σ H _ I hw) fun v s1 ⟨x,H1,I1,r1,q1⟩=>?_) (he _)
 obtain ⟨d,rfl,q⟩:=q1
 cases r1
 exact wpAny_truthy_bool ⟨H1,I1,q⟩
variable {tA tB':TT}{rest:List Expr}
def tAnd (t u:TT):TT:=fun σ H Q=>t σ H fun c H1=>if c=true then u σ H1 Q else Q false H1
def tOr (t u:TT):TT:=fun σ H Q=>t σ H fun c H1=>if c=true then Q true H1 else u σ H1 Q
def tNot (t:TT):TT:=fun σ H Q=>t σ H fun c H1=>Q (!c) H1
theorem pw_and1 (ha:PT X a tA):PW X (.BoolOp .And [a] pos) tA:=by
 constructor
 intro wh pins s σ H Q I h
 refine isTrue_and (thn (ha pins s σ H Q I h) fun c s1 e=>?_)
 cases c with
 | true=>exact isTrue_and_nil e
 | false=>exact e
theorem pw_or1 (ha:PT X a tA):PW X (.BoolOp .Or [a] pos) tA:=by
 constructor
 intro wh pins s σ H Q I h
 refine isTrue_or (thn (ha pins s σ H Q I h) fun c s1 e=>?_)
 cases c with
 | false=>exact isTrue_or_nil e
 | true=>exact e
theorem pw_and (ha:PT X a tA) (hb:PW X (.BoolOp .And (b :: rest) pos) tB'):PW X (.BoolOp .And (a :: b :: rest) pos) (tAnd tA tB'):=by
 constructor
 intro wh pins s σ H Q I h
 refine isTrue_and (thn (ha pins s σ H _ I h) fun c s1 ⟨H1,I1,q1⟩=>?_)
 cases c with
 | true=>exact hb wh pins s1 σ H1 Q I1 q1
 | false=>exact ⟨H1,I1,q1⟩
theorem pw_or (ha:PT X a tA) (hb:PW X (.BoolOp .Or (b :: rest) pos) tB'):PW X (.BoolOp .Or (a :: b :: rest) pos) (tOr tA tB'):=by
 constructor
 intro wh pins s σ H Q I h
 refine isTrue_or (thn (ha pins s σ H _ I h) fun c s1 ⟨H1,I1,q1⟩=>?_)
 cases c with
 | true=>exact ⟨H1,I1,q1⟩
 | false=>exact hb wh pins s1 σ H1 Q I1 q1
theorem pt_not (ha:PT X a tA):PT X (.UnaryOp .Not a pos) (tNot tA):=by
 constructor
 intro pins s σ H Q I h
 exact isTrue_not (ha pins s σ H (fun c H1=>Q (!c) H1) I h)
def tAndV (ta tb:TE):TE:=fun σ H Q=>ta σ H fun x H1=>As V.bl x fun c=>if c=true then tb σ H1 Q else Q (.bl false) H1
def tNotV (ta:TE):TE:=fun σ H Q=>ta σ H fun x H1=>As V.bl x fun c=>Q (.bl (!c)) H1
theorem pe_one {op}{t:TE} (h:PE X a t):PE X (.BoolOp op [a] pos) t:=⟨fun pins s σ H Q I hw=>BoolOp_one (h pins s σ H Q I hw)⟩
theorem pe_and (ha:PE X a ta) (hb:PE X (.BoolOp .And (b :: rest) pos) tb):PE X (.BoolOp .And (a :: b :: rest) pos) (tAndV ta tb):=by
 constructor
 intro pins s σ H Q I h
 refine BoolOp_and (thn (ha pins s σ H _ I h) fun v s1 ⟨x,H1,I1,r1,q1⟩=>?_)
 obtain ⟨c,rfl,q1⟩:=q1
 cases r1
 refine wpAny_truthy_bool ?_
 cases c with
 | true=>exact hb pins s1 σ H1 Q I1 q1
 | false=>exact ⟨.bl false,H1,I1,rfl,q1⟩
theorem pe_not (ha:PE X a ta):PE X (.UnaryOp .Not a pos) (tNotV ta):=by
 constructor
 intro pins s σ H Q I h
 refine UnaryOp_ (thn (ha pins s σ H _ I h) fun v s1 ⟨x,H1,I1,r1,q1⟩=>?_)
 obtain ⟨c,rfl,q1⟩:=q1
 cases r1
 exact not_of (wpAny_truthy_bool ⟨.bl (!c),H1,I1,rfl,q1⟩)
def tIf (t:TT) (ta tb:TE):TE:=fun σ H Q=>t σ H fun c H1=>if c=true then ta σ H1 Q else tb σ H1 Q
theorem pe_ifExp {c:Expr} (hc:PT X c tA) (ha:PE X a ta) (hb:PE X b tb):PE X (.IfExp c a b pos) (tIf tA ta tb):=by
 constructor
 intro pins s σ H Q I h
 refine wpAny_IfExp (thn (hc pins s σ H _ I h) fun d s1 ⟨H1,I1,q1⟩=>?_)
 cases d with
 | true=>exact ha pins s1 σ H1 Q I1 q1
 | false=>exact hb pins s1 σ H1 Q I1 q1
end
end L2
namespace L2
open PySem PySem.Spec PyProof.Rows
def SqL (K:PySem.W.Frag) (H:Hp) (a:Addr) (xs:List V):Prop:=
 Rd H a (.lst xs)∨
  ∃ (o:Obj) (its:Array Value) (n:Nat),K.lookup a=some o∧o.cls=.type "list"∧o.dict=none∧o.data=.seq its n∧its.size≤sizeLine∧Vals xs its.toList
def SqT (K:PySem.W.Frag) (H:Hp) (a:Addr) (xs:List V):Prop:=
 Rd H a (.tup xs)∨
  ∃ (o:Obj) (its:Array Value) (n:Nat),K.lookup a=some o∧o.cls=.type "tuple"∧o.data=.seq its n∧its.size≤sizeLine∧Vals xs its.toList
def absV:Value→Option V
 | .none=>some .non
 | .bool b=>some (.bl b)
 | .int i _=>some (.int i)
 | .str x _=>some (.str x)
 | .bytes b _=>some (.byt b)
 | .float b _=>some (.flt b)
 | .ref a=>some (.ref a)
 | .type n=>some (.ty n)
 | _=>none
theorem RelV.abs {x:V}{u:Value} (r:RelV x u):absV u=some x:=by
 cases x with
 | non=>cases r;rfl
 | bl _=>cases r;rfl
 | int _=>obtain ⟨t,rfl⟩:=r;rfl
 | str _=>obtain ⟨t,rfl⟩:=r;rfl
 | byt _=>obtain ⟨t,rfl⟩:=r;rfl
 | flt _=>obtain ⟨t,rfl⟩:=r;rfl
 | ref _=>cases r;rfl
 | ty _=>cases r;rfl
theorem RelV.inj {x y:V}{u:Value} (r:RelV x u) (q:RelV y u):x=y:=Option.some.inj (r.abs.symm.trans q.abs)
theorem Vals.inj {xs ys:List V}{us:List Value} (h:Vals xs us):Vals ys us→xs=ys:=by
 intro g
 induction h generalizing ys with
 | nil=>cases g;rfl
 | cons r t ih=>
  cases g with
  | cons r' t'=>rw[RelV.inj r r',ih t']
section
variable {X:Cx}{pins:List (Addr×Obj)}{σ:St}{H:Hp}{s:Shared}{a:Addr}{xs ys:List V}
theorem SqL.of {K:PySem.W.Frag} (h:H a=some (.lst xs)):SqL K H a xs:=.inl (.inl h)
theorem SqT.of {K:PySem.W.Frag} (h:H a=some (.tup xs)):SqT K H a xs:=.inl (.inl h)
theorem Inv.list (I:Inv X pins σ H s) (h:SqL X.K H a xs):∃ its:List Value,Vals xs its∧PlainL s.heap a its.toArray∧xs.length≤sizeLine:=by
 rcases h with h | ⟨o,its,n,hk,hc,hd,hs,hz,r⟩
 ·obtain ⟨z,its,n,r,e⟩:=h.ok I.hok
  exact ⟨its,r,⟨_,n,e,rfl,rfl,rfl⟩,z⟩
 ·refine ⟨its.toList,r,⟨o,n,I.kIn a o hk,hc,hd,by simpa using hs⟩,?_⟩
  have e:=r.length
  simp only [Array.length_toList] at e
  omega
theorem Inv.tuple (I:Inv X pins σ H s) (h:SqT X.K H a xs):∃ its:List Value,Vals xs its∧IsTup s.heap a its.toArray∧xs.length≤sizeLine:=by
 rcases h with h | ⟨o,its,n,hk,hc,hs,hz,r⟩
 ·obtain ⟨z,its,r,p⟩:=h.ok I.hok
  exact ⟨its,r,p,z⟩
 ·refine ⟨its.toList,r,⟨o,I.kIn a o hk,hc,n,by simpa using hs⟩,?_⟩
  have e:=r.length
  simp only [Array.length_toList] at e
  omega
theorem Inv.list_inj (I:Inv X pins σ H s) (h:SqL X.K H a xs) (h':SqL X.K H a ys):xs=ys:=by
 obtain ⟨its,r,⟨o,n,e,_,_,d⟩,_⟩:=I.list h
 obtain ⟨its',r',⟨o',n',e',_,_,d'⟩,_⟩:=I.list h'
 rw[e] at e';cases e'
 rw[d] at d'
 injection d' with d1 _
 have:its=its':=by simpa using congrArg Array.toList d1
 subst this
 exact r.inj r'
theorem Inv.tuple_inj (I:Inv X pins σ H s) (h:SqT X.K H a xs) (h':SqT X.K H a ys):xs=ys:=by
 obtain ⟨its,r,⟨o,e,_,n,d⟩,_⟩:=I.tuple h
 obtain ⟨its',r',⟨o',e',_,n',d'⟩,_⟩:=I.tuple h'
 rw[e] at e';cases e'
 rw[d] at d'
 injection d' with d1 _
 have:its=its':=by simpa using congrArg Array.toList d1
 subst this
 exact r.inj r'
end
abbrev Cx.wish (X:Cx) (E:Value→Shared→Prop):Cx:={ X with xe:=E }
abbrev Cx.nox (X:Cx):Cx:=X.wish fun _ _=>False
theorem Cx.Ok.wish {X:Cx} (ok:X.Ok) (E:Value→Shared→Prop):(X.wish E).Ok:=
 ⟨ok.mod,ok.kind,ok.glob,ok.blt,ok.above,ok.inj,ok.has,ok.cab,ok.hd,ok.frames,ok.stk,ok.exf,ok.bs,ok.bsz,ok.noex,ok.exfs,ok.funs,ok.frf⟩
theorem Cx.Ok.unwish {X:Cx}{E:Value→Shared→Prop} (ok:(X.wish E).Ok):X.Ok:=
 ⟨ok.mod,ok.kind,ok.glob,ok.blt,ok.above,ok.inj,ok.has,ok.cab,ok.hd,ok.frames,ok.stk,ok.exf,ok.bs,ok.bsz,ok.noex,ok.exfs,ok.funs,ok.frf⟩
section
variable {X:Cx}{pins:List (Addr×Obj)}{σ:St}{H:Hp}{s:Shared}{E:Value→Shared→Prop}
theorem Inv.wish (I:Inv X pins σ H s) (E:Value→Shared→Prop):Inv (X.wish E) pins σ H s:=⟨I.ok.wish E,I.os,I.bare,I.base,I.loc,I.cell,I.free,I.freeC,I.pin,I.hok,I.len⟩
theorem Inv.unwish (I:Inv (X.wish E) pins σ H s):Inv X pins σ H s:=⟨I.ok.unwish,I.os,I.bare,I.base,I.loc,I.cell,I.free,I.freeC,I.pin,I.hok,I.len⟩
theorem SP.unwish {D:Ends}{f:Flow}{s':Shared} (h:SP (X.wish E) pins D f s'):SP X pins D f s':=by
 cases f with
 | next=>obtain ⟨σ',H',I,q⟩:=h;exact ⟨σ',H',I.unwish,q⟩
 | brk=>obtain ⟨σ',H',I,q⟩:=h;exact ⟨σ',H',I.unwish,q⟩
 | cont=>obtain ⟨σ',H',I,q⟩:=h;exact ⟨σ',H',I.unwish,q⟩
 | ret u=>obtain ⟨v,σ',H',I,r,q⟩:=h;exact ⟨v,σ',H',I.unwish,r,q⟩
theorem PSs.nox {st:List Stmt}{t:TS} (h:PSs X.nox st t):PSs X st t:=⟨fun pins s σ H D I hw=>
 wpAny_mono (h pins s σ H D (I.wish _) hw) (fun _ _ q=>q.unwish) fun _ _ z=>False.elim z⟩
end
section
variable {X:Cx}{st:Stmt}{rest:List Stmt}{t u:TS}{e:Expr}{te:TE}{pos:Pos}
def tNext:TS:=fun D σ H=>D.nx σ H
def tSeq (t u:TS):TS:=fun D σ H=>t { D with nx:=u D } σ H
theorem pss_nil:PSs X [] tNext:=⟨fun _ _ σ H _ I h=>wpAny_execs_nil ⟨σ,H,I,h⟩⟩
theorem pss_cons (h1:PS X st t) (h2:PSs X rest u):PSs X (st :: rest) (tSeq t u):=by
 constructor
 intro pins s σ H D I h
 refine wpAny_execs_cons (thn (h1 pins s σ H { D with nx:=u D } I h) fun f s1 q=>?_)
 cases f with
 | next=>
  obtain ⟨σ',H',I',q⟩:=q
  exact h2 pins s1 σ' H' D I' q
 | ret v=>exact q
 | brk=>exact q
 | cont=>exact q
theorem pss_one (h1:PS X st t):PSs X [st] t:=by
 constructor
 intro pins s σ H D I h
 refine wpAny_execs_cons (thn (h1 pins s σ H D I h) fun f s1 q=>?_)
 cases f with
 | next=>exact wpAny_execs_nil q
 | ret v=>exact q
 | brk=>exact q
 | cont=>exact q
theorem Inv.quiet {pins:List (Addr×Obj)}{σ:St}{H:Hp}{s:Shared} (I:Inv X pins σ H s):interactive X.env=false:=by simp[interactive,I.ok.kind]
def tDrop (te:TE):TS:=fun D σ H=>te σ H fun _ H1=>D.nx σ H1
theorem ps_expr (he:PE X e te) (hs:swapsWith e none pos.line X.env=pure false:=by rfl):PS X (.Expr e pos) (tDrop te):=by
 constructor
 intro pins s σ H D I h
 exact wpAny_Expr_any (thn (he pins s σ H _ I h) fun v s1 ⟨x,H1,I1,r1,q1⟩=>⟨σ,H1,I1,q1⟩) I.quiet hs
def tRet (te:TE):TS:=fun D σ H=>te σ H D.rt
theorem ps_ret (he:PE X e te):PS X (.Return (some e) pos) (tRet te):=by
 constructor
 intro pins s σ H D I h
 exact wpAny_Return_some (thn (he pins s σ H _ I h) fun v s1 ⟨x,H1,I1,r1,q1⟩=>⟨x,σ,H1,I1,r1,q1⟩)
def tIfS (c:TT) (t u:TS):TS:=fun D σ H=>c σ H fun b H1=>if b=true then t D σ H1 else u D σ H1
theorem ps_if {c:Expr}{a b:List Stmt}{tc:TT} (hc:PT X c tc) (ha:PSs X a t) (hb:PSs X b u):PS X (.If c a b pos) (tIfS tc t u):=by
 constructor
 intro pins s σ H D I h
 refine wpAny_If (thn (hc pins s σ H _ I h) fun d s1 ⟨H1,I1,q1⟩=>?_)
 cases d with
 | true=>exact ha pins s1 σ H1 D I1 q1
 | false=>exact hb pins s1 σ H1 D I1 q1
def tNever:TS:=fun _ _ _=>False
theorem pss_never {sts:List Stmt}:PSs X sts tNever:=⟨fun _ _ _ _ _ _ h=>h.elim⟩
end
abbrev TG:=V→St→Hp→(St→Hp→Prop)→Prop
abbrev TGs:=List V→St→Hp→(St→Hp→Prop)→Prop
structure PG (X:Cx) (target:Expr) (t:TG):Prop where
 run:
  ∀ (pins:List (Addr×Obj)) (s:Shared) (σ:St) (H:Hp) (v:V) (u:Value) (Q:St→Hp→Prop),Inv X pins σ H s→RelV v u→t v σ H Q→
   wpAny (model X.prog X.w) X.A (assign target X.env u) (fun _ s'=>∃ σ' H',Inv X pins σ' H' s'∧Q σ' H') X.xe s
instance {X:Cx} {target:Expr} {t:TG}:CoeFun (PG X target t) (fun _=>
 ∀ (pins:List (Addr×Obj)) (s:Shared) (σ:St) (H:Hp) (v:V) (u:Value) (Q:St→Hp→Prop),Inv X pins σ H s→RelV v u→t v σ H Q→
  wpAny (model X.prog X.w) X.A (assign target X.env u) (fun _ s'=>∃ σ' H',Inv X pins σ' H' s'∧Q σ' H') X.xe s):=⟨fun h=>h.run⟩
structure PGs (X:Cx) (ts:List Expr) (t:TGs):Prop where
 run:
  ∀ (pins:List (Addr×Obj)) (s:Shared) (σ:St) (H:Hp) (vs:List V) (us:List Value) (Q:St→Hp→Prop),Inv X pins σ H s→Vals vs us→t vs σ H Q→
   wpAny (model X.prog X.w) X.A (assignInOrder ((assignEach ts X.env).map (·.2)) us) (fun _ s'=>∃ σ' H',Inv X pins σ' H' s'∧Q σ' H') X.xe s
instance {X:Cx} {ts:List Expr} {t:TGs}:CoeFun (PGs X ts t) (fun _=>
 ∀ (pins:List (Addr×Obj)) (s:Shared) (σ:St) (H:Hp) (vs:List V) (us:List Value) (Q:St→Hp→Prop),Inv X pins σ H s→Vals vs us→t vs σ H Q→
  wpAny (model X.prog X.w) X.A (assignInOrder ((assignEach ts X.env).map (·.2)) us) (fun _ s'=>∃ σ' H',Inv X pins σ' H' s'∧Q σ' H') X.xe s):=⟨fun h=>h.run⟩
abbrev TSet:=V→V→V→Hp→(Hp→Prop)→Prop
def PSet (X:Cx) (t:TSet):Prop:=
 ∀ (pins:List (Addr×Obj)) (s:Shared) (σ:St) (H:Hp) (o i v:V) (ov iv u:Value) (Q:Hp→Prop),Inv X pins σ H s→RelV o ov→RelV i iv→RelV v u→t o i v H Q→
  wpAny (model X.prog X.w) X.A (setItem ov iv u) (fun _ s'=>∃ H',Inv X pins σ H' s'∧Q H') X.xe s
section
variable {X:Cx}{pos:Pos}
def gName (i:Nat):TG:=fun v σ H Q=>Q (σ.set i (some v)) H
theorem pg_name {i:Nat}{x:Str} (hN:X.N.Nodup) (hi:X.N[i]?=some x) (hx:Loc X.env.scope x) (hf:X.fn x=true∨X.env.scope.names.lookup x=some .local:=by first | exact .inl rfl | exact .inr rfl | assumption):PG X (.Name x pos) (gName i):=by
 constructor
 intro pins s σ H v u Q I r h
 exact wpAny_assign_Name (store_ok I hN hi hx r (fun s' I'=>⟨_,H,I',h⟩) hf)
def gNil:TGs:=fun vs σ H Q=>vs=[]∧Q σ H
inductive I_gCons (t:TG) (u:TGs) (vs:List V) (σ:St) (H:Hp) (Q:(St→Hp→Prop)):Prop
 | mk (v:_) (r:_) (q0:vs=v :: r) (q1:t v σ H fun σ' H'=>u r σ' H' Q):I_gCons t u vs σ H Q
def gCons (t:TG) (u:TGs):TGs:=fun vs σ H Q=>I_gCons t u vs σ H Q
theorem pgs_nil:PGs X [] gNil:=by
 constructor
 intro pins s σ H vs us Q I r h
 obtain ⟨e,h⟩:=h
 subst e
 cases r
 exact assignInOrder_nil ⟨σ,H,I,h⟩
theorem pgs_cons {e:Expr}{es:List Expr}{t:TG}{u:TGs} (h1:PG X e t) (h2:PGs X es u)
  (hs:(assignEach (e :: es) X.env).map (·.2)=assign e X.env :: (assignEach es X.env).map (·.2):=by rfl):PGs X (e :: es) (gCons t u):=by
 constructor
 intro pins s σ H vs us Q I r h
 obtain ⟨v,vr,e1,h⟩:=h
 subst e1
 cases r with
 | cons r rr=>
  rw[hs]
  refine assignInOrder_cons (thn (h1 pins s σ H _ _ _ I r h) fun _ s1 ⟨σ1,H1,I1,q1⟩=>?_)
  exact h2 pins s1 σ1 H1 _ _ Q I1 rr q1
inductive I_gTup (K:PySem.W.Frag) (n:Nat) (t:TGs) (v:V) (σ:St) (H:Hp) (Q:(St→Hp→Prop)):Prop
 | mk (a:_) (xs:_) (q0:v=.ref a) (q1:SqT K H a xs) (q2:xs.length=n) (q3:t xs σ H Q):I_gTup K n t v σ H Q
def gTup (K:PySem.W.Frag) (n:Nat) (t:TGs):TG:=fun v σ H Q=>I_gTup K n t v σ H Q
theorem pg_tup {es:List Expr}{k:Nat}{t:TGs}{n:Nat} (hc:X.calm=true) (h:PGs X es t)
  (hn:(assignEach es X.env).length=n:=by rfl) (hst:(assignEach es X.env).findIdx? (·.1)=none:=by rfl):PG X (.Tuple es k pos) (gTup X.K n t):=by
 constructor
 intro pins s σ H v u Q I r hw
 obtain ⟨a,xs,e1,hq,hl,hw⟩:=hw
 subst e1
 cases r
 obtain ⟨its,rv,ht,hz⟩:=I.tuple hq
 refine assign_Tuple_tuple (I.ok.hd hc) ht (by simp[hn,← hl,rv.length]) hst fun h' hx=>?_
 have I1:Inv X pins σ H { s with heap:=h' }:=I.kept (t':=s.toks) fun b o e=>hx b o (Nat.ne_of_lt (Heap.lt_size e)) e
 exact h pins _ σ H xs _ Q I1 (by simpa using rv) hw
def gSub (to ti:TE) (t:TSet):TG:=fun v σ H Q=>to σ H fun o H1=>ti σ H1 fun i H2=>t o i v H2 fun H3=>Q σ H3
theorem pg_sub {o i:Expr}{to ti:TE}{t:TSet} (ho:PE X o to) (hi:PE X i ti) (hs:PSet X t)
  (ha:∀ v,assign (.Subscript o i pos) X.env v=(do
   let ov ← holding [v] (eval o X.env)
   let iv ← holding [v,ov] (eval i X.env)
   standAt pos
   holding [v,ov,iv] (setItem ov iv v)
   release [v,ov,iv] []):=by intro _;rfl):PG X (.Subscript o i pos) (gSub to ti t):=by
 constructor
 intro pins s σ H v u Q I r h
 rw[ha]
 refine wpAny_bind (wpAny_holding (thn (ho pins s σ H _ I h) fun ov s1 ⟨x,H1,I1,r1,q1⟩=>?_))
 refine wpAny_bind (wpAny_holding (thn (hi pins s1 σ H1 _ I1 q1) fun iv s2 ⟨y,H2,I2,r2,q2⟩=>?_))
 refine wpAny_bind (wpAny_standAt (wpAny_bind (wpAny_holding (thn (hs pins s2 σ H2 x y v ov iv u _ I2 r1 r2 r q2) fun _ s3 ⟨H3,I3,q3⟩=>?_))))
 exact wpAny_release ⟨σ,H3,I3,q3⟩
def tAsg (te:TE) (g:TG):TS:=fun D σ H=>te σ H fun x H1=>g x σ H1 D.nx
theorem ps_asg {tg e:Expr}{te:TE}{g:TG} (he:PE X e te) (hg:PG X tg g) (hs:swapsWithSole [tg] e pos.line X.env=pure false:=by rfl) (hw:swappedStores [tg] e X.env=pure none:=by rfl)
  (h1:(assignEach [tg] X.env).map (·.2)=[assign tg X.env]:=by rfl):PS X (.Assign [tg] e pos) (tAsg te g):=by
 constructor
 intro pins s σ H D I h
 refine wpAny_Assign_stores (thn (he pins s σ H _ I h) fun v s1 ⟨x,H1,I1,r1,q1⟩=>?_) hs hw
 rw[h1]
 exact thn (hg pins s1 σ H1 x v _ I1 r1 q1) fun _ s2 q=>q
theorem ps_set {i:Nat}{x:Str}{e:Expr}{te:TE}{pos':Pos} (hN:X.N.Nodup) (hi:X.N[i]?=some x) (hx:Loc X.env.scope x) (he:PE X e te) (hs:swapsWith e (some (.Name x pos')) pos.line X.env=pure false:=by rfl) (hf:X.fn x=true∨X.env.scope.names.lookup x=some .local:=by first | exact .inl rfl | exact .inr rfl | assumption):
  PS X (.Assign [.Name x pos'] e pos) (tAsg te (gName i)):=by
 constructor
 intro pins s σ H D I h
 refine wpAny_Assign_Name (thn (he pins s σ H _ I h) fun v s1 ⟨y,H1,I1,r1,q1⟩=>?_) hs
 exact store_ok I1 hN hi hx r1 (fun s2 I2=>⟨_,H1,I2,q1⟩) hf
end
section
variable {X:Cx}{pos:Pos}
inductive I_tWhile (c:TT) (tb:TS) (D:Ends) (σ:St) (H:Hp):Prop
 | mk (W:Nat→St→Hp→Prop) (q0:(∃ m,W m σ H)) (q1:∀ m σ H,W m σ H→
 c σ H fun b H1=>if b=true then ∃ N:St→Hp→Prop,(∀ σ' H',N σ' H'→∃ m',m' < m∧W m' σ' H')∧tb { D with nx:=N,ct:=N,bk:=D.nx } σ H1 else D.nx σ H1):I_tWhile c tb D σ H
def tWhile (c:TT) (tb:TS):TS:=fun D σ H=>I_tWhile c tb D σ H
theorem ps_while {c:Expr}{body:List Stmt}{tc:TT}{tb:TS} (hp:PassesOwn (model X.prog X.w) X.A X.env X.xe) (hc:PT X c tc) (hb:PSs X body tb):PS X (.While c body [] pos) (tWhile tc tb):=by
 constructor
 intro pins s σ H D I h
 obtain ⟨W,⟨m0,w0⟩,turn⟩:=h
 refine wpAny_While (codeAny_whileLoop (fun n s'=>∃ σ' H',Inv X pins σ' H' s'∧W n σ' H') ?_ m0 ⟨σ,H,I,w0⟩)
 rintro n s1 ⟨σ1,H1,I1,w1⟩
 refine wpAny_passesOwn hp (thn (hc pins s1 σ1 H1 _ I1 (turn n σ1 H1 w1)) fun b s2 ⟨H2,I2,q2⟩=>?_)
 cases b with
 | true=>
  obtain ⟨N,hN,q2⟩:=q2
  rw[if_pos rfl]
  refine wpAny_passesOwn hp (thn (hb pins s2 σ1 H2 _ I2 q2) fun f s3 q3=>?_)
  cases f with
  | next=>
   obtain ⟨σ3,H3,I3,n3⟩:=q3
   obtain ⟨m',hm,w3⟩:=hN σ3 H3 n3
   exact ⟨m',hm,σ3,H3,I3,w3⟩
  | cont=>
   obtain ⟨σ3,H3,I3,n3⟩:=q3
   obtain ⟨m',hm,w3⟩:=hN σ3 H3 n3
   exact ⟨m',hm,σ3,H3,I3,w3⟩
  | brk=>exact q3
  | ret v=>exact q3
 | false=>
  rw[if_neg Bool.false_ne_true]
  exact wpAny_execs_nil ⟨σ1,H2,I2,q2⟩
end
structure It where
 go:Nat→Hp→Prop
 yld:Nat→Hp→V→Hp→Prop
 stop:Nat→Hp→Prop
def FpOk (X:Cx) (pins:List (Addr×Obj)) (H:Hp) (b:Addr):Prop:=
 H b=none∧b≠X.env.locals∧b ∉ X.fs∧(b∈X.ex∨X.s₀.heap.objs.size≤b)∧(∀ x c,X.env.cells.lookup x=some c→c≠b)∧∀ p∈X.pn ++ pins,p.1≠b
theorem Inv.fpOk {X:Cx}{pins:List (Addr×Obj)}{σ:St}{H H':Hp}{s:Shared}{b:Addr} (I:Inv X pins σ H s) (hb:s.heap.objs.size≤b) (hn:H' b=none):FpOk X pins H' b:=by
 refine ⟨hn,Nat.ne_of_gt (Nat.lt_of_lt_of_le I.lt hb),I.nofs hb,.inr (Nat.le_trans I.sz hb),fun x c e z=>?_,fun p hp z=>?_⟩
 ·obtain ⟨v,q⟩:=I.cell x c e
  exact absurd (Nat.lt_of_lt_of_le q.lt (by rw[z];exact hb)) (Nat.lt_irrefl _)
 ·exact absurd (Nat.lt_of_lt_of_le (Heap.lt_size (I.pin p hp).1) (by rw[z];exact hb)) (Nat.lt_irrefl _)
structure Turn (P:Program) (w:World) (K:PySem.W.Frag) (tg:Expr) (J:It) (fp:List Addr) (it:Addr) (tn:Nat→Heap→Prop):Prop where
 mem:it∈fp
 obj:∀ i h,tn i h→∀ b∈fp,∃ o,h.get? b=some o∧∀ v,o.data≠.cell v
 keep:∀ i h h',tn i h→(∀ b∈fp,∀ o,h.get? b=some o→h'.get? b=some o)→tn i h'
 item:∀ (X:Cx),X.prog=P→X.w=w→X.K=K→X.calm=true→∀ (i:Nat) (pins:List (Addr×Obj)) (s:Shared) (σ:St) (H:Hp) (E:Value→Shared→Prop),Inv X pins σ H s→(∀ b∈fp,FpOk X pins H b)→tn i s.heap→J.go i H→
  wpAny (model P w) X.A (pyNext (.ref it)) (fun r s1=>∃ u,r=some u∧
   wpAny (model P w) X.A (letOwnedTupleGo tg (.ref it) u) (fun _ s2=>∃ x H',Inv X pins σ H' s2∧RelV x u∧J.yld i H x H'∧tn (i + 1) s2.heap∧∀ b∈fp,H' b=none) E s1) E s
 done:∀ (X:Cx),X.prog=P→X.w=w→X.K=K→X.calm=true→∀ (i:Nat) (pins:List (Addr×Obj)) (s:Shared) (σ:St) (H:Hp) (E:Value→Shared→Prop),Inv X pins σ H s→(∀ b∈fp,FpOk X pins H b)→tn i s.heap→J.stop i H→
  wpAny (model P w) X.A (pyNext (.ref it)) (fun r s1=>r=none∧Inv X pins σ H s1) E s
 self:∀ (A:Around) (i:Nat) (s:Shared) (Q:Value→Shared→Prop) (E:Value→Shared→Prop),tn i s.heap→Q (.ref it) s→wpAny (model P w) A (pyIter (.ref it)) Q E s
abbrev TI:=St→Hp→(It→Hp→Prop)→Prop
inductive I_PIE (X:Cx) (pins:List (Addr×Obj)) (σ:St) (tg:Expr) (R:It→Hp→Prop) (itv:Value) (s2:Shared):Prop
 | mk (it:Addr) (fp:List Addr) (tn:Nat→Heap→Prop) (J:It) (H':Hp) (q0:itv=.ref it) (q1:Inv X pins σ H' s2) (q2:Turn X.prog X.w X.K tg J fp it tn) (q3:tn 0 s2.heap) (q4:(∀ b∈fp,FpOk X pins H' b)) (q5:R J H'):I_PIE X pins σ tg R itv s2
def PIE (X:Cx) (pins:List (Addr×Obj)) (σ:St) (tg:Expr) (R:It→Hp→Prop) (itv:Value) (s2:Shared):Prop:=I_PIE X pins σ tg R itv s2
structure PI (X:Cx) (tg iter:Expr) (wi:TI):Prop where
 run:
  ∀ (pins:List (Addr×Obj)) (s:Shared) (σ:St) (H:Hp) (R:It→Hp→Prop),Inv X pins σ H s→wi σ H R→
   wpAny (model X.prog X.w) X.A (eval iter X.env) (fun v s1=>wpAny (model X.prog X.w) X.A (pyIter v) (PIE X pins σ tg R) X.xe s1) X.xe s
instance {X:Cx} {tg iter:Expr} {wi:TI}:CoeFun (PI X tg iter wi) (fun _=>
 ∀ (pins:List (Addr×Obj)) (s:Shared) (σ:St) (H:Hp) (R:It→Hp→Prop),Inv X pins σ H s→wi σ H R→
  wpAny (model X.prog X.w) X.A (eval iter X.env) (fun v s1=>wpAny (model X.prog X.w) X.A (pyIter v) (PIE X pins σ tg R) X.xe s1) X.xe s):=⟨fun h=>h.run⟩
theorem go_of {M : Model}{A : Around}{E : Value → Shared → Prop}{s : Shared}{tg : Expr}{it : Addr}{u : Value}{o : Obj}{n : String}{vs : Array Value}{Q : Unit → Shared → Prop} (ho : s.heap.get? it = some o) (hc : o.cls = .type n) (hd : o.data = .fields vs)
    (hn : ["enumerate", "zip", "dict_itemiterator", "dict_reverseitemiterator", "odict_iterator", "itertools.zip_longest", "itertools.pairwise"].contains n = false) (hQ : Q () s) : wpAny M A (letOwnedTupleGo tg (.ref it) u) Q E s := by
  unfold letOwnedTupleGo
  cases tg <;> first
    | exact wpAny_pure hQ
    | (cases u <;> first
        | exact wpAny_pure hQ
        | (refine wpAny_bind (wpAny_load ho ?_)
           rw[hc, hd]
           show wpAny M A (if (["enumerate", "zip", "dict_itemiterator", "dict_reverseitemiterator", "odict_iterator", "itertools.zip_longest", "itertools.pairwise"].contains n && vs[0]? == some (rawInt _)) = true then _ else _) Q E s
           rw[if_neg (by intro h;rw[hn, Bool.false_and] at h;cases h)]
           exact wpAny_pure hQ))
def Itl (K:PySem.W.Frag) (a:Addr):It:=
 ⟨fun i H=>∃ xs x,SqL K H a xs∧xs[i]?=some x,fun i H x H'=>H'=H∧∀ xs,SqL K H a xs→xs[i]?=some x,fun i H=>∃ xs,SqL K H a xs∧xs.length≤i⟩
def Itt (K:PySem.W.Frag) (a:Addr):It:=
 ⟨fun i H=>∃ xs x,SqT K H a xs∧xs[i]?=some x,fun i H x H'=>H'=H∧∀ xs,SqT K H a xs→xs[i]?=some x,fun i H=>∃ xs,SqT K H a xs∧xs.length≤i⟩
def Itr (lo:Int) (n:Nat):It:=⟨fun i _=>i < n,fun i H x H'=>H'=H∧x=.int (lo + i),fun i _=>n≤i⟩
theorem turn_list {P:Program}{w:World}{K:PySem.W.Frag}{tg:Expr} (a it:Addr):Turn P w K tg (Itl K a) [it] it (fun i h=>h.IsListIter it a i) where
 mem:=by simp
 obj:=fun i h st b hb=>by
  have e:b=it:=by simpa using hb
  subst e
  obtain ⟨o,e,c,d⟩:=st
  exact ⟨o,e,fun v z=>by rw[d] at z;cases z⟩
 keep:=fun i h h' st k=>st.at fun o e=>k it (by simp) o e
 item:=by
  intro X hP hw hK hc i pins s σ H E I hf st hg
  subst hP hw hK
  obtain ⟨xs,x,hq,hx⟩:=hg
  obtain ⟨its,rv,p,hz⟩:=I.list hq
  obtain ⟨u,hu,ru⟩:=rv.get hx
  obtain ⟨f0,f1,f2,f3,f4,f5⟩:=hf it (by simp)
  refine wpAny_pyNext_list_item st p.isList (x:=u) (by simpa using hu) fun h' st' sb=>?_
  have I1:Inv X pins σ H { s with heap:=h' }:=I.turned (t':=s.toks) (fun b o hb e=>(sb.2 b hb).trans e) f0 f1 f3 f4 f5
  obtain ⟨o,e,c,d⟩:=id st'
  exact ⟨u,rfl,go_of (s:={ s with heap:=h' }) e c d (by decide) ⟨x,H,I1,ru,⟨rfl,fun ys hy=>by rw[I.list_inj hy hq];exact hx⟩,st',fun b hb=>(hf b hb).1⟩⟩
 done:=by
  intro X hP hw hK hc i pins s σ H E I hf st hg
  subst hP hw hK
  obtain ⟨xs,hq,hx⟩:=hg
  obtain ⟨its,rv,p,hz⟩:=I.list hq
  obtain ⟨f0,f1,f2,f3,f4,f5⟩:=hf it (by simp)
  have hl:=rv.length
  exact wpAny_pyNext_list_end (I.ok.hd hc) st p.isList (by simp;omega) fun h' eb=>⟨rfl,I.turned (t':=s.toks) (fun b o hb e=>eb b o hb e) f0 f1 f3 f4 f5⟩
 self:=fun _ _ _ _ _ st h=>wpAny_pyIter_listiter st h
theorem turn_tuple {P:Program}{w:World}{K:PySem.W.Frag}{tg:Expr} (a it:Addr):Turn P w K tg (Itt K a) [it] it (fun i h=>h.IsTupleIter it a i) where
 mem:=by simp
 obj:=fun i h st b hb=>by
  have e:b=it:=by simpa using hb
  subst e
  obtain ⟨o,e,c,d⟩:=st
  exact ⟨o,e,fun v z=>by rw[d] at z;cases z⟩
 keep:=fun i h h' st k=>st.at fun o e=>k it (by simp) o e
 item:=by
  intro X hP hw hK hc i pins s σ H E I hf st hg
  subst hP hw hK
  obtain ⟨xs,x,hq,hx⟩:=hg
  obtain ⟨its,rv,p,hz⟩:=I.tuple hq
  obtain ⟨u,hu,ru⟩:=rv.get hx
  obtain ⟨f0,f1,f2,f3,f4,f5⟩:=hf it (by simp)
  refine wpAny_pyNext_tuple_item st (show s.heap.IsTuple a its.toArray from p) (x:=u) (by simpa using hu) fun h' st' sb=>?_
  have I1:Inv X pins σ H { s with heap:=h' }:=I.turned (t':=s.toks) (fun b o hb e=>(sb.2 b hb).trans e) f0 f1 f3 f4 f5
  obtain ⟨o,e,c,d⟩:=id st'
  exact ⟨u,rfl,go_of (s:={ s with heap:=h' }) e c d (by decide) ⟨x,H,I1,ru,⟨rfl,fun ys hy=>by rw[I.tuple_inj hy hq];exact hx⟩,st',fun b hb=>(hf b hb).1⟩⟩
 done:=by
  intro X hP hw hK hc i pins s σ H E I hf st hg
  subst hP hw hK
  obtain ⟨xs,hq,hx⟩:=hg
  obtain ⟨its,rv,p,hz⟩:=I.tuple hq
  obtain ⟨f0,f1,f2,f3,f4,f5⟩:=hf it (by simp)
  have hl:=rv.length
  exact wpAny_pyNext_tuple_end (I.ok.hd hc) st (show s.heap.IsTuple a its.toArray from p) (by simp;omega) fun h' eb=>⟨rfl,I.turned (t':=s.toks) (fun b o hb e=>eb b o hb e) f0 f1 f3 f4 f5⟩
 self:=fun _ _ _ _ _ st h=>wpAny_pyIter_tupleiter st h
theorem turn_range {P:Program}{w:World}{K:PySem.W.Frag}{tg:Expr} (it:Addr) (lo:Int) (n:Nat):Turn P w K tg (Itr lo n) [it] it (fun i h=>IsRangeIter h it (lo + (i:Nat) * 1) ((n:Int) - (i:Nat)) 1) where
 mem:=by simp
 obj:=fun i h st b hb=>by
  have e:b=it:=by simpa using hb
  subst e
  exact ⟨_,st,fun v z=>by
   have z':Data.fields _=Data.cell v:=z
   cases z'⟩
 keep:=fun i h h' st k=>k it (by simp) _ st
 item:=by
  intro X hP hw hK hc i pins s σ H E I hf st hg
  subst hP hw hK
  obtain ⟨f0,f1,f2,f3,f4,f5⟩:=hf it (by simp)
  have W:=Walks.range (prog:=X.prog) (w:=X.w) (I.ok.hd hc) it lo 1 n
  refine W.item i s _ _ hg st fun v h' tk hv st' kk=>?_
  obtain ⟨t,rfl⟩:=hv
  have I1:Inv X pins σ H { s with heap:=h',toks:=tk }:=I.turned (fun b o hb e=>kk b o (by simpa using hb) e) f0 f1 f3 f4 f5
  refine ⟨_,rfl,go_of (s:={ s with heap:=h',toks:=tk }) (n:="range_iterator") st' rfl rfl (by decide) ⟨.int (lo + i),H,I1,⟨t,?_⟩,⟨rfl,rfl⟩,st',fun b hb=>(hf b hb).1⟩⟩
  rw[Int.mul_one]
 done:=by
  intro X hP hw hK hc i pins s σ H E I hf st hg
  subst hP hw hK
  obtain ⟨f0,f1,f2,f3,f4,f5⟩:=hf it (by simp)
  exact wpAny_pyNext_range_end (I.ok.hd hc) st (by have:n≤i:=hg;omega) fun h' eb=>⟨rfl,I.turned (t':=s.toks) (fun b o hb e=>eb b o hb e) f0 f1 f3 f4 f5⟩
 self:=fun _ _ _ _ _ st h=>wpAny_pyIter_rangeiter st h
end L2
namespace L2
open PySem PySem.Spec PyProof.Rows
section
variable {X:Cx}{tg:Expr}
def iList (K:PySem.W.Frag) (tl:TE):TI:=fun σ H R=>tl σ H fun x H1=>As V.ref x fun a=>(∃ xs,SqL K H1 a xs)∧R (Itl K a) H1
def iTup (K:PySem.W.Frag) (tl:TE):TI:=fun σ H R=>tl σ H fun x H1=>As V.ref x fun a=>(∃ xs,SqT K H1 a xs)∧R (Itt K a) H1
theorem pi_list {l:Expr}{tl:TE} (hl:PE X l tl):PI X tg l (iList X.K tl):=by
 constructor
 intro pins s σ H R I h
 refine thn (hl pins s σ H _ I h) fun v s1 ⟨x,H1,I1,r1,q1⟩=>?_
 obtain ⟨a,e,⟨xs,hq⟩,q⟩:=q1
 subst e
 cases r1
 obtain ⟨its,rv,p,hz⟩:=I1.list hq
 refine wpAny_pyIter_list p.isList ?_
 refine ⟨s1.heap.objs.size,[s1.heap.objs.size],_,_,H1,rfl,I1.kept (t':=s1.toks) fun b o e=>Heap.get?_push_of_some _ e,turn_list a _,⟨_,Heap.get?_push_size _ rfl,rfl,rfl⟩,fun b hb=>?_,q⟩
 have e:b=s1.heap.objs.size:=by simpa using hb
 subst e
 exact I1.fpOk (Nat.le_refl _) (I1.hok.fresh (Nat.le_refl _))
theorem pi_tup {l:Expr}{tl:TE} (hl:PE X l tl):PI X tg l (iTup X.K tl):=by
 constructor
 intro pins s σ H R I h
 refine thn (hl pins s σ H _ I h) fun v s1 ⟨x,H1,I1,r1,q1⟩=>?_
 obtain ⟨a,e,⟨xs,hq⟩,q⟩:=q1
 subst e
 cases r1
 obtain ⟨its,rv,p,hz⟩:=I1.tuple hq
 refine wpAny_pyIter_tuple (show s1.heap.IsTuple a its.toArray from p) ?_
 refine ⟨s1.heap.objs.size,[s1.heap.objs.size],_,_,H1,rfl,I1.kept (t':=s1.toks) fun b o e=>Heap.get?_push_of_some _ e,turn_tuple a _,⟨_,Heap.get?_push_size _ rfl,rfl,rfl⟩,fun b hb=>?_,q⟩
 have e:b=s1.heap.objs.size:=by simpa using hb
 subst e
 exact I1.fpOk (Nat.le_refl _) (I1.hok.fresh (Nat.le_refl _))
theorem range_it {pins:List (Addr×Obj)}{σ:St}{H:Hp}{s:Shared}{R:It→Hp→Prop}{E:Value→Shared→Prop}{lo hi:Int}{t u v:Tok}{tk:Nat} (I:Inv X pins σ H s) (h1:-(2 ^ 62)≤lo) (h2:lo < 2 ^ 62) (h3:-(2 ^ 62)≤hi) (h4:hi < 2 ^ 62)
  (q:R (Itr lo (hi - lo).toNat) H):wpAny (model X.prog X.w) X.A (pyIter (.ref s.heap.objs.size)) (PIE X pins σ tg R) E { s with heap:=s.heap.push { cls:=.type "range",data:=.fields #[.int lo t,.int hi u,.int 1 v] },toks:=tk }:=by
 refine wpAny_pyIter_range (IsRange.new ..) (small_one h1 h2 h3 h4) ?_
 have I1:Inv X pins σ H { s with heap:=s.heap.push { cls:=.type "range",data:=.fields #[.int lo t,.int hi u,.int 1 v] },toks:=tk }:=I.kept fun b o e=>Heap.get?_push_of_some _ e
 refine ⟨(s.heap.push { cls:=.type "range",data:=.fields #[.int lo t,.int hi u,.int 1 v] }).objs.size,[(s.heap.push { cls:=.type "range",data:=.fields #[.int lo t,.int hi u,.int 1 v] }).objs.size],_,_,H,rfl,
  I1.kept (t':=tk) fun b o e=>Heap.get?_push_of_some _ e,turn_range _ lo (hi - lo).toNat,?_,fun b hb=>?_,q⟩
 ·have e1:lo + ((0:Nat):Int) * 1=lo:=by simp
  have e2:(((hi - lo).toNat:Nat):Int) - ((0:Nat):Int)=Builtin.Range.rangeSize lo hi 1:=by rw[rangeSize_one];split <;> omega
  show IsRangeIter _ _ (lo + ((0:Nat):Int) * 1) ((((hi - lo).toNat:Nat):Int) - ((0:Nat):Int)) 1
  rw[e1,e2]
  exact Heap.get?_push_size _ rfl
 ·have e:b=(s.heap.push { cls:=.type "range",data:=.fields #[.int lo t,.int hi u,.int 1 v] }).objs.size:=by simpa using hb
  subst e
  exact I1.fpOk (Nat.le_refl _) (I1.hok.fresh (Nat.le_refl _))
def iRng1 (ta:TA):TI:=fun σ H R=>ta σ H fun vs H1=>∃ j:Int,vs=[.int j]∧-(2 ^ 62)≤j∧j < 2 ^ 62∧R (Itr 0 j.toNat) H1
theorem pi_range1 {a:Expr}{ta:TA}{p pos:Pos} (hg:Gl X "range") (hm:X.mg "range"=none) (ha:PA X [a] ta) (hs:starEach [a] X.env=[(false,eval a X.env)]:=by rfl):PI X tg (.Call (.Name "range" p) [a] [] pos) (iRng1 ta):=by
 constructor
 intro pins s σ H R I h
 refine Call_ (ld_blt I hg hm boot_range (PyProof.Rows.callWith_type1 (thn (ha pos pins s σ H _ I h) fun us s1 ⟨vs,H1,I1,r1,q1⟩=>?_) hs rfl))
 obtain ⟨j,e,q1,q2,q⟩:=q1
 subst e
 cases r1 with
 | cons r rr=>
  cases rr
  obtain ⟨t,rfl⟩:=r
  exact call_range_1 (range_it I1 (by omega) (by omega) q1 q2 (by simpa using q))
def tFor (wi:TI) (g:TG) (tb:TS):TS:=fun D σ H=>wi σ H fun J H1=>∃ W:Nat→Nat→St→Hp→Prop,(∃ m,W 0 m σ H1)∧∀ i m σ H,W i m σ H→
 (J.stop i H∧D.nx σ H)∨(J.go i H∧∃ N:St→Hp→Prop,(∀ σ' H',N σ' H'→∃ m',m' < m∧W (i + 1) m' σ' H')∧∀ x H',J.yld i H x H'→g x σ H' fun σ2 H2=>tb { D with nx:=N,ct:=N,bk:=D.nx } σ2 H2)
def pinsAt (fp:List Addr) (h:Heap):List (Addr×Obj):=fp.filterMap fun b=>(h.get? b).map fun o=>(b,o)
theorem mem_pinsAt {fp:List Addr}{h:Heap}{b:Addr}{o:Obj} (hb:b∈fp) (e:h.get? b=some o):(b,o)∈pinsAt fp h:=List.mem_filterMap.mpr ⟨b,hb,by rw[e];rfl⟩
theorem of_pinsAt {fp:List Addr}{h:Heap}{p:Addr×Obj} (hp:p∈pinsAt fp h):p.1∈fp∧h.get? p.1=some p.2:=by
 obtain ⟨b,hb,e⟩:=List.mem_filterMap.mp hp
 cases q:h.get? b with
 | none=>rw[q] at e;cases e
 | some o=>
  rw[q] at e
  have e':(b,o)=p:=Option.some.inj e
  subst e'
  exact ⟨hb,q⟩
theorem Inv.pinned {pins:List (Addr×Obj)}{σ:St}{H:Hp}{s:Shared}{fp:List Addr} (I:Inv X pins σ H s) (hf:∀ b∈fp,FpOk X pins H b) (ho:∀ b∈fp,∃ o,s.heap.get? b=some o∧∀ v,o.data≠.cell v):Inv X (pins ++ pinsAt fp s.heap) σ H s:=
 I.pins_of fun p hp=>(List.mem_append.mp hp).elim (fun z=>I.pin p (List.mem_append_right _ z)) fun z=>by
  obtain ⟨hb,e⟩:=of_pinsAt z
  obtain ⟨f0,f1,f2,_⟩:=hf p.1 hb
  obtain ⟨o,e',d⟩:=ho p.1 hb
  rw[e] at e';cases e'
  exact ⟨e,f0,f1,f2,d⟩
theorem Inv.unpinned {pins pl:List (Addr×Obj)}{σ:St}{H:Hp}{s:Shared} (I:Inv X (pins ++ pl) σ H s):Inv X pins σ H s:=I.pins_of fun p hp=>I.pin p (List.mem_append_right _ (List.mem_append_left _ hp))
theorem ps_for {iter:Expr}{body:List Stmt}{wi:TI}{g:TG}{tb:TS}{pos:Pos} (hp:PassesOwn (model X.prog X.w) X.A X.env X.xe) (hc:X.calm=true) (hi:PI X tg iter wi) (hg:PG X tg g) (hb:PSs X body tb)
  (hs:∀ x,foldedSetIterable iter X.env x=pure x:=by intro _;rfl):PS X (.For tg iter body [] pos) (tFor wi g tb):=by
 constructor
 intro pins s σ H D I h
 refine wpAny_For (thn (hi pins s σ H _ I h) fun v s1 h1=>thn h1 fun itv s2 h2=>?_) hs
 obtain ⟨it,fp,tn,J,H2,e,I2,T,st2,f2,W,⟨m0,w0⟩,turn⟩:=h2
 subst e
 have stat:∀ {H':Hp},(∀ b∈fp,H' b=none)→∀ b∈fp,FpOk X pins H' b:=fun hn b hb=>⟨hn b hb,(f2 b hb).2⟩
 refine codeAny_forLoop_any (fun n s'=>∃ i σ' H',Inv X pins σ' H' s'∧tn i s'.heap∧(∀ b∈fp,H' b=none)∧W i n σ' H') ?_ m0 ⟨0,σ,H2,I2,st2,fun b hb=>(f2 b hb).1,w0⟩
 rintro n s3 ⟨i,σ3,H3,I3,st3,fr3,w3⟩
 rcases turn i n σ3 H3 w3 with ⟨stop,qn⟩ | ⟨go,N,hN,step⟩
 ·refine wpAny_passesOwn hp (thn (T.done X rfl rfl rfl hc i pins s3 σ3 H3 X.xe I3 (stat fr3) st3 stop) fun r s4 ⟨hr,I4⟩=>?_)
  subst hr
  exact wpAny_execs_nil ⟨σ3,H3,I4,qn⟩
 ·refine wpAny_passesOwn hp (thn (T.item X rfl rfl rfl hc i pins s3 σ3 H3 X.xe I3 (stat fr3) st3 go) fun r s4 ⟨u,hr,h4⟩=>?_)
  subst hr
  refine wpAny_passesOwn hp (thn h4 fun _ s5 ⟨x,H5,I5,r5,y5,st5,fr5⟩=>?_)
  have I5':=I5.pinned (stat fr5) (T.obj _ _ st5)
  refine wpAny_passesOwn hp (thn (hg _ s5 σ3 H5 x u _ I5' r5 (step x H5 y5)) fun _ s6 ⟨σ6,H6,I6,q6⟩=>?_)
  refine wpAny_passesOwn hp (thn (hb _ s6 σ6 H6 _ I6 q6) fun f s7 q7=>?_)
  have again:∀ {σ7:St} {H7:Hp},Inv X (pins ++ pinsAt fp s5.heap) σ7 H7 s7→N σ7 H7→∃ m,m < n∧∃ i σ' H',Inv X pins σ' H' s7∧tn i s7.heap∧(∀ b∈fp,H' b=none)∧W i m σ' H':=fun {σ7 H7} I7 n7=>by
   obtain ⟨m',hm,w7⟩:=hN σ7 H7 n7
   refine ⟨m',hm,i + 1,σ7,H7,I7.unpinned,T.keep _ _ _ st5 fun b hb o e=>(I7.pin (b,o) (List.mem_append_right _ (List.mem_append_right _ (mem_pinsAt hb e)))).1,fun b hb=>?_,w7⟩
   obtain ⟨o,e,d⟩:=T.obj _ _ st5 b hb
   exact (I7.pin (b,o) (List.mem_append_right _ (List.mem_append_right _ (mem_pinsAt hb e)))).2.1
  cases f with
  | next=>obtain ⟨σ7,H7,I7,n7⟩:=q7;exact again I7 n7
  | cont=>obtain ⟨σ7,H7,I7,n7⟩:=q7;exact again I7 n7
  | brk=>obtain ⟨σ7,H7,I7,q7⟩:=q7;exact ⟨σ7,H7,I7.unpinned,q7⟩
  | ret v=>obtain ⟨x7,σ7,H7,I7,r7,q7⟩:=q7;exact ⟨x7,σ7,H7,I7.unpinned,r7,q7⟩
end
theorem for_list {K:PySem.W.Frag}{a:Addr}{xs:List V}{g:TG}{tb:TS}{D:Ends}{σ:St}{H:Hp} (Pv:Nat→St→Hp→Prop) (h0:Pv 0 σ H) (hl:∀ i σ H,i≤xs.length→Pv i σ H→SqL K H a xs)
  (hs:∀ i x σ H,xs[i]?=some x→Pv i σ H→g x σ H fun σ2 H2=>tb { D with nx:=Pv (i + 1),ct:=Pv (i + 1),bk:=D.nx } σ2 H2) (hd:∀ σ H,Pv xs.length σ H→D.nx σ H):
  ∃ W:Nat→Nat→St→Hp→Prop,(∃ m,W 0 m σ H)∧∀ i m σ H,W i m σ H→
   ((Itl K a).stop i H∧D.nx σ H)∨((Itl K a).go i H∧∃ N:St→Hp→Prop,(∀ σ' H',N σ' H'→∃ m',m' < m∧W (i + 1) m' σ' H')∧∀ x H',(Itl K a).yld i H x H'→g x σ H' fun σ2 H2=>tb { D with nx:=N,ct:=N,bk:=D.nx } σ2 H2):=by
 refine ⟨fun i m σ H=>m=xs.length - i∧i≤xs.length∧Pv i σ H,⟨xs.length,by simp,Nat.zero_le _,h0⟩,?_⟩
 rintro i m σ H ⟨rfl,hi,p⟩
 have q:=hl i σ H hi p
 by_cases hlt:i < xs.length
 ·refine .inr ⟨⟨xs,xs[i],q,by simp[hlt]⟩,Pv (i + 1),fun σ' H' p'=>⟨xs.length - (i + 1),by omega,rfl,hlt,p'⟩,fun x H' y=>?_⟩
  obtain ⟨e,y⟩:=y
  subst e
  exact hs i x σ _ (y xs q) p
 ·have e:i=xs.length:=by omega
  subst e
  exact .inl ⟨⟨xs,q,Nat.le_refl _⟩,hd σ H p⟩
theorem for_tup {K:PySem.W.Frag}{a:Addr}{xs:List V}{g:TG}{tb:TS}{D:Ends}{σ:St}{H:Hp} (Pv:Nat→St→Hp→Prop) (h0:Pv 0 σ H) (hl:∀ i σ H,i≤xs.length→Pv i σ H→SqT K H a xs)
  (hs:∀ i x σ H,xs[i]?=some x→Pv i σ H→g x σ H fun σ2 H2=>tb { D with nx:=Pv (i + 1),ct:=Pv (i + 1),bk:=D.nx } σ2 H2) (hd:∀ σ H,Pv xs.length σ H→D.nx σ H):
  ∃ W:Nat→Nat→St→Hp→Prop,(∃ m,W 0 m σ H)∧∀ i m σ H,W i m σ H→
   ((Itt K a).stop i H∧D.nx σ H)∨((Itt K a).go i H∧∃ N:St→Hp→Prop,(∀ σ' H',N σ' H'→∃ m',m' < m∧W (i + 1) m' σ' H')∧∀ x H',(Itt K a).yld i H x H'→g x σ H' fun σ2 H2=>tb { D with nx:=N,ct:=N,bk:=D.nx } σ2 H2):=by
 refine ⟨fun i m σ H=>m=xs.length - i∧i≤xs.length∧Pv i σ H,⟨xs.length,by simp,Nat.zero_le _,h0⟩,?_⟩
 rintro i m σ H ⟨rfl,hi,p⟩
 have q:=hl i σ H hi p
 by_cases hlt:i < xs.length
 ·refine .inr ⟨⟨xs,xs[i],q,by simp[hlt]⟩,Pv (i + 1),fun σ' H' p'=>⟨xs.length - (i + 1),by omega,rfl,hlt,p'⟩,fun x H' y=>?_⟩
  obtain ⟨e,y⟩:=y
  subst e
  exact hs i x σ _ (y xs q) p
 ·have e:i=xs.length:=by omega
  subst e
  exact .inl ⟨⟨xs,q,Nat.le_refl _⟩,hd σ H p⟩
theorem for_range {lo:Int}{n:Nat}{g:TG}{tb:TS}{D:Ends}{σ:St}{H:Hp} (Pv:Nat→St→Hp→Prop) (h0:Pv 0 σ H)
  (hs:∀ i σ H,i < n→Pv i σ H→g (.int (lo + i)) σ H fun σ2 H2=>tb { D with nx:=Pv (i + 1),ct:=Pv (i + 1),bk:=D.nx } σ2 H2) (hd:∀ σ H,Pv n σ H→D.nx σ H):
  ∃ W:Nat→Nat→St→Hp→Prop,(∃ m,W 0 m σ H)∧∀ i m σ H,W i m σ H→
   ((Itr lo n).stop i H∧D.nx σ H)∨((Itr lo n).go i H∧∃ N:St→Hp→Prop,(∀ σ' H',N σ' H'→∃ m',m' < m∧W (i + 1) m' σ' H')∧∀ x H',(Itr lo n).yld i H x H'→g x σ H' fun σ2 H2=>tb { D with nx:=N,ct:=N,bk:=D.nx } σ2 H2):=by
 refine ⟨fun i m σ H=>m=n - i∧i≤n∧Pv i σ H,⟨n,by simp,Nat.zero_le _,h0⟩,?_⟩
 rintro i m σ H ⟨rfl,hi,p⟩
 by_cases hlt:i < n
 ·refine .inr ⟨hlt,Pv (i + 1),fun σ' H' p'=>⟨n - (i + 1),by omega,rfl,hlt,p'⟩,fun x H' y=>?_⟩
  obtain ⟨e,y⟩:=y
  subst e y
  exact hs i σ _ hlt p
 ·have e:i=n:=by omega
  subst e
  exact .inl ⟨Nat.le_refl _,hd σ H p⟩
end L2
namespace L2
open PySem PySem.Spec PyProof.Rows
abbrev R2:=V→V→Hp→VK→Prop
def OpR (X:Cx) (f:Value→Value→Sem Value) (r:R2):Prop:=
 ∀ (pins:List (Addr×Obj)) (s:Shared) (σ:St) (H:Hp) (x y:V) (v u:Value) (Q:VK),Inv X pins σ H s→RelV x v→RelV y u→r x y H Q→
  wpAny (model X.prog X.w) X.A (f v u) (EP X pins σ Q) X.xe s
def CallR (X:Cx) (f:Value) (r:List V→Hp→VK→Prop):Prop:=
 ∀ (pins:List (Addr×Obj)) (s:Shared) (σ:St) (H:Hp) (xs:List V) (us:List Value) (Q:VK),Inv X pins σ H s→Vals xs us→r xs H Q→
  wpAny (model X.prog X.w) X.A (call f us) (EP X pins σ Q) X.xe s
def tOp (r:R2) (ta tb:TE):TE:=fun σ H Q=>ta σ H fun x H1=>tb σ H1 fun y H2=>r x y H2 Q
inductive I_rI (C:Int→Int→Prop) (g:Int→Int→V) (x:V) (y:V) (H:Hp) (Q:VK):Prop
 | mk (i:_) (j:_) (q0:x=.int i) (q1:y=.int j) (q2:C i j) (q3:Q (g i j) H):I_rI C g x y H Q
def rI (C:Int→Int→Prop) (g:Int→Int→V):R2:=fun x y H Q=>I_rI C g x y H Q
inductive I_rI0 (g:Int→Int→V) (x:V) (y:V) (H:Hp) (Q:VK):Prop
 | mk (i:_) (j:_) (q0:x=.int i) (q1:y=.int j) (q2:Q (g i j) H):I_rI0 g x y H Q
def rI0 (g:Int→Int→V):R2:=fun x y H Q=>I_rI0 g x y H Q
section
variable {X:Cx}{a b c:Expr}{ta tb tc:TE}{pos:Pos}
theorem binT (ha:PE X a ta) (hb:PE X b tb) {pins:List (Addr×Obj)}{s:Shared}{σ:St}{H:Hp}{R:V→V→Hp→Prop} (I:Inv X pins σ H s)
  (h:ta σ H fun x H1=>tb σ H1 fun y H2=>R x y H2) {Q:Value→Shared→Prop} {f:Value→Value→Sem Value}
  (hf:∀ v u s2 x y H2,Inv X pins σ H2 s2→RelV x v→RelV y u→R x y H2→wpAny (model X.prog X.w) X.A (f v u) Q X.xe s2):
  wpAny (model X.prog X.w) X.A (eval a X.env) (fun v s₁=>wpAny (model X.prog X.w) X.A (eval b X.env) (fun u s₂=>wpAny (model X.prog X.w) X.A (f v u) Q X.xe s₂) X.xe s₁) X.xe s:=by
 refine thn (ha pins s σ H _ I h) fun v s1 ⟨x,H1,I1,r1,q1⟩=>?_
 refine thn (hb pins s1 σ H1 _ I1 q1) fun u s2 ⟨y,H2,I2,r2,q2⟩=>?_
 exact hf v u s2 x y H2 I2 r1 r2 q2
theorem pe_op {op:Operator}{r:R2} (ho:OpR X (binaryOp op) r) (ha:PE X a ta) (hb:PE X b tb):PE X (.BinOp a op b pos) (tOp r ta tb):=by
 constructor
 intro pins s σ H Q I h
 exact wpAny_BinOp (binT ha hb I h fun v u s2 x y H2 I2 rx ry q=>ho pins s2 σ H2 x y v u Q I2 rx ry q)
theorem opI {f:Value→Value→Sem Value}{C:Int→Int→Prop}{g:Int→Int→Int}
  (rule:∀ (i j:Int) (t u:Tok) (s:Shared) (Q:Value→Shared→Prop) (E:Value→Shared→Prop),C i j→Q (.int (g i j) s.toks) { s with toks:=s.toks + 1 }→wpAny (model X.prog X.w) X.A (f (.int i t) (.int j u)) Q E s):
  OpR X f (rI C fun i j=>.int (g i j)):=by
 intro pins s σ H x y v u Q I rx ry h
 obtain ⟨i,j,rfl,rfl,hc,q⟩:=h
 obtain ⟨t,rfl⟩:=rx
 obtain ⟨t',rfl⟩:=ry
 exact rule i j t t' s _ _ hc ⟨.int (g i j),H,I.tok _,⟨_,rfl⟩,q⟩
theorem opI0 {f:Value→Value→Sem Value}{g:Int→Int→Int}
  (rule:∀ (i j:Int) (t u:Tok) (s:Shared) (Q:Value→Shared→Prop) (E:Value→Shared→Prop),Q (.int (g i j) s.toks) { s with toks:=s.toks + 1 }→wpAny (model X.prog X.w) X.A (f (.int i t) (.int j u)) Q E s):
  OpR X f (rI0 fun i j=>.int (g i j)):=by
 intro pins s σ H x y v u Q I rx ry h
 obtain ⟨i,j,rfl,rfl,q⟩:=h
 obtain ⟨t,rfl⟩:=rx
 obtain ⟨t',rfl⟩:=ry
 exact rule i j t t' s _ _ ⟨.int (g i j),H,I.tok _,⟨_,rfl⟩,q⟩
theorem opB0 {f:Value→Value→Sem Value}{g:Int→Int→Bool}
  (rule:∀ (i j:Int) (t u:Tok) (s:Shared) (Q:Value→Shared→Prop) (E:Value→Shared→Prop),Q (.bool (g i j)) s→wpAny (model X.prog X.w) X.A (f (.int i t) (.int j u)) Q E s):
  OpR X f (rI0 fun i j=>.bl (g i j)):=by
 intro pins s σ H x y v u Q I rx ry h
 obtain ⟨i,j,rfl,rfl,q⟩:=h
 obtain ⟨t,rfl⟩:=rx
 obtain ⟨t',rfl⟩:=ry
 exact rule i j t t' s _ _ ⟨.bl (g i j),H,I,rfl,q⟩
def CDiv (i j:Int):Prop:=0 < j∧j < 1073741824
def CPow (i j:Int):Prop:=0≤j∧j≤1000000∧i.natAbs < 2 ^ 64
def CMul (i j:Int):Prop:=(-(2 ^ 64) < i∧i < 2 ^ 64)∨(-(2 ^ 64) < j∧j < 2 ^ 64)
theorem CMul.ok {i j:Int} (h:CMul i j):IntMulOk i j:=by
 rcases h with ⟨h1,h2⟩ | ⟨h1,h2⟩
 ·exact .of_left (intBits_le_64 h1 h2)
 ·exact .of_right (intBits_le_64 h1 h2)
theorem op_add:OpR X (binaryOp .Add) (rI0 fun i j=>.int (i + j)):=opI0 fun _ _ _ _ _ _ _ q=>add_int q
theorem op_sub:OpR X (binaryOp .Sub) (rI0 fun i j=>.int (i - j)):=opI0 fun _ _ _ _ _ _ _ q=>sub_int q
theorem op_mul:OpR X (binaryOp .Mult) (rI CMul fun i j=>.int (i * j)):=opI fun _ _ _ _ _ _ _ hc q=>mul_int q hc.ok
theorem op_fdiv:OpR X (binaryOp .FloorDiv) (rI CDiv fun i j=>.int (i / j)):=opI fun i j _ _ _ _ _ hc q=>by
 have h1:(0:Int) < j:=hc.1
 have h2:j < 1073741824:=hc.2
 exact floordiv_int (by omega) (by rw[Int.fdiv_eq_ediv_of_nonneg i (by omega)];exact q) (.inl (PyProof.noPylong_small (by omega)))
theorem op_mod:OpR X (binaryOp .Mod) (rI (fun _ j=>0 < j) fun i j=>.int (i % j)):=opI fun i j _ _ _ _ _ hc q=>by
 have h1:(0:Int) < j:=hc
 exact mod_int' (by omega) (by rw[Int.fmod_eq_emod_of_nonneg i (by omega)];exact q)
theorem op_pow:OpR X (binaryOp .Pow) (rI CPow fun i j=>.int (i ^ j.toNat)):=opI fun _ _ _ _ _ _ _ hc q=>pow_int_small hc.1 hc.2.1 hc.2.2 q
end
def scal:V→V→Bool
 | .non,.non=>true | .non,.int _=>true | .int _,.non=>true | .non,.bl _=>true | .bl _,.non=>true | .non,.str _=>true | .str _,.non=>true
 | .int _,.int _=>true | .bl _,.bl _=>true | .str _,.str _=>true | .byt _,.byt _=>true
 | .int _,.str _=>true | .str _,.int _=>true | .bl _,.str _=>true | .str _,.bl _=>true
 | _,_=>false
def rEq:R2:=fun x y H Q=>scal x y=true∧Q (.bl (decide (x=y))) H
def rNe:R2:=fun x y H Q=>scal x y=true∧Q (.bl (!decide (x=y))) H
theorem dec_int {i j:Int}:decide (V.int i=V.int j)=(i == j):=by
 rw[Bool.eq_iff_iff]
 simp
theorem dec_bl {i j:Bool}:decide (V.bl i=V.bl j)=(i == j):=by
 rw[Bool.eq_iff_iff]
 simp
theorem dec_str {i j:Str}:decide (V.str i=V.str j)=(i == j):=by
 rw[Bool.eq_iff_iff]
 simp
theorem dec_byt {i j:Array UInt8}:decide (V.byt i=V.byt j)=(i.toList == j.toList):=by
 rw[Bool.eq_iff_iff]
 cases i
 cases j
 simp
section
variable {X:Cx}{a b c:Expr}{ta tb tc:TE}{pos:Pos}
theorem fin_bl {pins:List (Addr×Obj)}{σ:St}{H:Hp}{s:Shared}{Q:VK}{k k':Bool} (I:Inv X pins σ H s) (q:Q (.bl k) H) (e:k=k'):EP X pins σ Q (.bool k') s:=by
 subst e
 exact ⟨.bl k,H,I,rfl,q⟩
theorem op_eq:OpR X (compareOp .Eq) rEq:=by
 intro pins s σ H x y v u Q I rx ry h
 obtain ⟨hs,q⟩:=h
 cases x with
 | non=>
  cases rx
  cases y with
  | non=>cases ry;exact PySem.EqNone.eq_none_none (fin_bl I q (by simp))
  | bl j=>cases ry;exact PySem.EqNone.eq_none_bool (fin_bl I q (by simp))
  | int j=>obtain ⟨t',rfl⟩:=ry;exact PySem.EqNone.eq_none_int (fin_bl I q (by simp))
  | str j=>obtain ⟨t',rfl⟩:=ry;exact PySem.EqNone.eq_none_str (fin_bl I q (by simp))
  | _=>exact absurd (show false=true from hs) Bool.false_ne_true
 | bl i=>
  cases rx
  cases y with
  | non=>cases ry;exact PySem.EqNone.eq_bool_none (fin_bl I q (by simp))
  | bl j=>cases ry;exact eq_bool (fin_bl I q dec_bl)
  | str j=>obtain ⟨t',rfl⟩:=ry;exact PySem.EqMixed.eq_bool_str (fin_bl I q (by simp))
  | _=>exact absurd (show false=true from hs) Bool.false_ne_true
 | int i=>
  obtain ⟨t,rfl⟩:=rx
  cases y with
  | non=>cases ry;exact PySem.EqNone.eq_int_none (fin_bl I q (by simp))
  | int j=>obtain ⟨t',rfl⟩:=ry;exact eq_int (fin_bl I q dec_int)
  | str j=>obtain ⟨t',rfl⟩:=ry;exact PySem.EqMixed.eq_int_str (fin_bl I q (by simp))
  | _=>exact absurd (show false=true from hs) Bool.false_ne_true
 | str i=>
  obtain ⟨t,rfl⟩:=rx
  cases y with
  | non=>cases ry;exact PySem.EqNone.eq_str_none (fin_bl I q (by simp))
  | bl j=>cases ry;exact PySem.EqMixed.eq_str_bool (fin_bl I q (by simp))
  | int j=>obtain ⟨t',rfl⟩:=ry;exact PySem.EqMixed.eq_str_int (fin_bl I q (by simp))
  | str j=>obtain ⟨t',rfl⟩:=ry;exact eq_str (fin_bl I q dec_str)
  | _=>exact absurd (show false=true from hs) Bool.false_ne_true
 | byt i=>
  obtain ⟨t,rfl⟩:=rx
  cases y with
  | byt j=>obtain ⟨t',rfl⟩:=ry;exact PySem.W.eq_bytes (fin_bl I q dec_byt)
  | _=>exact absurd (show false=true from hs) Bool.false_ne_true
 | _=>cases y <;> exact absurd (show false=true from hs) Bool.false_ne_true
theorem op_ne:OpR X (compareOp .NotEq) rNe:=by
 intro pins s σ H x y v u Q I rx ry h
 obtain ⟨hs,q⟩:=h
 cases x with
 | non=>
  cases rx
  cases y with
  | non=>cases ry;exact PySem.EqNone.ne_none_none (fin_bl I q (by simp))
  | bl j=>cases ry;exact PySem.EqNone.ne_none_bool (fin_bl I q (by simp))
  | int j=>obtain ⟨t',rfl⟩:=ry;exact PySem.EqNone.ne_none_int (fin_bl I q (by simp))
  | str j=>obtain ⟨t',rfl⟩:=ry;exact PySem.EqNone.ne_none_str (fin_bl I q (by simp))
  | _=>exact absurd (show false=true from hs) Bool.false_ne_true
 | bl i=>
  cases rx
  cases y with
  | non=>cases ry;exact PySem.EqNone.ne_bool_none (fin_bl I q (by simp))
  | bl j=>cases ry;exact ne_bool (fin_bl I q (congrArg not dec_bl))
  | str j=>obtain ⟨t',rfl⟩:=ry;exact PySem.EqMixed.ne_bool_str (fin_bl I q (by simp))
  | _=>exact absurd (show false=true from hs) Bool.false_ne_true
 | int i=>
  obtain ⟨t,rfl⟩:=rx
  cases y with
  | non=>cases ry;exact PySem.EqNone.ne_int_none (fin_bl I q (by simp))
  | int j=>obtain ⟨t',rfl⟩:=ry;exact ne_int (fin_bl I q (congrArg not dec_int))
  | str j=>obtain ⟨t',rfl⟩:=ry;exact PySem.EqMixed.ne_int_str (fin_bl I q (by simp))
  | _=>exact absurd (show false=true from hs) Bool.false_ne_true
 | str i=>
  obtain ⟨t,rfl⟩:=rx
  cases y with
  | non=>cases ry;exact PySem.EqNone.ne_str_none (fin_bl I q (by simp))
  | bl j=>cases ry;exact PySem.EqMixed.ne_str_bool (fin_bl I q (by simp))
  | int j=>obtain ⟨t',rfl⟩:=ry;exact PySem.EqMixed.ne_str_int (fin_bl I q (by simp))
  | str j=>obtain ⟨t',rfl⟩:=ry;exact ne_str (fin_bl I q (congrArg not dec_str))
  | _=>exact absurd (show false=true from hs) Bool.false_ne_true
 | byt i=>
  obtain ⟨t,rfl⟩:=rx
  cases y with
  | byt j=>obtain ⟨t',rfl⟩:=ry;exact PySem.W.ne_bytes (fin_bl I q (congrArg not dec_byt))
  | _=>exact absurd (show false=true from hs) Bool.false_ne_true
 | _=>cases y <;> exact absurd (show false=true from hs) Bool.false_ne_true
theorem op_lt:OpR X (compareOp .Lt) (rI0 fun i j=>.bl (decide (i < j))):=opB0 fun _ _ _ _ _ _ _ q=>lt_int q
theorem op_le:OpR X (compareOp .LtE) (rI0 fun i j=>.bl (decide (i≤j))):=opB0 fun _ _ _ _ _ _ _ q=>le_int q
theorem op_gt:OpR X (compareOp .Gt) (rI0 fun i j=>.bl (decide (j < i))):=opB0 fun _ _ _ _ _ _ _ q=>gt_int q
theorem op_ge:OpR X (compareOp .GtE) (rI0 fun i j=>.bl (decide (j≤i))):=opB0 fun _ _ _ _ _ _ _ q=>ge_int q
theorem op_notN:OpR X (compareOp .IsNot) (fun x y H Q=>y=.non∧Q (.bl (!decide (x=.non))) H):=by
 intro pins s σ H x y v u Q I rx ry h
 obtain ⟨rfl,q⟩:=h
 cases ry
 refine isnot_none_gen (fin_bl I q ?_)
 cases x <;> first
  | (cases rx;rfl)
  | (obtain ⟨t,rfl⟩:=rx;rfl)
theorem nomark (b:Expr) {op:CmpOp} (h:op≠.In:=by decide) (h2:op≠.NotIn:=by decide):behindInMarks op b=false:=by
 have e1:(op == CmpOp.In)=false:=by cases op <;> first | rfl | exact absurd rfl h
 have e2:(op == CmpOp.NotIn)=false:=by cases op <;> first | rfl | exact absurd rfl h2
 cases b <;> simp[behindInMarks,e1,e2]
theorem pe_cmpR {op:CmpOp}{r:R2} (ho:OpR X (compareOp op) r) (ha:PE X a ta) (hb:PE X b tb) (hm:behindInMarks op b=false):PE X (.Compare a [op] [b] pos) (tOp r ta tb):=by
 constructor
 intro pins s σ H Q I h
 exact wpAny_Compare1 (binT ha hb I h fun v u s2 x y H2 I2 rx ry q=>ho pins s2 σ H2 x y v u Q I2 rx ry q) hm
def tTest (t:TE):TT:=fun σ H Q=>t σ H fun x H'=>As V.bl x fun k=>Q k H'
theorem pt_cmpR {op:CmpOp}{r:R2} (ho:OpR X (compareOp op) r) (ha:PE X a ta) (hb:PE X b tb) (hm:behindInMarks op b=false):PT X (.Compare a [op] [b] pos) (tTest (tOp r ta tb)):=by
 constructor
 intro pins s σ H Q I h
 refine wpAny_isTrue_Compare1 (thn (ha pins s σ H _ I h) fun v s1 ⟨x,H1,I1,r1,q1⟩=>thn (hb pins s1 σ H1 _ I1 q1) fun u s2 ⟨y,H2,I2,r2,q2⟩=>
  thn (ho pins s2 σ H2 x y v u _ I2 r1 r2 q2) fun c s3 ⟨z,H3,I3,r3,k,e,q3⟩=>?_) hm
 subst e
 cases r3
 exact wpAny_truthy_bool ⟨H3,I3,q3⟩
def tChain (r r':R2) (ta tb tc:TE):TE:=fun σ H Q=>ta σ H fun x H1=>tb σ H1 fun y H2=>r x y H2 fun z H3=>As V.bl z fun k=>
 (if k=true then tc σ H3 fun w' H4=>r' y w' H4 Q else Q (.bl false) H3)
theorem pe_chain {op op':CmpOp}{r r':R2} (ho:OpR X (compareOp op) r) (ho':OpR X (compareOp op') r') (ha:PE X a ta) (hb:PE X b tb) (hc:PE X c tc)
  (hm:lastMarks [op,op'] [b,c]=false:=by with_unfolding_all rfl):PE X (.Compare a [op,op'] [b,c] pos) (tChain r r' ta tb tc):=by
 constructor
 intro pins s σ H Q I h
 refine Compare_chain (thn (ha pins s σ H _ I h) fun v s1 ⟨x,H1,I1,r1,q1⟩=>chain_link (thn (hb pins s1 σ H1 _ I1 q1) fun u s2 ⟨y,H2,I2,r2,q2⟩=>
  thn (ho pins s2 σ H2 x y v u _ I2 r1 r2 q2) fun d s3 ⟨z,H3,I3,r3,k,e,q3⟩=>?_)) hm
 subst e
 cases r3
 refine wpAny_truthy_bool ?_
 cases k with
 | false=>exact ite_ff ⟨.bl false,H3,I3,rfl,q3⟩
 | true=>exact ite_tt (chain_last (thn (hc pins s3 σ H3 _ I3 q3) fun w' s4 ⟨z',H4,I4,r4,q4⟩=>ho' pins s4 σ H4 y z' u w' Q I4 r2 r4 q4))
theorem pt_chain {op op':CmpOp}{r r':R2} (ho:OpR X (compareOp op) r) (ho':OpR X (compareOp op') r') (ha:PE X a ta) (hb:PE X b tb) (hc:PE X c tc)
  (hm:lastMarks [op,op'] [b,c]=false:=by with_unfolding_all rfl):PT X (.Compare a [op,op'] [b,c] pos) (tTest (tChain r r' ta tb tc)):=by
 constructor
 intro pins s σ H Q I h
 refine isTrue_chain (thn (ha pins s σ H _ I h) fun v s1 ⟨x,H1,I1,r1,q1⟩=>test_link (thn (hb pins s1 σ H1 _ I1 q1) fun u s2 ⟨y,H2,I2,r2,q2⟩=>
  thn (ho pins s2 σ H2 x y v u _ I2 r1 r2 q2) fun d s3 ⟨z,H3,I3,r3,k,e,q3⟩=>?_)) hm
 subst e
 cases r3
 refine wpAny_truthy_bool ?_
 cases k with
 | false=>
  obtain ⟨k',e',q'⟩:=q3
  cases e'
  exact ite_ff ⟨H3,I3,q'⟩
 | true=>
  refine ite_tt (test_last (thn (hc pins s3 σ H3 _ I3 q3) fun w' s4 ⟨z',H4,I4,r4,q4⟩=>thn (ho' pins s4 σ H4 y z' u w' _ I4 r2 r4 q4) fun d' s5 ⟨z2,H5,I5,r5,k2,e2,q5⟩=>?_))
  subst e2
  cases r5
  exact wpAny_truthy_bool ⟨H5,I5,q5⟩
theorem line63:(sizeLine:Nat) < 2 ^ 63:=by rw[sizeLine_eq];decide
inductive I_r_op_add_str (x:V) (y:V) (H:Hp) (Q:VK):Prop
 | mk (i:_) (j:_) (q0:x=.str i) (q1:y=.str j) (q2:i.length + j.length≤sizeLine) (q3:Q (.str (i ++ j)) H):I_r_op_add_str x y H Q
def r_op_add_str:V→V→Hp→VK→Prop:=fun x y H Q=>I_r_op_add_str x y H Q
theorem op_add_str:OpR X (binaryOp .Add) r_op_add_str:=by
 intro pins s σ H x y v u Q I rx ry h
 obtain ⟨i,j,rfl,rfl,hz,q⟩:=h
 obtain ⟨t,rfl⟩:=rx
 obtain ⟨t',rfl⟩:=ry
 exact add_str (fun t' tk=>⟨.str (i ++ j),H,I.tok _,⟨_,rfl⟩,q⟩) hz
theorem vals1 {x:V}{us:List Value} (r:Vals [x] us):∃ u,us=[u]∧RelV x u:=by
 cases r with
 | cons r1 r2=>cases r2;exact ⟨_,rfl,r1⟩
theorem vals2 {x y:V}{us:List Value} (r:Vals [x,y] us):∃ u w',us=[u,w']∧RelV x u∧RelV y w':=by
 cases r with
 | cons r1 r2=>
  cases r2 with
  | cons r3 r4=>cases r4;exact ⟨_,_,rfl,r1,r3⟩
inductive I_r_call_abs (xs:List V) (H:Hp) (Q:VK):Prop
 | mk (i:_) (q0:xs=[.int i]) (q1:Q (.int (if i < 0 then -i else i)) H):I_r_call_abs xs H Q
def r_call_abs:List V→Hp→VK→Prop:=fun xs H Q=>I_r_call_abs xs H Q
theorem call_abs:CallR X (.builtin "abs") r_call_abs:=by
 intro pins s σ H xs us Q I r h
 obtain ⟨i,rfl,q⟩:=h
 obtain ⟨u,rfl,t,rfl⟩:=vals1 r
 exact call_abs_int fun u tk=>⟨.int (if i < 0 then -i else i),H,I.tok _,⟨_,rfl⟩,q⟩
inductive I_r_call_min2 (xs:List V) (H:Hp) (Q:VK):Prop
 | mk (i:_) (j:_) (q0:xs=[.int i,.int j]) (q1:Q (.int (if j < i then j else i)) H):I_r_call_min2 xs H Q
def r_call_min2:List V→Hp→VK→Prop:=fun xs H Q=>I_r_call_min2 xs H Q
theorem call_min2 (hc:X.calm=true):CallR X (.builtin "min") r_call_min2:=by
 intro pins s σ H xs us Q I r h
 obtain ⟨i,j,rfl,q⟩:=h
 obtain ⟨u,w',rfl,⟨t,rfl⟩,⟨t',rfl⟩⟩:=vals2 r
 refine min_two_ints (I.ok.hd hc) fun h' tk k=>⟨_,H,I.kept k,?_,q⟩
 by_cases hj:j < i
 ·rw[if_pos hj,if_pos hj];exact ⟨_,rfl⟩
 ·rw[if_neg hj,if_neg hj];exact ⟨_,rfl⟩
theorem call_int1:CallR X (.type "int") (fun xs H Q=>(∃ i,xs=[.int i]∧Q (.int i) H)∨∃ k,xs=[.bl k]∧Q (.int (if k then 1 else 0)) H):=by
 intro pins s σ H xs us Q I r h
 rcases h with ⟨i,rfl,q⟩ | ⟨k,rfl,q⟩
 ·obtain ⟨u,rfl,t,rfl⟩:=vals1 r
  exact call_int_int ⟨.int i,H,I,⟨_,rfl⟩,q⟩
 ·obtain ⟨u,rfl,r1⟩:=vals1 r
  cases r1
  exact call_int_bool ⟨.int (if k then 1 else 0),H,I.tok _,⟨_,rfl⟩,q⟩
end
end L2
namespace L2
open PySem PySem.Spec PyProof.Rows
structure ObjM (h:Heap) (x dx C:Addr) (mA:Str→Option Value):Prop where
 obj:h.get? x=some (PySem.W.instObj C dx)
 ns:h.Ns1 dx mA
 ne:dx≠x
theorem lookIn_ns {h:Heap}{dx:Addr}{mA:Str→Option Value} (n:h.Ns1 dx mA):∃ od,h.get? dx=some od∧∀ name,PySem.W.lookIn name od=some (mA name):=by
 obtain ⟨o,es,ep,ho,hd,hk,_,hm⟩:=n
 refine ⟨o,ho,fun name=>?_⟩
 have e:=hm name
 unfold nsFind findBy at e
 rw[← Array.find?_toList] at e
 unfold PySem.W.lookIn
 rw[hd]
 dsimp only
 split
 ·rename_i y q
  rw[q] at e
  exact congrArg some e
 ·rename_i q
  rw[q] at e
  have a:es.toList.any (·.refKey)=false:=by
   rw[List.any_eq_false]
   intro y hy
   obtain ⟨z,t,hkey⟩:=hk y (Array.mem_toList_iff.mp hy)
   simp[DictEntry.refKey,hkey]
  have a':¬ es.toList.any (·.refKey)=true:=by rw[a];exact Bool.false_ne_true
  rw[if_neg a']
  exact congrArg some e
theorem ObjM.look {h:Heap}{x dx C:Addr}{mA:Str→Option Value} (I:ObjM h x dx C mA):∃ od,PySem.W.InstAt h x (PySem.W.instObj C dx) C (some od)∧∀ name,PySem.W.lookIn name od=some (mA name):=
 let ⟨od,ho,hl⟩:=lookIn_ns I.ns
 ⟨od,⟨I.obj,rfl,rfl,ho⟩,hl⟩
section
variable {prog:Program}{w:World}{A:Around}{E:Value→Shared→Prop}{s:Shared}{K:PySem.W.Frag}{x dx C f:Addr}{mA:Str→Option Value}{name:Str}{v:Value}
end
theorem RelO.some_of {v:V}{o:Option Value} (r:RelO (some v) o):∃ u,o=some u∧RelV v u:=by
 cases o with
 | none=>exact (show False from r).elim
 | some u=>exact ⟨u,rfl,r⟩
section
variable {P:Program}{w:World}{H H':Hp}{h h':Heap}{a C dx:Addr}{fs fs':List (Str×V)}
theorem ins_get (hok:HOk P w H h) (e:H a=some (.ins C dx fs)):∃ mA,ObjM h a dx C mA∧(∀ f,RelO (fs.lookup f) (mA f))∧PySem.Within mA (fs.map (·.1))∧fs.length≤1000∧H dx=some (.own a):=by
 obtain ⟨d,z,ne,ob,mA,n,r,q⟩:=(show ObjOk P w H h a (.ins C dx fs) from hok a _ e)
 exact ⟨mA,⟨ob,n,ne⟩,r,q,z,d⟩
end
structure Cls (K:PySem.W.Frag) (C:Addr):Prop where
 pg:PySem.W.plainGet K C Str.empty=true
 hd:PySem.W.hasDictIn K C=true
 po:PySem.W.plainOver K C=true
 sa:PySem.W.findIn K (.ref C) "__setattr__"=some (some (.builtin "object.__setattr__"))
theorem Cls.get {K:PySem.W.Frag}{C:Addr} (c:Cls K C) (f:Str):PySem.W.plainGet K C f=true:=c.pg
structure Con (K:PySem.W.Frag) (C:Addr) (f:Str) (v:V) (u:Value):Prop where
 at_:PySem.W.findIn K (.ref C) f=some (some u)
 rel:RelV v u
 get:PySem.W.specialIn K u "__get__"=some none
 cp:PySem.W.copiedNames.contains f=false
structure Meth (K:PySem.W.Frag) (C:Addr) (m:Str) (f:Addr):Prop where
 at_:PySem.W.findIn K (.ref C) m=some (some (.ref f))
 fn:PySem.W.isFn K (.ref f)=true
 kp:PySem.W.keepIn K (.ref f)=true
section
variable {X:Cx}{pins:List (Addr×Obj)}{σ:St}{H:Hp}{s:Shared}{a C dx:Addr}{fs:List (Str×V)}{f:Str}{v:V}{A:Around}{E:Value→Shared→Prop}
end
section
variable {X:Cx}{o e value:Expr}{f:Str}{pos pos' tpos:Pos}{ta tv:TE}
end
section
variable {X:Cx}{pins:List (Addr×Obj)}{σ:St}{H:Hp}{s:Shared}{A:Around}{E:Value→Shared→Prop}{Q:Value→Shared→Prop}{c:Value}{b:Bool}
inductive TyOf (K:PySem.W.Frag) (H:Hp):V→Value→Prop where
 | non:TyOf K H .non (.type "NoneType")
 | bl (x:Bool):TyOf K H (.bl x) (.type "bool")
 | int (i:Int):TyOf K H (.int i) (.type "int")
 | str (x:Str):TyOf K H (.str x) (.type "str")
 | flt (x:UInt64):TyOf K H (.flt x) (.type "float")
 | lst {a:Addr} {xs:List V} (e:H a=some (.lst xs)):TyOf K H (.ref a) (.type "list")
 | frz {a:Addr} {o:Obj} {xs:List V} (e:H a=some (.frz o (.lst xs))):TyOf K H (.ref a) (.type "list")
 | tup {a:Addr} {xs:List V} (e:H a=some (.tup xs)):TyOf K H (.ref a) (.type "tuple")
 | dK {a:Addr} {kvs:List (Key×V)} (e:H a=some (.dK kvs)):TyOf K H (.ref a) (.type "dict")
 | dT {a:Addr} {kvs:List (List Key×V)} (e:H a=some (.dT kvs)):TyOf K H (.ref a) (.type "dict")
 | ins {a C dx:Addr} {fs:List (Str×V)} (e:H a=some (.ins C dx fs)) (cl:Cls K C) (ha:PySem.W.findIn K (.ref C) "__class__"=some (some (.builtin "object.__class__")))
   (hn:PySem.W.specialIn K (.builtin "object.__class__") "__get__"=some (some (.builtin "getset_descriptor.__get__"))) (htk:PySem.W.takesIn K (.builtin "object.__class__")=some true)
   (hm:PySem.W.mroIn K C (.type "object")=some true):TyOf K H (.ref a) (.ref C)
theorem isinst_ok {x:V}{u t:Value} (I:Inv X pins σ H s) (rx:RelV x u) (ty:TyOf X.K H x t) (e:PySem.W.kitOne X.K t c=some b) (h:∀ tk,Q (.bool b) { s with toks:=tk }):
  wpAny (model X.prog X.w) A (call (.builtin "isinstance") [u,c]) Q E s:=by
 cases ty with
 | non=>cases (show u=Value.none from rx);exact PySem.W.kia_one PySem.W.kitx_none I.kIn True.intro e (fun z=>nomatch z) h
 | bl y=>cases (show u=Value.bool y from rx);exact PySem.W.kia_one PySem.W.kitx_bool I.kIn True.intro e (fun z=>nomatch z) h
 | int i=>obtain ⟨t,q⟩:=(show ∃ t,u=Value.int i t from rx);cases q;exact PySem.W.kia_one PySem.W.kitx_int I.kIn True.intro e (fun z=>nomatch z) h
 | str y=>obtain ⟨t,q⟩:=(show ∃ t,u=Value.str y t from rx);cases q;exact PySem.W.kia_one PySem.W.kitx_str I.kIn True.intro e (fun z=>nomatch z) h
 | flt y=>obtain ⟨t,q⟩:=(show ∃ t,u=Value.float y t from rx);cases q;exact PySem.W.kia_one PySem.W.kitx_float I.kIn True.intro e (fun z=>nomatch z) h
 | @lst a xs ea=>
  cases (show u=Value.ref a from rx)
  obtain ⟨_,_,n,_,h1⟩:=(show ObjOk X.prog X.w H s.heap a (.lst xs) from I.hok a _ ea)
  exact PySem.W.kia_one PySem.W.kitx_list I.kIn ⟨_,h1,rfl⟩ e (fun z=>nomatch z) h
 | @frz a ob xs ea=>
  cases (show u=Value.ref a from rx)
  obtain ⟨_,_,_,n,_,h1⟩:=(show ObjOk X.prog X.w H s.heap a (.frz ob (.lst xs)) from I.hok a _ ea)
  exact PySem.W.kia_one PySem.W.kitx_list I.kIn ⟨_,h1,rfl⟩ e (fun z=>nomatch z) h
 | @tup a xs ea=>
  cases (show u=Value.ref a from rx)
  obtain ⟨_,_,_,p⟩:=(show ObjOk X.prog X.w H s.heap a (.tup xs) from I.hok a _ ea)
  obtain ⟨o,h1,h2,_⟩:=p
  exact PySem.W.kia_one PySem.W.kitx_tuple I.kIn ⟨o,h1,h2⟩ e (fun z=>nomatch z) h
 | @dK a kvs ea=>
  cases (show u=Value.ref a from rx)
  obtain ⟨_,_,vs,_,p⟩:=(show ObjOk X.prog X.w H s.heap a (.dK kvs) from I.hok a _ ea)
  obtain ⟨o,es,ep,h1,h2,_⟩:=p
  exact PySem.W.kia_one PySem.W.kitx_dict I.kIn ⟨o,h1,h2.1⟩ e (fun z=>nomatch z) h
 | @dT a kvs ea=>
  cases (show u=Value.ref a from rx)
  obtain ⟨_,_,xs,_,o,es,ep,h1,h2,_⟩:=(show ObjOk X.prog X.w H s.heap a (.dT kvs) from I.hok a _ ea)
  exact PySem.W.kia_one PySem.W.kitx_dict I.kIn ⟨o,h1,h2.1⟩ e (fun z=>nomatch z) h
 | @ins a C dx fs ea cl ha hn htk hm=>
  cases (show u=Value.ref a from rx)
  obtain ⟨mA,O,_⟩:=ins_get I.hok ea
  obtain ⟨od,J,_⟩:=O.look
  exact PySem.W.kia_one (PySem.W.kitx_own (cl.get _) cl.hd ha hn htk hm) I.kIn J e (fun z=>nomatch z) h
end
end L2
namespace L2
open PySem PySem.Spec PyProof.Rows
structure Room (k:Nat) (A:Around):Prop where
 hd:A.handled=none
 dp:A.depth + 3 * k + 5 < recursionLimit
 un:A.units + 16 * k + 200 < cLine
 gd:A.guards=some []
theorem Room.mono {j k:Nat}{A:Around} (r:Room k A) (h:j≤k):Room j A:=⟨r.hd,by have:=r.dp;omega,by have:=r.un;omega,r.gd⟩
theorem Room.deeper {k:Nat}{A:Around} (r:Room (k + 1) A) (env:Env):Room k (A.deeper env):=
 ⟨r.hd,by have:=r.dp;show A.depth + 1 + 3 * k + 5 < _;omega,by have:=r.un;show A.units + 3 + 16 * k + 200 < _;omega,r.gd⟩
theorem Room.in1 {k:Nat}{A:Around} (r:Room (k + 1) A):Room k A.in1:=
 ⟨r.hd,by have:=r.dp;show A.depth + 3 * k + 5 < _;omega,by have:=r.un;show A.units + 1 + 16 * k + 200 < _;omega,r.gd⟩
theorem Room.depth {k:Nat}{A:Around} (r:Room k A):A.depth < recursionLimit:=by have:=r.dp;omega
theorem Room.units {k:Nat}{A:Around} (r:Room k A):A.units + 64 < cLine:=by have:=r.un;omega
def tNil:TA:=fun _ H Q=>Q [] H
def tCons (ta:TE) (tr:TA):TA:=fun σ H Q=>ta σ H fun x H1=>tr σ H1 fun xs H2=>Q (x :: xs) H2
section
variable {X:Cx}{e:Expr}{es:List Expr}{te:TE}{t:TA}{pos:Pos}
theorem pa_nil:PA X [] tNil:=⟨fun _ _ _ _ H Q I h=>Calls.spliced_nil ⟨[],H,I,.nil,h⟩⟩
theorem pa_cons (ha:PE X e te) (hr:PA X es t) (hs:starEach (e :: es) X.env=(false,eval e X.env) :: starEach es X.env:=by rfl):PA X (e :: es) (tCons te t):=by
 constructor
 intro pos pins s σ H Q I h
 rw[hs]
 show wpAny _ _ (spliced ((false,eval e X.env) :: backTo pos (starEach es X.env))) _ _ s
 refine Calls.spliced_cons (thn (ha pins s σ H _ I h) fun u s1 ⟨x,H1,I1,r1,q1⟩=>?_)
 exact thn (hr pos pins s1 σ H1 _ I1 q1) fun us s2 ⟨xs,H2,I2,r2,q2⟩=>⟨x :: xs,H2,I2,.cons r1 r2,q2⟩
def tTup (t:TA):TE:=fun σ H Q=>t σ H fun xs H1=>xs.length≤sizeLine∧∀ p,H1 p=none→Q (.ref p) (upd H1 p (.tup xs))
def tLst (t:TA):TE:=fun σ H Q=>t σ H fun xs H1=>xs.length≤sizeLine∧∀ p,H1 p=none→Q (.ref p) (upd H1 p (.lst xs))
theorem pe_tup {x1} (h:PA X es t):PE X (.Tuple es x1 pos) (tTup t):=by
 constructor
 intro pins s σ H Q I hq
 refine wpAny_Tuple_spliced (thn (h pos pins s σ H _ I hq) fun us s1 ⟨xs,H1,I1,r,z,q⟩=>⟨by rw[← r.length];exact z,?_⟩)
 have hf:H1 s1.heap.objs.size=none:=I1.hok.fresh (Nat.le_refl _)
 refine ⟨.ref s1.heap.objs.size,upd H1 s1.heap.objs.size (.tup xs),I1.laid (t':=s1.toks) (fun b u e=>Heap.get?_push_of_some _ e) (Nat.le_refl _) ?_,rfl,q _ hf⟩
 exact ⟨z,us,r,⟨_,Heap.get?_push_size _ rfl,rfl,_,rfl⟩⟩
theorem pe_lst (h:PA X es t):PE X (.List es pos) (tLst t):=by
 constructor
 intro pins s σ H Q I hq
 refine wpAny_List_spliced (thn (h pos pins s σ H _ I hq) fun us s1 ⟨xs,H1,I1,r,z,q⟩=>⟨by rw[← r.length];exact z,?_⟩)
 have hf:H1 s1.heap.objs.size=none:=I1.hok.fresh (Nat.le_refl _)
 refine ⟨.ref s1.heap.objs.size,upd H1 s1.heap.objs.size (.lst xs),I1.laid (t':=s1.toks) (fun b u e=>Heap.get?_push_of_some _ e) (Nat.le_refl _) ?_,rfl,q _ hf⟩
 exact ⟨z,us,0,r,Heap.get?_push_size _ rfl⟩
end
abbrev Sp:=List V→Hp→VK→XK→Prop
abbrev CXT:=List Env→Hp→Shared→XK→Value→Shared→Prop
structure Env0 (P:Program) (w:World) (K:PySem.W.Frag) (mg:Str→Option Value) (base:Heap) (A:Around) (outer:List Env) (s:Shared) (H:Hp):Prop where
 frames:A.frames=some outer
 mod:Mod K mg base
 bs:∀ b o,base.get? b=some o→s.heap.get? b=some o∧H b=none
 bsz:base.objs.size≤s.heap.objs.size
 funs:s.heap.FunFrames base outer
 frf:∀ b∈frs outer,H b=none
 hok:HOk P w H s.heap
 bare:AllBare s.gens
inductive I_CE (outer:List Env) (P:Program) (w:World) (H:Hp) (s:Shared) (Q:VK) (u:Value) (s':Shared):Prop
 | mk (v:_) (H':_) (q0:s'.os=s.os) (q1:AllBare s'.gens) (q2:Un (frs outer) [] H H' s.heap s'.heap) (q3:HOk P w H' s'.heap) (q4:RelV v u) (q5:Q v H'):I_CE outer P w H s Q u s'
def CE (outer:List Env) (P:Program) (w:World) (H:Hp) (s:Shared) (Q:VK) (u:Value) (s':Shared):Prop:=I_CE outer P w H s Q u s'
def CR (CX:CXT) (outer:List Env) (P:Program) (w:World) (H:Hp) (s:Shared) (Q:VK) (E:XK) (r:Result) (s':Shared):Prop:=
 match r with
 | .ok (.ret u)=>CE outer P w H s Q u s'
 | .ok _=>False
 | .error e=>CX outer H s E e s'
structure FnOk (P:Program) (w:World) (K:PySem.W.Frag) (mg:Str→Option Value) (base:Heap) (CX:CXT) (k:Nat) (f:Addr) (fd:FuncData) (ps:List Str) (sp:Sp):Prop where
 len:∀ vs H Q E,sp vs H Q E→vs.length=ps.length
 run:∀ (A:Around) (outer:List Env) (s:Shared) (H:Hp) (args:Args) (us:List Value) (vs:List V) (Q:VK) (E:XK),Room k A→Env0 P w K mg base A outer s H→BindsTo s fd args (ps.zip us)→Vals vs us→sp vs H Q E→
  codeAny (model P w) A (.call (.ref f) args) (CR CX outer P w H s Q E) s
section
variable {X:Cx}{pins:List (Addr×Obj)}{σ:St}{H:Hp}{s s':Shared}
theorem Inv.env0 (I:Inv X pins σ H s):Env0 X.prog X.w X.K X.mg X.base X.A X.stack s H:=
 ⟨I.ok.frames,I.ok.mod,I.bs,Nat.le_trans I.ok.bsz I.sz,I.stack,I.stkFree,I.hok,I.bare⟩
theorem Inv.after {Q:VK}{u:Value} (I:Inv X pins σ H s) (h:CE X.stack X.prog X.w H s Q u s'):EP X pins σ Q u s':=by
 obtain ⟨v,H',os,bare,un,hok,r,q⟩:=h
 obtain ⟨hh,g,d,t,os'⟩:=s'
 obtain rfl:os'=s.os:=os
 exact ⟨v,H',I.call (h':=hh) (g':=g) (d':=d) (t':=t) (ch:=[]) un hok bare (fun b z=>absurd z (by simp)),r,q⟩
end
def tCall (sp:Sp) (dvs:List V) (E:XK) (t:TA):TE:=fun σ H Q=>t σ H fun vs H1=>sp (vs ++ dvs) H1 Q E
def Binds (K:PySem.W.Frag) (fd:FuncData) (ps:List Str) (ds:List Value):Prop:=
 ∀ (s:Shared) (us:List Value),K.In s.heap→(us ++ ds).length=ps.length→BindsTo s fd ⟨us,[]⟩ (ps.zip (us ++ ds))
theorem Binds.all {K:PySem.W.Frag}{fd:FuncData}{ps:List Str} (h:∀ us:List Value,us.length=ps.length→bindArgs fd ⟨us,[]⟩=pure (ps.zip us)):Binds K fd ps []:=fun s us _ hl=>by
 rw[List.append_nil] at hl ⊢
 exact .of_eq (h us hl)
def Passes (CX:CXT) (X:Cx) (E:XK):Prop:=∀ (pins:List (Addr×Obj)) (σ:St) (H:Hp) (s:Shared) (e:Value) (s':Shared),Inv X pins σ H s→CX X.stack H s E e s'→X.xe e s'
section
variable {X:Cx}{CX:CXT}{k:Nat}{f C:Addr}{fd:FuncData}{ps:List Str}{sp:Sp}{dvs:List V}{ds:List Value}{E:XK}{x m:Str}{p pos apos:Pos}{e o:Expr}{es:List Expr}{ta:TE}{t:TA}
theorem run_fn {pins:List (Addr×Obj)}{σ:St}{H:Hp}{s:Shared}{Q:VK}{us:List Value}{vs:List V} (F:FnOk X.prog X.w X.K X.mg X.base CX k f fd ps sp) (hr:Room k X.A) (hb:Binds X.K fd ps ds) (hd:Vals dvs ds) (hx:Passes CX X E)
  (I:Inv X pins σ H s) (r:Vals vs us) (h:sp (vs ++ dvs) H Q E):wpAny (model X.prog X.w) X.A (call (.ref f) us) (EP X pins σ Q) X.xe s:=by
 have r2:Vals (vs ++ dvs) (us ++ ds):=r.append hd
 have hl:(us ++ ds).length=ps.length:=by rw[← r2.length];exact F.len _ _ _ _ h
 refine wpAny_call (codeAny_mono (F.run X.A X.stack s H ⟨us,[]⟩ (us ++ ds) (vs ++ dvs) Q E hr I.env0 (hb s us I.kIn hl) r2 h) fun r s' hq=>?_)
 cases r with
 | error e=>exact hx pins σ H s e s' I hq
 | ok fl=>
  cases fl with
  | ret u=>exact I.after hq
  | next=>exact False.elim hq
  | brk=>exact False.elim hq
  | cont=>exact False.elim hq
theorem pe_call (F:FnOk X.prog X.w X.K X.mg X.base CX k f fd ps sp) (hr:Room k X.A) (hg:Gl X x) (hm:X.mg x=some (.ref f)) (hk:PySem.W.keepIn X.K (.ref f)=true) (hb:Binds X.K fd ps ds) (hd:Vals dvs ds) (hx:Passes CX X E)
  (ha:PA X (e :: es) t) (hdb:(x == ("__debug__":Str))=false:=by decide) (he:starEach (e :: es) X.env=(false,eval e X.env) :: starEach es X.env:=by rfl) (hpl:(backTo pos (starEach es X.env)).any (·.1)=false:=by rfl):
  PE X (.Call (.Name x p) (e :: es) [] pos) (tCall sp dvs E t):=by
 constructor
 intro pins s σ H Q I h
 refine wpAny_Call_Name_kw (ld_glob I hg hm ?_ hdb)
 refine PySem.W.callWith_K (h₀:=X.base) I.ok.mod.kin hk (thn (ha pos pins s σ H _ I h) fun us s1 ⟨vs,H1,I1,r,q⟩=>⟨I1.kIn,?_⟩) he hpl
 exact run_fn F hr hb hd hx I1 r q
structure Mk (K:PySem.W.Frag) (C f:Addr):Prop where
 makes:PySem.W.makesIn K C=true
 init:PySem.W.findIn K (.ref C) "__init__"=some (some (.ref f))
 fn:PySem.W.isFn K (.ref f)=true
 kp:PySem.W.keepIn K (.ref C)=true
end
structure PK (X:Cx) (kws:List Keyword) (t:TA):Prop where
 run:
  ∀ (pos:Pos) (pins:List (Addr×Obj)) (s:Shared) (σ:St) (H:Hp) (Q:List V→Hp→Prop),Inv X pins σ H s→t σ H Q→wpAny (model X.prog X.w) X.A (evalAll ((backToKw pos (keywordEach kws X.env)).map (·.2))) (AP X pins σ Q) X.xe s
instance {X:Cx} {kws:List Keyword} {t:TA}:CoeFun (PK X kws t) (fun _=>
 ∀ (pos:Pos) (pins:List (Addr×Obj)) (s:Shared) (σ:St) (H:Hp) (Q:List V→Hp→Prop),Inv X pins σ H s→t σ H Q→wpAny (model X.prog X.w) X.A (evalAll ((backToKw pos (keywordEach kws X.env)).map (·.2))) (AP X pins σ Q) X.xe s):=⟨fun h=>h.run⟩
section
variable {X:Cx}{CX:CXT}{k:Nat}{f C:Addr}{fd:FuncData}{ps ks:List Str}{sp:Sp}{E:XK}{x m:Str}{p pos apos kpos:Pos}{e o:Expr}{es:List Expr}{kws:List Keyword}{te ta:TE}{t tk:TA}{nm:Option Str}
theorem pk_nil:PK X [] tNil:=⟨fun _ _ _ _ H Q I h=>wpAny_evalAll_nil ⟨[],H,I,.nil,h⟩⟩
theorem pk_cons (ha:PE X e te) (hr:PK X kws t):PK X (⟨nm,e,kpos⟩ :: kws) (tCons te t):=by
 constructor
 intro pos pins s σ H Q I h
 show wpAny _ _ (evalAll ((do let v ← eval e X.env;standAt pos;pure v) :: (backToKw pos (keywordEach kws X.env)).map (·.2))) _ _ s
 refine wpAny_evalAll_cons (wpAny_bind (thn (ha pins s σ H _ I h) fun u s1 ⟨x,H1,I1,r1,q1⟩=>wpAny_bind (wpAny_standAt (wpAny_pure ?_))))
 exact thn (hr pos pins s1 σ H1 _ I1 q1) fun us s2 ⟨xs,H2,I2,r2,q2⟩=>⟨x :: xs,H2,I2,.cons r1 r2,q2⟩
structure KBinds (K:PySem.W.Frag) (fd:FuncData) (ps ks:List Str) (g:List Value→List Value→List Value) (gV:List V→List V→List V):Prop where
 to:∀ (s:Shared) (us ws:List Value),K.In s.heap→(g us ws).length=ps.length→BindsTo s fd ⟨us,ks.zip ws⟩ (ps.zip (g us ws))
 rel:∀ {vs:List V} {us:List Value} {zs:List V} {ws:List Value},Vals vs us→Vals zs ws→Vals (gV vs zs) (g us ws)
variable {g:List Value→List Value→List Value}{gV:List V→List V→List V}
end
structure FnScope (N P:List Str) (sc:Scope):Prop where
 kind:sc.kind=.function
 co:sc.isCoroutine=false
 gen:sc.isGenerator=false
 nd:N.Nodup
 pre:N.take P.length=P
 par:∀ x∈P,sc.names.lookup x=some .local∨sc.names.lookup x=some .cell
 nofree:∀ y∈sc.names,y.2≠.free
theorem bindL_out {kindOf:Str→Option NameKind}{x:Str}:∀ {binds:List (Str×Value)}{m:Str→Option Value},(∀ v,(x,v) ∉ binds)→bindL kindOf binds m x=m x
 | [],_,_=>rfl
 | (n,v) :: r,m,h=>by
  unfold bindL
  rw[bindL_out fun w hw=>h w (List.mem_cons_of_mem _ hw)]
  split
  ·have:x≠n:=by rintro rfl;exact h v List.mem_cons_self
   simp[this]
  ·rfl
theorem bindC_out {kindOf:Str→Option NameKind}{x:Str}:∀ {binds:List (Str×Value)}{m:Str→Option Value},(∀ v,(x,v) ∉ binds)→bindC kindOf binds m x=m x
 | [],_,_=>rfl
 | (n,v) :: r,m,h=>by
  unfold bindC
  rw[bindC_out fun w hw=>h w (List.mem_cons_of_mem _ hw)]
  split
  ·rfl
  ·have:x≠n:=by rintro rfl;exact h v List.mem_cons_self
   simp[this]
theorem bindL_get {kindOf:Str→Option NameKind}{x:Str}{v:Value}:∀ {P:List Str}{vs:List Value}{i:Nat}{m:Str→Option Value},P.Nodup→P[i]?=some x→vs[i]?=some v→kindOf x=some .local→
  bindL kindOf (P.zip vs) m x=some v
 | [],_,_,_,_,h,_,_=>by simp at h
 | _ :: _,[],_,_,_,_,h,_=>by simp at h
 | p :: P,w :: vs,0,m,nd,h1,h2,hk=>by
  simp at h1 h2;subst h1;subst h2
  show bindL kindOf ((p,w) :: P.zip vs) m p=_
  unfold bindL
  rw[bindL_out fun v hv=>(List.nodup_cons.mp nd).1 (List.of_mem_zip hv).1,if_pos hk]
  simp
 | p :: P,w :: vs,i + 1,m,nd,h1,h2,hk=>by
  show bindL kindOf ((p,w) :: P.zip vs) m x=_
  unfold bindL
  exact bindL_get (i:=i) (List.nodup_cons.mp nd).2 (by simpa using h1) (by simpa using h2) hk
theorem bindC_get {kindOf:Str→Option NameKind}{x:Str}{v:Value}:∀ {P:List Str}{vs:List Value}{i:Nat}{m:Str→Option Value},P.Nodup→P[i]?=some x→vs[i]?=some v→kindOf x≠some .local→
  bindC kindOf (P.zip vs) m x=some v
 | [],_,_,_,_,h,_,_=>by simp at h
 | _ :: _,[],_,_,_,_,h,_=>by simp at h
 | p :: P,w :: vs,0,m,nd,h1,h2,hk=>by
  simp at h1 h2;subst h1;subst h2
  show bindC kindOf ((p,w) :: P.zip vs) m p=_
  unfold bindC
  rw[bindC_out fun v hv=>(List.nodup_cons.mp nd).1 (List.of_mem_zip hv).1,if_neg hk]
  simp
 | p :: P,w :: vs,i + 1,m,nd,h1,h2,hk=>by
  show bindC kindOf ((p,w) :: P.zip vs) m x=_
  unfold bindC
  exact bindC_get (i:=i) (List.nodup_cons.mp nd).2 (by simpa using h1) (by simpa using h2) hk
def start (N:List Str) (vs:List V):St:=vs.map some ++ List.replicate (N.length - vs.length) none
def cxOf (CX:CXT) (P:Program) (w:World) (K:PySem.W.Frag) (mg:Str→Option Value) (base:Heap) (N:List Str) (qual:Str) (scope:Scope) (f:Addr) (cd:Value) (A:Around) (outer:List Env) (s:Shared) (H:Hp) (E:XK):Cx where
 prog:=P
 w:=w
 K:=K
 mg:=mg
 base:=base
 A:=A.deeper (envOfC qual scope s.heap.objs.size f cd)
 N:=N
 s₀:=s
 H₀:=H
 env:=envOfC qual scope s.heap.objs.size f cd
 outer:=outer
 stack:=envOfC qual scope s.heap.objs.size f cd :: outer
 ex:=[]
 calm:=true
 fn:=fun _=>true
 pn:=[]
 xe:=fun e s'=>wpAny (model P w) (A.deeper (envOfC qual scope s.heap.objs.size f cd)) (leaving (envOfC qual scope s.heap.objs.size f cd) e) (fun _ s''=>CX outer H s E e s'') (fun e' s''=>CX outer H s E e' s'') s'
theorem cell_has {sc:Scope}{n:Nat}{x:Str} (h:sc.names.lookup x=some .cell):∃ c,(cellsFrom n sc.names []).lookup x=some c:=by
 have q:=PySem.W.cellsFrom_some sc.names n [] (.inl h)
 exact Option.isSome_iff_exists.mp q
theorem inv_start {CX:CXT}{P:Program}{w:World}{K:PySem.W.Frag}{mg:Str→Option Value}{base:Heap}{N ps:List Str}{qual:Str}{scope:Scope}{f:Addr}{cd:Value}{A:Around}{outer:List Env}{s s1:Shared}{H:Hp}{E:XK}{us:List Value}{vs:List V}
  (S:FnScope N ps scope) (hd:A.handled=none) (e0:Env0 P w K mg base A outer s H) (hl:vs.length=ps.length) (r:Vals vs us)
  (x:InCallC s s.heap.objs.size (bindL (envOfC qual scope s.heap.objs.size f cd).kindOf (ps.zip us) fun _=>none) (cellsFrom (s.heap.objs.size + 1) scope.names []) (bindC (envOfC qual scope s.heap.objs.size f cd).kindOf (ps.zip us) fun _=>none) s1):
  Inv (cxOf CX P w K mg base N qual scope f cd A outer s H E) [] (start N vs) H s1:=by
 have hpl:ps.length≤N.length:=by have:=congrArg List.length S.pre;rw[List.length_take] at this;omega
 obtain ⟨h1,tk,rfl,hk⟩:=x.done
 have noA:∀ b:Addr,b ∉ (cxOf CX P w K mg base N qual scope f cd A outer s H E).ex:=fun b z=>absurd (show b∈([]:List Addr) from z) (by simp)
 refine ⟨⟨e0.mod,S.kind,rfl,rfl,Nat.le_refl _,fun y z c h1 h2=>?_,fun y hy=>?_,fun y c _ h=>?_,fun _=>hd,Around.frames_deeper e0.frames,.inr ⟨rfl,rfl⟩,fun b z=>absurd z (noA b),e0.bs,e0.bsz,fun b _ _=>noA b,fun b z=>absurd z (noA b),e0.funs,e0.frf⟩,
  rfl,e0.bare,Un.kept hk,⟨_,x.toInCall.ns,fun i y v h1 h2 h3=>?_⟩,fun y c h=>⟨_,x.cell y c h⟩,e0.hok.fresh (Nat.le_refl _),fun y c h=>?_,fun p hp=>absurd (show p∈([]:List (Addr×Obj)) from hp) (by simp),e0.hok.kept hk,?_⟩
 ·exact name_of_addr x.apart (PySem.mem_of_lookup h1) (PySem.mem_of_lookup h2)
 ·have hy:scope.names.lookup y=some .cell∨scope.names.lookup y=some .free:=hy
  rcases hy with hy | hy
  ·exact cell_has hy
  ·exact absurd rfl (S.nofree _ (PySem.mem_of_lookup hy))
 ·exact Nat.le_of_lt (x.above y c (PySem.mem_of_lookup h))
 ·have hi:i < vs.length:=by
   unfold start at h2
   by_cases hi:i < vs.length
   ·exact hi
   ·rw[List.getElem?_append_right (by simpa using hi)] at h2
    rw[List.getElem?_replicate] at h2
    split at h2 <;> cases h2
  have ha:vs[i]?=some v:=by
   unfold start at h2
   rw[List.getElem?_append_left (by simpa using hi),List.getElem?_map] at h2
   cases e:vs[i]? with
   | none=>rw[e] at h2;cases h2
   | some a=>rw[e] at h2;cases h2;rfl
  obtain ⟨u,hu,rv⟩:=r.get ha
  have hp:ps[i]?=some y:=by
   rw[← S.pre,List.getElem?_take_of_lt (by omega)];exact h1
  have ndP:ps.Nodup:=by rw[← S.pre];exact S.nd.sublist (List.take_sublist _ _)
  refine ⟨u,rv,?_⟩
  rcases S.par y (List.mem_of_getElem? hp) with k | k
  ·exact .inl ⟨k,bindL_get ndP hp hu k⟩
  ·obtain ⟨c,e⟩:=cell_has (n:=s.heap.objs.size + 1) k
   refine .inr ⟨.inl k,c,e,?_⟩
   have q:=x.cell y c e
   rw[bindC_get ndP hp hu (by show scope.names.lookup y≠_;rw[k];decide)] at q
   exact q
 ·exact e0.hok.fresh (Nat.le_of_lt (x.above y c (PySem.mem_of_lookup h)))
 ·unfold start
  show _=N.length
  rw[List.length_append,List.length_map,List.length_replicate]
  omega
theorem fn_of {CX:CXT}{P:Program}{w:World}{K:PySem.W.Frag}{mg:Str→Option Value}{base:Heap}{k:Nat}{f:Addr}{name qual:Str}{params:Arguments}{body:List Stmt}{scope:Scope}{dV kV doc pm cdv ct oc:Value}{an od:Option Addr}
  {osl:Array (Option Value)} {N ps:List Str} {sp:Sp} (lk:K.lookup f=some ⟨oc,od,.func (PySem.W.fnOf name qual params body scope dV kV doc pm an cdv ct),osl⟩) (hcd:PySem.W.codeIn K cdv qual=true) (S:FnScope N ps scope)
  (len:∀ vs H Q E,sp vs H Q E→vs.length=ps.length)
  (hbody:∀ (A:Around) (outer:List Env) (s:Shared) (H:Hp) (vs:List V) (Q:VK) (E:XK),Room k (A.deeper (envOfC qual scope s.heap.objs.size f cdv))→sp vs H Q E→
   ∃ t,PSs (cxOf CX P w K mg base N qual scope f cdv A outer s H E) body t∧t { nx:=fun _ H'=>Q .non H',rt:=Q } (start N vs) H):
  FnOk P w K mg base CX (k + 1) f (PySem.W.fnOf name qual params body scope dV kV doc pm an cdv ct) ps sp:=by
 refine ⟨len,fun A outer s H args us vs Q E hr e0 hb r hsp=>?_⟩
 have hl:=len _ _ _ _ hsp
 have KX:K.In s.heap:=e0.mod.kin.keeps fun b o e=>(e0.bs b o e).1
 have lim:s.heap.NoLimit:=e0.mod.nolimit.keeps fun b o e=>(e0.bs b o e).1
 have hkind:∀ y∈ps.zip us,scope.names.lookup y.1=some .local∨(scope.names.lookup y.1=some .cell∧((cellsFrom (s.heap.objs.size + 1) scope.names []).lookup y.1).isSome=true):=fun ⟨n,v⟩ hy=>by
  rcases S.par n (List.of_mem_zip hy).1 with q | q
  ·exact .inl q
  ·exact .inr ⟨q,PySem.W.cellsFrom_some _ _ _ (.inl q)⟩
 refine codeAny_call_function hr.depth (KX _ _ lk) rfl S.co S.gen rfl (PySem.W.codeRec_of KX hcd) (hb _ _ _ _ ?_)
 refine wpAny_newFunctionEnv_cells S.kind hkind fun env he s1 x=>?_
 subst he
 refine ⟨lim.keeps x.toInCall.keep,codeAny_func ?_⟩
 obtain ⟨t,ht,hq⟩:=hbody A outer s H vs Q E (hr.deeper _) hsp
 have I:Inv (cxOf CX P w K mg base N qual scope f cdv A outer s H E) [] (start N vs) H s1:=inv_start S hr.hd e0 hl r x
 refine wpAny_mono (ht [] s1 (start N vs) H _ I hq) (fun fl s' hs=>?_) fun e s' hs=>hs
 have fin:∀ {σ':St} {H':Hp} {v:V} {u:Value},Inv (cxOf CX P w K mg base N qual scope f cdv A outer s H E) [] σ' H' s'→RelV v u→Q v H'→CE outer P w H s Q u s':=
  fun {σ' H' v u} J rv q=>⟨v,H',J.os,J.bare,J.base,J.hok,rv,q⟩
 cases fl with
 | ret u=>
  obtain ⟨v,σ',H',J,rv,q⟩:=hs
  exact fin J rv q
 | next=>
  obtain ⟨σ',H',J,q⟩:=hs
  exact fin (v:=V.non) (u:=Value.none) J rfl q
 | brk=>
  obtain ⟨_,_,_,q⟩:=hs
  exact False.elim q
 | cont=>
  obtain ⟨_,_,_,q⟩:=hs
  exact False.elim q
end L2
namespace L2
open PySem PySem.Spec PyProof.Rows
section
variable {X:Cx}{x:Str}{p pos:Pos}{e:Expr}{es:List Expr}{t:TA}{id T:String}{r:List V→Hp→VK→Prop}
def tCB (r:List V→Hp→VK→Prop) (t:TA):TE:=fun σ H Q=>t σ H fun vs H1=>r vs H1 Q
theorem pe_callB (hc:CallR X (.builtin id) r) (hg:Gl X x) (hm:X.mg x=none) (hv:bootBuiltins x=some (.builtin id)) (ha:PA X (e :: es) t) (hn:x≠"__name__":=by decide) (hdb:(x == ("__debug__":Str))=false:=by decide)
  (he:starEach (e :: es) X.env=(false,eval e X.env) :: starEach es X.env:=by rfl) (hpl:(backTo pos (starEach es X.env)).any (·.1)=false:=by rfl):PE X (.Call (.Name x p) (e :: es) [] pos) (tCB r t):=by
 constructor
 intro pins s σ H Q I h
 refine wpAny_Call_Name_kw (ld_blt I hg hm hv ?_ hn hdb)
 exact PyProof.Rows.callWith_builtin1 (thn (ha pos pins s σ H _ I h) fun us s1 ⟨vs,H1,I1,r1,q1⟩=>hc pins s1 σ H1 vs us Q I1 r1 q1) he hpl
theorem pe_callTy (hc:CallR X (.type T) r) (hg:Gl X x) (hm:X.mg x=none) (hv:bootBuiltins x=some (.type T)) (ha:PA X (e :: es) t) (hn:x≠"__name__":=by decide) (hdb:(x == ("__debug__":Str))=false:=by decide)
  (he:starEach (e :: es) X.env=(false,eval e X.env) :: starEach es X.env:=by rfl) (hpl:(backTo pos (starEach es X.env)).any (·.1)=false:=by rfl):PE X (.Call (.Name x p) (e :: es) [] pos) (tCB r t):=by
 constructor
 intro pins s σ H Q I h
 refine wpAny_Call_Name_kw (ld_blt I hg hm hv ?_ hn hdb)
 exact PyProof.Rows.callWith_type1 (thn (ha pos pins s σ H _ I h) fun us s1 ⟨vs,H1,I1,r1,q1⟩=>hc pins s1 σ H1 vs us Q I1 r1 q1) he hpl
end
end L2
namespace HT
open PySem PyProof.Rows
section
open PySem.SeqAt
open PySem.AutoSeq1 (wpAny_loadPart')
open PySem.MeetsSeq PySem.MeetsSeq2 PySem.MeetsSeq3
end
section
variable {prog:Program}{w:World}{A:Around}{E:Value→Shared→Prop}{s:Shared}
def sIx (n d:Nat):Option Int→Nat
 | none=>d
 | some v=>if v < 0 then (v + (n:Int)).toNat else min v.toNat n
theorem sIx_none (n d:Nat):sIx n d none=d:=rfl
theorem sIx_nat (n d k:Nat):sIx n d (some (k:Int))=min k n:=by
 show (if (k:Int) < 0 then ((k:Int) + (n:Int)).toNat else min (k:Int).toNat n)=min k n
 rw[if_neg (by omega),Int.toNat_natCast]
theorem sIx_le (n d:Nat) (hd:d≤n) (o:Option Int):sIx n d o≤n:=by
 cases o with
 | none=>exact hd
 | some v=>
  show (if v < 0 then (v + (n:Int)).toNat else min v.toNat n)≤n
  by_cases hv:v < 0
  ·rw[if_pos hv];omega
  ·rw[if_neg hv];exact Nat.min_le_right _ _
theorem clip_eq (v:Int) (n d:Nat):(if v < 0 then max (v + (n:Int)) 0 else min v (n:Int))=((sIx n d (some v):Nat):Int):=by
 show (if v < 0 then max (v + (n:Int)) 0 else min v (n:Int))=(((if v < 0 then (v + (n:Int)).toNat else min v.toNat n):Nat):Int)
 by_cases hv:v < 0
 ·simp only [if_pos hv];omega
 ·simp only [if_neg hv];omega
theorem adjust_gen (lo hi:Option Int) (n:Nat):Builtin.Slice.sliceAdjust lo hi 1 (n:Int)=(((sIx n 0 lo:Nat):Int),((sIx n n hi:Nat):Int)):=by
 have h1:¬ ((1:Int) < 0):=by omega
 unfold Builtin.Slice.sliceAdjust
 simp only [h1,if_false]
 refine Prod.ext ?_ ?_
 ·cases lo with
  | none=>rfl
  | some v=>exact clip_eq v n 0
 ·cases hi with
  | none=>rfl
  | some v=>exact clip_eq v n n
theorem places_gen (i j:Nat):Builtin.Slice.slicePlaces (i:Int) (j:Int) 1=j - i:=by
 unfold Builtin.Slice.slicePlaces
 have h1:(1:Int) > 0:=by omega
 simp only [h1,if_true,Int.ediv_one]
 split <;> omega
theorem slicePart_ {v:Value}{o:Option Int}{Q:Option Int→Shared→Prop} (p:IsPart v o) (h:Q o s):wpAny (model prog w) A (Builtin.Slice.slicePartIndex v) Q E s:=by
 cases p with
 | none=>exact slicePart_none h
 | int i t=>exact slicePart_int h
theorem sliceApplied_gen {sl:Addr}{vl vu:Value}{lo hi:Option Int}{n:Nat}{Q:Int×Int×Nat→Shared→Prop} (hs:s.heap.IsSliceOf sl vl vu .none) (pl:IsPart vl lo) (pu:IsPart vu hi)
  (h:Q (((sIx n 0 lo:Nat):Int),1,sIx n n hi - sIx n 0 lo) s):wpAny (model prog w) A (Builtin.Slice.sliceApplied (.ref sl) (pure (n:Int))) Q E s:=by
 obtain ⟨os,hos,hcs,hds⟩:=id hs
 unfold Builtin.Slice.sliceApplied Builtin.Slice.sliceFields
 refine wpAny_bind (wpAny_bind (wpAny_field hos hds (x:=vl) rfl (wpAny_bind (wpAny_field hos hds (x:=vu) rfl (wpAny_bind (wpAny_field hos hds (x:=.none) rfl (wpAny_pure ?_)))))))
 refine wpAny_bind (slicePart_none ?_)
 show wpAny _ _ (if ((1:Int) == 0)=true then _ else _) _ _ s
 rw[if_neg (by decide)]
 refine wpAny_bind (slicePart_ pl (wpAny_bind (slicePart_ pu (wpAny_bind (wpAny_pure ?_)))))
 show wpAny _ _ (match Builtin.Slice.sliceAdjust lo hi 1 (n:Int) with | (lo,hi)=>pure (lo,(1:Int),Builtin.Slice.slicePlaces lo hi 1)) _ _ s
 rw[adjust_gen lo hi n]
 show wpAny _ _ (pure (((sIx n 0 lo:Nat):Int),(1:Int),Builtin.Slice.slicePlaces ((sIx n 0 lo:Nat):Int) ((sIx n n hi:Nat):Int) 1)) _ _ s
 rw[places_gen]
 exact wpAny_pure h
theorem pick_gen (xs:Array Value) (i k:Nat):((List.range k).filterMap fun (m:Nat)=>xs[((i:Int) + (m:Int) * 1).toNat]?).toArray=((xs.toList.drop i).take k).toArray:=by
 have e:(fun (m:Nat)=>xs[((i:Int) + (m:Int) * 1).toNat]?)=fun m=>xs[i + m]?:=by
  funext m
  have:((i:Int) + (m:Int) * 1).toNat=i + m:=by omega
  rw[this]
 rw[e]
 have:=pick_run xs i k
 rw[List.filterMap_map] at this
 have e2:((fun x=>xs[x]?) ∘ fun x=>i + x)=fun m=>xs[i + m]?:=rfl
 rw[e2] at this
 rw[this]
theorem getItem_tuple_cut {t sl:Addr}{items:Array Value}{vl vu:Value}{lo hi:Option Int}{Q:Value→Shared→Prop} (ht:IsTup s.heap t items) (hs:s.heap.IsSliceOf sl vl vu .none) (pl:IsPart vl lo) (pu:IsPart vu hi)
  (hw:¬ (sIx items.size 0 lo=0∧sIx items.size items.size hi=items.size))
  (h:Q (.ref s.heap.objs.size) { s with heap:=s.heap.push { cls:=.type "tuple",data:=.seq ((items.toList.drop (sIx items.size 0 lo)).take (sIx items.size items.size hi - sIx items.size 0 lo)).toArray } })
  (hsz:items.size≤sizeLine):wpAny (model prog w) A (getItem (.ref t) (.ref sl)) Q E s:=by
 have htake:sizeOk (.seq ((items.toList.drop (sIx items.size 0 lo)).take (sIx items.size items.size hi - sIx items.size 0 lo)).toArray):=by
  show ((items.toList.drop (sIx items.size 0 lo)).take (sIx items.size items.size hi - sIx items.size 0 lo)).toArray.size≤sizeLine
  rw[List.size_toArray,List.length_take,List.length_drop,Array.length_toList]
  omega
 have hj:sIx items.size items.size hi≤items.size:=sIx_le _ _ (Nat.le_refl _) hi
 obtain ⟨os,hos,hcs,hds⟩:=id hs
 have hTs:s.TypeIs (.ref sl) "slice":=⟨os,hos,hcs⟩
 unfold getItem
 try with_reducible refine wpAny_holding ?_
 first | refine wpAny_bind (wpAny_pure ?_) | skip
 refine wpAny_bind (wpAny_sequenceKey ht.typeIs (by decide) ?_)
 refine wpAny_bind (wpAny_callSpecial?_slot (name:=Str.ofString "__getitem__") ht.typeIs PyProof.Rows.slot_tuple_getitem
  (wpAny_call_entry PyProof.Rows.slot_tuple_getitem ht.typeIs entry_tuple_getitem ?_ (args_tuple_getitem _ _)))
 show wpAny _ _ (Builtin.Tuple.tupleItemsOf (.ref t) >>= _) _ _ s
 refine wpAny_bind (tupleItemsOf_ ht ?_)
 refine wpAny_bind (wpAny_typeOf hTs ?_)
 rw[if_pos (by decide)]
 refine wpAny_bind (sliceApplied_gen hs pl pu ?_)
 have hno:¬ ((((sIx items.size 0 lo:Nat):Int) == 0 && (1:Int) == 1 && (sIx items.size items.size hi - sIx items.size 0 lo) == items.size)=true):=by
  intro q
  rw[Bool.and_eq_true,Bool.and_eq_true] at q
  have q1:((sIx items.size 0 lo:Nat):Int)=0:=eq_of_beq q.1.1
  have q2:sIx items.size items.size hi - sIx items.size 0 lo=items.size:=eq_of_beq q.2
  exact hw ⟨by omega,by omega⟩
 show wpAny _ _ (if (((sIx items.size 0 lo:Nat):Int) == 0 && (1:Int) == 1 && (sIx items.size items.size hi - sIx items.size 0 lo) == items.size)=true then _ else _) _ _ s
 rw[if_neg hno,pick_gen]
 first
  | exact wpAny_bind (m:=Builtin.Tuple.tupleExact _) (wpAny_newObj_type (wpAny_pure ⟨_,rfl,wpAny_pure h⟩) htake)
  | exact wpAny_bind (m:=Builtin.Tuple.tupleExact _) (wpAny_newObj_type (wpAny_bind (wpAny_pure (wpAny_pure ⟨_,rfl,wpAny_pure h⟩))) htake)
  | exact wpAny_bind (wpAny_bind (m:=Builtin.Tuple.tupleExact _) (wpAny_newObj_type (wpAny_pure (wpAny_pure ⟨_,rfl,wpAny_pure h⟩)) htake))
  | exact wpAny_bind (wpAny_bind (m:=Builtin.Tuple.tupleExact _) (wpAny_newObj_type (wpAny_pure ⟨_,rfl,wpAny_pure h⟩) htake))
end
end HT
namespace L2
open PySem PySem.Spec PyProof.Rows
abbrev TO:=St→Hp→(Option Int→Hp→Prop)→Prop
structure PO (X:Cx) (e:Option Expr) (t:TO):Prop where
 run:
  ∀ (pins:List (Addr×Obj)) (s:Shared) (σ:St) (H:Hp) (Q:Option Int→Hp→Prop),Inv X pins σ H s→t σ H Q→
   wpAny (model X.prog X.w) X.A (evalPart e X.env) (fun u s'=>∃ o H',Inv X pins σ H' s'∧IsPart u o∧Q o H') X.xe s
instance {X:Cx} {e:Option Expr} {t:TO}:CoeFun (PO X e t) (fun _=>
 ∀ (pins:List (Addr×Obj)) (s:Shared) (σ:St) (H:Hp) (Q:Option Int→Hp→Prop),Inv X pins σ H s→t σ H Q→
  wpAny (model X.prog X.w) X.A (evalPart e X.env) (fun u s'=>∃ o H',Inv X pins σ H' s'∧IsPart u o∧Q o H') X.xe s):=⟨fun h=>h.run⟩
def tNoPart:TO:=fun _ H Q=>Q none H
def tPart (t:TE):TO:=fun σ H Q=>t σ H fun x H1=>As V.int x fun i=>Q (some i) H1
section
variable {X:Cx}{e:Expr}{te:TE}{lo hi:Option Expr}{tl th:TO}{pos p2:Pos}
theorem po_none:PO X none tNoPart:=by
 constructor
 intro pins s σ H Q I h
 rw[evalPart_none]
 exact wpAny_pure ⟨none,H,I,.none,h⟩
theorem po_some (h:PE X e te):PO X (some e) (tPart te):=by
 constructor
 intro pins s σ H Q I hw
 rw[evalPart_some]
 refine thn (h pins s σ H _ I hw) fun u s1 ⟨x,H1,I1,r1,q1⟩=>?_
 obtain ⟨i,rfl,q⟩:=q1
 obtain ⟨t,rfl⟩:=r1
 exact ⟨some i,H1,I1,.int i t,q⟩
def SlR (X:Cx) (r:V→Option Int→Option Int→Hp→VK→Prop):Prop:=
 ∀ (pins:List (Addr×Obj)) (s:Shared) (σ:St) (H:Hp) (x:V) (v vl vu:Value) (lo hi:Option Int) (sl:Addr) (Q:VK),Inv X pins σ H s→RelV x v→s.heap.IsSliceOf sl vl vu .none→IsPart vl lo→IsPart vu hi→r x lo hi H Q→
  ∃ T id,typeLookup (.type T) "__getitem__"=pure (some (.builtin id))∧s.TypeIs v T∧wpAny (model X.prog X.w) X.A (getItem v (.ref sl)) (EP X pins σ Q) X.xe s
def tSl (r:V→Option Int→Option Int→Hp→VK→Prop) (te:TE) (tl th:TO):TE:=fun σ H Q=>te σ H fun x H1=>tl σ H1 fun l H2=>th σ H2 fun u H3=>r x l u H3 Q
theorem pe_slice {r:V→Option Int→Option Int→Hp→VK→Prop} (hr:SlR X r) (he:PE X e te) (hl:PO X lo tl) (hu:PO X hi th):PE X (.Subscript e (.Slice lo hi none p2) pos) (tSl r te tl th):=by
 constructor
 intro pins s σ H Q I h
 refine Subscript_ (thn (he pins s σ H _ I h) fun v s1 ⟨x,H1,I1,r1,q1⟩=>?_)
 refine wpAny_Slice (thn (hl pins s1 σ H1 _ I1 q1) fun vl s2 ⟨l,H2,I2,pl,q2⟩=>thn (hu pins s2 σ H2 _ I2 q2) fun vu s3 ⟨u,H3,I3,pu,q3⟩=>?_)
 rw[evalPart_none]
 refine wpAny_pure ?_
 have I4:Inv X pins σ H3 { s3 with heap:=s3.heap.push { cls:=.type "slice",data:=.fields #[vl,vu,.none] } }:=I3.kept (t':=s3.toks) fun b ob q=>Heap.get?_push_of_some _ q
 obtain ⟨T,id,hT,ht,hg⟩:=hr pins { s3 with heap:=s3.heap.push { cls:=.type "slice",data:=.fields #[vl,vu,.none] } } σ H3 x v vl vu l u s3.heap.objs.size Q I4 r1 (Heap.IsSliceOf.new ..) pl pu q3
 show wpAny (model X.prog X.w) X.A (subscriptTail e (.Slice lo hi none p2) v (.ref s3.heap.objs.size)) (EP X pins σ Q) X.xe { s3 with heap:=s3.heap.push { cls:=.type "slice",data:=.fields #[vl,vu,.none] } }
 exact tail_any (ops:=[.ref s3.heap.objs.size,v]) ht hT hg (by with_unfolding_all rfl)
def cutV (xs:List V) (lo hi:Option Int):List V:=(xs.drop (HT.sIx xs.length 0 lo)).take (HT.sIx xs.length xs.length hi - HT.sIx xs.length 0 lo)
theorem cutV_length (xs:List V) (lo hi:Option Int):(cutV xs lo hi).length≤xs.length:=by
 unfold cutV
 rw[List.length_take,List.length_drop]
 omega
inductive I_rSlT (K:PySem.W.Frag) (x:V) (lo:Option Int) (hi:Option Int) (H:Hp) (Q:VK):Prop
 | mk (a:_) (xs:_) (q0:x=.ref a) (q1:SqT K H a xs) (q2:¬ (HT.sIx xs.length 0 lo=0∧HT.sIx xs.length xs.length hi=xs.length)) (q3:∀ p,H p=none→Q (.ref p) (upd H p (.tup (cutV xs lo hi)))):I_rSlT K x lo hi H Q
def rSlT (K:PySem.W.Frag):V→Option Int→Option Int→Hp→VK→Prop:=fun x lo hi H Q=>I_rSlT K x lo hi H Q
theorem sl_tup:SlR X (rSlT X.K):=by
 intro pins s σ H x v vl vu lo hi sl Q I rx hs pl pu h
 obtain ⟨a,xs,rfl,hx,hw,q⟩:=h
 cases rx
 obtain ⟨its,r,ht,hz⟩:=I.tuple hx
 have hlen:its.toArray.size=xs.length:=by rw[List.size_toArray];exact r.length.symm
 refine ⟨"tuple",_,PyProof.Rows.slot_tuple_getitem.lookup,ht.typeIs,?_⟩
 refine HT.getItem_tuple_cut ht hs pl pu (by rw[hlen];exact hw) ?_ (by rw[hlen];exact hz)
 rw[hlen]
 refine ⟨.ref s.heap.objs.size,_,I.laid (t':=s.toks) (o:=.tup (cutV xs lo hi)) (fun b ob q=>Heap.get?_push_of_some _ q) (Nat.le_refl _) ?_,rfl,q _ (I.hok.fresh (Nat.le_refl _))⟩
 exact ⟨Nat.le_trans (cutV_length xs lo hi) hz,_,(r.drop (HT.sIx xs.length 0 lo)).take (HT.sIx xs.length xs.length hi - HT.sIx xs.length 0 lo),IsTup.new _ _⟩
end
end L2
namespace L2
open PySem PySem.Spec PyProof.Rows
def ixN (n:Nat) (i:Int):Option Nat:=if 0≤i then (if i < n then some i.toNat else none) else if -(n:Int)≤i then some (i + n).toNat else none
def atI {α:Type} (xs:List α) (i:Int):Option α:=(ixN xs.length i).bind fun j=>xs[j]?
theorem ixN_seq {n:Nat}{i:Int}{j:Nat} (h:ixN n i=some j):seqIndex? i n=some j∧j < n∧-(n:Int)≤i∧i < n:=by
 unfold ixN at h
 by_cases h0:0≤i
 ·rw[if_pos h0] at h
  by_cases h1:i < n
  ·rw[if_pos h1] at h
   have e:i.toNat=j:=Option.some.inj h
   exact ⟨by rw[seqIndex_of h0 h1,e],by omega,by omega,h1⟩
  ·rw[if_neg h1] at h;cases h
 ·rw[if_neg h0] at h
  by_cases h1:-(n:Int)≤i
  ·rw[if_pos h1] at h
   have e:(i + n).toNat=j:=Option.some.inj h
   exact ⟨by rw[seqIndex_neg (by omega) h1,e],by omega,h1,by omega⟩
  ·rw[if_neg h1] at h;cases h
theorem atI_get {α:Type}{xs:List α}{i:Int}{v:α} (h:atI xs i=some v):∃ j,seqIndex? i xs.length=some j∧xs[j]?=some v∧j < xs.length∧-(xs.length:Int)≤i∧i < xs.length:=by
 unfold atI at h
 cases e:ixN xs.length i with
 | none=>rw[e] at h;cases h
 | some j=>
  rw[e] at h
  obtain ⟨h1,h2,h3,h4⟩:=ixN_seq e
  exact ⟨j,h1,h,h2,h3,h4⟩
theorem atI_nat {α:Type}{xs:List α}{j:Nat}{v:α} (h:xs[j]?=some v):atI xs (j:Int)=some v:=by
 have hj:j < xs.length:=(List.getElem?_eq_some_iff.mp h).1
 have e:ixN xs.length (j:Int)=some j:=by
  unfold ixN
  rw[if_pos (by omega),if_pos (by omega)];simp
 unfold atI;rw[e];exact h
def PlainIx (b:Expr):Prop:=∀ o i,subscripted b false o i=operate [o,i] (getItem o i)
def IxR (X:Cx) (r:R2):Prop:=
 ∀ (value slice:Expr) (pins:List (Addr×Obj)) (s:Shared) (σ:St) (H:Hp) (x y:V) (v u:Value) (Q:VK),Inv X pins σ H s→RelV x v→RelV y u→r x y H Q→
  subscripted slice false v u=operate [v,u] (getItem v u)→wpAny (model X.prog X.w) X.A (subscriptTail value slice v u) (EP X pins σ Q) X.xe s
def MtR (X:Cx) (id:String) (r:V→List V→Hp→VK→Prop):Prop:=
 ∀ (pins:List (Addr×Obj)) (s:Shared) (σ:St) (H:Hp) (x:V) (xs:List V) (v:Value) (us:List Value) (Q:VK),Inv X pins σ H s→RelV x v→Vals xs us→r x xs H Q→
  wpAny (model X.prog X.w) X.A (call (.builtin id) (v :: us)) (EP X pins σ Q) X.xe s
section
variable {X:Cx}{a b:Expr}{ta tb:TE}{pos:Pos}
theorem IxR.or {r r':R2} (h:IxR X r) (h':IxR X r'):IxR X (fun x y H Q=>r x y H Q∨r' x y H Q):=by
 intro value slice pins s σ H x y v u Q I rx ry q hs
 rcases q with q | q
 ·exact h value slice pins s σ H x y v u Q I rx ry q hs
 ·exact h' value slice pins s σ H x y v u Q I rx ry q hs
theorem pe_ix {r:R2} (hr:IxR X r) (ha:PE X a ta) (hb:PE X b tb) (hs:PlainIx b):PE X (.Subscript a b pos) (tOp r ta tb):=by
 constructor
 intro pins s σ H Q I h
 exact Subscript_ (binT ha hb I h fun v u s2 x y H2 I2 rx ry q=>hr a b pins s2 σ H2 x y v u Q I2 rx ry q (hs _ _))
inductive I_rIxL (K:PySem.W.Frag) (x:V) (y:V) (H:Hp) (Q:VK):Prop
 | mk (p:_) (xs:_) (i:_) (v:_) (q0:x=.ref p) (q1:y=.int i) (q2:SqL K H p xs) (q3:atI xs i=some v) (q4:Q v H):I_rIxL K x y H Q
def rIxL (K:PySem.W.Frag):R2:=fun x y H Q=>I_rIxL K x y H Q
inductive I_rIxT (K:PySem.W.Frag) (x:V) (y:V) (H:Hp) (Q:VK):Prop
 | mk (p:_) (xs:_) (i:_) (v:_) (q0:x=.ref p) (q1:y=.int i) (q2:SqT K H p xs) (q3:atI xs i=some v) (q4:Q v H):I_rIxT K x y H Q
def rIxT (K:PySem.W.Frag):R2:=fun x y H Q=>I_rIxT K x y H Q
inductive I_rIxS (x:V) (y:V) (H:Hp) (Q:VK):Prop
 | mk (z:_) (i:_) (c:_) (q0:x=.str z) (q1:y=.int i) (q2:z.length≤sizeLine) (q3:atI z.cps.toList i=some c) (q4:Q (.str ⟨#[c]⟩) H):I_rIxS x y H Q
def rIxS:R2:=fun x y H Q=>I_rIxS x y H Q
theorem ix_list:IxR X (rIxL X.K):=by
 intro value slice pins s σ H x y v u Q I rx ry h hs
 obtain ⟨p,xs,i,z,rfl,rfl,hq,he,q⟩:=h
 cases rx
 obtain ⟨t,rfl⟩:=ry
 obtain ⟨its,r,pl,hz⟩:=I.list hq
 obtain ⟨j,h1,h2,h3,h4,h5⟩:=atI_get he
 obtain ⟨w,ew,rw'⟩:=r.get h2
 have hl:=r.length
 have hn:=line63
 have fin:EP X pins σ Q w s:=⟨z,H,I,rw',q⟩
 by_cases h0:0≤i
 ·have hj:i.toNat=j:=by
   rw[seqIndex_of h0 h5] at h1
   exact Option.some.inj h1
  exact item_listR pl.isList h0 (by omega) (by rw[hj];simpa using ew) fin hs
 ·have hj:(i + (its.toArray.size:Int)).toNat=j:=by
   rw[seqIndex_neg (by omega) h4] at h1
   rw[List.size_toArray,← hl]
   exact Option.some.inj h1
  exact subscriptTail_builtinR (x:=w) pl.isList.typeIs slot_list_getitem.lookup
   (wpAny_getItem_list_neg (Q:=fun r s'=>r=w∧EP X pins σ Q r s') pl.isList (by omega) (by rw[List.size_toArray] <;> omega) (by omega) (by rw[hj];simpa using ew) ⟨rfl,fin⟩) hs
theorem ix_tup:IxR X (rIxT X.K):=by
 intro value slice pins s σ H x y v u Q I rx ry h hs
 obtain ⟨p,xs,i,z,rfl,rfl,hq,he,q⟩:=h
 cases rx
 obtain ⟨t,rfl⟩:=ry
 obtain ⟨its,r,pl,hz⟩:=I.tuple hq
 obtain ⟨j,h1,h2,h3,h4,h5⟩:=atI_get he
 obtain ⟨w,ew,rw'⟩:=r.get h2
 have hl:=r.length
 have hn:=line63
 have fin:EP X pins σ Q w s:=⟨z,H,I,rw',q⟩
 exact subscriptTail_builtinR (x:=w) pl.typeIs slot_tuple_getitem.lookup
  (getItem_tuple (j:=j) (Q:=fun r s'=>r=w∧EP X pins σ Q r s') pl (by omega) (by omega) (by rw[List.size_toArray,← hl];exact h1) (by simpa using ew) ⟨rfl,fin⟩) hs
theorem ix_str:IxR X rIxS:=by
 intro value slice pins s σ H x y v u Q I rx ry h hs
 obtain ⟨z,i,c,rfl,rfl,hz,he,q⟩:=h
 obtain ⟨t,rfl⟩:=rx
 obtain ⟨t',rfl⟩:=ry
 obtain ⟨j,h1,h2,h3,h4,h5⟩:=atI_get he
 have hl:z.cps.toList.length=z.length:=by simp[Str.length]
 rw[hl] at h1 h4 h5
 have hn:=line63
 exact tail_any (typeIs_str s z t) slot_str_getitem.lookup (getItem_str (c:=c) (by
  have e1:decide (i < -(2 ^ 63:Int))=false:=decide_eq_false (by omega)
  have e2:decide (i ≥ 2 ^ 63)=false:=decide_eq_false (by omega)
  rw[e1,e2,Bool.or_false]) (by rw[h1];simpa using h2) ⟨.str ⟨#[c]⟩,H,I.tok _,⟨_,rfl⟩,q⟩) hs
def rIx (K:PySem.W.Frag):R2:=fun x y H Q=>rIxL K x y H Q∨rIxT K x y H Q∨rIxS x y H Q
theorem ix_seq:IxR X (rIx X.K):=ix_list.or (ix_tup.or ix_str)
theorem mapSeq_set (its:List Value) (n j:Nat) (u:Value):Obj.mapSeq (·.setIfInBounds j u) { cls:=.type "list",data:=.seq its.toArray n }={ cls:=.type "list",data:=.seq (its.set j u).toArray n }:=by
 simp[Obj.mapSeq]
theorem Inv.lst {pins:List (Addr×Obj)}{σ:St}{H:Hp}{s:Shared}{p:Addr}{xs:List V} (I:Inv X pins σ H s) (h:H p=some (.lst xs)):
  ∃ (its:List Value) (n:Nat),Vals xs its∧s.heap.get? p=some { cls:=.type "list",data:=.seq its.toArray n }∧xs.length≤sizeLine:=by
 obtain ⟨z,its,n,r,e⟩:=I.hok p _ h
 exact ⟨its,n,r,e,z⟩
theorem Inv.lstUpd {pins:List (Addr×Obj)}{σ:St}{H:Hp}{s:Shared}{p:Addr}{xs ys:List V}{its its':List Value}{n n':Nat}{f:Obj→Obj} (I:Inv X pins σ H s) (h:H p=some (.lst xs))
  (ho:s.heap.get? p=some { cls:=.type "list",data:=.seq its.toArray n }) (hf:f { cls:=.type "list",data:=.seq its.toArray n }={ cls:=.type "list",data:=.seq its'.toArray n' }) (r:Vals ys its') (hz:ys.length≤sizeLine) (t:Nat):
  Inv X pins σ (upd H p (.lst ys)) { s with heap:=s.heap.update p f,toks:=t }:=by
 have e:(s.heap.update p f).get? p=some { cls:=.type "list",data:=.seq its'.toArray n' }:=by
  rw[Heap.get?_update_self f ho (by rw[hf] <;> rfl),hf]
 refine I.write (x:=p) (e:=p) (by rw[h];trivial) (.inl rfl) (fun b u hb q=>(Heap.get?_update_other _ _ (Ne.symm hb)).trans q) ⟨_,e⟩ ?_
 exact ⟨hz,its',n',r,e⟩
inductive I_rSetL (o:V) (i:V) (v:V) (H:Hp) (Q:(Hp→Prop)):Prop
 | mk (p:_) (xs:_) (k:_) (j:_) (q0:o=.ref p) (q1:i=.int k) (q2:H p=some (.lst xs)) (q3:ixN xs.length k=some j) (q4:Q (upd H p (.lst (xs.set j v)))):I_rSetL o i v H Q
def rSetL:V→V→V→Hp→(Hp→Prop)→Prop:=fun o i v H Q=>I_rSetL o i v H Q
theorem set_list:PSet X rSetL:=by
 intro pins s σ H o i v ov iv u Q I ro ri rv h
 obtain ⟨p,xs,k,j,rfl,rfl,hp,hj,q⟩:=h
 cases ro
 obtain ⟨t,rfl⟩:=ri
 obtain ⟨its,n,r,ho,hz⟩:=I.lst hp
 obtain ⟨h1,h2,h3,h4⟩:=ixN_seq hj
 have hl:=r.length
 have hn:=line63
 have I':Inv X pins σ (upd H p (.lst (xs.set j v))) { s with heap:=s.heap.update p (Obj.mapSeq (·.setIfInBounds j u)) }:=
  I.lstUpd hp ho (mapSeq_set its n j u) (r.set rv j) (by rw[List.length_set];exact hz) s.toks
 by_cases h0:0≤k
 ·have hk:k.toNat=j:=by
   rw[seqIndex_of h0 h4] at h1
   exact Option.some.inj h1
  exact PySem.W.ki_setAt ho h0 (by omega) (by rw[List.size_toArray,← hl];exact h4) (by rw[hk];exact ⟨_,I',q⟩)
 ·have hk:(k + (its.toArray.size:Int)).toNat=j:=by
   rw[seqIndex_neg (by omega) h3] at h1
   rw[List.size_toArray,← hl]
   exact Option.some.inj h1
  exact PySem.W.ki_setBack ho (by omega) (by rw[List.size_toArray,← hl];exact h3) (by omega) (by rw[hk];exact ⟨_,I',q⟩)
theorem slice_bounds (lo hi:Option Int) (n:Nat):(sliceBounds lo hi none n).1=((HT.sIx n 0 lo:Nat):Int)∧(sliceBounds lo hi none n).2.1=((HT.sIx n n hi:Nat):Int)∧(sliceBounds lo hi none n).2.2=1:=by
 refine ⟨?_,?_,rfl⟩
 ·cases lo with
  | none=>simp[sliceBounds,HT.sIx]
  | some i=>
   simp only [sliceBounds,HT.sIx,Option.getD_none,show (1:Int) > 0 by decide,if_true]
   by_cases h:i < 0
   ·simp only [h,if_true] <;> omega
   ·simp only [h,if_false] <;> omega
 ·cases hi with
  | none=>simp[sliceBounds,HT.sIx]
  | some i=>
   simp only [sliceBounds,HT.sIx,Option.getD_none,show (1:Int) > 0 by decide,if_true]
   by_cases h:i < 0
   ·simp only [h,if_true] <;> omega
   ·simp only [h,if_false] <;> omega
theorem slicePick_cut (its:List Value) (lo hi:Option Int):slicePick its.toArray lo hi none=((its.drop (HT.sIx its.length 0 lo)).take (HT.sIx its.length its.length hi - HT.sIx its.length 0 lo)).toArray:=by
 obtain ⟨h1,h2,h3⟩:=slice_bounds lo hi its.toArray.size
 unfold slicePick
 rw[h1,h2,h3]
 simp only [sliceRange_one,pick_run,List.size_toArray] <;> rfl
inductive I_rSlL (K:PySem.W.Frag) (x:V) (lo:Option Int) (hi:Option Int) (H:Hp) (Q:VK):Prop
 | mk (a:_) (xs:_) (q0:x=.ref a) (q1:SqL K H a xs) (q2:∀ p,H p=none→Q (.ref p) (upd H p (.lst (cutV xs lo hi)))):I_rSlL K x lo hi H Q
def rSlL (K:PySem.W.Frag):V→Option Int→Option Int→Hp→VK→Prop:=fun x lo hi H Q=>I_rSlL K x lo hi H Q
theorem sl_list:SlR X (rSlL X.K):=by
 intro pins s σ H x v vl vu lo hi sl Q I rx hs pl pu h
 obtain ⟨a,xs,rfl,hx,q⟩:=h
 cases rx
 obtain ⟨its,r,ht,hz⟩:=I.list hx
 have hlen:=r.length
 refine ⟨"list",_,slot_list_getitem.lookup,ht.isList.typeIs,?_⟩
 refine wpAny_getItem_list_slice ht.isList hs pl pu .none (by simp) ?_ (by rw[List.size_toArray] <;> omega)
 rw[slicePick_cut,← hlen]
 refine ⟨.ref s.heap.objs.size,_,I.laid (t':=s.toks) (o:=.lst (cutV xs lo hi)) (fun b ob q=>Heap.get?_push_of_some _ q) (Nat.le_refl _) ?_,rfl,q _ (I.hok.fresh (Nat.le_refl _))⟩
 exact ⟨Nat.le_trans (cutV_length xs lo hi) hz,_,0,(r.drop (HT.sIx xs.length 0 lo)).take (HT.sIx xs.length xs.length hi - HT.sIx xs.length 0 lo),Heap.get?_push_size _ rfl⟩
def flatV:V→Bool
 | .non=>true
 | .bl _=>true
 | .int _=>true
 | .str _=>true
 | _=>false
def eqV:V→V→Bool
 | .non,.non=>true
 | .bl a,.bl b=>a == b
 | .bl a,.int b=>(if a then 1 else 0) == b
 | .int a,.bl b=>a == (if b then 1 else 0)
 | .int a,.int b=>a == b
 | .str a,.str b=>a == b
 | _,_=>false
theorem eqAt_V {A:Around}{s:Shared}{y x:V}{u v:Value} (ry:RelV y u) (rx:RelV x v) (fy:flatV y=true) (fx:flatV x=true):SeqAt.EqAt A s u v (eqV y x):=by
 cases y with
 | non=>
  cases ry
  cases x with
  | non=>cases rx;exact SeqAt.EqAt.same _
  | bl b=>cases rx;exact SeqAt.EqAt.none_bool b
  | int b=>obtain ⟨t,rfl⟩:=rx;exact SeqAt.EqAt.none_int b t
  | str b=>obtain ⟨t,rfl⟩:=rx;exact SeqAt.EqAt.none_str b t
  | _=>exact absurd (show false=true from fx) Bool.false_ne_true
 | bl a=>
  cases ry
  cases x with
  | non=>cases rx;exact SeqAt.EqAt.bool_none a
  | bl b=>cases rx;exact SeqAt.EqAt.bool_bool a b
  | int b=>obtain ⟨t,rfl⟩:=rx;exact SeqAt.EqAt.bool_int a b t
  | str b=>obtain ⟨t,rfl⟩:=rx;exact SeqAt.EqAt.bool_str a b t
  | _=>exact absurd (show false=true from fx) Bool.false_ne_true
 | int a=>
  obtain ⟨t',rfl⟩:=ry
  cases x with
  | non=>cases rx;exact SeqAt.EqAt.int_none a t'
  | bl b=>cases rx;exact SeqAt.EqAt.int_bool a t' b
  | int b=>obtain ⟨t,rfl⟩:=rx;exact SeqAt.EqAt.int_int a t' b t
  | str b=>obtain ⟨t,rfl⟩:=rx;exact SeqAt.EqAt.int_str a t' b t
  | _=>exact absurd (show false=true from fx) Bool.false_ne_true
 | str a=>
  obtain ⟨t',rfl⟩:=ry
  cases x with
  | non=>cases rx;exact SeqAt.EqAt.str_none a t'
  | bl b=>cases rx;exact SeqAt.EqAt.str_bool a t' b
  | int b=>obtain ⟨t,rfl⟩:=rx;exact SeqAt.EqAt.str_int a t' b t
  | str b=>obtain ⟨t,rfl⟩:=rx;exact SeqAt.EqAt.str_str a t' b t
  | _=>exact absurd (show false=true from fx) Bool.false_ne_true
 | _=>exact absurd (show false=true from fy) Bool.false_ne_true
def eqU (x:V) (u:Value):Bool:=match u with
 | .none=>eqV .non x
 | .bool b=>eqV (.bl b) x
 | .int i _=>eqV (.int i) x
 | .str z _=>eqV (.str z) x
 | _=>false
theorem eqU_of {x y:V}{u:Value} (r:RelV y u) (f:flatV y=true):eqU x u=eqV y x:=by
 cases y with
 | non=>cases r;rfl
 | bl b=>cases r;rfl
 | int i=>obtain ⟨t,rfl⟩:=r;rfl
 | str z=>obtain ⟨t,rfl⟩:=r;rfl
 | _=>exact absurd (show false=true from f) Bool.false_ne_true
theorem any_eqU {x:V}:∀ {xs:List V}{us:List Value},Vals xs us→xs.all flatV=true→us.any (eqU x)=xs.any fun y=>eqV y x
 | _,_,.nil,_=>rfl
 | y :: xs,u :: us,.cons r t,f=>by
  rw[List.all_cons,Bool.and_eq_true] at f
  rw[List.any_cons,List.any_cons,eqU_of r f.1,any_eqU t f.2]
theorem mem_eqAt {A:Around}{s:Shared}{x:V}{v:Value} (rx:RelV x v) (fx:flatV x=true):∀ {xs:List V}{us:List Value},Vals xs us→xs.all flatV=true→∀ u∈us,SeqAt.EqAt A s u v (eqU x u)
 | _,_,.nil,_=>fun u hu=>by cases hu
 | y :: xs,u :: us,.cons r t,f=>fun u' hu=>by
  rw[List.all_cons,Bool.and_eq_true] at f
  rcases List.mem_cons.mp hu with rfl | hu
  ·rw[eqU_of r f.1];exact eqAt_V r rx f.1 fx
  ·exact mem_eqAt rx fx t f.2 u' hu
def inV (x:V) (xs:List V):Bool:=xs.any fun y=>eqV y x
inductive I_rIn (K:PySem.W.Frag) (neg:Bool) (x:V) (y:V) (H:Hp) (Q:VK):Prop
 | mk (p:_) (xs:_) (q0:y=.ref p) (q1:(SqL K H p xs∨SqT K H p xs)) (q2:flatV x=true) (q3:xs.all flatV=true) (q4:Q (.bl (if neg then !inV x xs else inV x xs)) H):I_rIn K neg x y H Q
def rIn (K:PySem.W.Frag) (neg:Bool):R2:=fun x y H Q=>I_rIn K neg x y H Q
theorem op_in_seq:OpR X (compareOp .In) (rIn X.K false):=by
 intro pins s σ H x y v u Q I rx ry h
 obtain ⟨p,xs,rfl,hq,fx,fs,q⟩:=h
 cases ry
 rcases hq with hq | hq
 ·obtain ⟨its,r,pl,hz⟩:=I.list hq
  refine SeqAt.in_listAt (eqU x) pl.isList (fun w hw=>mem_eqAt rx fx r fs w (by simpa using hw)) ⟨.bl _,H,I,rfl,?_⟩
  rw[show its.toArray.any (eqU x)=its.any (eqU x) by simp,any_eqU r fs]
  exact q
 ·obtain ⟨its,r,pl,hz⟩:=I.tuple hq
  refine SeqAt.in_tupleAt (eqU x) pl (fun w hw=>mem_eqAt rx fx r fs w (by simpa using hw)) ⟨.bl _,H,I,rfl,?_⟩
  rw[show its.toArray.any (eqU x)=its.any (eqU x) by simp,any_eqU r fs]
  exact q
theorem op_notIn_seq:OpR X (compareOp .NotIn) (rIn X.K true):=by
 intro pins s σ H x y v u Q I rx ry h
 obtain ⟨p,xs,rfl,hq,fx,fs,q⟩:=h
 cases ry
 rcases hq with hq | hq
 ·obtain ⟨its,r,pl,hz⟩:=I.list hq
  refine SeqAt.notIn_listAt (eqU x) pl.isList (fun w hw=>mem_eqAt rx fx r fs w (by simpa using hw)) ⟨.bl _,H,I,rfl,?_⟩
  rw[show its.toArray.any (eqU x)=its.any (eqU x) by simp,any_eqU r fs]
  exact q
 ·obtain ⟨its,r,pl,hz⟩:=I.tuple hq
  refine SeqAt.notIn_tupleAt (eqU x) pl (fun w hw=>mem_eqAt rx fx r fs w (by simpa using hw)) ⟨.bl _,H,I,rfl,?_⟩
  rw[show its.toArray.any (eqU x)=its.any (eqU x) by simp,any_eqU r fs]
  exact q
inductive I_r_call_len_seq (K:PySem.W.Frag) (xs:List V) (H:Hp) (Q:VK):Prop
 | mk (p:_) (ys:_) (q0:xs=[.ref p]) (q1:(SqL K H p ys∨SqT K H p ys)) (q2:Q (.int ys.length) H):I_r_call_len_seq K xs H Q
def r_call_len_seq (K:PySem.W.Frag):List V→Hp→VK→Prop:=fun xs H Q=>I_r_call_len_seq K xs H Q
theorem call_len_seq:CallR X (.builtin "len") (r_call_len_seq X.K):=by
 intro pins s σ H xs us Q I r h
 obtain ⟨p,ys,rfl,hq,q⟩:=h
 obtain ⟨u,rfl,rx⟩:=vals1 r
 cases rx
 have hn:=line63
 rcases hq with hq | hq
 ·obtain ⟨its,r',pl,hz⟩:=I.list hq
  have hlen:=r'.length
  exact Calls.call_len_list pl.isList (by simp only [List.size_toArray] <;> omega) ⟨.int ys.length,H,I.tok _,⟨s.toks + 1,by rw[List.size_toArray,hlen]⟩,q⟩
 ·obtain ⟨its,r',pl,hz⟩:=I.tuple hq
  have hlen:=r'.length
  exact len_tuple pl (by simp only [List.size_toArray] <;> omega) ⟨.int ys.length,H,I.tok _,⟨s.toks + 1,by rw[List.size_toArray,hlen]⟩,q⟩
inductive I_r_call_len_str (xs:List V) (H:Hp) (Q:VK):Prop
 | mk (z:_) (q0:xs=[.str z]) (q1:z.length≤sizeLine) (q2:Q (.int z.length) H):I_r_call_len_str xs H Q
def r_call_len_str:List V→Hp→VK→Prop:=fun xs H Q=>I_r_call_len_str xs H Q
theorem call_len_str:CallR X (.builtin "len") r_call_len_str:=by
 intro pins s σ H xs us Q I r h
 obtain ⟨z,rfl,hz,q⟩:=h
 obtain ⟨u,rfl,t,rfl⟩:=vals1 r
 have hn:=line63
 exact len_str (by omega) ⟨.int z.length,H,I.tok _,⟨_,rfl⟩,q⟩
inductive I_r_call_list_of (K:PySem.W.Frag) (xs:List V) (H:Hp) (Q:VK):Prop
 | mk (p:_) (ys:_) (q0:xs=[.ref p]) (q1:(SqL K H p ys∨SqT K H p ys)) (q2:∀ l,H l=none→Q (.ref l) (upd H l (.lst ys))):I_r_call_list_of K xs H Q
def r_call_list_of (K:PySem.W.Frag):List V→Hp→VK→Prop:=fun xs H Q=>I_r_call_list_of K xs H Q
theorem call_list_of:CallR X (.type "list") (r_call_list_of X.K):=by
 intro pins s σ H xs us Q I r h
 obtain ⟨p,ys,rfl,hq,q⟩:=h
 obtain ⟨u,rfl,rx⟩:=vals1 r
 cases rx
 have fin:∀ (its:List Value),Vals ys its→ys.length≤sizeLine→∀ (h':Heap) (c':Nat),(∀ b o',s.heap.get? b=some o'→h'.get? b=some o')→
   h'.get? s.heap.objs.size=some { cls:=.type "list",dict:=none,data:=.seq its.toArray c',slots:=#[] }→EP X pins σ Q (.ref s.heap.objs.size) { s with heap:=h' }:=fun its r' hz h' c' kp e=>
  ⟨.ref s.heap.objs.size,_,I.laid (t':=s.toks) kp (Nat.le_refl _) (show ObjOk X.prog X.w _ h' _ (.lst ys) from ⟨hz,its,c',r',e⟩),rfl,q _ (I.hok.fresh (Nat.le_refl _))⟩
 rcases hq with hq | hq
 ·obtain ⟨its,r',pl,hz⟩:=I.list hq
  have hlen:=r'.length
  obtain ⟨o,ho,hc,n,hd⟩:=pl.isList
  exact call_list_seq p (.inl rfl) ho hc hd (fun h' c' kp e=>fin its r' hz h' c' kp e) (by simp only [List.size_toArray] <;> omega)
 ·obtain ⟨its,r',pl,hz⟩:=I.tuple hq
  have hlen:=r'.length
  obtain ⟨o,ho,hc,n,hd⟩:=pl
  exact call_list_seq p (.inr rfl) ho hc hd (fun h' c' kp e=>fin its r' hz h' c' kp e) (by simp only [List.size_toArray] <;> omega)
inductive I_r_call_tuple_of (K:PySem.W.Frag) (xs:List V) (H:Hp) (Q:VK):Prop
 | mk (p:_) (ys:_) (q0:xs=[.ref p]) (q1:((SqL K H p ys∧∀ l,H l=none→Q (.ref l) (upd H l (.tup ys)))∨(SqT K H p ys∧Q (.ref p) H))):I_r_call_tuple_of K xs H Q
def r_call_tuple_of (K:PySem.W.Frag):List V→Hp→VK→Prop:=fun xs H Q=>I_r_call_tuple_of K xs H Q
theorem call_tuple_of:CallR X (.type "tuple") (r_call_tuple_of X.K):=by
 intro pins s σ H xs us Q I r h
 obtain ⟨p,ys,rfl,h⟩:=h
 obtain ⟨u,rfl,rx⟩:=vals1 r
 cases rx
 rcases h with ⟨hq,q⟩ | ⟨hq,q⟩
 ·obtain ⟨its,r',pl,hz⟩:=I.list hq
  have hlen:=r'.length
  refine call_tuple_list pl.isList (fun h' kp=>?_) (by simp only [List.size_toArray] <;> omega)
  have I1:Inv X pins σ H { s with heap:=h' }:=I.kept (t':=s.toks) kp
  have I2:Inv X pins σ (upd H h'.objs.size (.tup ys)) { s with heap:=h'.push { cls:=.type "tuple",data:=.seq its.toArray } }:=
   I1.laid (t':=s.toks) (fun b o e=>Heap.get?_push_of_some _ e) (Nat.le_refl _) (show ObjOk X.prog X.w _ _ _ (.tup ys) from ⟨hz,its,r',IsTup.new _ _⟩)
  exact ⟨.ref h'.objs.size,_,I2,rfl,q _ (I1.hok.fresh (Nat.le_refl _))⟩
 ·obtain ⟨its,r',pl,hz⟩:=I.tuple hq
  exact call_tuple_same pl ⟨.ref p,H,I,rfl,q⟩
def tyV (K:PySem.W.Frag) (T:String) (x:V) (H:Hp):Prop:=match x with
 | .str _=>T="str"
 | .int _=>T="int"
 | .ref p=>(T="list"∧∃ xs,SqL K H p xs)∨(T="tuple"∧∃ o,K.lookup p=some o∧o.cls=.type "tuple"∧o.dict=none)∨
   (T="dict"∧((∃ kvs,H p=some (.dK kvs))∨∃ kvs,H p=some (.dT kvs)))∨(T="set"∧∃ S n,H p=some (.set S n))
 | _=>False
theorem tyV_is {pins:List (Addr×Obj)}{σ:St}{H:Hp}{s:Shared}{T:String}{x:V}{v:Value} (I:Inv X pins σ H s) (r:RelV x v) (ty:tyV X.K T x H):
  s.TypeIs v T∧∀ a,v=.ref a→∃ ob,s.heap.get? a=some ob∧ob.dict=none:=by
 cases x with
 | str z=>
  obtain ⟨t,rfl⟩:=r
  cases (show T="str" from ty)
  exact ⟨typeIs_str s z t,fun _ e=>nomatch e⟩
 | int i=>
  obtain ⟨t,rfl⟩:=r
  cases (show T="int" from ty)
  exact ⟨typeIs_int s i t,fun _ e=>nomatch e⟩
 | ref p=>
  cases r
  rcases ty with ⟨rfl,xs,hq⟩ | ⟨rfl,o,hk,hc,hd⟩ | ⟨rfl,hk⟩ | ⟨rfl,S,n,hk⟩
  ·obtain ⟨its,_,pl,_⟩:=I.list hq
   refine ⟨pl.isList.typeIs,fun a e=>?_⟩
   cases e
   obtain ⟨o,n,e,c,hd,_⟩:=pl
   exact ⟨o,e,hd⟩
  ·refine ⟨⟨o,I.kIn p o hk,hc⟩,fun a e=>?_⟩
   cases e
   exact ⟨o,I.kIn _ o hk,hd⟩
  ·have z:∃ o,s.heap.get? p=some o∧o.ExactDict:=by
    rcases hk with ⟨kvs,hk⟩ | ⟨kvs,hk⟩
    ·obtain ⟨_,_,_,_,o,_,_,e,ex,_⟩:=I.hok p _ hk
     exact ⟨o,e,ex⟩
    ·obtain ⟨_,_,_,_,o,_,_,e,ex,_⟩:=I.hok p _ hk
     exact ⟨o,e,ex⟩
   obtain ⟨o,e,ex⟩:=z
   refine ⟨⟨o,e,ex.1⟩,fun a e2=>?_⟩
   cases e2
   exact ⟨o,e,ex.2.1⟩
  ·obtain ⟨o,_,_,_,e,ex,_⟩:=I.hok p _ hk
   refine ⟨⟨o,e,ex.1⟩,fun a e2=>?_⟩
   cases e2
   exact ⟨o,e,ex.2.1⟩
 | _=>exact False.elim ty
def tBM0 (K:PySem.W.Frag) (T:String) (r:V→List V→Hp→VK→Prop) (to:TE):TE:=fun σ H Q=>to σ H fun x H1=>tyV K T x H1∧r x [] H1 Q
def tBM (K:PySem.W.Frag) (T:String) (r:V→List V→Hp→VK→Prop) (to:TE) (t:TA):TE:=fun σ H Q=>to σ H fun x H1=>tyV K T x H1∧t σ H1 fun xs H2=>r x xs H2 Q
variable {o e:Expr}{es:List Expr}{to:TE}{t:TA}{name:Str}{apos cpos:Pos}{T id:String}{r:V→List V→Hp→VK→Prop}
theorem pe_bm0 (pa:PlainAttrs T) (slot:Slot T name id) (hty:typeOf (.builtin id)=pure (.type "method_descriptor")) (hm:MtR X id r) (ho:PE X o to)
  (hbase:attributeBase o name X.env (eval o X.env)=eval o X.env:=by rfl) (hline:(apos.endLine == cpos.line)=true:=by rfl):PE X (.Call (.Attribute o name apos) [] [] cpos) (tBM0 X.K T r to):=by
 constructor
 intro pins s σ H Q I h
 refine wpAny_Call_method0_late hbase hline (thn (ho pins s σ H _ I h) fun v s1 ⟨x,H1,I1,r1,ty,q1⟩=>?_)
 obtain ⟨h1,h2⟩:=tyV_is I1 r1 ty
 exact ⟨T,id,pa,slot,hty,h1,h2,Calls.callWith_builtin rfl (PySem.evalArgs_none (hm pins s1 σ H1 x [] v [] Q I1 r1 .nil q1))⟩
theorem pe_bm (pa:PlainAttrs T) (slot:Slot T name id) (hty:typeOf (.builtin id)=pure (.type "method_descriptor")) (hm:MtR X id r) (ho:PE X o to) (ha:PA X (e :: es) t)
  (hbase:attributeBase o name X.env (eval o X.env)=eval o X.env:=by rfl)
  (hfew:((backTo cpos (starEach (e :: es) X.env)).all (fun x=>!x.1) && (backToKw cpos (keywordEach [] X.env)).all (fun x=>x.1.isSome)
   && decide ((e :: es).length + ([]:List Keyword).length + (if ([]:List Keyword).isEmpty then 0 else 1) < 30))=true:=by rfl)
  (hline:(apos.endLine == cpos.line)=true:=by rfl) (hs:starEach (e :: es) X.env=(false,eval e X.env) :: starEach es X.env:=by rfl) (hplain:(backTo cpos (starEach es X.env)).any (·.1)=false:=by rfl):
  PE X (.Call (.Attribute o name apos) (e :: es) [] cpos) (tBM X.K T r to t):=by
 constructor
 intro pins s σ H Q I h
 refine wpAny_Call_method_late hbase hfew hline rfl (thn (ho pins s σ H _ I h) fun v s1 ⟨x,H1,I1,r1,ty,q1⟩=>?_)
 obtain ⟨h1,h2⟩:=tyV_is I1 r1 ty
 refine ⟨T,id,pa,slot,hty,h1,h2,?_⟩
 have hA:=ha cpos pins s1 σ H1 _ I1 q1
 rw[hs] at hA ⊢
 refine Calls.callWith_builtin (by show (false || (backTo cpos (starEach es X.env)).any (·.1))=false;rw[hplain] <;> rfl) (Calls.evalArgs_plain ?_)
 exact thn hA fun us s2 ⟨vs,H2,I2,r2,q2⟩=>hm pins s2 σ H2 x vs v us Q I2 r1 r2 q2
end
end L2
namespace L2
open PySem PySem.Spec PyProof.Rows
def MtM (X:Cx) (id:String) (r:V→List V→Hp→VK→Prop):Prop:=
 ∀ (pins:List (Addr×Obj)) (s:Shared) (σ:St) (H:Hp) (x:V) (xs:List V) (v:Value) (us:List Value) (Q:VK),Inv X pins σ H s→RelV x v→Vals xs us→r x xs H Q→
  wpAny (model X.prog X.w) X.A (call (.builtin id) (v :: us)) (EP X pins σ Q) X.xe s
theorem Vals.one {x:V}{us:List Value} (h:Vals [x] us):∃ u,us=[u]∧RelV x u:=by
 cases h with
 | cons r h=>cases h;exact ⟨_,rfl,r⟩
theorem Vals.zero:∀ {us:List Value},Vals [] us→us=[]
 | _,.nil=>rfl
theorem Vals.eraseIdx:∀ {xs:List V}{us:List Value} (i:Nat),Vals xs us→Vals (xs.eraseIdx i) (us.eraseIdx i)
 | _,_,_,.nil=>.nil
 | _,_,0,.cons _ t=>t
 | _,_,i + 1,.cons r t=>.cons r (Vals.eraseIdx i t)
theorem len_erase {α:Type}:∀ (l:List α) (i:Nat),(l.eraseIdx i).length≤l.length
 | [],_=>Nat.le_refl _
 | _ :: _,0=>Nat.le_succ _
 | _ :: r,i + 1=>Nat.succ_le_succ (len_erase r i)
section
variable {X:Cx}{pins:List (Addr×Obj)}{σ:St}{H:Hp}{s:Shared}{l b:Addr}{xs ys zs:List V}
theorem Inv.lset {its its':List Value}{n:Nat}{f:Array Value→Array Value}{t':Nat} (I:Inv X pins σ H s) (hH:H l=some (.lst xs))
  (e:s.heap.get? l=some { cls:=.type "list",data:=.seq its.toArray n }) (hf:f its.toArray=its'.toArray) (hv:Vals ys its') (hz:ys.length≤sizeLine):
  Inv X pins σ (upd H l (.lst ys)) { s with heap:=s.heap.update l (Obj.mapSeq f),toks:=t' }:=by
 have q:=PySem.IsL.update e f
 rw[hf] at q
 refine I.write (x:=l) (e:=l) (by rw[hH];exact trivial) (.inl rfl) (fun b' u hb hu=>(Heap.get?_update_other s.heap (Obj.mapSeq f) (Ne.symm hb)).trans hu) ⟨_,q⟩ ?_
 exact ⟨hz,its',_,hv,q⟩
theorem Inv.lnew {its:List Value}{t':Nat} (I:Inv X pins σ H s) (hv:Vals ys its) (hz:ys.length≤sizeLine):
  Inv X pins σ (upd H s.heap.objs.size (.lst ys)) { s with heap:=s.heap.push { cls:=.type "list",data:=.seq its.toArray },toks:=t' }:=
 I.laid (fun _ _ q=>Heap.get?_push_of_some _ q) (Nat.le_refl _) ⟨hz,its,0,hv,Heap.get?_push_size _ rfl⟩
theorem Inv.fresh (I:Inv X pins σ H s):H s.heap.objs.size=none:=I.hok.fresh (Nat.le_refl _)
theorem Inv.lstM (I:Inv X pins σ H s) (hH:H l=some (.lst xs)):xs.length≤sizeLine∧∃ (its:List Value) (n:Nat),Vals xs its∧xs.length=its.length∧s.heap.get? l=some { cls:=.type "list",data:=.seq its.toArray n }:=by
 obtain ⟨z,its,n,r,e⟩:=I.hok l _ hH
 exact ⟨z,its,n,r,r.length,e⟩
end
section
variable {X:Cx}
inductive I_rAppend (x:V) (vs:List V) (H:Hp) (Q:VK):Prop
 | mk (l:_) (xs:_) (y:_) (q0:x=.ref l) (q1:vs=[y]) (q2:H l=some (.lst xs)) (q3:xs.length < sizeLine) (q4:Q .non (upd H l (.lst (xs ++ [y])))):I_rAppend x vs H Q
def rAppend:V→List V→Hp→VK→Prop:=fun x vs H Q=>I_rAppend x vs H Q
theorem mt_append:MtM X "list.append" rAppend:=by
 intro pins s σ H x vs v us Q I rx rv h
 obtain ⟨l,xs,y,rfl,rfl,hH,hz,q⟩:=h
 cases rx
 obtain ⟨u,rfl,ru⟩:=rv.one
 obtain ⟨z,its,n,r,hl,e⟩:=I.lstM hH
 refine call_meets F.slot_list_append ⟨_,e,rfl⟩ F.entry_list_append (F.args_list_append_2 _ _) (PySem.list_append l its.toArray n u (by rw[List.size_toArray];omega)) ⟨e,?_⟩
 refine ⟨.non,_,I.lset (its':=its ++ [u]) hH e (by simp) (r.append (.cons ru .nil)) ?_,rfl,q⟩
 rw[List.length_append,List.length_singleton]
 omega
inductive I_rPopAt (x:V) (vs:List V) (H:Hp) (Q:VK):Prop
 | mk (l:_) (xs:_) (i:_) (k:_) (y:_) (q0:x=.ref l) (q1:vs=[.int i]) (q2:H l=some (.lst xs)) (q3:-(2 ^ 63)≤i) (q4:i < 2 ^ 63) (q5:seqIndex? i xs.length=some k) (q6:xs[k]?=some y) (q7:Q y (upd H l (.lst (xs.eraseIdx k)))):I_rPopAt x vs H Q
def rPopAt:V→List V→Hp→VK→Prop:=fun x vs H Q=>I_rPopAt x vs H Q
theorem mt_popAt:MtM X "list.pop" rPopAt:=by
 intro pins s σ H x vs v us Q I rx rv h
 obtain ⟨l,xs,i,k,y,rfl,rfl,hH,h1,h2,hk,hy,q⟩:=h
 cases rx
 obtain ⟨u,rfl,ru⟩:=rv.one
 obtain ⟨t,rfl⟩:=ru
 obtain ⟨z,its,n,r,hl,e⟩:=I.lstM hH
 obtain ⟨w,hw,rw'⟩:=r.get hy
 refine call_meets F.slot_list_pop ⟨_,e,rfl⟩ F.entry_list_pop (F.args_list_pop_2 _ _)
  (MeetsSeq.list_pop_at l its.toArray n i t k w (fitsIndex_both h1 h2) (by rw[List.size_toArray,← hl];exact hk) (by rw[← Array.getElem?_toList];exact hw) (by rw[List.size_toArray];omega)) ⟨e,?_⟩
 refine ⟨y,_,I.lset (its':=its.eraseIdx k) hH e ?_ (r.eraseIdx k) ?_,rw',q⟩
 ·show its.toArray.eraseIdxIfInBounds k=(its.eraseIdx k).toArray
  rw[List.eraseIdxIfInBounds_toArray]
 ·have:=len_erase xs k
  omega
inductive I_rClear (x:V) (vs:List V) (H:Hp) (Q:VK):Prop
 | mk (l:_) (xs:_) (q0:x=.ref l) (q1:vs=[]) (q2:H l=some (.lst xs)) (q3:Q .non (upd H l (.lst []))):I_rClear x vs H Q
def rClear:V→List V→Hp→VK→Prop:=fun x vs H Q=>I_rClear x vs H Q
theorem mt_clear:MtM X "list.clear" rClear:=by
 intro pins s σ H x vs v us Q I rx rv h
 obtain ⟨l,xs,rfl,rfl,hH,q⟩:=h
 cases rx
 have hus:=rv.zero
 subst hus
 obtain ⟨z,its,n,r,hl,e⟩:=I.lstM hH
 refine call_meets F.slot_list_clear ⟨_,e,rfl⟩ F.entry_list_clear (F.args_list_clear_1 _) (AutoSeq1.list_clear_list_0 l its.toArray n (by rw[List.size_toArray];omega)) ⟨e,?_⟩
 exact ⟨.non,_,I.lset (its':=[]) (ys:=[]) hH e rfl .nil (Nat.zero_le _),rfl,q⟩
inductive I_rCat (x:V) (y:V) (H:Hp) (Q:VK):Prop
 | mk (l:_) (b:_) (xs:_) (zs:_) (q0:x=.ref l) (q1:y=.ref b) (q2:H l=some (.lst xs)) (q3:H b=some (.lst zs)) (q4:xs.length + zs.length≤sizeLine) (q5:∀ p,H p=none→Q (.ref p) (upd H p (.lst (xs ++ zs)))):I_rCat x y H Q
def rCat:R2:=fun x y H Q=>I_rCat x y H Q
theorem op_cat:OpR X (binaryOp .Add) rCat:=by
 intro pins s σ H x y v u Q I rx ry h
 obtain ⟨l,b,xs,zs,rfl,rfl,hH,hB,hz,q⟩:=h
 cases rx
 cases ry
 obtain ⟨z,its,n,r,hl,e⟩:=I.lstM hH
 obtain ⟨z2,its2,n2,r2,hl2,e2⟩:=I.lstM hB
 refine PySem.P.add_list e e2 ?_ (by rw[List.size_toArray,List.size_toArray];omega)
 have ea:its.toArray ++ its2.toArray=(its ++ its2).toArray:=by simp
 rw[ea]
 exact ⟨.ref _,_,I.lnew (t':=s.toks) (r.append r2) (by rw[List.length_append];omega),rfl,q _ I.fresh⟩
end
section
variable {prog:Program}{w:World}{A:Around}{E:Value→Shared→Prop}{s:Shared}
end
section
variable {X:Cx}
end
end L2
namespace L2
open PySem PySem.Spec PyProof.Rows
section
variable {κ:Type} [DecidableEq κ]
def valV (kvs:List (κ×V)) (k:κ):Option V:=(kvs.find? fun kv=>decide (kv.1=k)).map (·.2)
def putK (kvs:List (κ×V)) (k:κ) (v:V):List (κ×V):=
 if (kvs.any fun kv=>decide (kv.1=k))=true then kvs.map (fun kv=>if kv.1=k then (kv.1,v) else kv) else kvs ++ [(k,v)]
def dropK (kvs:List (κ×V)) (k:κ):List (κ×V):=kvs.filter fun kv=>decide (kv.1≠k)
theorem valV_nil {k:κ}:valV ([]:List (κ×V)) k=none:=rfl
theorem valV_pos {p:κ×V}{r:List (κ×V)}{k:κ} (e:p.1=k):valV (p :: r) k=some p.2:=by simp[valV,List.find?_cons,e]
theorem valV_neg {p:κ×V}{r:List (κ×V)}{k:κ} (e:¬ p.1=k):valV (p :: r) k=valV r k:=by simp[valV,List.find?_cons,e]
theorem valV_any (k:κ):∀ kvs:List (κ×V),(kvs.any fun kv=>decide (kv.1=k))=(valV kvs k).isSome
 | []=>rfl
 | p :: r=>by
  rw[List.any_cons]
  by_cases e:p.1=k
  ·simp only [valV_pos e,decide_eq_true e,Bool.true_or,Option.isSome_some]
  ·rw[valV_neg e,decide_eq_false e,Bool.false_or];exact valV_any k r
theorem length_putK (kvs:List (κ×V)) (k:κ) (v:V):(putK kvs k v).length≤kvs.length + 1:=by
 unfold putK
 split
 ·rw[List.length_map];omega
 ·rw[List.length_append,List.length_cons,List.length_nil];omega
theorem putK_new {kvs:List (κ×V)}{k:κ} (v:V) (h:valV kvs k=none):putK kvs k v=kvs ++ [(k,v)]:=by
 unfold putK
 rw[valV_any,h]
 exact if_neg (by decide)
theorem RelO.isSome_eq {o:Option V}{u:Option Value} (r:RelO o u):o.isSome=u.isSome:=by
 cases o with
 | none=>cases u with
  | none=>rfl
  | some _=>exact (show False from r).elim
 | some _=>cases u with
  | none=>exact (show False from r).elim
  | some _=>rfl
theorem RelO.getD {o:Option V}{u:Option Value}{d:V}{d':Value} (r:RelO o u) (rd:RelV d d'):RelV (o.getD d) (u.getD d'):=by
 cases o with
 | none=>cases u with
  | none=>exact rd
  | some _=>exact (show False from r).elim
 | some _=>cases u with
  | none=>exact (show False from r).elim
  | some _=>exact r
theorem KV.val {kvs:List (κ×V)}{vs:List (κ×Value)} (r:KV kvs vs) (k:κ):RelO (valV kvs k) (valueAt vs k):=by
 unfold KV at r
 induction r with
 | nil=>exact True.intro
 | @cons p q ps qs h t ih=>
  obtain ⟨h1,h2⟩:=h
  by_cases e:p.1=k
  ·have e':q.1=k:=h1.symm.trans e
   have b:valueAt (q :: qs) k=some q.2:=by simp[valueAt,List.find?_cons,e']
   rw[valV_pos e,b];exact h2
  ·have e':¬ q.1=k:=fun z=>e (h1.trans z)
   have b:valueAt (q :: qs) k=valueAt qs k:=by simp[valueAt,List.find?_cons,e']
   rw[valV_neg e,b];exact ih
theorem KV.any {kvs:List (κ×V)}{vs:List (κ×Value)} (r:KV kvs vs) (k:κ):(kvs.any fun kv=>decide (kv.1=k))=vs.any fun kv=>decide (kv.1=k):=by
 unfold KV at r
 induction r with
 | nil=>rfl
 | cons h t ih=>rw[List.any_cons,List.any_cons,ih,h.1]
theorem KV.repl {kvs:List (κ×V)}{vs:List (κ×Value)} (r:KV kvs vs) (k:κ) {y:V}{u:Value} (ry:RelV y u):
  KV (kvs.map fun kv=>if kv.1=k then (kv.1,y) else kv) (vs.map fun kv=>if kv.1=k then (kv.1,u) else kv):=by
 unfold KV at r ⊢
 induction r with
 | nil=>exact .nil
 | @cons p q ps qs h t ih=>
  rw[List.map_cons,List.map_cons]
  refine .cons ?_ ih
  obtain ⟨h1,h2⟩:=h
  by_cases e:p.1=k
  ·rw[if_pos e,if_pos (h1.symm.trans e)];exact ⟨h1,ry⟩
  ·rw[if_neg e,if_neg (fun z=>e (h1.trans z))];exact ⟨h1,h2⟩
theorem KV.put {kvs:List (κ×V)}{vs:List (κ×Value)} (r:KV kvs vs) (k:κ) {y:V}{u:Value} (ry:RelV y u):KV (putK kvs k y) (stored vs k u):=by
 unfold putK stored
 rw[r.any k]
 by_cases e:(vs.any fun kv=>decide (kv.1=k))=true
 ·rw[if_pos e,if_pos e];exact r.repl k ry
 ·rw[if_neg e,if_neg e];exact Paired.snoc r ⟨rfl,ry⟩
theorem KV.length {kvs:List (κ×V)}{vs:List (κ×Value)} (r:KV kvs vs):kvs.length=vs.length:=Paired.length r
end
theorem kV_is {P:Program}{w:World}{k:Key}{u:Value} (r:RelV (kV k) u):(mixKind P w).is k u=true:=by
 cases k with
 | inl i=>obtain ⟨t,e⟩:=(show ∃ t,u=Value.int i t from r);subst e;exact mixKind_int P w i t
 | inr x=>obtain ⟨t,e⟩:=(show ∃ t,u=Value.str x t from r);subst e;exact mixKind_str P w x t
theorem items_are {P:Program}{w:World}:∀ {ks:List Key}{us:List Value},Vals (ks.map kV) us→ItemsAre (mixKind P w) ks us
 | [],_,r=>by rw[List.map_nil] at r;cases r;exact .nil
 | k :: ks,_,r=>by
  rw[List.map_cons] at r
  cases r with
  | cons h t=>exact .cons (kV_is h) (items_are t)
abbrev KT (H:Hp):List (List Key×V)→List (List Key×Addr×Value)→Prop:=Paired fun p q=>p.1=q.1∧H q.2.1=some (.tup (p.1.map kV))∧RelV p.2 q.2.2
theorem KT.val {H:Hp}{kvs:List (List Key×V)}{xs:List (List Key×Addr×Value)} (r:KT H kvs xs) (k:List Key):RelO (valV kvs k) ((atKey xs k).map (·.2)):=by
 induction r with
 | nil=>exact True.intro
 | @cons p q ps qs h t ih=>
  obtain ⟨h1,_,h2⟩:=h
  by_cases e:p.1=k
  ·have e':q.1=k:=h1.symm.trans e
   have b:atKey (q :: qs) k=some q.2:=by simp[atKey,List.find?_cons,e']
   rw[valV_pos e,b];exact h2
  ·have e':¬ q.1=k:=fun z=>e (h1.trans z)
   have b:atKey (q :: qs) k=atKey qs k:=by simp[atKey,List.find?_cons,e']
   rw[valV_neg e,b];exact ih
theorem KT.repl {H:Hp}{kvs:List (List Key×V)}{xs:List (List Key×Addr×Value)} (r:KT H kvs xs) (k:List Key) {y:V}{u:Value} (ry:RelV y u):
  KT H (kvs.map fun kv=>if kv.1=k then (kv.1,y) else kv) (xs.map (putAt k u)):=by
 induction r with
 | nil=>exact .nil
 | @cons p q ps qs h t ih=>
  rw[List.map_cons,List.map_cons]
  refine .cons ?_ ih
  obtain ⟨h1,h2,h3⟩:=h
  unfold putAt
  by_cases e:p.1=k
  ·rw[if_pos e,if_pos (h1.symm.trans e)];exact ⟨h1,h2,ry⟩
  ·rw[if_neg e,if_neg (fun z=>e (h1.trans z))];exact ⟨h1,h2,h3⟩
theorem KT.put {H:Hp}{kvs:List (List Key×V)}{xs:List (List Key×Addr×Value)} (r:KT H kvs xs) (k:List Key) {b:Addr}{y:V}{u:Value} (hb:H b=some (.tup (k.map kV))) (ry:RelV y u):
  KT H (putK kvs k y) (storedH xs k b u):=by
 have e:(kvs.any fun kv=>decide (kv.1=k))=(atKey xs k).isSome:=by
  rw[valV_any,(r.val k).isSome_eq,Option.isSome_map]
 unfold putK storedH
 rw[e]
 by_cases q:(atKey xs k).isSome=true
 ·rw[if_pos q,if_pos q];exact r.repl k ry
 ·rw[if_neg q,if_neg q];exact Paired.snoc r ⟨rfl,hb,ry⟩
theorem KT.keeps {H H':Hp}{kvs:List (List Key×V)}{xs:List (List Key×Addr×Value)} (r:KT H kvs xs) (ht:∀ b ys,H b=some (.tup ys)→H' b=some (.tup ys)):KT H' kvs xs:=
 Paired.mapP r fun _ _ z=>⟨z.1,ht _ _ z.2.1,z.2.2⟩
section
variable {P:Program}{w:World}{H:Hp}{h:Heap}{a:Addr}
theorem rd_of {u:HO} (ok:HOk P w H h) (e:Rd H a u):ObjOk P w H h a u:=e.ok ok
theorem dk_rd {kvs:List (Key×V)} (ok:HOk P w H h) (e:Rd H a (.dK kvs)):kvs.length≤sizeLine∧(a == sysModules)=false∧∃ vs,KV kvs vs∧h.DictOf (mixKind P w) a vs:=
 show ObjOk P w H h a (.dK kvs) from rd_of ok e
theorem dk_of {kvs:List (Key×V)} (ok:HOk P w H h) (e:H a=some (.dK kvs)):kvs.length≤sizeLine∧(a == sysModules)=false∧∃ vs,KV kvs vs∧h.DictOf (mixKind P w) a vs:=dk_rd ok (.inl e)
theorem key_of {ks:List Key} (ok:HOk P w H h) (e:H a=some (.tup (ks.map kV))):(tupleKind (mixKind P w)).is h ks a:=by
 obtain ⟨_,its,r,o,h1,h2,n,h3⟩:=(show ObjOk P w H h a (.tup (ks.map kV)) from ok a _ e)
 exact ⟨o,its.toArray,n,h1,h2,h3,by simpa using items_are r⟩
theorem dt_rd {kvs:List (List Key×V)} (ok:HOk P w H h) (e:Rd H a (.dT kvs)):kvs.length≤sizeLine∧(a == sysModules)=false∧
  ∃ xs,KT H kvs xs∧h.DictOfH (tupleKind (mixKind P w)) a xs:=by
 obtain ⟨z,y,xs,r,o,es,ep,h1,h2,h3,h4,h5⟩:=(show ObjOk P w H h a (.dT kvs) from rd_of ok e)
 refine ⟨z,y,xs,r,o,es,ep,h1,h2,h3,h4,fun x hx=>?_,h5⟩
 have all:∀ {l:List (List Key×V)} {m:List (List Key×Addr×Value)},KT H l m→∀ x∈m,(tupleKind (mixKind P w)).is h x.1 x.2.1:=by
  intro l m q
  induction q with
  | nil=>intro x hx;exact nomatch hx
  | @cons p q ps qs hq t ih=>
   intro x hx
   rcases List.mem_cons.mp hx with e | hx
   ·subst e
    exact key_of ok (by rw[← hq.1];exact hq.2.1)
   ·exact ih x hx
 exact all r x hx
theorem dt_of {kvs:List (List Key×V)} (ok:HOk P w H h) (e:H a=some (.dT kvs)):kvs.length≤sizeLine∧(a == sysModules)=false∧
  ∃ xs,KT H kvs xs∧h.DictOfH (tupleKind (mixKind P w)) a xs:=dt_rd ok (.inl e)
end
def DGet (H:Hp) (a:Addr) (y:V) (r:Option V):Prop:=
 (∃ kvs k,Rd H a (.dK kvs)∧y=kV k∧r=valV kvs k)∨∃ kvs k b,Rd H a (.dT kvs)∧y=.ref b∧H b=some (.tup (k.map kV))∧r=valV kvs k
def DPut (H:Hp) (a:Addr) (y v:V) (H':Hp):Prop:=
 (∃ kvs k,H a=some (.dK kvs)∧y=kV k∧kvs.length < sizeLine∧H'=upd H a (.dK (putK kvs k v)))∨
 ∃ kvs k b,H a=some (.dT kvs)∧y=.ref b∧H b=some (.tup (k.map kV))∧kvs.length < sizeLine∧H'=upd H a (.dT (putK kvs k v))
theorem DGet.k {H:Hp}{a:Addr}{kvs:List (Key×V)}{k:Key} (e:H a=some (.dK kvs)):DGet H a (kV k) (valV kvs k):=.inl ⟨kvs,k,.inl e,rfl,rfl⟩
theorem DPut.k {H:Hp}{a:Addr}{kvs:List (Key×V)}{k:Key}{v:V} (e:H a=some (.dK kvs)) (hl:kvs.length < sizeLine):DPut H a (kV k) v (upd H a (.dK (putK kvs k v))):=.inl ⟨kvs,k,e,rfl,hl,rfl⟩
section
variable {X:Cx}{pins:List (Addr×Obj)}{σ:St}{H:Hp}{s:Shared}{a:Addr}{y v:V}{u r:Value}{o:Option V}{A:Around}{E:Value→Shared→Prop}
theorem Inv.big (I:Inv X pins σ H s):sysModules < s.heap.objs.size:=by
 have h:mainGlobals < s.heap.objs.size:=(I.mod.glob.keeps I.bk).lt
 exact Nat.lt_trans (by decide) h
theorem d_getItem {Q:Value→Shared→Prop} (hu:A.units + 1 < cLine) (I:Inv X pins σ H s) (g:DGet H a y (some v)) (ry:RelV y u) (h:∀ w' s',Inv X pins σ H s'→RelV v w'→Q w' s'):
  wpAny (model X.prog X.w) A (getItem (.ref a) u) Q E s:=by
 rcases g with ⟨kvs,k,e,ey,l⟩ | ⟨kvs,k,b,e,ey,eb,l⟩
 ·subst ey
  obtain ⟨z,hd,vs,rel,dd⟩:=dk_rd I.hok e
  obtain ⟨w',hw,rw'⟩:=RelO.some_of (v:=v) (o:=valueAt vs k) (by rw[l];exact rel.val k)
  exact wpAny_getItem_of (kV_is ry) dd.mapOf hw (h w' _ (I.tok _) rw')
 ·subst ey
  cases (show u=Value.ref b from ry)
  obtain ⟨z,hd,xs,rel,dd⟩:=dt_rd I.hok e
  obtain ⟨w',hw,rw'⟩:=RelO.some_of (v:=v) (o:=(atKey xs k).map (·.2)) (by rw[l];exact rel.val k)
  obtain ⟨p,hp,hp2⟩:=Option.map_eq_some_iff.mp hw
  refine wpAny_getItem_heap (tupleKind_room_in1 hu) (key_of I.hok eb) dd hp ?_
  rw[hp2]
  exact h w' _ (I.tok _) rw'
theorem d_write {h':Heap}{t':Nat}{ob:HO} (I:Inv X pins σ H s) (mu:Mut (H a)) (hs:Heap.SameBut a s.heap h') (he:∃ q,h'.get? a=some q) (new:ObjOk X.prog X.w (upd H a ob) h' a ob):
  Inv X pins σ (upd H a ob) { s with heap:=h',toks:=t' }:=
 I.write (x:=a) (e:=a) mu (.inl rfl) (fun b q hb z=>(hs.2 b hb).trans z) he new
theorem dk_new {P:Program}{w:World}{H':Hp}{h':Heap}{kvs:List (Key×V)}{vs:List (Key×Value)} (z:kvs.length≤sizeLine) (hd:(a == sysModules)=false) (rel:KV kvs vs) (dd:h'.DictOf (mixKind P w) a vs):
  ObjOk P w H' h' a (.dK kvs):=⟨z,hd,vs,rel,dd⟩
theorem d_setItem {H':Hp}{Q:Unit→Shared→Prop} (hu:A.units + 1 < cLine) (I:Inv X pins σ H s) (g:DPut H a y v H') (ry:RelV y u) (rv:RelV v r) (h:∀ s',Inv X pins σ H' s'→Q () s'):
  wpAny (model X.prog X.w) A (setItem (.ref a) u r) Q E s:=by
 rcases g with ⟨kvs,k,e,ey,l,eH⟩ | ⟨kvs,k,b,e,ey,eb,l,eH⟩
 ·subst ey eH
  obtain ⟨z,hd,vs,rel,dd⟩:=dk_of I.hok e
  have hz:vs.length≤sizeLine:=by rw[← rel.length];exact z
  have hl:(putK kvs k v).length≤sizeLine:=by have:=length_putK kvs k v;omega
  refine wpAny_setItem_pairs (hsz:=hz) (kV_is ry) dd fun h' dd' hs=>h _ ?_
  have he:∃ q,h'.get? a=some q:=let ⟨q,_,_,hq,_⟩:=dd';⟨q,hq⟩
  exact d_write I (by rw[e];exact True.intro) hs he (dk_new hl hd (rel.put k rv) dd')
 ·subst ey eH
  cases (show u=Value.ref b from ry)
  obtain ⟨z,hd,xs,rel,dd⟩:=dt_of I.hok e
  have hz:xs.length≤sizeLine:=by rw[← Paired.length rel];exact z
  have hl:(putK kvs k v).length≤sizeLine:=by have:=length_putK kvs k v;omega
  refine wpAny_setItem_heap (hsz:=hz) (tupleKind_room_in1 hu) (key_of I.hok eb) dd fun h' dd' hs=>h _ ?_
  obtain ⟨q,es,ep,hq,h2,h3,h4,_,h5⟩:=dd'
  refine d_write I (by rw[e];exact True.intro) hs ⟨q,hq⟩ ⟨hl,hd,_,(rel.put k eb rv).keeps fun c ys ec=>?_,q,es,ep,hq,h2,h3,h4,h5⟩
  rw[upd_ne (ne_of ec e (fun z=>nomatch z))]
  exact ec
end
section
variable {X:Cx}{pins:List (Addr×Obj)}{σ:St}{H:Hp}{s:Shared}{a:Addr}{kvs:List (Key×V)}{k:Key}{u:Value}{A:Around}{E:Value→Shared→Prop}
theorem d_len {Q:Value→Shared→Prop} (I:Inv X pins σ H s) (e:Rd H a (.dK kvs)) (h:∀ t s',Inv X pins σ H s'→Q (.int kvs.length t) s'):wpAny (model X.prog X.w) A (call (.builtin "len") [.ref a]) Q E s:=by
 obtain ⟨z,hd,vs,rel,dd⟩:=dk_rd I.hok e
 refine call_len_dict hd dd (by rw[← rel.length];rw[sizeLine_eq] at z;omega) ?_
 rw[← rel.length]
 exact h _ _ (I.tok _)
end
def NoSl (i:Expr):Prop:=∀ ov iv,subscripted i false ov iv=operate [ov,iv] (getItem ov iv)
theorem subD_of {prog:Program}{w:World}{A:Around}{E:Value→Shared→Prop}{s:Shared}{env:Env}{value slice:Expr}{pos:Pos}{T id:String}{Q:Value→Shared→Prop}
  (hl:typeLookup (.type T) "__getitem__"=pure (some (.builtin id))) (hs:NoSl slice)
  (h:wpAny (model prog w) A (eval value env) (fun o s₁=>wpAny (model prog w) A (eval slice env) (fun i s₂=>s₂.TypeIs o T∧wpAny (model prog w) A (getItem o i) Q E s₂) E s₁) E s):
  wpAny (model prog w) A (eval (.Subscript value slice pos) env) Q E s:=by
 refine Subscript_ (wpAny_mono h (fun o s₁ h₁=>wpAny_mono h₁ (fun i s₂ h₂=>?_) fun _ _ x=>x) fun _ _ x=>x)
 obtain ⟨hT,h₂⟩:=h₂
 unfold subscriptTail
 refine wpAny_bind ?_
 rw[getitemInPython_of_ne hT.not_modules]
 refine wpAny_bind (wpAny_specialOf hT hl ?_)
 have fin:wpAny (model prog w) A (subscripted slice false o i) (fun r s₃=>wpAny (model prog w) A (letTemporaryGo value o r >>= fun _=>pure r) Q E s₃) E s₂:=by
  rw[hs o i]
  exact wpAny_operating (wpAny_mono h₂ (fun r s₃ h₃=>wpAny_bind (wpAny_letTemporaryGo (wpAny_pure h₃))) fun _ _ x=>x)
 first
  | exact wpAny_pure (wpAny_bind fin)
  | exact wpAny_bind (wpAny_pure (wpAny_bind fin))
  | exact wpAny_bind fin
theorem dict_typeIs {X:Cx}{pins:List (Addr×Obj)}{σ:St}{H:Hp}{s:Shared}{a:Addr}{y:V}{o:Option V} (I:Inv X pins σ H s) (g:DGet H a y o):s.TypeIs (.ref a) "dict":=by
 rcases g with ⟨kvs,k,e,_,_⟩ | ⟨kvs,k,b,e,_,_,_⟩
 ·obtain ⟨_,_,vs,_,dd⟩:=dk_rd I.hok e
  exact dd.typeIs
 ·obtain ⟨_,_,xs,_,dd⟩:=dt_rd I.hok e
  exact dd.typeIs
def tDGet (td ty:TE):TE:=fun σ H Q=>td σ H fun x H1=>ty σ H1 fun y H2=>∃ a v,x=.ref a∧DGet H2 a y (some v)∧Q v H2
def sDPut (td ty tv:TE):TS:=fun D σ H=>tv σ H fun v H1=>td σ H1 fun x H2=>ty σ H2 fun y H3=>∃ a H4,x=.ref a∧DPut H3 a y v H4∧D.nx σ H4
section
variable {X:Cx}{o i e value:Expr}{pos pos' tpos:Pos}{td ty tv:TE}
theorem pe_dget (hu:X.A.units + 1 < cLine) (ho:PE X o td) (hi:PE X i ty) (hs:NoSl i):PE X (.Subscript o i pos) (tDGet td ty):=by
 constructor
 intro pins s σ H Q I h
 refine subD_of PySem.F.slot_dict_getitem.lookup hs (thn (ho pins s σ H _ I h) fun u s1 ⟨x,H1,I1,rx,q1⟩=>thn (hi pins s1 σ H1 _ I1 q1) fun iv s2 ⟨y,H2,I2,ry,a,v,ex,g,q2⟩=>?_)
 subst ex
 obtain rfl:u=Value.ref a:=rx
 exact ⟨dict_typeIs I2 g,d_getItem hu I2 g ry fun w' s3 I3 rw'=>⟨v,H2,I3,rw',q2⟩⟩
theorem ps_dput (hu:X.A.units + 1 < cLine) (ho:PE X o td) (hi:PE X i ty) (hv:PE X value tv) (hs:swapsWith value (some (.Subscript o i pos')) pos.line X.env=pure false):
  PS X (.Assign [.Subscript o i pos'] value pos) (sDPut td ty tv):=by
 constructor
 intro pins s σ H D I h
 refine wpAny_Assign_Subscript (thn (hv pins s σ H _ I h) fun r s1 ⟨v,H1,I1,rv,q1⟩=>thn (ho pins s1 σ H1 _ I1 q1) fun u s2 ⟨x,H2,I2,rx,q2⟩=>thn (hi pins s2 σ H2 _ I2 q2) fun iv s3 ⟨y,H3,I3,ry,a,H4,ex,g,q3⟩=>?_) hs
 subst ex
 obtain rfl:u=Value.ref a:=rx
 exact d_setItem hu I3 g ry rv fun s4 I4=>⟨σ,H4,I4,q3⟩
end
theorem dk_empty {P:Program}{w:World}{H:Hp} (h:Heap) (hb:sysModules < h.objs.size):ObjOk P w H (h.push { cls:=.type "dict",data:=.dict #[] }) h.objs.size (.dK []):=
 ⟨Nat.zero_le _,beq_eq_false_iff_ne.mpr (Ne.symm (Nat.ne_of_lt hb)),[],.nil,Heap.DictOf.new h⟩
def tDNewK:TE:=fun _ H Q=>∀ p,H p=none→Q (.ref p) (upd H p (.dK []))
section
variable {X:Cx}{pos:Pos}
theorem pe_dnewK:PE X (.Dict [] [] pos) tDNewK:=⟨fun pins s σ H Q I h=>
 wpAny_Dict_empty ⟨.ref s.heap.objs.size,_,I.laid (a:=s.heap.objs.size) (o:=.dK []) (t':=s.toks) (fun _ _ q=>Heap.get?_push_of_some _ q) (Nat.le_refl _) (dk_empty s.heap I.big),rfl,h _ (I.hok.fresh (Nat.le_refl _))⟩⟩
end
def tPairs:List (TE×TE)→St→Hp→(List (V×V)→Hp→Prop)→Prop
 | [],_,H,Q=>Q [] H
 | (tk,tv) :: r,σ,H,Q=>tk σ H fun x H1=>tv σ H1 fun y H2=>tPairs r σ H2 fun ps H3=>Q ((x,y) :: ps) H3
abbrev VV:List (V×V)→List (Value×Value)→Prop:=Paired fun p q=>RelV p.1 q.1∧RelV p.2 q.2
def PPs (X:Cx) (pos:Pos) (keys:List (Option Expr)) (values:List Expr) (trs:List (TE×TE)):Prop:=
 ∀ (pins:List (Addr×Obj)) (s:Shared) (σ:St) (H:Hp) (Q:List (V×V)→Hp→Prop),Inv X pins σ H s→tPairs trs σ H Q→
  wpAny (model X.prog X.w) X.A (evalPairs (pairTrees keys values X.env pos)) (fun vs s'=>∃ ps H',Inv X pins σ H' s'∧VV ps vs∧Q ps H') X.xe s
theorem pps_nil {X:Cx}{pos:Pos}:PPs X pos [] [] []:=fun pins s σ H Q I h=>pairTrees_nil_walk ⟨[],H,I,.nil,h⟩
theorem pps_cons {X:Cx}{pos:Pos}{k v:Expr}{ks:List (Option Expr)}{vs:List Expr}{tk tv:TE}{trs:List (TE×TE)} (hk:PE X k tk) (hv:PE X v tv) (hr:PPs X pos ks vs trs):
  PPs X pos (some k :: ks) (v :: vs) ((tk,tv) :: trs):=fun pins s σ H Q I h=>
 pairTrees_cons_walk (thn (hk pins s σ H _ I h) fun u s1 ⟨x,H1,I1,rx,q1⟩=>thn (hv pins s1 σ H1 _ I1 q1) fun w2 s2 ⟨y,H2,I2,ry,q2⟩=>
  thn (hr pins s2 σ H2 _ I2 q2) fun ws s3 ⟨ps,H3,I3,rel,q3⟩=>⟨(x,y) :: ps,H3,I3,.cons ⟨rx,ry⟩ rel,q3⟩)
def mergeK (kvs more:List (Key×V)):List (Key×V):=more.foldl (fun acc kv=>putK acc kv.1 kv.2) kvs
theorem KV.merge:∀ {more:List (Key×V)}{rs:List (Key×Value)}{kvs:List (Key×V)}{vs:List (Key×Value)},KV more rs→KV kvs vs→KV (mergeK kvs more) (merged vs rs):=by
 intro more rs kvs vs r
 unfold KV at r
 induction r generalizing kvs vs with
 | nil=>intro q;exact q
 | @cons p q ps qs h t ih=>
  intro r0
  have e:KV (putK kvs p.1 p.2) (stored vs q.1 q.2):=by
   have:=r0.put p.1 h.2
   rw[← h.1];exact this
  exact ih e
theorem length_mergeK:∀ (more kvs:List (Key×V)),(mergeK kvs more).length≤kvs.length + more.length
 | [],kvs=>by show kvs.length≤kvs.length + 0;omega
 | p :: r,kvs=>by
  have h1:=length_mergeK r (putK kvs p.1 p.2)
  have h2:=length_putK kvs p.1 p.2
  show (mergeK (putK kvs p.1 p.2) r).length≤_
  rw[List.length_cons];omega
theorem carries_of {P:Program}{w:World}:∀ {kvs:List (Key×V)}{ws:List (Value×Value)},VV (kvs.map fun kv=>(kV kv.1,kv.2)) ws→∃ rs,Carries (mixKind P w) ws rs∧KV kvs rs
 | [],_,r=>by rw[List.map_nil] at r;cases r;exact ⟨[],True.intro,.nil⟩
 | p :: kvs,_,r=>by
  rw[List.map_cons] at r
  cases r with
  | @cons a b as bs h t=>
   obtain ⟨rs,c,q⟩:=carries_of (P:=P) (w:=w) t
   obtain ⟨b1,b2⟩:=b
   exact ⟨(p.1,b2) :: rs,⟨kV_is h.1,rfl,c⟩,.cons ⟨rfl,h.2⟩ q⟩
def tDisp (trs:List (TE×TE)):TE:=fun σ H Q=>∀ p,H p=none→tPairs trs σ (upd H p (.dK [])) fun ps H2=>H2 p=some (.dK [])∧∃ kvs:List (Key×V),ps=kvs.map (fun kv=>(kV kv.1,kv.2))∧kvs.length≤15∧Q (.ref p) (upd H2 p (.dK (mergeK [] kvs)))
theorem pe_disp {X:Cx}{pos:Pos}{keys:List (Option Expr)}{values:List Expr}{trs:List (TE×TE)} (h:PPs X pos keys values trs) (hall:keys.all (·.isSome)=true) (hl:keys.length=values.length) (h0:keys≠[])
  (h15:keys.length≤15):PE X (.Dict keys values pos) (tDisp trs):=by
 constructor
 intro pins s σ H Q I q
 have hn:=I.hok.fresh (Nat.le_refl s.heap.objs.size)
 have I1:=I.laid (a:=s.heap.objs.size) (o:=.dK []) (h':=s.heap.push { cls:=.type "dict",data:=.dict #[] }) (t':=s.toks) (fun _ _ q=>Heap.get?_push_of_some _ q) (Nat.le_refl _) (dk_empty s.heap I.big)
 refine wpAny_Dict_walk (knd:=mixKind X.prog X.w) hall hl h0 h15 (thn (h pins _ σ _ _ I1 (q _ hn)) fun ws s2 ⟨ps,H2,I2,rel,e,kvs,ep,lk,q2⟩=>?_)
 subst ep
 obtain ⟨rs,c,rk⟩:=carries_of (P:=X.prog) (w:=X.w) rel
 obtain ⟨z,hd,vs0,r0,dd⟩:=dk_of I2.hok e
 cases r0
 refine ⟨rs,c,dd,fun h' dd' hs=>⟨.ref s.heap.objs.size,_,?_,rfl,q2⟩⟩
 have hz:(mergeK [] kvs).length≤sizeLine:=by
  have h1:=length_mergeK kvs []
  rw[List.length_nil] at h1
  rw[sizeLine_eq];omega
 have he:∃ q,h'.get? s.heap.objs.size=some q:=let ⟨q,_,_,hq,_⟩:=dd';⟨q,hq⟩
 exact d_write I2 (by rw[e];exact True.intro) hs he (dk_new hz hd (rk.merge .nil) dd')
structure M1 (X:Cx) (o:Expr) (m:Str) (apos:Pos) (e:Expr) (cpos:Pos):Prop where
 base:attributeBase o m X.env (eval o X.env)=eval o X.env
 few:((backTo cpos (starEach [e] X.env)).all (fun x=>!x.1) && (backToKw cpos (keywordEach [] X.env)).all (fun x=>x.1.isSome)
  && decide (([e]:List Expr).length + ([]:List Keyword).length + (if ([]:List Keyword).isEmpty then 0 else 1) < 30))=true
 line:(apos.endLine == cpos.line)=true
 trees:backTo cpos (starEach [e] X.env)=[(false,eval e X.env)]
structure M2 (X:Cx) (o:Expr) (m:Str) (apos:Pos) (e f:Expr) (cpos:Pos):Prop where
 base:attributeBase o m X.env (eval o X.env)=eval o X.env
 few:((backTo cpos (starEach [e,f] X.env)).all (fun x=>!x.1) && (backToKw cpos (keywordEach [] X.env)).all (fun x=>x.1.isSome)
  && decide (([e,f]:List Expr).length + ([]:List Keyword).length + (if ([]:List Keyword).isEmpty then 0 else 1) < 30))=true
 line:(apos.endLine == cpos.line)=true
 trees:backTo cpos (starEach [e,f] X.env)=[(false,eval e X.env),(false,eval f X.env)]
def IsD (H:Hp) (a:Addr):Prop:=(∃ kvs,Rd H a (.dK kvs))∨∃ kvs,Rd H a (.dT kvs)
theorem isD_at {X:Cx}{pins:List (Addr×Obj)}{σ:St}{H:Hp}{s:Shared}{a:Addr} (I:Inv X pins σ H s) (d:IsD H a):
  s.TypeIs (.ref a) "dict"∧(∀ b,Value.ref a=.ref b→∃ ob,s.heap.get? b=some ob∧ob.dict=none)∧(a == sysModules)=false:=by
 rcases d with ⟨kvs,e⟩ | ⟨kvs,e⟩
 ·obtain ⟨_,hd,vs,_,dd⟩:=dk_rd I.hok e
  refine ⟨dd.typeIs,fun b q=>?_,hd⟩
  cases q
  obtain ⟨ob,_,_,h1,h2,_⟩:=dd
  exact ⟨ob,h1,h2.2.1⟩
 ·obtain ⟨_,hd,xs,_,dd⟩:=dt_rd I.hok e
  refine ⟨dd.typeIs,fun b q=>?_,hd⟩
  cases q
  obtain ⟨ob,_,_,h1,h2,_⟩:=dd
  exact ⟨ob,h1,h2.2.1⟩
section
variable {X:Cx}{pins:List (Addr×Obj)}{σ:St}{H:Hp}{s:Shared}{a:Addr}{y d:V}{u r:Value}{o:Option V}{A:Around}{E:Value→Shared→Prop}
theorem d_get2 {Q:Value→Shared→Prop} (hu:A.units + 1 < cLine) (I:Inv X pins σ H s) (g:DGet H a y o) (ry:RelV y u) (rd:RelV d r) (h:∀ w' s',Inv X pins σ H s'→RelV (o.getD d) w'→Q w' s'):
  wpAny (model X.prog X.w) A (call (.builtin "dict.get") [.ref a,u,r]) Q E s:=by
 rcases g with ⟨kvs,k,e,ey,l⟩ | ⟨kvs,k,b,e,ey,eb,l⟩
 ·subst ey
  obtain ⟨z,hd,vs,rel,dd⟩:=dk_rd I.hok e
  refine call_meetsIn PySem.F.slot_dict_get dd.typeIs PySem.F.entry_dict_get (PySem.F.args_dict_get_3 _ _ _) (meets_dict_get_default (mixKind X.prog X.w) a (kV_is ry) hd r) ⟨_,dd.mapOf,h _ _ (I.tok _) ?_⟩
  rw[l]
  exact (rel.val k).getD rd
 ·subst ey
  cases (show u=Value.ref b from ry)
  obtain ⟨z,hd,xs,rel,dd⟩:=dt_rd I.hok e
  refine call_meetsIn PySem.F.slot_dict_get dd.typeIs PySem.F.entry_dict_get (PySem.F.args_dict_get_3 _ _ _) (meetsH_dict_get_default (tupleKind (mixKind X.prog X.w)) a b hd r) ⟨tupleKind_room_in1 hu,k,xs,key_of I.hok eb,dd,h _ _ (I.tok _) ?_⟩
  rw[l]
  exact (rel.val k).getD rd
end
def tDGet2 (td ty tx:TE):TE:=fun σ H Q=>td σ H fun x H1=>∃ a,x=.ref a∧IsD H1 a∧ty σ H1 fun y H2=>tx σ H2 fun z H3=>∃ o,DGet H3 a y o∧Q (o.getD z) H3
section
variable {X:Cx}{o e f:Expr}{apos cpos:Pos}{td ty tx:TE}
theorem pe_dget2 (hu:X.A.units + 1 < cLine) (ho:PE X o td) (he:PE X e ty) (hf:PE X f tx) (m:M2 X o "get" apos e f cpos):PE X (.Call (.Attribute o "get" apos) [e,f] [] cpos) (tDGet2 td ty tx):=by
 constructor
 intro pins s σ H Q I h
 refine wpAny_Call_method m.base m.few m.line PySem.F.plainAttrs_dict PySem.F.slot_dict_get PySem.F.type_dict_get (thn (ho pins s σ H _ I h) fun u s1 ⟨x,H1,I1,rx,a,ex,d,q1⟩=>?_)
 subst ex
 obtain rfl:u=Value.ref a:=rx
 obtain ⟨t1,t2,_⟩:=isD_at I1 d
 refine ⟨t1,t2,?_⟩
 rw[m.trees]
 refine Calls.callWith_builtin rfl (Calls.evalArgs_plain (Calls.spliced_cons (thn (he pins s1 σ H1 _ I1 q1) fun iv s2 ⟨y,H2,I2,ry,q2⟩=>
  Calls.spliced_cons (thn (hf pins s2 σ H2 _ I2 q2) fun fv s3 ⟨z,H3,I3,rz,ov,g,q3⟩=>Calls.spliced_nil ?_))))
 exact d_get2 hu I3 g ry rz fun w' s4 I4 rw'=>⟨_,H3,I4,rw',q3⟩
end
section
variable {X:Cx}{pins:List (Addr×Obj)}{σ:St}{H:Hp}{s:Shared}{a:Addr}{kvs:List (Key×V)}{A:Around}{E:Value→Shared→Prop}
end
section
variable {X:Cx}{pins:List (Addr×Obj)}{σ:St}{H:Hp}{s:Shared}{a:Addr}{y:V}{u:Value}{A:Around}{E:Value→Shared→Prop}
end
end L2
namespace Att
open PySem PySem.W PySem.Calls PyProof.Rows
theorem ints_of_wellAll {P:Params}{h:Heap}:∀ (ns:List Int) (vs:List Value),WellAll P h vs (ns.map WData.int)→IntsAre vs ns:=by
 intro ns
 induction ns with
 | nil=>
  intro vs w
  rw[List.map_nil] at w
  cases w
  exact .nil
 | cons n ns ih=>
  intro vs w
  rw[List.map_cons] at w
  cases w with
  | cons a b=>
   cases a
   exact .cons _ _ (ih _ b)
theorem script_of {l:OpenLaw}{n:Nat} (hn:l.most=some n) {P:Params}{h:Heap}{args:List WData}{vals:List Value}
  (hpre:l.row.toRowW.claim.pre args=true) (hwl:WellAll P h vals args):
  ∃ a vs ns,vals=[Value.ref a]∧args=[WData.list (ns.map WData.int)]∧h.get? a=some { cls:=.type "list",data:=.seq vs.toArray }∧IntsAre vs ns∧ns.length≤n:=by
 have hsh:WShape.hasAll [] args [.list .int]=true:=(pre_splitW hpre).1
 have hc:l.pre.holds [] { args:=args }=true:=(pre_splitW hpre).2
 obtain ⟨d,r,rfl,h1,h2⟩:=hasAllW_cons hsh
 obtain rfl:=hasAllW_nil h2
 obtain ⟨xs,rfl,h3⟩:=hasW_list h1
 obtain ⟨ns,rfl⟩:=items_int h3
 have hlen:ns.length≤n:=by
  unfold OpenLaw.pre at hc
  have h4:(WTm.not (.lt (.lit (.int (n:Int))) (.len (.arg 0)))).holds [] { args:=[.list (ns.map .int)] }=true:=by
   have h4:=(holds_andW hc).1
   rw[hn] at h4
   exact h4
  have h5:=condW_of h4 (w_not (w_lt w_lit (w_len_list (w_arg rfl))))
  rw[List.length_map] at h5
  refine Nat.le_of_not_lt fun q=>?_
  have q':(n:Int) < ((ns.length:Nat):Int):=by omega
  first
   | (rw[decide_eq_true q'] at h5;exact absurd h5 (by decide))
   | (simp at h5;omega)
 cases hwl with
 | cons w1 w2=>
  cases w2
  cases w1 with
  | list ho hall=>exact ⟨_,_,ns,rfl,rfl,ho,ints_of_wellAll ns _ hall,hlen⟩
theorem post_true (l:OpenLaw) (args:List WData):l.row.toRowW.claim.post args (.bool true) args=true:=
 postW_of (r:=l.row.toRowW) (X:=(true == true))
  (show WShape.has [] (.bool true) .bool=true by first | rfl | decide | simp[WShape.has,WShape.arms,WShape.armsAll])
  (show (WTm.eq .res (.lit (.bool true))).value [] { args:=args,res:=some (.bool true),after:=args }=some (.bool (true == true)) from w_eq_bool (w_res rfl) w_lit) rfl
theorem attach_call {l:OpenLaw}{n:Nat}{q:Program}{loose:List Str}{XP:(Str→Option Value)→Heap→Prop}{YP:World→Heap→Prop}{d:DefRec}
  (hn:l.most=some n) (hdf:d.params.defaults=[])
  (call:∀ (w:World) (s₀ s₁:Shared) (mg mb:Str→Option Value) (fa:Addr) (o:Obj) (pm cd doc:Value) (a:Addr) (vs:List Value) (ns:List Int),
   Ground q loose [] XP w s₀ mg mb s₁.heap→YP w s₁.heap→
   s₁.heap.get? fa=some o→o.data=.func (docDef d.name d.params d.body d.scope pm cd doc)→s₁.heap.CodeRec cd d.name→mg d.name=some (.ref fa)→
   s₁.heap.get? a=some { cls:=.type "list",data:=.seq vs.toArray }→IntsAre vs ns→ns.length≤n→s₁.gens=#[]→
   codeAny (model l.prog w) callerA (.call (.ref fa) ⟨[.ref a],[]⟩) (fun r s'=>r=.ok (.ret (.bool true))∧OldK s₁.heap s'.heap∧s'.os=s₁.os∧AllBare s'.gens) s₁):
  WalkO q loose XP YP l.row.toRowW d [] (fun f vs=>PySem.call f vs):=by
 intro w s₀ s₁ mg mb G Y fa o pm cd doc dV kV ho hd hcd hD hmg hg args vals as hpre hlay hrd hwl hlo
 obtain rfl:dV=.none:=Dflts.none hD hdf
 obtain rfl:kV=.none:=Dflts.noKw hD
 obtain ⟨a,vs,ns,rfl,rfl,hobj,hints,hlen⟩:=script_of hn hpre hwl
 refine enter_call (codeAny_mono (call w s₀ s₁ mg mb fa o pm cd doc a vs ns G Y ho (fd_plain hd) hcd hmg hobj hints hlen hg) fun r s' hq=>?_)
 obtain ⟨rfl,h2,h3,h4⟩:=hq
 exact ⟨.inl ⟨.bool true,.bool true,[],rfl,fun _=>rfl,.bool true,post_true l _,fun _=>⟨List.Pairwise.nil,fun _ hm=>(nomatch hm)⟩⟩,h2,h3,h4⟩
section
variable {prog:Program}{w:World}{A:Around}{E:Value→Shared→Prop}{s:Shared}{K:Frag}
end
end Att
namespace L2
open PySem PySem.Spec PyProof.Rows
theorem vals_ints:∀ {vs:List Value}{ns:List Int},IntsAre vs ns→Vals (ns.map V.int) vs
 | _,_,.nil=>.nil
 | _,_,.cons n t h=>.cons ⟨t,rfl⟩ (vals_ints h)
def Only (H:Hp):Prop:=∀ b,H b=none∨∃ o xs,H b=some (.frz o (.lst xs))
theorem law_call {P:Program}{w:World}{K:PySem.W.Frag}{mg mb:Str→Option Value}{CX:CXT}{k:Nat}{fa a:Addr}{fd:FuncData}{x:Str}{sp:Sp}{s₁:Shared}{vs:List Value}{ns:List Int}
  (KX:K.In s₁.heap) (hns:s₁.heap.Ns mainGlobals mg) (hb:s₁.heap.Ns builtinsNs mb) (hbb:∀ x:Str,x≠"__name__"→mb x=bootBuiltins x) (hlim:s₁.heap.NoLimit) (hg:s₁.gens=#[])
  (ha:s₁.heap.get? a=some { cls:=.type "list",data:=.seq vs.toArray }) (hi:IntsAre vs ns) (hl:ns.length≤sizeLine) (hr:Room k callerA)
  (F:∀ base:Heap,K.In base→base.Ns mainGlobals mg→FnOk P w K mg base CX k fa fd [x] sp) (hbind:∀ (s:Shared) (u:Value),BindsTo s fd ⟨[u],[]⟩ [(x,u)])
  (hsp:∀ H:Hp,Only H→SqL K H a (ns.map V.int)→sp [.ref a] H (fun v _=>v=.bl true) fun _ _ _=>False)
  (hCX:∀ H e s',CX [] H s₁ (fun _ _ _=>False) e s'→False):
  codeAny (model P w) callerA (.call (.ref fa) ⟨[.ref a],[]⟩) (fun r s'=>r=.ok (.ret (.bool true))∧OldK s₁.heap s'.heap∧s'.os=s₁.os∧AllBare s'.gens) s₁:=by
 have rv:=vals_ints hi
 have lenV:=hi.length
 have core:∀ H:Hp,Only H→SqL K H a (ns.map V.int)→HOk P w H s₁.heap→(∀ b,H b≠none→b=a)→(H a≠none→K.lookup a=none)→
   codeAny (model P w) callerA (.call (.ref fa) ⟨[.ref a],[]⟩) (fun r s'=>r=.ok (.ret (.bool true))∧OldK s₁.heap s'.heap∧s'.os=s₁.os∧AllBare s'.gens) s₁:=by
  intro H hO hS hok hA hK
  have base_of:∀ {b:Addr} {o:Obj},s₁.heap.get? b=some o→H b=none→(hidT s₁.heap H).get? b=some o:=fun e n=>hidT_get e n
  have noA:∀ {b:Addr} {o:Obj} {es:Array DictEntry} {ep:Nat},s₁.heap.get? b=some o→o.data=.dict es ep→H b=none:=fun {b o es ep} e d=>by
   cases q:H b with
   | none=>rfl
   | some u=>
    have e':b=a:=hA b (by rw[q];simp)
    subst e'
    rw[ha] at e;cases e
    have d':Data.seq vs.toArray _=Data.dict es ep:=d
    cases d'
  have nsK:∀ {b:Addr} {m:Str→Option Value},s₁.heap.Ns b m→(hidT s₁.heap H).Ns b m:=fun {b m} ⟨o,es,ep,e,d,r⟩=>⟨o,es,ep,base_of e (noA e d),d,r⟩
  have hKb:K.In (hidT s₁.heap H):=fun b o e=>base_of (KX b o e) (by
   cases q:H b with
   | none=>rfl
   | some u=>
    have e':b=a:=hA b (by rw[q];simp)
    subst e'
    rw[hK (by rw[q];simp)] at e;cases e)
  have hM:Mod K mg (hidT s₁.heap H):=⟨hKb,nsK hns,⟨mb,nsK hb,hbb⟩,let ⟨mc,h1,h2⟩:=hlim;⟨mc,nsK h1,h2⟩⟩
  have e0:Env0 P w K mg (hidT s₁.heap H) callerA [] s₁ H:=⟨rfl,hM,fun b o e=>of_hidT e,Nat.le_of_eq (hidT_size _ _),trivial,fun b hb=>absurd (show b∈([]:List Addr) from hb) (by simp),hok,.of_eq hg⟩
  refine codeAny_mono ((F _ hKb (nsK hns)).run callerA [] s₁ H ⟨[.ref a],[]⟩ [.ref a] [.ref a] _ _ hr e0 (hbind s₁ (.ref a)) (.cons rfl .nil) (hsp H hO hS)) fun r s' h=>?_
  cases r with
  | error e=>exact (hCX H e s' h).elim
  | ok fl=>
   cases fl with
   | next=>exact False.elim h
   | brk=>exact False.elim h
   | cont=>exact False.elim h
   | ret u=>
    obtain ⟨v,H',os,bare,un,hok',r',q⟩:=h
    have q':v=.bl true:=q
    subst q'
    obtain rfl:u=Value.bool true:=r'
    refine ⟨rfl,OldK.of_keep fun b o e=>?_,os,bare⟩
    cases q:H b with
    | none=>exact un.keep b o e q (by intro z;exact absurd (show b∈([]:List Addr) from z) (by simp)) (by simp)
    | some u=>
     rcases hO b with z | ⟨ob,xs,z⟩
     ·rw[q] at z;cases z
     ·have z2:=un.frzs b ob _ z
      obtain ⟨e1,_⟩:=hok b _ z
      obtain ⟨e2,_⟩:=hok' b _ z2
      rw[e] at e1;cases e1
      exact e2
 cases hk:K.lookup a with
 | some o=>
  have e:=KX a o hk
  rw[ha] at e
  cases e
  refine core (fun _=>none) (fun _=>.inl rfl) (.inr ⟨_,vs.toArray,_,hk,rfl,rfl,rfl,by rw[List.size_toArray,lenV];exact hl,by simpa using rv⟩) (fun b u z=>by have z':(none:Option HO)=some u:=z;cases z') (fun b z=>absurd rfl z) fun z=>absurd rfl z
 | none=>
  refine core (fun b=>if b=a then some (.frz { cls:=.type "list",data:=.seq vs.toArray } (.lst (ns.map V.int))) else none) (fun b=>?_) (.inl (.inr ⟨{ cls:=.type "list",data:=.seq vs.toArray },if_pos rfl⟩)) (fun b u z=>?_) (fun b z=>?_) fun _=>hk
  ·by_cases hb:b=a
   ·exact .inr ⟨_,_,if_pos hb⟩
   ·exact .inl (if_neg hb)
  ·by_cases hb:b=a
   ·have z':=(if_pos hb).symm.trans z
    cases z'
    subst hb
    exact ⟨ha,by rw[List.length_map];exact hl,vs,_,rv,ha⟩
   ·have z':=(if_neg hb).symm.trans z
    cases z'
  ·by_cases hb:b=a
   ·exact hb
   ·exact absurd (if_neg hb) z
end L2
namespace L2
open PySem PySem.Spec PyProof.Rows
abbrev KOf {K:PySem.W.Frag}{h:Heap} (_:K.In h):PySem.W.Frag:=K
theorem walk_of {l:PySem.W.OpenLaw}{n k:Nat}{q:Program}{loose:List Str}{XP:(Str→Option Value)→Heap→Prop}{YP:World→Heap→Prop}{d:DefRec}{K:Params→PySem.W.Frag}{CX:World→CXT}{sp:World→Sp}{x:Str}
  (hn:l.most=some n) (hn2:n≤sizeLine) (hdf:d.params.defaults=[]) (hr:Room k callerA)
  (hY:∀ (w:World) (h:Heap),YP w h→(K w.params).In h)
  (F:∀ (w:World) (mg:Str→Option Value) (fa:Addr) (h:Heap),(K w.params).In h→h.Ns mainGlobals mg→mg d.name=some (.ref fa)→
   ∃ fd:FuncData,(∀ (s:Shared) (u:Value),BindsTo s fd ⟨[u],[]⟩ [(x,u)])∧
    ∀ base:Heap,(K w.params).In base→base.Ns mainGlobals mg→FnOk l.prog w (K w.params) mg base (CX w) k fa fd [x] (sp w))
  (hsp:∀ (w:World) (H:Hp) (a:Addr) (ns:List Int),ns.length≤n→Only H→SqL (K w.params) H a (ns.map V.int)→sp w [.ref a] H (fun v _=>v=.bl true) fun _ _ _=>False)
  (hCX:∀ (w:World) (H:Hp) (s:Shared) (e:Value) (s':Shared),CX w [] H s (fun _ _ _=>False) e s'→False):
  PySem.W.WalkO q loose XP YP l.row.toRowW d [] (fun f vs=>PySem.call f vs):=by
 refine Att.attach_call hn hdf fun w s₀ s₁ mg mb fa o pm cd doc a vs ns G Y ho hd hcd hmg hobj hints hlen hg=>?_
 have KX:=hY w _ Y
 obtain ⟨fd,hb,hF⟩:=F w mg fa _ KX G.T.g hmg
 exact law_call KX G.T.g G.T.b G.T.builtins G.T.nolimit hg hobj hints (Nat.le_trans hlen hn2) hr hF hb (fun H hO hS=>hsp w H a ns hlen hO hS) fun H e s'=>hCX w H s₁ e s'
end L2
namespace L2
open PySem PySem.Spec PyProof.Rows
def defArgs (s:Stmt):Arguments:=match s with
 | .FunctionDef _ a _ _ _ _ _ _ _ _=>a
 | _=>{ posonlyargs:=[],args:=[],vararg:=none,kwonlyargs:=[],kw_defaults:=[],kwarg:=none,defaults:=[] }
def defBody (s:Stmt):List Stmt:=match s with
 | .FunctionDef _ _ b _ _ _ _ _ _ _=>b
 | _=>[]
def defScope (s:Stmt):Scope:=match s with
 | .FunctionDef _ _ _ _ _ _ sc _ _ _=>sc
 | _=>{ kind:=.function,names:=[],isGenerator:=false,isCoroutine:=false }
abbrev CX0:CXT:=fun _ _ _ _ _ _=>False
abbrev E0:XK:=fun _ _ _=>False
theorem pass0 {X:Cx}:Passes CX0 X E0:=fun _ _ _ _ _ _ _ h=>h.elim
structure Fun (K:PySem.W.Frag) (x qual:Str) (st:Stmt) (f:Addr) (fd:FuncData):Prop where
 ex:∃ (oc:Value) (od:Option Addr) (kV doc pm:Value) (an:Option Addr) (cdv ct:Value) (osl:Array (Option Value)),
  fd=PySem.W.fnOf x qual (defArgs st) (defBody st) (defScope st) .none kV doc pm an cdv ct∧K.lookup f=some ⟨oc,od,.func fd,osl⟩∧PySem.W.codeIn K cdv qual=true
 kp:PySem.W.keepIn K (.ref f)=true
section
variable {P:Program}{w:World}{K:PySem.W.Frag}{mg:Str→Option Value}{base:Heap}
theorem Fun.ok {x qual:Str}{st:Stmt}{f:Addr}{fd:FuncData}{N ps:List Str}{k:Nat}{sp:Sp} (F:Fun K x qual st f fd) (S:FnScope N ps (defScope st)) (len:∀ vs H Q E,sp vs H Q E→vs.length=ps.length)
  (hbody:∀ (cdv:Value) (A:Around) (outer:List Env) (s:Shared) (H:Hp) (vs:List V) (Q:VK) (E:XK),Room k (A.deeper (envOfC qual (defScope st) s.heap.objs.size f cdv))→sp vs H Q E→
   ∃ t,PSs (cxOf CX0 P w K mg base N qual (defScope st) f cdv A outer s H E).nox (defBody st) t∧t { nx:=fun _ H'=>Q .non H',rt:=Q } (start N vs) H):FnOk P w K mg base CX0 (k + 1) f fd ps sp:=by
 obtain ⟨oc,od,kV,doc,pm,an,cdv,ct,osl,rfl,lk,hcd⟩:=F.ex
 refine fn_of lk hcd S len fun A outer s H vs Q E hr hsp=>?_
 obtain ⟨t,h,q⟩:=hbody cdv A outer s H vs Q E hr hsp
 exact ⟨t,h.nox,q⟩
theorem Fun.binds {x qual:Str}{st:Stmt}{f:Addr}{fd:FuncData}{ps:List Str} (F:Fun K x qual st f fd)
  (h:∀ (kV doc pm:Value) (an:Option Addr) (cdv ct:Value) (us:List Value),us.length=ps.length→bindArgs (PySem.W.fnOf x qual (defArgs st) (defBody st) (defScope st) .none kV doc pm an cdv ct) ⟨us,[]⟩=pure (ps.zip us)):Binds K fd ps []:=by
 obtain ⟨oc,od,kV,doc,pm,an,cdv,ct,osl,rfl,lk,hcd⟩:=F.ex
 exact .all (h kV doc pm an cdv ct)
theorem fun_mk {x qual:Str}{st:Stmt}{f:Addr}{oc:Value}{od an:Option Addr}{osl:Array (Option Value)}{kV doc pm cdv ct:Value} (l:K.lookup f=some ⟨oc,od,.func (PySem.W.fnOf x qual (defArgs st) (defBody st) (defScope st) .none kV doc pm an cdv ct),osl⟩)
  (c:PySem.W.codeIn K cdv qual=true) (k:PySem.W.keepIn K (.ref f)=true):Fun K x qual st f (PySem.W.fnOf x qual (defArgs st) (defBody st) (defScope st) .none kV doc pm an cdv ct):=⟨⟨oc,od,kV,doc,pm,an,cdv,ct,osl,rfl,l,c⟩,k⟩
end
theorem hu_of {A:Around}{k:Nat} (hr:Room k A):A.units + 1 < cLine:=Nat.lt_of_le_of_lt (Nat.add_le_add_left (by decide:1≤64) _) hr.units
theorem small1000 {n:Nat} (h:n≤1000):n < sizeLine:=Nat.lt_of_le_of_lt h (by decide)
section
variable {X:Cx}
theorem pv (i:Nat) {x:Str}{pos:Pos} (hN:X.N[i]?=some x:=by rfl) (hv:Vis X.env.scope x:=by first | exact Or.inl rfl | exact Or.inr (Or.inl rfl) | exact Or.inr (Or.inr rfl)) (hd:(x == ("__debug__":Str))=false:=by decide)
  (hcd:(x == ("__classdict__":Str))=false:=by decide):PE X (.Name x pos) (tVar i):=pe_var hN hv hd hcd
end
theorem iteF {A B:Prop} (h:B):if false=true then A else B:=by
 rw[if_neg Bool.false_ne_true]
 exact h
theorem iteT {A B:Prop} (h:A):if true=true then A else B:=by
 rw[if_pos rfl]
 exact h
theorem ite2 {c A B:Prop} [Decidable c] (h1:c→A) (h2:¬ c→B):if c then A else B:=by
 by_cases h:c
 ·rw[if_pos h]
  exact h1 h
 ·rw[if_neg h]
  exact h2 h
def Same (H H':Hp):Prop:=∀ b o,H b=some o→H' b=some o
theorem Same.refl (H:Hp):Same H H:=fun _ _ h=>h
theorem Same.trans {H H1 H2:Hp} (a:Same H H1) (b:Same H1 H2):Same H H2:=fun c o h=>b c o (a c o h)
theorem Same.seq {K:PySem.W.Frag}{H H':Hp}{a:Addr}{xs:List V} (e:Same H H') (h:SqL K H a xs):SqL K H' a xs:=by
 rcases h with (h | ⟨o,h⟩) | h
 ·exact .inl (.inl (e _ _ h))
 ·exact .inl (.inr ⟨o,e _ _ h⟩)
 ·exact .inr h
end L2
namespace L2
open PySem PySem.Spec PyProof.Rows
section
variable {X:Cx}
inductive I_r_call_lenD (xs:List V) (H:Hp) (Q:VK):Prop
 | mk (a:_) (kvs:_) (q0:xs=[V.ref a]) (q1:H a=some (.dK kvs)) (q2:Q (.int kvs.length) H):I_r_call_lenD xs H Q
def r_call_lenD:List V→Hp→VK→Prop:=fun xs H Q=>I_r_call_lenD xs H Q
theorem call_lenD:CallR X (.builtin "len") r_call_lenD:=by
 intro pins s σ H xs us Q I r h
 obtain ⟨a,kvs,rfl,ha,q⟩:=h
 obtain ⟨u,rfl,ru⟩:=vals1 r
 cases ru
 exact d_len I (.inl ha) fun t s' I'=>⟨.int kvs.length,H,I',⟨t,rfl⟩,q⟩
end
section
variable {κ:Type} [DecidableEq κ]
end
end L2
namespace L2
open PySem PySem.Spec PyProof.Rows
section
variable {X:Cx}{pins:List (Addr×Obj)}{σ:St}{H:Hp}{s:Shared}
theorem Inv.track {D:Addr}{ob:HO} (I:Inv X pins σ H s) (hf:FpOk X pins H D) (new:ObjOk X.prog X.w (upd H D ob) s.heap D ob):Inv X pins σ (upd H D ob) s:=by
 obtain ⟨hn,hL,hfs,hex,hce,hpi⟩:=hf
 have nD:∀ b u,H b=some u→b≠D:=fun b u e=>ne_of_none e hn
 refine I.step (g':=s.gens) (t':=s.toks) (d':=s.drawn) (h':=s.heap) (H':=upd H D ob) (ch:=[D]) (fun b hb=>?_) (fun b o _ _ _ e _=>e) (fun b o _ _ _ e _=>⟨o.slots,e⟩) (fun b o hc e n=>?_)
  (fun b o _ e=>⟨o,e⟩) (fun b xs e=>by rw[upd_ne (nD b _ e)];exact e) (fun b o u e=>by rw[upd_ne (nD b _ e)];exact e) (fun b ps e=>⟨#[],by rw[upd_ne (nD b _ e),e];simp⟩) (fun m hm=>hm) (fun b u e=>?_) I.bare
 ·have e:b=D:=by simpa using hb
  subst e
  exact ⟨hex,hL,hce,hpi⟩
 ·rw[upd_ne (fun z=>hc (by simp[z]))]
  exact n
 ·by_cases hb:b=D
  ·subst hb
   rw[upd_same] at e
   cases e
   exact new
  ·rw[upd_ne hb] at e
   exact (I.hok b u e).stay (fun c v _ q=>q) (fun c q=>by rw[upd_ne (nD c _ q)];exact q) fun c xs q=>by rw[upd_ne (nD c _ q)];exact q
end
def closL (env:Env):List (Str×NameKind)→List (Str×Addr)→List (Str×Addr)
 | [],cs=>cs
 | (n,k) :: r,cs=>closL env r (if k=.free then (match env.cells.lookup n with | some c=>(n,c) :: cs | none=>cs) else cs)
theorem forIn_pure {α β:Type} (f:α→β→Sem (ForInStep β)) (g:α→β→β):∀ (l:List α) (b:β),(∀ y∈l,∀ b,f y b=pure (.yield (g y b)))→(forIn l b f:Sem β)=pure (l.foldl (fun b y=>g y b) b)
 | [],b,_=>rfl
 | a :: r,b,h=>by
  rw[List.forIn_cons,h a List.mem_cons_self b]
  exact forIn_pure f g r (g a b) fun y hy=>h y (List.mem_cons_of_mem _ hy)
def closG (env:Env) (y:Str×NameKind) (cs:List (Str×Addr)):List (Str×Addr):=if y.2=.free then (match env.cells.lookup y.1 with | some c=>(y.1,c) :: cs | none=>cs) else cs
theorem closL_fold (env:Env):∀ (l:List (Str×NameKind)) (cs:List (Str×Addr)),l.foldl (fun b y=>closG env y b) cs=closL env l cs
 | [],cs=>rfl
 | (n,k) :: r,cs=>by
  rw[List.foldl_cons,closL_fold env r]
  rfl
theorem closureFor_L {scope:Scope}{env:Env} (h:∀ y∈scope.names,y.2=.free→∃ c,env.cells.lookup y.1=some c):closureFor scope env=pure (closL env scope.names []):=by
 simp only [closureFor]
 rw[forIn_pure _ (closG env) scope.names [] (fun y hy b=>?_)]
 ·rw[closL_fold]
  rfl
 ·obtain ⟨n,k⟩:=y
  by_cases hk:k=.free
  ·obtain ⟨c,hc⟩:=h (n,k) hy hk
   subst hk
   have e:cellOf env n=pure c:=by unfold cellOf;rw[hc]
   have e2:closG env (n,NameKind.free) b=(n,c) :: b:=by unfold closG;rw[if_pos rfl,hc]
   simp only [e,e2]
   rfl
  ·have e:(k == NameKind.free)=false:=by simpa using hk
   have e2:closG env (n,k) b=b:=by unfold closG;rw[if_neg hk]
   simp only [e,e2,Bool.false_eq_true,if_false]
theorem closL_sub {env:Env}:∀ (l:List (Str×NameKind)) (cs:List (Str×Addr)),(∀ x c,cs.lookup x=some c→env.cells.lookup x=some c)→∀ x c,(closL env l cs).lookup x=some c→env.cells.lookup x=some c
 | [],cs,h,x,c,e=>h x c e
 | (n,k) :: r,cs,h,x,c,e=>by
  unfold closL at e
  refine closL_sub r _ (fun x c e=>?_) x c e
  by_cases hk:k=.free
  ·rw[if_pos hk] at e
   cases hc:env.cells.lookup n with
   | none=>rw[hc] at e;exact h x c e
   | some d=>
    rw[hc] at e
    by_cases hx:x=n
    ·subst hx
     simp at e
     rw[← e];exact hc
    ·have:(x == n)=false:=by simpa using hx
     rw[List.lookup_cons,this] at e
     exact h x c e
  ·rw[if_neg hk] at e
   exact h x c e
theorem closL_has {env:Env}:∀ (l:List (Str×NameKind)) (cs:List (Str×Addr)) (x:Str),(∀ y∈l,y.2=.free→∃ c,env.cells.lookup y.1=some c)→((∃ c,cs.lookup x=some c)∨(x,NameKind.free)∈l)→∃ c,(closL env l cs).lookup x=some c
 | [],cs,x,_,h=>by
  rcases h with h | h
  ·exact h
  ·simp at h
 | (n,k) :: r,cs,x,hc,h=>by
  unfold closL
  refine closL_has r _ x (fun y hy=>hc y (List.mem_cons_of_mem _ hy)) ?_
  rcases h with ⟨c,h⟩ | h
  ·refine .inl ?_
   split
   ·split
    ·rename_i d _
     by_cases hx:x=n
     ·subst hx;exact ⟨d,by simp⟩
     ·have:(x == n)=false:=by simpa using hx
      exact ⟨c,by rw[List.lookup_cons,this];exact h⟩
    ·exact ⟨c,h⟩
   ·exact ⟨c,h⟩
  ·rcases List.mem_cons.mp h with h | h
   ·cases h
    obtain ⟨d,hd⟩:=hc (n,NameKind.free) List.mem_cons_self rfl
    refine .inl ⟨d,?_⟩
    rw[if_pos rfl]
    have hd':env.cells.lookup n=some d:=hd
    rw[hd']
    simp
   ·exact .inr h
theorem relabel_cf {env : Env} : ∀ {names : List (Str × NameKind)}{x : Str}, (∀ y ∈ names, y.2 ≠ .cell) →
    ((names.map fun (n, k) => if (k == NameKind.free && env.scope.kind == .function && env.kindOf n == some .cell) then (n, NameKind.cell) else (n, k)).lookup x = some .cell ∨
     (names.map fun (n, k) => if (k == NameKind.free && env.scope.kind == .function && env.kindOf n == some .cell) then (n, NameKind.cell) else (n, k)).lookup x = some .free) → names.lookup x = some .free
  | [], x, _, h => by simp at h
  | (n, k) :: r, x, hc, h => by
    have ih := @relabel_cf env r x fun y hy => hc y (List.mem_cons_of_mem _ hy)
    have hk := hc (n, k) List.mem_cons_self
    rw[List.map_cons] at h
    by_cases hx : x = n
    · subst hx
      rw[List.lookup_cons, beq_self_eq_true]
      simp only
      by_cases hcond : (k == NameKind.free && env.scope.kind == .function && env.kindOf x == some .cell) = true
      · have : (k == NameKind.free) = true := by
          rw[Bool.and_eq_true, Bool.and_eq_true] at hcond
          exact hcond.1.1
        simpa using this
      · simp only [if_neg hcond, List.lookup_cons, beq_self_eq_true] at h
        rcases h with h | h
        · exact absurd (Option.some.inj h) hk
        · exact h
    · have e : (x == n) = false := by simpa using hx
      rw[List.lookup_cons, e]
      refine ih ?_
      by_cases hcond : (k == NameKind.free && env.scope.kind == .function && env.kindOf n == some .cell) = true
      · simp only [if_pos hcond, List.lookup_cons, e] at h
        exact h
      · simp only [if_neg hcond, List.lookup_cons, e] at h
        exact h
theorem relabel_free {env : Env} : ∀ {names : List (Str × NameKind)}{x : Str}, names.lookup x = some .free →
    ((names.map fun (n, k) => if (k == NameKind.free && env.scope.kind == .function && env.kindOf n == some .cell) then (n, NameKind.cell) else (n, k)).lookup x = some .cell ∨
     (names.map fun (n, k) => if (k == NameKind.free && env.scope.kind == .function && env.kindOf n == some .cell) then (n, NameKind.cell) else (n, k)).lookup x = some .free)
  | [], x, h => by simp at h
  | (n, k) :: r, x, h => by
    have ih := @relabel_free env r x
    rw[List.map_cons]
    by_cases hx : x = n
    · subst hx
      rw[List.lookup_cons, beq_self_eq_true] at h
      simp only at h
      cases h
      by_cases hcond : (NameKind.free == NameKind.free && env.scope.kind == .function && env.kindOf x == some .cell) = true
      · refine .inl ?_
        show List.lookup x ((if (NameKind.free == NameKind.free && env.scope.kind == .function && env.kindOf x == some .cell) = true then (x, NameKind.cell) else (x, NameKind.free)) :: _) = _
        rw[if_pos hcond, List.lookup_cons, beq_self_eq_true]
      · refine .inr ?_
        show List.lookup x ((if (NameKind.free == NameKind.free && env.scope.kind == .function && env.kindOf x == some .cell) = true then (x, NameKind.cell) else (x, NameKind.free)) :: _) = _
        rw[if_neg hcond, List.lookup_cons, beq_self_eq_true]
    · have e : (x == n) = false := by simpa using hx
      rw[List.lookup_cons, e] at h
      have := ih h
      by_cases hcond : (k == NameKind.free && env.scope.kind == .function && env.kindOf n == some .cell) = true
      · simp only [if_pos hcond, List.lookup_cons, e]
        exact this
      · simp only [if_neg hcond, List.lookup_cons, e]
        exact this
def blk (X:Cx) (N:List Str) (scope:Scope) (cl:List (Str×Addr)) (s:Shared) (H:Hp) (fp:List Addr) (pins:List (Addr×Obj)) (C:Addr):Cx where
 prog:=X.prog
 w:=X.w
 K:=X.K
 mg:=X.mg
 base:=X.base
 A:=X.A
 N:=N
 s₀:=s
 H₀:=H
 env:=compEnvC scope cl C X.env
 outer:=X.stack
 stack:=X.stack
 ex:=fp
 fn:=fun _=>false
 calm:=X.calm
 pn:=X.pn ++ pins
 xe:=fun _ _=>False
def srcOk (N:List Str) (src:List (Option Nat)) (scope:Scope) (oN:List Str):Bool:=
 (N.zip src).all fun p=>match p.2 with | none=>true | some j=>(oN[j]? == some p.1) && (scope.names.lookup p.1 == some .free)
structure BlkOk (N:List Str) (src:List (Option Nat)) (scope osc:Scope) (oN:List Str):Prop where
 kind:scope.kind=.function
 nocell:∀ y∈scope.names,y.2≠.cell
 names:∀ y∈scope.names,y.2=.local→scope.names.lookup y.1=some .local
 fr:∀ y∈scope.names,y.2=.free→osc.names.lookup y.1=some .cell∨osc.names.lookup y.1=some .free
 len:src.length=N.length
 srcs:srcOk N src scope oN=true
def sub (src:List (Option Nat)) (σ:St):St:=src.map fun o=>match o with | none=>none | some j=>(σ[j]?).getD none
theorem srcOk_at {N:List Str}{src:List (Option Nat)}{scope:Scope}{oN:List Str} (h:srcOk N src scope oN=true) {i j:Nat}{x:Str} (h1:N[i]?=some x) (h2:src[i]?=some (some j)):oN[j]?=some x∧scope.names.lookup x=some .free:=by
 have hm:(x,some j)∈N.zip src:=by
  refine List.mem_of_getElem? (i:=i) ?_
  rw[List.getElem?_zip_eq_some]
  exact ⟨h1,h2⟩
 have:=List.all_eq_true.mp h _ hm
 simp only [Bool.and_eq_true,beq_iff_eq] at this
 exact this
theorem sub_at {src:List (Option Nat)}{σ:St}{i:Nat}{v:V} (h:(sub src σ)[i]?=some (some v)):∃ j,src[i]?=some (some j)∧σ[j]?=some (some v):=by
 unfold sub at h
 rw[List.getElem?_map] at h
 cases e:src[i]? with
 | none=>rw[e] at h;simp at h
 | some o=>
  rw[e] at h
  cases o with
  | none=>simp at h
  | some j=>
   refine ⟨j,rfl,?_⟩
   cases e2:σ[j]? with
   | none=>simp[e2] at h
   | some o2=>
    simp[e2] at h
    rw[h]
structure PTs (X:Cx) (ifs:List Expr) (t:TT):Prop where
 run:
  ∀ (pins:List (Addr×Obj)) (s:Shared) (σ:St) (H:Hp) (Q:Bool→Hp→Prop),Inv X pins σ H s→t σ H Q→
   wpAny (model X.prog X.w) X.A (forIn ifs true fun c r=>if r=true then do let ok ← isTrue c X.env (eval c X.env);pure (ForInStep.yield ok) else pure (ForInStep.yield r)) (TP X pins σ Q) X.xe s
instance {X:Cx} {ifs:List Expr} {t:TT}:CoeFun (PTs X ifs t) (fun _=>
 ∀ (pins:List (Addr×Obj)) (s:Shared) (σ:St) (H:Hp) (Q:Bool→Hp→Prop),Inv X pins σ H s→t σ H Q→
  wpAny (model X.prog X.w) X.A (forIn ifs true fun c r=>if r=true then do let ok ← isTrue c X.env (eval c X.env);pure (ForInStep.yield ok) else pure (ForInStep.yield r)) (TP X pins σ Q) X.xe s):=⟨fun h=>h.run⟩
theorem pts_nil {X:Cx}:PTs X [] (fun _ H Q=>Q true H):=⟨fun _ _ _ H _ I h=>wpAny_tests_nil ⟨H,I,h⟩⟩
theorem pts_one {X:Cx}{c:Expr}{t:TT} (h:PT X c t):PTs X [c] t:=⟨fun pins s σ H Q I q=>wpAny_tests_one (h pins s σ H Q I q)⟩
section
variable {X:Cx}{pins:List (Addr×Obj)}{σ:St}{H:Hp}{s:Shared}
theorem Inv.clos {N:List Str}{src:List (Option Nat)}{scope:Scope} (B:BlkOk N src scope X.env.scope X.N) (I:Inv X pins σ H s):∀ y∈scope.names,y.2=.free→∃ c,X.env.cells.lookup y.1=some c:=
 fun y hy hf=>I.ok.has y.1 (B.fr y hy hf)
theorem Inv.block {N:List Str}{src:List (Option Nat)}{scope:Scope}{fp:List Addr}{s1:Shared}{C:Addr}{m:Str→Option Value} (B:BlkOk N src scope X.env.scope X.N) (I:Inv X pins σ H s)
  (hf:∀ b∈fp,FpOk X pins H b) (hfo:∀ b∈fp,b < s.heap.objs.size) (hC:s.heap.objs.size≤C) (ho:s1.os=s.os) (hb:AllBare s1.gens) (hk:∀ b o,s.heap.get? b=some o→s1.heap.get? b=some o) (hn:s1.heap.Ns C m):
  Inv (blk X N scope (closL X.env scope.names []) s H fp pins C) [] (sub src σ) H s1:=by
 have hclos:=I.clos B
 have cl_sub:∀ x c,(closL X.env scope.names []).lookup x=some c→X.env.cells.lookup x=some c:=closL_sub _ _ (fun x c e=>by simp at e)
 have fsub:∀ b∈frs X.stack,b < s.heap.objs.size:=fun b hb=>by
  obtain ⟨_,o,ho,_⟩:=I.stack.mem hb
  exact Heap.lt_size ho
 refine ⟨⟨I.ok.mod,B.kind,I.ok.glob,I.ok.blt,hC,fun x y c e1 e2=>I.ok.inj x y c (cl_sub x c e1) (cl_sub y c e2),fun x hx=>?_,fun x c hx=>absurd hx Bool.false_ne_true,I.ok.hd,I.ok.frames,.inl rfl,fun b hb=>⟨?_,fun x c e=>?_⟩,fun b o e=>?_,Nat.le_trans I.ok.bsz I.sz,fun b o e hb=>?_,fun b hb hz=>?_,I.stack,I.stkFree⟩,
  ho,hb,Un.kept hk,⟨m,hn,fun i x v e1 e2 e3=>?_⟩,fun x c e=>?_,?_,fun x c e=>I.freeC x c (cl_sub x c e),fun p hp=>?_,I.hok.kept hk,?_⟩
 ·have hx':=relabel_cf (env:=X.env) B.nocell hx
  exact closL_has _ _ x hclos (.inr (PySem.mem_of_lookup hx'))
 ·exact Nat.ne_of_lt (Nat.lt_of_lt_of_le (hfo b hb) hC)
 ·exact (hf b hb).2.2.2.2.1 x c (cl_sub x c e)
 ·exact I.bs b o e
 ·rcases (hf b hb).2.2.2.1 with z | z
  ·exact I.ok.noex b o e z
  ·exact absurd (Nat.lt_of_lt_of_le (Heap.lt_size e) (Nat.le_trans I.ok.bsz z)) (Nat.lt_irrefl _)
 ·rcases List.mem_cons.mp (I.stkSub b hz) with e | z
  ·exact (hf b hb).2.1 e
  ·exact (hf b hb).2.2.1 z
 ·obtain ⟨j,ej,ev⟩:=sub_at e2
  obtain ⟨oj,fj⟩:=srcOk_at B.srcs e1 ej
  have hvis:=B.fr _ (PySem.mem_of_lookup fj) rfl
  obtain ⟨m0,hn0,hl0⟩:=id I.loc
  obtain ⟨u,ru,lk⟩:=hl0 j x v oj ev (.inr hvis)
  refine ⟨u,ru,.inr ⟨relabel_free fj,?_⟩⟩
  rcases lk with ⟨k,_⟩ | ⟨k,c,hc,hcell⟩
  ·have k':X.env.scope.names.lookup x=some .local:=k
   rcases hvis with z | z <;> (rw[k'] at z;cases z)
  ·obtain ⟨c',hc'⟩:=closL_has (env:=X.env) scope.names [] x hclos (.inr (PySem.mem_of_lookup fj))
   have e:=cl_sub x c' hc'
   rw[hc] at e
   cases e
   obtain ⟨o,ho,hd⟩:=hcell
   exact ⟨c,hc',o,hk _ _ ho,hd⟩
 ·obtain ⟨v,o,ho,hd⟩:=I.cell x c (cl_sub x c e)
  exact ⟨v,o,hk _ _ ho,hd⟩
 ·exact I.hok.fresh hC
 ·have hp':p∈X.pn ++ pins:=by
   rcases List.mem_append.mp hp with z | z
   ·exact z
   ·simp at z
  obtain ⟨q1,q2,q3,q4,q5⟩:=I.pin p hp'
  refine ⟨hk _ _ q1,q2,Nat.ne_of_lt (Nat.lt_of_lt_of_le (Heap.lt_size q1) hC),fun z=>?_,q5⟩
  rcases List.mem_cons.mp (I.stkSub _ z) with e | z
  ·exact q3 e
  ·exact q4 z
 ·show (sub src σ).length=N.length
  unfold sub
  rw[List.length_map]
  exact B.len
end
section
variable {prog:Program}{w:World}{A:Around}{R:Result→Shared→Prop}{s:Shared}
theorem compLoop_go {elt target iter:Expr}{ifs:List Expr}{scope:Scope}{pos:Pos}{it acc:Value}{env:Env} (I:Nat→Shared→Prop)
  (turn:∀ n s,I n s→wpAny (model prog w) A (pyNext it) (fun r s₁=>match r with
   | none=>R (.ok .next) s₁
   | some v=>wpAny (model prog w) A (letOwnedTupleGo target it v) (fun _ s₁'=>wpAny (model prog w) A (assign target env v) (fun _ s₂=>
     wpAny (model prog w) A (forIn ifs true fun c r=>if r=true then do let ok ← isTrue c env (eval c env);pure (ForInStep.yield ok) else pure (ForInStep.yield r)) (fun ok s₃=>
      if ok=true then wpAny (model prog w) A (eval elt env) (fun x s₄=>
       wpAny (model prog w) A (call (.builtin "list.append") [acc,x]) (fun _ s₅=>∃ m,m < n∧I m s₅) (fun _ _=>False) s₄) (fun _ _=>False) s₃
      else ∃ m,m < n∧I m s₃) (fun _ _=>False) s₂) (fun _ _=>False) s₁') (fun _ _=>False) s₁) (fun _ _=>False) s)
  (n:Nat) (h:I n s):
  codeAny (model prog w) A (.compLoop (.ListComp elt [⟨target,iter,ifs,0⟩] scope pos) 0 it acc env) R s:=by
 have nv:∀ {α:Type} {t:Sem α} {Q:α→Shared→Prop} {E:Value→Shared→Prop} {s:Shared},wpAny (model prog w) A t Q (fun _ _=>False) s→wpAny (model prog w) A t Q E s:=fun h=>wpAny_mono h (fun _ _ x=>x) fun _ _ x=>x.elim
 refine codeAny_loop rfl I (fun n s hI=>?_) n h
 show wpAny _ A ((compTurn (.ListComp elt [⟨target,iter,ifs,0⟩] scope pos) 0 it acc env).onRaise (fun x=>do noteFrame x env;theTreesLotGoes x)) _ _ s
 refine wpAny_noted ?_
 rw[compTurn_list]
 refine wpAny_bind (wpAny_standAt (wpAny_bind (nv (thn (turn n s hI) (fun r s₁ h₁=>?_)))))
 cases r with
 | none=>exact wpAny_pure h₁
 | some v=>
  refine wpAny_bind (wpAny_mono h₁ (fun _ s₁' h₁'=>?_) fun _ _ x=>x.elim)
  refine wpAny_bind (wpAny_mono h₁' (fun _ s₂ h₂=>wpAny_bind (wpAny_mono h₂ (fun ok s₃ h₃=>?_) fun _ _ h'=>h'.elim)) fun _ _ h'=>h'.elim)
  cases ok with
  | false=>exact wpAny_pure ⟨rfl,h₃⟩
  | true=>
   exact wpAny_bind (wpAny_bind (wpAny_mono h₃ (fun x s₄ h₄=>wpAny_bind (wpAny_mono h₄ (fun _ s₅ h₅=>wpAny_pure (wpAny_pure ⟨rfl,h₅⟩)) fun _ _ h'=>h'.elim)) fun _ _ h'=>h'.elim))
end
inductive I_CompW (J : It) (g : TG) (tt : TT) (te : TE) (σ₀ : St) (H₀ : Hp) (Q : VK) : Prop
  | mk (W : Nat → Nat → List V → St → Hp → Prop) (q0 : (∃ m, W 0 m [] σ₀ H₀)) (q1 : ∀ i m ys σ H, W i m ys σ H → ys.length ≤ sizeLine ∧
    ((J.stop i H ∧ ∀ D, H D = none → Q (.ref D) (upd H D (.lst ys))) ∨
     (J.go i H ∧ ∃ N : List V → St → Hp → Prop, (∀ zs σ' H', N zs σ' H' → ∃ m', m' < m ∧ W (i + 1) m' zs σ' H') ∧
       ∀ x H', J.yld i H x H' → g x σ H' fun σ2 H2 => tt σ2 H2 fun b H3 => if b = true then te σ2 H3 fun v H4 => N (ys ++ [v]) σ2 H4 else N ys σ2 H3))) : I_CompW J g tt te σ₀ H₀ Q
def CompW (J:It) (g:TG) (tt:TT) (te:TE) (σ₀:St) (H₀:Hp) (Q:VK):Prop:=I_CompW J g tt te σ₀ H₀ Q
section
variable {X:Cx}{pins:List (Addr×Obj)}{σ:St}
theorem comp_core {tg iter elt:Expr}{ifs:List Expr}{scope:Scope}{pos:Pos}{N:List Str}{src:List (Option Nat)}{g:TG}{tt:TT}{te:TE}{J:It}{fp:List Addr}{it:Addr}{tn:Nat→Heap→Prop}{H2:Hp}{s2:Shared}{Q:VK}{E:Value→Shared→Prop}
  {RR:Value→Addr→Result→Shared→Prop} (B:BlkOk N src scope X.env.scope X.N) (hc:X.calm=true)
  (hb:∀ cl s H fp pins C,PG (blk X N scope cl s H fp pins C) tg g∧PTs (blk X N scope cl s H fp pins C) ifs tt∧PE (blk X N scope cl s H fp pins C) elt te)
  (I2:Inv X pins σ H2 s2) (T:Turn X.prog X.w X.K tg J fp it tn) (st2:tn 0 s2.heap) (f2:∀ b∈fp,FpOk X pins H2 b) (cw:CompW J g tt te (sub src σ) H2 Q)
  (hRR:∀ D C H' m s',Inv X pins σ H' s'→s'.heap.Ns C m→FpOk X pins H' C→D≠C→Q (.ref D) H'→RR (.ref D) C (.ok .next) s'):
  wpAny (model X.prog X.w) X.A (newList []) (fun acc s₃=>wpAny (model X.prog X.w) X.A (newFunctionEnv scope X.env.globals (closL X.env scope.names []) [] X.env.qual none .none (some X.env)) (fun cenv s₄=>
   codeAny (model X.prog X.w) X.A (.compStart (.ListComp elt [⟨tg,iter,ifs,0⟩] scope pos) 0 (.ref it) acc { cenv with scope:=relabel scope X.env }) (RR acc cenv.locals) s₄) E s₃) E s2:=by
 refine wpAny_newObj_type (wpAny_newFunctionEnv B.nocell (by intro y hy;simp at hy) (fun h₁ hns₁ hsb₁=>?_) B.kind)
 dsimp only at hns₁ hsb₁ ⊢
 generalize hH2:s2.heap.push { cls:=.type "list",dict:=none,data:=.seq ([]:List Value).toArray }=HH at hns₁ hsb₁ ⊢
 have hCs:HH.objs.size=s2.heap.objs.size + 1:=by rw[← hH2,Heap.size_push]
 have hDC:s2.heap.objs.size≠HH.objs.size:=by rw[hCs];exact Nat.ne_of_lt (Nat.lt_succ_self _)
 have hCle:s2.heap.objs.size≤HH.objs.size:=by rw[hCs];exact Nat.le_succ _
 have fpo:∀ b∈fp,b < s2.heap.objs.size:=fun b hb=>by
  obtain ⟨o,e,_⟩:=T.obj _ _ st2 b hb
  exact Heap.lt_size e
 have old:∀ b o,s2.heap.get? b=some o→h₁.get? b=some o:=fun b o e=>
  hsb₁.extBut b o (by rw[hCs];exact Nat.ne_of_lt (Nat.lt_succ_of_lt (Heap.lt_size e))) (Heap.get?_push_of_some _ (hH2 ▸ Heap.get?_push_of_some _ e))
 have hacc:h₁.PlainList s2.heap.objs.size #[]:=⟨_,hsb₁.extBut _ _ hDC (Heap.get?_push_of_some _ (hH2 ▸ Heap.get?_push_size _ rfl))⟩
 have st1:tn 0 h₁:=T.keep _ _ _ st2 fun b _ o e=>old b o e
 obtain ⟨W,⟨m0,w0⟩,turn⟩:=cw
 have fsub:∀ b∈frs X.stack,b < s2.heap.objs.size:=fun b hb=>by
  obtain ⟨_,o,ho,_⟩:=I2.stack.mem hb
  exact Heap.lt_size ho
 generalize hXb:blk X N scope (closL X.env scope.names []) s2 H2 fp pins HH.objs.size=Xb
 have hbl:=hb (closL X.env scope.names []) s2 H2 fp pins HH.objs.size
 rw[hXb] at hbl
 have eP:Xb.prog=X.prog:=by rw[← hXb];rfl
 have eW:Xb.w=X.w:=by rw[← hXb];rfl
 have eK:Xb.K=X.K:=by rw[← hXb];rfl
 have eA:Xb.A=X.A:=by rw[← hXb];rfl
 have eE:Xb.env=compEnvC scope (closL X.env scope.names []) HH.objs.size X.env:=by rw[← hXb];rfl
 have eL:Xb.env.locals=HH.objs.size:=by rw[eE];rfl
 have eF:Xb.fs=frs X.stack:=by rw[← hXb];rfl
 have eX:Xb.ex=fp:=by rw[← hXb];rfl
 have eS:Xb.s₀=s2:=by rw[← hXb];rfl
 have eH:Xb.H₀=H2:=by rw[← hXb];rfl
 have eC:Xb.calm=true:=by rw[← hXb];exact hc
 have ePn:Xb.pn=X.pn ++ pins:=by rw[← hXb];rfl
 have eXe:Xb.xe=fun _ _=>False:=by rw[← hXb];rfl
 have cl_sub:∀ x c,Xb.env.cells.lookup x=some c→X.env.cells.lookup x=some c:=fun x c e=>by
  rw[eE] at e
  exact closL_sub scope.names [] (fun x c e=>by simp at e) x c e
 have cells_lt:∀ x c,Xb.env.cells.lookup x=some c→c < s2.heap.objs.size:=fun x c e=>by
  obtain ⟨v,o,ho,_⟩:=I2.cell x c (cl_sub x c e)
  exact Heap.lt_size ho
 have pins_lt:∀ p∈X.pn ++ pins,p.1 < s2.heap.objs.size:=fun p hp=>Heap.lt_size (I2.pin p hp).1
 generalize hD:s2.heap.objs.size=D at *
 generalize hCC:HH.objs.size=C at *
 have loop:∀ s₃:Shared,s₃={ s2 with heap:=h₁,toks:=s2.toks + ([]:List (Str×Value)).length }→
   codeAny (model X.prog X.w) X.A (.compLoop (.ListComp elt [⟨tg,iter,ifs,0⟩] scope pos) 0 (.ref it) (.ref D) (compEnvC scope (closL X.env scope.names []) C X.env)) (RR (.ref D) C) s₃:=by
  rintro s₃ rfl
  have I3:Inv Xb [] (sub src σ) H2 { s2 with heap:=h₁,toks:=s2.toks + ([]:List (Str×Value)).length }:=by
   rw[← hXb]
   exact I2.block B f2 (by rw[hD];exact fpo) (by rw[hD];exact hCle) rfl I2.bare old hns₁
  have nD2:H2 D=none:=I2.hok.fresh (Nat.le_of_eq hD)
  have dfs:D ∉ Xb.fs:=fun z=>by rw[eF] at z;exact absurd (fsub D z) (Nat.lt_irrefl _)
  have dpin:∀ {σ':St} {H':Hp} {s':Shared} {pl:List (Addr×Obj)} {its:List Value} {n:Nat},Inv Xb pl σ' H' s'→H' D=none→s'.heap.get? D=some { cls:=.type "list",data:=.seq its.toArray n }→
    Inv Xb ((D,{ cls:=.type "list",data:=.seq its.toArray n }) :: pl) σ' H' s':=fun {σ' H' s' pl its n} I' hn hg=>
   I'.pins_of fun p hp=>by
    rcases List.mem_cons.mp hp with e | hp
    ·subst e
     exact ⟨hg,hn,by rw[eL];exact hDC,dfs,fun v z=>by cases z⟩
    ·exact I'.pin p (List.mem_append_right _ hp)
  obtain ⟨n0,hg0⟩:=hacc
  have I3':=dpin (its:=[]) I3 nD2 hg0
  have fpb:∀ {H':Hp} {pl:List (Addr×Obj)},(∀ p∈pl,p.1=D)→(∀ b∈fp,H' b=none)→∀ b∈fp,FpOk Xb pl H' b:=fun {H' pl} hpl hn b hb=>by
   refine ⟨hn b hb,by rw[eL];exact Nat.ne_of_lt (Nat.lt_of_lt_of_le (fpo b hb) hCle),fun z=>?_,.inl (by rw[eX];exact hb),fun x c e=>(f2 b hb).2.2.2.2.1 x c (cl_sub x c e),fun p hp=>?_⟩
   ·rw[eF] at z
    rcases List.mem_cons.mp (I2.stkSub b z) with e | z
    ·exact (f2 b hb).2.1 e
    ·exact (f2 b hb).2.2.1 z
   ·rw[ePn] at hp
    rcases List.mem_append.mp hp with z | z
    ·exact (f2 b hb).2.2.2.2.2 p z
    ·rw[hpl p z];exact Nat.ne_of_gt (fpo b hb)
  refine compLoop_go (fun n s'=>∃ i ys its nn σ' H',Inv Xb [(D,{ cls:=.type "list",data:=.seq its.toArray nn })] σ' H' s'∧tn i s'.heap∧(∀ b∈fp,H' b=none)∧Vals ys its∧W i n ys σ' H') ?_ m0
   ⟨0,[],[],n0,sub src σ,H2,I3',st1,fun b hb=>(f2 b hb).1,.nil,w0⟩
  rintro n s4 ⟨i,ys,its,nn,σ4,H4,I4,st4,fr4,vs4,w4⟩
  obtain ⟨hsz,hcase⟩:=turn i n ys σ4 H4 w4
  have one:∀ {o:Obj},∀ p∈[(D,o)],p.1=D:=fun {o} p hp=>by
   have:=List.mem_singleton.mp hp
   rw[this]
  rcases hcase with ⟨stop,qn⟩ | ⟨go,Nx,hN,step⟩
  ·have hdone:=T.done Xb eP eW eK eC i _ s4 σ4 H4 (fun _ _=>False) I4 (fpb one fr4) st4 stop
   rw[eA] at hdone
   refine thn hdone fun r s5 ⟨hr,I5⟩=>?_
   subst hr
   have pd:=I5.pin _ (List.mem_append_right _ List.mem_cons_self)
   have hb5:Un (frs X.stack) fp H2 H4 s2.heap s5.heap:=by
    have:=I5.base
    rw[eF,eX,eS,eH] at this
    exact this
   have hok5:HOk X.prog X.w H4 s5.heap:=by
    have:=I5.hok
    rw[eP,eW] at this
    exact this
   have os5:s5.os=s2.os:=by
    have:=I5.os
    rw[eS] at this
    exact this
   have J5:Inv X pins σ H4 s5:=I2.call' os5 hb5 hok5 I5.bare fun b hb=>⟨(f2 b hb).2.2.2.1,(f2 b hb).2.1,(f2 b hb).2.2.2.2.1,(f2 b hb).2.2.2.2.2⟩
   have fD:FpOk X pins H4 D:=I2.fpOk (Nat.le_of_eq hD) pd.2.1
   have J6:Inv X pins σ (upd H4 D (.lst ys)) s5:=J5.track fD ⟨hsz,its,nn,vs4,pd.1⟩
   obtain ⟨mm,nsC,_⟩:=I5.loc
   rw[eL] at nsC
   have hC4:H4 C=none:=by
    have:=I5.free
    rw[eL] at this
    exact this
   have fC:FpOk X pins (upd H4 D (.lst ys)) C:=I2.fpOk (by rw[hD];exact hCle) (by rw[upd_ne (Ne.symm hDC)];exact hC4)
   exact hRR D C _ mm s5 J6 nsC fC hDC (qn D pd.2.1)
  ·have hitem:=T.item Xb eP eW eK eC i _ s4 σ4 H4 (fun _ _=>False) I4 (fpb one fr4) st4 go
   rw[eA] at hitem
   refine thn hitem fun r s5 ⟨u,hr,h5⟩=>?_
   subst hr
   refine thn h5 fun _ s6 ⟨x,H6,I6,r6,y6,st6,fr6⟩=>?_
   have I6':=I6.pinned (fpb one fr6) (T.obj _ _ st6)
   obtain ⟨hg,ht,he⟩:=hbl
   have e1:=hg _ s6 σ4 H6 x u _ I6' r6 (step x H6 y6)
   rw[eP,eW,eA,eE,eXe] at e1
   refine thn e1 fun _ s7 ⟨σ7,H7,I7,q7⟩=>?_
   have e2:=ht _ s7 σ7 H7 _ I7 q7
   rw[eP,eW,eA,eE,eXe] at e2
   refine thn e2 fun ok s8 ⟨H8,I8,q8⟩=>?_
   have fin:∀ {σ':St} {H':Hp} {s':Shared} {its':List Value} {nn':Nat} {zs:List V},Inv Xb ([(D,{ cls:=.type "list",data:=.seq its'.toArray nn' })] ++ pinsAt fp s6.heap) σ' H' s'→Vals zs its'→Nx zs σ' H'→
     ∃ m,m < n∧∃ i ys its nn σ' H',Inv Xb [(D,{ cls:=.type "list",data:=.seq its.toArray nn })] σ' H' s'∧tn i s'.heap∧(∀ b∈fp,H' b=none)∧Vals ys its∧W i m ys σ' H':=fun {σ' H' s' its' nn' zs} I' vs' n'=>by
    obtain ⟨m',hm,w'⟩:=hN zs σ' H' n'
    refine ⟨m',hm,i + 1,zs,its',nn',σ',H',I'.unpinned,T.keep _ _ _ st6 fun b hb o e=>(I'.pin (b,o) (List.mem_append_right _ (List.mem_append_right _ (mem_pinsAt hb e)))).1,fun b hb=>?_,vs',w'⟩
    obtain ⟨o,e,d⟩:=T.obj _ _ st6 b hb
    exact (I'.pin (b,o) (List.mem_append_right _ (List.mem_append_right _ (mem_pinsAt hb e)))).2.1
   cases ok with
   | false=>
    simp only [Bool.false_eq_true,if_false] at q8 ⊢
    exact fin I8 vs4 q8
   | true=>
    simp only [if_true] at q8 ⊢
    have e3:=he _ s8 σ7 H8 _ I8 q8
    rw[eP,eW,eA,eE,eXe] at e3
    refine thn e3 fun v s9 ⟨y,H9,I9,r9,q9⟩=>?_
    have pd:=I9.pin _ (List.mem_append_right _ (List.mem_append_left _ List.mem_cons_self))
    have hlen:=vs4.length
    refine wpAny_list_append_plain (hsz:=by simp only [List.size_toArray];omega) (⟨nn,pd.1⟩:s9.heap.PlainList D its.toArray) fun h' ⟨nn',hg'⟩ hs'=>?_
    have I10:Inv Xb (pinsAt fp s6.heap) σ7 H9 s9:=I9.pins_of fun p hp=>I9.pin p (List.mem_append_right _ (List.mem_append_right _ hp))
    have I11:Inv Xb (pinsAt fp s6.heap) σ7 H9 { s9 with heap:=h' }:=I10.turned (t':=s9.toks) (it:=D) (fun b o hb e=>(hs'.2 b hb).trans e) pd.2.1 (by rw[eL];exact hDC) (.inr (by rw[eS];exact Nat.le_of_eq hD))
     (fun x c e=>Nat.ne_of_lt (cells_lt x c e)) fun p hp=>by
      rw[ePn] at hp
      rcases List.mem_append.mp hp with z | z
      ·exact Nat.ne_of_lt (pins_lt p z)
      ·exact Nat.ne_of_lt (fpo _ (of_pinsAt z).1)
    have hg'':h'.get? D=some { cls:=.type "list",data:=.seq (its ++ [v]).toArray nn' }:=by
     rw[hg']
     simp
    exact fin (dpin (s':={ s9 with heap:=h' }) I11 pd.2.1 hg'') (vs4.append (.cons r9 .nil)) q9
 exact codeAny_compStart_list (loop _ rfl) (T.self X.A 0 _ _ _ st1 (loop _ rfl))
end
def tComp (src:List (Option Nat)) (wi:TI) (g:TG) (tt:TT) (te:TE):TE:=fun σ H Q=>wi σ H fun J H1=>CompW J g tt te (sub src σ) H1 Q
section
variable {X:Cx}
theorem pe_comp {tg iter elt:Expr}{ifs:List Expr}{scope osc:Scope}{pos:Pos}{N oN:List Str}{src:List (Option Nat)}{wi:TI}{g:TG}{tt:TT}{te:TE} (B:BlkOk N src scope osc oN) (hi:PI X tg iter wi)
  (hb:∀ cl s H fp pins C,PG (blk X N scope cl s H fp pins C) tg g∧PTs (blk X N scope cl s H fp pins C) ifs tt∧PE (blk X N scope cl s H fp pins C) elt te)
  (hc:X.calm=true:=by rfl) (eo:X.env.scope=osc:=by rfl) (eN:X.N=oN:=by rfl)
  (hs:∀ x,foldedSetIterable iter X.env x=pure x:=by intro _;rfl):PE X (.ListComp elt [⟨tg,iter,ifs,0⟩] scope pos) (tComp src wi g tt te):=by
 subst eo eN
 constructor
 intro pins s σ H Q I h
 rw[eval_ListComp]
 refine wpAny_comprehension_free (use:=none) (cl:=closL X.env scope.names []) rfl hs (closureFor_L (I.clos B)) B.kind B.names (thn (hi pins s σ H _ I h) fun xv s1 h1=>thn h1 fun itv s2 h2=>?_)
 obtain ⟨it,fp,tn,J,H2,e,I2,T,st2,f2,cw⟩:=h2
 subst e
 refine comp_core B hc hb I2 T st2 f2 cw fun D C H' m s' J' nsC fC hDC q=>?_
 refine ⟨m,nsC,fun h' sb=>⟨.ref D,H',?_,rfl,q⟩⟩
 obtain ⟨f0,f1,_,f3,f4,f5⟩:=fC
 exact J'.turned (t':=s'.toks) (fun b o hb e=>(sb.2 b hb).trans e) f0 f1 f3 f4 f5
theorem ps_setComp {tg iter elt:Expr}{ifs:List Expr}{scope osc:Scope}{pos ps py:Pos}{y:Str}{i:Nat}{N oN:List Str}{src:List (Option Nat)}{wi:TI}{g:TG}{tt:TT}{te:TE} (B:BlkOk N src scope osc oN) (hN:X.N.Nodup) (hy:X.N[i]?=some y) (hi:PI X tg iter wi)
  (hb:∀ cl s H fp pins C,PG (blk X N scope cl s H fp pins C) tg g∧PTs (blk X N scope cl s H fp pins C) ifs tt∧PE (blk X N scope cl s H fp pins C) elt te)
  (hloc:X.env.scope.names.lookup y=some .local:=by rfl)
  (hsw:swapsWith (.ListComp elt [⟨tg,iter,ifs,0⟩] scope pos) (some (.Name y py)) ps.line X.env=pure true:=by rfl)
  (hc:X.calm=true:=by rfl) (eo:X.env.scope=osc:=by rfl) (eN:X.N=oN:=by rfl)
  (hs:∀ x,foldedSetIterable iter X.env x=pure x:=by intro _;rfl):PS X (.Assign [.Name y py] (.ListComp elt [⟨tg,iter,ifs,0⟩] scope pos) ps) (tAsg (tComp src wi g tt te) (gName i)):=by
 subst eo eN
 constructor
 intro pins s σ H D I h
 rw[exec_Assign_Name_used _ _ _ _ hsw]
 refine wpAny_bind (wpAny_standAt (wpAny_bind ?_))
 show wpAny _ _ (evalThenUse (.ListComp elt [⟨tg,iter,ifs,0⟩] scope pos) X.env (assign (.Name y py) X.env)) _ _ s
 have e:evalThenUse (.ListComp elt [⟨tg,iter,ifs,0⟩] scope pos) X.env (assign (.Name y py) X.env)=(do
   let _ ← comprehension (.ListComp elt [⟨tg,iter,ifs,0⟩] scope pos) scope X.env (firstIterPos [⟨tg,iter,ifs,0⟩] pos) (newList []) (firstAsync [⟨tg,iter,ifs,0⟩]) (firstIter [⟨tg,iter,ifs,0⟩] X.env) (some (assign (.Name y py) X.env))):=rfl
 rw[e]
 refine wpAny_bind ?_
 refine wpAny_comprehension_free (use:=some (assign (.Name y py) X.env)) (cl:=closL X.env scope.names []) rfl hs (closureFor_L (I.clos B)) B.kind B.names (thn (hi pins s σ H _ I h) fun xv s1 h1=>thn h1 fun itv s2 h2=>?_)
 obtain ⟨it,fp,tn,J,H2,e,I2,T,st2,f2,cw⟩:=h2
 subst e
 refine comp_core B hc hb I2 T st2 f2 cw fun D' C H' m s' J' nsC fC hDC q=>?_
 obtain ⟨f0,f1,_,f3,f4,f5⟩:=fC
 refine wpAny_assign_Name (store_ok2 J' hN hy (.inl hloc) (v:=.ref D') rfl (fun s'' J'' ⟨a,sb,ha⟩=>?_) (.inr hloc))
 have haC:C≠a:=by
  rcases ha with rfl | ha
  ·exact f1
  ·exact fun z=>f4 y a ha z.symm
 refine ⟨m,nsC.sameBut sb haC,fun h' sb'=>wpAny_pure (wpAny_pure ⟨_,H',J''.turned (t':=s''.toks) (fun b o hb e=>(sb'.2 b hb).trans e) f0 f1 f3 f4 f5,q⟩)⟩
end
end L2
namespace L2
open PySem PySem.Spec PyProof.Rows
section
variable {X:Cx}
inductive I_r_call_isinst (K:PySem.W.Frag) (xs:List V) (H:Hp) (Q:VK):Prop
 | mk (x:_) (n:_) (t:_) (b:_) (q0:xs=[x,.ty n]) (q1:TyOf K H x t) (q2:PySem.W.kitOne K t (.type n)=some b) (q3:Q (.bl b) H):I_r_call_isinst K xs H Q
def r_call_isinst (K:PySem.W.Frag):List V→Hp→VK→Prop:=fun xs H Q=>I_r_call_isinst K xs H Q
theorem call_isinst:CallR X (.builtin "isinstance") (r_call_isinst X.K):=by
 intro pins s σ H xs us Q I r h
 obtain ⟨x,n,t,b,rfl,ty,e,q⟩:=h
 obtain ⟨u,w',rfl,r1,r2⟩:=vals2 r
 cases r2
 exact isinst_ok I r1 ty e fun tk=>⟨.bl b,H,I.tok _,rfl,q⟩
inductive I_r_op_le_str (x:V) (y:V) (H:Hp) (Q:VK):Prop
 | mk (i:_) (j:_) (q0:x=.str i) (q1:y=.str j) (q2:Q (.bl (!decide (j.cps.toList < i.cps.toList))) H):I_r_op_le_str x y H Q
def r_op_le_str:V→V→Hp→VK→Prop:=fun x y H Q=>I_r_op_le_str x y H Q
theorem op_le_str:OpR X (compareOp .LtE) r_op_le_str:=by
 intro pins s σ H x y v u Q I rx ry h
 obtain ⟨i,j,rfl,rfl,q⟩:=h
 obtain ⟨t,rfl⟩:=rx
 obtain ⟨t',rfl⟩:=ry
 exact PySem.P.le_str ⟨.bl _,H,I,rfl,q⟩
def CDivL (i j:Int):Prop:=0 < j∧j.natAbs.log2 < 9000
theorem CDivL.of {i j:Int} (h:0 < j) (h2:j < 2 ^ 512):CDivL i j:=by
 refine ⟨h,?_⟩
 have h0:j.natAbs≠0:=by omega
 have:j.natAbs.log2 < 512:=(Nat.log2_lt h0).mpr (by
  have e:((2:Int) ^ 512)=((2 ^ 512:Nat):Int):=by decide
  rw[e] at h2
  omega)
 omega
theorem op_fdivL:OpR X (binaryOp .FloorDiv) (rI CDivL fun i j=>.int (i / j)):=opI fun i j _ _ _ _ _ hc q=>by
 have h1:(0:Int) < j:=hc.1
 refine floordiv_int (by omega) ?_ (Or.inl (PyProof.noPylong_of_log2 hc.2))
 rw[Int.fdiv_eq_ediv_of_nonneg i (by omega)]
 exact q
def Its (x:Str):It:=⟨fun i _=>i < x.cps.size,fun i H v H'=>H'=H∧∃ c,x.cps[i]?=some c∧v=.str ⟨#[c]⟩,fun i _=>x.cps.size≤i⟩
theorem turn_str {P:Program}{w:World}{K:PySem.W.Frag}{tg:Expr} (it:Addr) (x:Str) (t:Tok) (nm:String) (hnm:nm="str_ascii_iterator"∨nm="str_iterator")
  (W:∀ A':Around,A'.handled=none→Walks P w A' it [it] [it] x.cps.size (SignAt x) (fun i h=>h.IsStrIter it nm x t i))
  (hself:∀ (A:Around) (i:Nat) (s:Shared) (Q:Value→Shared→Prop) (E:Value→Shared→Prop),s.heap.IsStrIter it nm x t i→Q (.ref it) s→wpAny (model P w) A (pyIter (.ref it)) Q E s):
  Turn P w K tg (Its x) [it] it (fun i h=>i≤x.cps.size∧h.IsStrIter it nm x t i) where
 mem:=by simp
 obj:=fun i h st b hb=>by
  have e:b=it:=by simpa using hb
  subst e
  obtain ⟨_,o,e,c,d⟩:=st
  exact ⟨o,e,fun v z=>by rw[d] at z;cases z⟩
 keep:=fun i h h' st k=>⟨st.1,by obtain ⟨_,o,e,c,d⟩:=st;exact ⟨o,k it (by simp) o e,c,d⟩⟩
 item:=by
  intro X hP hw hK hc i pins s σ H E I hf st hg
  subst hP hw hK
  obtain ⟨f0,f1,f2,f3,f4,f5⟩:=hf it (by simp)
  refine (W X.A (I.ok.hd hc)).item i s _ _ hg st.2 fun v h' tk hv st' kk=>?_
  obtain ⟨c,u,ec,rfl⟩:=hv
  have I1:Inv X pins σ H { s with heap:=h',toks:=tk }:=I.turned (fun b o hb e=>kk b o (by simpa using hb) e) f0 f1 f3 f4 f5
  obtain ⟨o,e,c',d⟩:=id st'
  refine ⟨_,rfl,go_of (s:={ s with heap:=h',toks:=tk }) e c' d (by rcases hnm with rfl | rfl <;> decide) ⟨.str ⟨#[c]⟩,H,I1,⟨u,rfl⟩,⟨rfl,c,ec,rfl⟩,⟨hg,st'⟩,fun b hb=>(hf b hb).1⟩⟩
 done:=by
  intro X hP hw hK hc i pins s σ H E I hf st hg
  subst hP hw hK
  obtain ⟨f0,f1,f2,f3,f4,f5⟩:=hf it (by simp)
  have e:i=x.cps.size:=Nat.le_antisymm st.1 hg
  subst e
  exact (W X.A (I.ok.hd hc)).done s _ _ st.2 fun h' tk kk=>⟨rfl,I.turned (fun b o hb e=>kk b o (by simpa using hb) e) f0 f1 f3 f4 f5⟩
 self:=fun A i s Q E st h=>hself A i s Q E st.2 h
def iStr (tl:TE):TI:=fun σ H R=>tl σ H fun x H1=>As V.str x fun z=>R (Its z) H1
theorem pi_str {tg l:Expr}{tl:TE} (hl:PE X l tl):PI X tg l (iStr tl):=by
 constructor
 intro pins s σ H R I h
 refine thn (hl pins s σ H _ I h) fun v s1 ⟨x,H1,I1,r1,q1⟩=>?_
 obtain ⟨z,rfl,q⟩:=q1
 obtain ⟨t,rfl⟩:=r1
 have fin:∀ (nm:String) (hnm:nm="str_ascii_iterator"∨nm="str_iterator")
   (W:∀ A':Around,A'.handled=none→Walks X.prog X.w A' s1.heap.objs.size [s1.heap.objs.size] [s1.heap.objs.size] z.cps.size (SignAt z) (fun i h=>h.IsStrIter s1.heap.objs.size nm z t i))
   (hself:∀ (A:Around) (i:Nat) (s:Shared) (Q:Value→Shared→Prop) (E:Value→Shared→Prop),s.heap.IsStrIter s1.heap.objs.size nm z t i→Q (.ref s1.heap.objs.size) s→wpAny (model X.prog X.w) A (pyIter (.ref s1.heap.objs.size)) Q E s),
   PIE X pins σ tg R (.ref s1.heap.objs.size) { s1 with heap:=s1.heap.push { cls:=.type nm,data:=.fields #[.str z t,.int 0 0] } }:=fun nm hnm W hself=>by
  refine ⟨s1.heap.objs.size,[s1.heap.objs.size],_,_,H1,rfl,I1.kept (t':=s1.toks) fun b o e=>Heap.get?_push_of_some _ e,turn_str s1.heap.objs.size z t nm hnm W hself,⟨Nat.zero_le _,_,Heap.get?_push_size _ rfl,rfl,rfl⟩,fun b hb=>?_,q⟩
  have e:b=s1.heap.objs.size:=by simpa using hb
  subst e
  exact I1.fpOk (Nat.le_refl _) (I1.hok.fresh (Nat.le_refl _))
 cases ha:z.cps.all (· < 128)
 ·exact wpAny_pyIter_wide ha (fin "str_iterator" (.inr rfl) (fun A' hA=>Walks.strWide hA _ z t) fun A i s Q E st h=>wpAny_pyIter_striter_wide st h)
 ·exact wpAny_pyIter_ascii ha (fin "str_ascii_iterator" (.inl rfl) (fun A' hA=>Walks.strAscii hA _ z t) fun A i s Q E st h=>wpAny_pyIter_striter_ascii st h)
inductive I_r_sl_str (x:V) (lo:Option Int) (hi:Option Int) (H:Hp) (Q:VK):Prop
 | mk (z:_) (q0:x=.str z) (q1:z.length≤sizeLine) (q2:Q (.str (Txt.slice z lo hi)) H):I_r_sl_str x lo hi H Q
def r_sl_str:V→Option Int→Option Int→Hp→VK→Prop:=fun x lo hi H Q=>I_r_sl_str x lo hi H Q
theorem sl_str:SlR X r_sl_str:=by
 intro pins s σ H x v vl vu lo hi sl Q I rx hs pl pu h
 obtain ⟨z,rfl,hz,q⟩:=h
 obtain ⟨t,rfl⟩:=rx
 refine ⟨"str",_,F.slot_str_getitem.lookup,typeIs_str _ _ _,?_⟩
 have fin:∀ t' k,EP X pins σ Q (.str (Txt.slice z lo hi) t') { s with toks:=k }:=fun t' k=>⟨.str _,H,I.tok _,⟨_,rfl⟩,q⟩
 obtain ⟨o,ho,hc,hd⟩:=hs
 cases pl with
 | none=>
  cases pu with
  | none=>exact wpAny_getItem_str_slice (l:=none) (u:=none) (st:=none) ⟨o,ho,hc,hd⟩ rfl (post_val_or_str ⟨Nat.le_trans (Txt.slice_le z _ _) hz,fin⟩)
  | int j uj=>exact wpAny_getItem_str_slice (l:=none) (u:=some (j,uj)) (st:=none) ⟨o,ho,hc,hd⟩ rfl (post_val_or_str ⟨Nat.le_trans (Txt.slice_le z _ _) hz,fin⟩)
 | int i ui=>
  cases pu with
  | none=>exact wpAny_getItem_str_slice (l:=some (i,ui)) (u:=none) (st:=none) ⟨o,ho,hc,hd⟩ rfl (post_val_or_str ⟨Nat.le_trans (Txt.slice_le z _ _) hz,fin⟩)
  | int j uj=>exact wpAny_getItem_str_slice (l:=some (i,ui)) (u:=some (j,uj)) (st:=none) ⟨o,ho,hc,hd⟩ rfl (post_val_or_str ⟨Nat.le_trans (Txt.slice_le z _ _) hz,fin⟩)
theorem strs_of {ys:List Str}:∀ {us:List Value},Vals (ys.map V.str) us→StrsAre us ys:=by
 induction ys with
 | nil=>intro us h;cases h;exact .nil
 | cons y ys ih=>
  intro us h
  cases h with
  | cons r t=>obtain ⟨t',rfl⟩:=r;exact .cons y t' (ih t)
inductive I_r_mt_join (K:PySem.W.Frag) (x:V) (xs:List V) (H:Hp) (Q:VK):Prop
 | mk (z:_) (p:_) (ys:_) (q0:x=.str z) (q1:xs=[.ref p]) (q2:SqL K H p (ys.map V.str)) (q3:(ys.map (·.length)).sum + ys.length * z.length≤16777216) (q4:Q (.str (Txt.join z ys)) H):I_r_mt_join K x xs H Q
def r_mt_join (K:PySem.W.Frag):V→List V→Hp→VK→Prop:=fun x xs H Q=>I_r_mt_join K x xs H Q
theorem mt_join:MtR X "str.join" (r_mt_join X.K):=by
 intro pins s σ H x xs v us Q I rx r h
 obtain ⟨z,p,ys,rfl,rfl,hx,hz,q⟩:=h
 obtain ⟨t,rfl⟩:=rx
 obtain ⟨u,rfl,ru⟩:=vals1 r
 cases ru
 obtain ⟨its,rv,pl,_⟩:=I.list hx
 exact join_list pl.isList (by simpa using strs_of rv) hz fun t' k=>⟨.str _,H,I.tok _,⟨_,rfl⟩,q⟩
theorem bools_of {bs:List Bool}:∀ {us:List Value},Vals (bs.map V.bl) us→∀ (i:Nat) v,us[i]?=some v→∃ b,bs[i]?=some b∧v=.bool b:=by
 induction bs with
 | nil=>intro us h i v e;cases h;simp at e
 | cons b bs ih=>
  intro us h i v e
  cases h with
  | cons q r=>
   obtain rfl:=q
   cases i with
   | zero=>simp at e;exact ⟨b,rfl,e.symm⟩
   | succ i=>
    obtain ⟨c,h1,h2⟩:=ih r i v (by simpa using e)
    exact ⟨c,by simpa using h1,h2⟩
theorem range_allB (bs:List Bool):((List.range bs.length).all fun i=>(bs[i]?).getD true)=bs.all id:=by
 rw[Bool.eq_iff_iff,List.all_eq_true,List.all_eq_true]
 constructor
 ·intro h b hb
  obtain ⟨i,hi,e⟩:=List.mem_iff_getElem.mp hb
  have:=h i (List.mem_range.mpr hi)
  rw[List.getElem?_eq_getElem hi] at this
  simpa [e] using this
 ·intro h i hi
  have hi':=List.mem_range.mp hi
  rw[List.getElem?_eq_getElem hi']
  exact h _ (List.getElem_mem hi')
inductive I_r_call_all (K:PySem.W.Frag) (xs:List V) (H:Hp) (Q:VK):Prop
 | mk (p:Addr) (bs:List Bool) (q0:xs=[.ref p]) (q1:SqL K H p (bs.map V.bl)) (q2:Q (.bl (bs.all id)) H):I_r_call_all K xs H Q
def r_call_all (K:PySem.W.Frag):List V→Hp→VK→Prop:=fun xs H Q=>I_r_call_all K xs H Q
theorem call_all (hc:X.calm=true):CallR X (.builtin "all") (r_call_all X.K):=by
 intro pins s σ H xs us Q I r h
 obtain ⟨p,bs,rfl,hx,q⟩:=h
 obtain ⟨u,rfl,ru⟩:=vals1 r
 cases ru
 obtain ⟨its,rv,pl,_⟩:=I.list hx
 have hl:=pl.isList
 have hlen:its.length=bs.length:=by have:=rv.length;simpa using this.symm
 have hlt:p < s.heap.objs.size:=by obtain ⟨_,e,_⟩:=hl;exact Heap.lt_size e
 refine call_all_walk (wpAny_pyIter_list hl ?_)
 refine ⟨s.heap.objs.size,[s.heap.objs.size,p],[s.heap.objs.size],its.toArray.size,_,_,fun i=>(bs[i]?).getD true,rfl,Walks.list (A:=X.A.in1) (I.ok.hd hc) _ p (Nat.ne_of_lt hlt) its.toArray,
  ⟨⟨_,Heap.get?_push_size _ rfl,rfl,rfl⟩,hl.push _⟩,fun i v s' Q' E' hP hQ=>?_,fun h' tk hk=>?_⟩
 ·obtain ⟨b,e,rfl⟩:=bools_of rv i v (by simpa using hP)
  simp only [e,Option.getD_some] at hQ
  exact wpAny_truthy_bool hQ
 ·rw[List.size_toArray,hlen,range_allB]
  exact ⟨.bl _,H,I.kept fun b x e=>hk b x (fun hm=>by rw[List.mem_singleton.mp hm] at e;exact Nat.lt_irrefl _ (Heap.lt_size e)) (Heap.get?_push_of_some _ e),rfl,q⟩
def eqVs:List V→List V→Bool
 | [],[]=>true
 | x :: xs,y :: ys=>eqV x y && eqVs xs ys
 | _,_=>false
theorem eqVs_len:∀ {xs ys:List V},xs.length≠ys.length→eqVs xs ys=false
 | [],[],h=>absurd rfl h
 | [],_ :: _,_=>rfl
 | _ :: _,[],_=>rfl
 | x :: xs,y :: ys,h=>by
  show (eqV x y && eqVs xs ys)=false
  rw[eqVs_len (fun e=>h (by simp[e])),Bool.and_false]
theorem eqVs_all:∀ {xs ys:List V},xs.length=ys.length→((List.range xs.length).all fun i=>eqV (xs[i]?.getD .non) (ys[i]?.getD .non))=eqVs xs ys
 | [],[],_=>rfl
 | x :: xs,y :: ys,h=>by
  have ih:=eqVs_all (xs:=xs) (ys:=ys) (by simpa using h)
  rw[List.length_cons,List.range_succ_eq_map,List.all_cons,List.all_map]
  show (eqV x y && _)=(eqV x y && eqVs xs ys)
  rw[← ih]
  rfl
theorem eq_items {A:Around}{s:Shared}{xs ys:List V}{us ws:List Value} (r1:Vals xs us) (r2:Vals ys ws) (f1:xs.all flatV=true) (f2:ys.all flatV=true) (j:Nat) (h1:j < us.toArray.size) (h2:j < ws.toArray.size):
  SeqAt.EqAt A s us.toArray[j] ws.toArray[j] (eqV (xs[j]?.getD .non) (ys[j]?.getD .non)):=by
 have l1:=r1.length
 have l2:=r2.length
 have h1':j < xs.length:=by simpa [l1] using h1
 have h2':j < ys.length:=by simpa [l2] using h2
 obtain ⟨u,eu,ru⟩:=r1.get (List.getElem?_eq_getElem h1')
 obtain ⟨w',ew,rw'⟩:=r2.get (List.getElem?_eq_getElem h2')
 have e1:us.toArray[j]=u:=by
  rw[List.getElem?_eq_getElem (by simpa using h1)] at eu
  simpa using eu
 have e2:ws.toArray[j]=w':=by
  rw[List.getElem?_eq_getElem (by simpa using h2)] at ew
  simpa using ew
 rw[e1,e2,List.getElem?_eq_getElem h1',List.getElem?_eq_getElem h2']
 exact eqAt_V ru rw' (List.all_eq_true.mp f1 _ (List.getElem_mem h1')) (List.all_eq_true.mp f2 _ (List.getElem_mem h2'))
inductive I_r_op_eqL (K:PySem.W.Frag) (x:V) (y:V) (H:Hp) (Q:VK):Prop
 | mk (p:_) (q:_) (xs:_) (ys:_) (q0:x=.ref p) (q1:y=.ref q) (q2:SqL K H p xs) (q3:SqL K H q ys) (q4:xs.all flatV=true) (q5:ys.all flatV=true) (q6:Q (.bl (eqVs xs ys)) H):I_r_op_eqL K x y H Q
def r_op_eqL (K:PySem.W.Frag):V→V→Hp→VK→Prop:=fun x y H Q=>I_r_op_eqL K x y H Q
theorem op_eqL (hu:X.A.units < cLine):OpR X (compareOp .Eq) (r_op_eqL X.K):=by
 intro pins s σ H x y v u Q I rx ry h
 obtain ⟨p,q,xs,ys,rfl,rfl,h1,h2,f1,f2,hq⟩:=h
 cases rx
 cases ry
 obtain ⟨us,r1,p1,_⟩:=I.list h1
 obtain ⟨ws,r2,p2,_⟩:=I.list h2
 have l1:=r1.length
 have l2:=r2.length
 by_cases e:xs.length=ys.length
 ·refine SeqAt.eq_listAt p1.isList p2.isList (by simp;omega) hu (eq_items r1 r2 f1 f2) ?_
  rw[List.size_toArray,← l1,eqVs_all e]
  exact ⟨.bl _,H,I,rfl,hq⟩
 ·refine SeqAt.eq_list_lengthsAt p1.isList p2.isList (by simp;omega) hu ?_
  rw[eqVs_len e] at hq
  exact ⟨.bl _,H,I,rfl,hq⟩
inductive I_r_op_neL (K:PySem.W.Frag) (x:V) (y:V) (H:Hp) (Q:VK):Prop
 | mk (p:_) (q:_) (xs:_) (ys:_) (q0:x=.ref p) (q1:y=.ref q) (q2:SqL K H p xs) (q3:SqL K H q ys) (q4:xs.all flatV=true) (q5:ys.all flatV=true) (q6:Q (.bl (!eqVs xs ys)) H):I_r_op_neL K x y H Q
def r_op_neL (K:PySem.W.Frag):V→V→Hp→VK→Prop:=fun x y H Q=>I_r_op_neL K x y H Q
theorem op_neL (hu:X.A.units < cLine):OpR X (compareOp .NotEq) (r_op_neL X.K):=by
 intro pins s σ H x y v u Q I rx ry h
 obtain ⟨p,q,xs,ys,rfl,rfl,h1,h2,f1,f2,hq⟩:=h
 cases rx
 cases ry
 obtain ⟨us,r1,p1,_⟩:=I.list h1
 obtain ⟨ws,r2,p2,_⟩:=I.list h2
 have l1:=r1.length
 have l2:=r2.length
 by_cases e:xs.length=ys.length
 ·refine SeqAt.RcNeAt.lists p1.isList p2.isList (by simp;omega) hu (eq_items r1 r2 f1 f2) X.prog X.w _ _ ?_
  rw[List.size_toArray,← l1,eqVs_all e]
  exact ⟨.bl _,H,I,rfl,hq⟩
 ·refine SeqAt.RcNeAt.lists_lengths p1.isList p2.isList (by simp;omega) hu X.prog X.w _ _ ?_
  rw[eqVs_len e] at hq
  exact ⟨.bl _,H,I,rfl,hq⟩
end
end L2
namespace L2
open PySem PySem.Spec PyProof.Rows
theorem sizeLine_big {n:Nat} (h:n≤1000000):n≤sizeLine:=by
 have:sizeLine=16777216:=sizeLine_eq
 omega
theorem comp_by {J:It}{g:TG}{tt:TT}{te:TE}{σ₀:St}{H₀:Hp}{Q:VK} (n:Nat) (Pv:Nat→List V→St→Hp→Prop) (h0:Pv 0 [] σ₀ H₀) (hn:n≤sizeLine) (hlen:∀ i ys σ H,Pv i ys σ H→ys.length≤i)
  (hgo:∀ i ys σ H,i < n→Pv i ys σ H→J.go i H) (hstop:∀ ys σ H,Pv n ys σ H→J.stop n H)
  (hs:∀ i ys σ H x H',i < n→Pv i ys σ H→J.yld i H x H'→g x σ H' fun σ2 H2=>tt σ2 H2 fun b H3=>if b=true then te σ2 H3 fun v H4=>Pv (i + 1) (ys ++ [v]) σ2 H4 else Pv (i + 1) ys σ2 H3)
  (hd:∀ ys σ H,Pv n ys σ H→∀ D,H D=none→Q (.ref D) (upd H D (.lst ys))):CompW J g tt te σ₀ H₀ Q:=by
 refine ⟨fun i m ys σ H=>m=n - i∧i≤n∧Pv i ys σ H,⟨n,by simp,Nat.zero_le _,h0⟩,?_⟩
 rintro i m ys σ H ⟨rfl,hi,p⟩
 refine ⟨Nat.le_trans (hlen i ys σ H p) (Nat.le_trans hi hn),?_⟩
 by_cases hlt:i < n
 ·exact .inr ⟨hgo i ys σ H hlt p,Pv (i + 1),fun zs σ' H' p'=>⟨n - (i + 1),by omega,rfl,hlt,p'⟩,fun x H' y=>hs i ys σ H x H' hlt p y⟩
 ·have e:i=n:=by omega
  subst e
  exact .inl ⟨hstop ys σ H p,hd ys σ H p⟩
theorem comp_str {x:Str}{g:TG}{tt:TT}{te:TE}{σ₀:St}{H₀:Hp}{Q:VK} (Pv:Nat→List V→St→Hp→Prop) (h0:Pv 0 [] σ₀ H₀) (hn:x.cps.size≤sizeLine) (hlen:∀ i ys σ H,Pv i ys σ H→ys.length≤i)
  (hs:∀ i c ys σ H,x.cps[i]?=some c→Pv i ys σ H→g (.str ⟨#[c]⟩) σ H fun σ2 H2=>tt σ2 H2 fun b H3=>if b=true then te σ2 H3 fun v H4=>Pv (i + 1) (ys ++ [v]) σ2 H4 else Pv (i + 1) ys σ2 H3)
  (hd:∀ ys σ H,Pv x.cps.size ys σ H→∀ D,H D=none→Q (.ref D) (upd H D (.lst ys))):CompW (Its x) g tt te σ₀ H₀ Q:=
 comp_by x.cps.size Pv h0 hn hlen (fun i _ _ _ h _=>h) (fun _ _ _ _=>Nat.le_refl _) (fun i ys σ H v H' hi p y=>by
  obtain ⟨e,c,ec,rfl⟩:=y
  subst e
  exact hs i c ys σ _ ec p) hd
theorem comp_range {lo:Int}{n:Nat}{g:TG}{tt:TT}{te:TE}{σ₀:St}{H₀:Hp}{Q:VK} (Pv:Nat→List V→St→Hp→Prop) (h0:Pv 0 [] σ₀ H₀) (hn:n≤sizeLine) (hlen:∀ i ys σ H,Pv i ys σ H→ys.length≤i)
  (hs:∀ i ys σ H,i < n→Pv i ys σ H→g (.int (lo + i)) σ H fun σ2 H2=>tt σ2 H2 fun b H3=>if b=true then te σ2 H3 fun v H4=>Pv (i + 1) (ys ++ [v]) σ2 H4 else Pv (i + 1) ys σ2 H3)
  (hd:∀ ys σ H,Pv n ys σ H→∀ D,H D=none→Q (.ref D) (upd H D (.lst ys))):CompW (Itr lo n) g tt te σ₀ H₀ Q:=
 comp_by n Pv h0 hn hlen (fun i _ _ _ h _=>h) (fun _ _ _ _=>Nat.le_refl _) (fun i ys σ H v H' hi p y=>by
  obtain ⟨e,rfl⟩:=y
  subst e
  exact hs i ys σ _ hi p) hd
theorem comp_list {K:PySem.W.Frag}{a:Addr}{xs:List V}{g:TG}{tt:TT}{te:TE}{σ₀:St}{H₀:Hp}{Q:VK} (Pv:Nat→List V→St→Hp→Prop) (h0:Pv 0 [] σ₀ H₀) (hn:xs.length≤sizeLine) (hlen:∀ i ys σ H,Pv i ys σ H→ys.length≤i)
  (hl:∀ i ys σ H,Pv i ys σ H→SqL K H a xs)
  (hs:∀ i x ys σ H,xs[i]?=some x→Pv i ys σ H→g x σ H fun σ2 H2=>tt σ2 H2 fun b H3=>if b=true then te σ2 H3 fun v H4=>Pv (i + 1) (ys ++ [v]) σ2 H4 else Pv (i + 1) ys σ2 H3)
  (hd:∀ ys σ H,Pv xs.length ys σ H→∀ D,H D=none→Q (.ref D) (upd H D (.lst ys))):CompW (Itl K a) g tt te σ₀ H₀ Q:=
 comp_by xs.length Pv h0 hn hlen (fun i ys σ H h p=>⟨xs,xs[i],hl i ys σ H p,by simp[h]⟩) (fun ys σ H p=>⟨xs,hl _ ys σ H p,Nat.le_refl _⟩) (fun i ys σ H v H' hi p y=>by
  obtain ⟨e,y⟩:=y
  subst e
  exact hs i v ys σ _ (y xs (hl i ys σ _ p)) p) hd
theorem comp_tup {K:PySem.W.Frag}{a:Addr}{xs:List V}{g:TG}{tt:TT}{te:TE}{σ₀:St}{H₀:Hp}{Q:VK} (Pv:Nat→List V→St→Hp→Prop) (h0:Pv 0 [] σ₀ H₀) (hn:xs.length≤sizeLine) (hlen:∀ i ys σ H,Pv i ys σ H→ys.length≤i)
  (hl:∀ i ys σ H,Pv i ys σ H→SqT K H a xs)
  (hs:∀ i x ys σ H,xs[i]?=some x→Pv i ys σ H→g x σ H fun σ2 H2=>tt σ2 H2 fun b H3=>if b=true then te σ2 H3 fun v H4=>Pv (i + 1) (ys ++ [v]) σ2 H4 else Pv (i + 1) ys σ2 H3)
  (hd:∀ ys σ H,Pv xs.length ys σ H→∀ D,H D=none→Q (.ref D) (upd H D (.lst ys))):CompW (Itt K a) g tt te σ₀ H₀ Q:=
 comp_by xs.length Pv h0 hn hlen (fun i ys σ H h p=>⟨xs,xs[i],hl i ys σ H p,by simp[h]⟩) (fun ys σ H p=>⟨xs,hl _ ys σ H p,Nat.le_refl _⟩) (fun i ys σ H v H' hi p y=>by
  obtain ⟨e,y⟩:=y
  subst e
  exact hs i v ys σ _ (y xs (hl i ys σ _ p)) p) hd
def KeepBut (p:Addr) (H H':Hp):Prop:=∀ b o,H b=some o→b≠p→H' b=some o
theorem KeepBut.refl (p:Addr) (H:Hp):KeepBut p H H:=fun _ _ e _=>e
theorem KeepBut.trans {p:Addr}{H H1 H2:Hp} (a:KeepBut p H H1) (b:KeepBut p H1 H2):KeepBut p H H2:=fun c o e h=>b c o (a c o e h) h
theorem KeepBut.same {p:Addr}{H H1 H2:Hp} (a:KeepBut p H H1) (b:Same H1 H2):KeepBut p H H2:=fun c o e h=>b c o (a c o e h)
theorem Same.but {p:Addr}{H H1:Hp} (a:Same H H1):KeepBut p H H1:=fun c o e _=>a c o e
theorem KeepBut.upd {p:Addr}{o:HO}{H H1:Hp} (a:KeepBut p H H1):KeepBut p H (upd H1 p o):=fun c u e h=>by rw[upd_ne h];exact a c u e h
theorem Same.new {p:Addr}{o:HO}{H:Hp} (h:H p=none):Same H (upd H p o):=fun c u e=>by rw[upd_ne (ne_of_none e h)];exact e
section
variable {X:Cx}
end
section
variable {X:Cx}
inductive I_tMid (t:TS) (D:Ends) (σ:St) (H:Hp):Prop
 | mk (R:St→Hp→Prop) (q0:t { D with nx:=R } σ H) (q1:∀ σ' H',R σ' H'→D.nx σ' H'):I_tMid t D σ H
def tMid (t:TS):TS:=fun D σ H=>I_tMid t D σ H
theorem ps_mid {st:Stmt}{t:TS} (h:PS X st t):PS X st (tMid t):=by
 constructor
 intro pins s σ H D I q
 obtain ⟨R,q1,q2⟩:=q
 refine thn (h pins s σ H _ I q1) fun f s' z=>?_
 cases f with
 | next=>obtain ⟨σ',H',I',r⟩:=z;exact ⟨σ',H',I',q2 _ _ r⟩
 | brk=>exact z
 | cont=>exact z
 | ret u=>exact z
end
theorem flat_ints:∀ ns:List Int,(ns.map V.int).all flatV=true
 | []=>rfl
 | _ :: r=>flat_ints r
theorem kit_of {K:PySem.W.Frag}{T U:String}{b:Bool} (hn:(Value.type T == Value.type U)=false) (hm:PySem.W.kitMeta U=true) (hs:(PySem.fastBuiltinMro T).map (·.contains (Value.type U))=some b):PySem.W.kitOne K (.type T) (.type U)=some b:=by
 unfold PySem.W.kitOne
 rw[if_neg (by rw[hn];exact Bool.false_ne_true)]
 show (if PySem.W.kitMeta U=true then PySem.W.subIn K (Value.type T) (Value.type U) else none)=_
 rw[if_pos hm]
 exact hs
theorem kit_same {K:PySem.W.Frag}{T:String}:PySem.W.kitOne K (.type T) (.type T)=some true:=by
 unfold PySem.W.kitOne
 rw[if_pos (by rw[beq_self_eq_true])]
theorem atI_in {xs:List V}{i:Int} (h0:0≤i) (h1:i < xs.length):∃ v,v∈xs∧atI xs i=some v:=by
 have hlt:i.toNat < xs.length:=by omega
 refine ⟨xs[i.toNat],List.getElem_mem hlt,?_⟩
 have e:=atI_nat (xs:=xs) (j:=i.toNat) (v:=xs[i.toNat]) (List.getElem?_eq_getElem hlt)
 rw[Int.toNat_of_nonneg h0] at e
 exact e
def noStar:Expr→Bool
 | .Starred ..=>false
 | _=>true
theorem star_cons {e:Expr}{es:List Expr}{env:Env} (h:noStar e=true):starEach (e :: es) env=(false,eval e env) :: starEach es env:=by
 cases e <;> first | rfl | cases h
theorem pa_c {X:Cx}{e:Expr}{es:List Expr}{te:TE}{t:TA} (ha:PE X e te) (hr:PA X es t) (hs:noStar e=true:=by rfl):PA X (e :: es) (tCons te t):=pa_cons ha hr (star_cons hs)
end L2
namespace L2
open PySem PySem.Spec PyProof.Rows
section
variable {X:Cx}
theorem Inv.turnedL {pins:List (Addr×Obj)}{σ:St}{H:Hp}{s:Shared}{h':Heap}{t':Nat}{fp:List Addr} (I:Inv X pins σ H s) (k:∀ b o,b ∉ fp→s.heap.get? b=some o→h'.get? b=some o) (hf:∀ b∈fp,FpOk X pins H b):
  Inv X pins σ H { s with heap:=h',toks:=t' }:=by
 have nit:∀ b u,H b=some u→b ∉ fp:=fun b u e z=>by rw[(hf b z).1] at e;cases e
 refine I.step (g':=s.gens) (d':=s.drawn) (ch:=fp) (fun b hb=>?_) (fun b o _ _ hc e _=>k b o hc e) (fun b o _ _ hc e _=>⟨o.slots,k b o hc e⟩) (fun _ _ _ _ n=>n)
  (fun b o hc e=>⟨o,k b o hc e⟩) (fun _ _ e=>e) (fun _ _ _ e=>e) (fun b ps e=>⟨#[],by rw[e];simp⟩) (fun m hm=>?_) (fun b u e=>?_) I.bare
 ·obtain ⟨_,h1,_,h3,h4,h5⟩:=hf b hb
  exact ⟨h3,h1,h4,h5⟩
 ·obtain ⟨o,es,ep,ho,r⟩:=hm
  exact ⟨o,es,ep,k _ o (fun z=>(hf _ z).2.1 rfl) ho,r⟩
 ·refine (I.hok b u e).stay (fun c v hc q=>k c v ?_ q) (fun _ q=>q) fun _ _ q=>q
  rcases hc with z | z
  ·rw[z];exact nit b u e
  ·exact nit c _ z
structure ZA (z TI TO i1 i2:Addr):Prop where
 a1:TI≠z
 a2:TO≠z
 a3:i1≠z
 a4:i2≠z
 a5:TI≠TO
 a6:TI≠i1
 a7:TI≠i2
 a8:TO≠i1
 a9:TO≠i2
 a10:i1≠i2
end
end L2
namespace L2
open PySem PyProof.Rows
def stepS (σ:List Str) (v:Str):List Str:=if v∈σ then σ else σ ++ [v]
def metS (val:Nat→Str):Nat→List Str
 | 0=>[]
 | i + 1=>stepS (metS val i) (val i)
theorem any_mem (σ:List Str) (k:Str):(σ.any fun x=>x == k)=decide (k∈σ):=by
 rw[Bool.eq_iff_iff,List.any_eq_true,decide_eq_true_iff]
 constructor
 ·rintro ⟨x,hx,e⟩
  rw[beq_iff_eq] at e
  exact e ▸ hx
 ·intro h
  exact ⟨k,h,beq_self_eq_true k⟩
theorem stepS_any (σ:List Str) (v k:Str):((stepS σ v).any fun x=>x == k)=((σ.any fun x=>x == k) || decide (k=v)):=by
 rw[any_mem,any_mem]
 unfold stepS
 split
 ·next h=>
  rw[Bool.eq_iff_iff]
  simp only [decide_eq_true_eq,Bool.or_eq_true]
  constructor
  ·intro z;exact .inl z
  ·rintro (z | z)
   ·exact z
   ·exact z ▸ h
 ·rw[Bool.eq_iff_iff]
  simp
theorem stepS_length (σ:List Str) (v:Str):(stepS σ v).length=if (σ.any fun x=>x == v)=true then σ.length else σ.length + 1:=by
 rw[any_mem]
 unfold stepS
 by_cases h:v∈σ
 ·rw[if_pos h,if_pos (decide_eq_true h)]
 ·rw[if_neg h,if_neg (by simpa using h),List.length_append];rfl
theorem metS_le (val:Nat→Str):∀ i,(metS val i).length≤i
 | 0=>Nat.le_refl _
 | i + 1=>by
  have ih:=metS_le val i
  show (stepS _ _).length≤_
  rw[stepS_length]
  split <;> omega
theorem loop_strs {prog:Program}{w:World}{A:Around}{R:Result→Shared→Prop}{I:Addr}{fp wr:List Addr}{G:Array GenState→Array GenState→Prop}{n:Nat}{P:Nat→Value→Prop}{St:Nat→Shared→Prop}
  (W:WalksS prog w A.in1 I fp wr G n P St) (S:Addr) (hSf:¬ S∈fp) (val:Nat→Str) (hval:∀ (i:Nat) (v:Value),P i v→∃ t,v=Value.str (val i) t) (hb:n + 1 < scanBound):
  ∀ (k i:Nat) (s:Shared),n - i=k→i≤n→St i s→Heap.SetOf (PySem.strKind prog w) s.heap S (fun k'=>(metS val i).any fun x=>x == k') (metS val i).length→
   (∀ s':Shared,Moved (S :: wr) G s s'→Heap.SetOf (PySem.strKind prog w) s'.heap S (fun k'=>(metS val n).any fun x=>x == k') (metS val n).length→R (Except.ok (Flow.ret Value.none)) s')→
   codeAny (model prog w) A (Code.builtin "set.update.loop" { pos:=[Value.ref S,Value.ref I] }) R s:=by
 have hSw:¬ S∈wr:=fun h=>hSf (W.sub S h)
 have hsub:∀ b,b∈wr→b∈S :: wr:=fun b hb=>List.mem_cons_of_mem S hb
 intro k
 induction k with
 | zero=>
  intro i s hk hi hst hS hR
  have hin:i=n:=by omega
  subst hin
  refine codeAny_builtin PyProof.Rows.F.entry_set_update_loop ?_
  rw[Around.under_plainId PyProof.Rows.F.plain_set_update_loop]
  refine wpAny_bind (W.done s _ _ hst fun s' hm=>?_)
  refine wpAny_pure (hR s' (Moved.mono hm hsub) ?_)
  obtain ⟨o,es,ep,t,ho,rest⟩:=hS
  exact ⟨o,es,ep,t,hm.heap S o hSw ho,rest⟩
 | succ k ih=>
  intro i s hk hi hst hS hR
  have hlt:i < n:=by omega
  refine codeAny_builtin PyProof.Rows.F.entry_set_update_loop ?_
  rw[Around.under_plainId PyProof.Rows.F.plain_set_update_loop]
  refine wpAny_bind (W.item i s _ _ hlt hst fun v s' hP hst' hm=>?_)
  obtain ⟨t,rfl⟩:=hval i v hP
  have hS':Heap.SetOf (PySem.strKind prog w) s'.heap S (fun k'=>(metS val i).any fun x=>x == k') (metS val i).length:=by
   obtain ⟨o,es,ep,tb,ho,rest⟩:=hS
   exact ⟨o,es,ep,tb,hm.heap S o hSw ho,rest⟩
  have hroom:(metS val i).length + 1 < scanBound:=by
   have:=metS_le val i
   omega
  refine wpAny_bind (wpAny_holding (wpAny_holding (wpAny_bind ((PySem.strKind prog w).pyHash (strKind_is prog w (val i) t) ?_))))
  refine wpAny_setAddHashed_of (strKind_is prog w (val i) t) rfl hS' hroom fun h' hsb hS2=>?_
  refine wpAny_pure ⟨plainId_quiet PyProof.Rows.F.plain_set_update_loop _,?_⟩
  refine ih (i + 1) _ (by omega) hlt (W.frame (i + 1) s' h' _ hst' (Nat.le_succ s'.toks) fun b hb o e=>?_) ?_ fun s'' hm'' hS''=>?_
  ·rw[hsb.right b fun h=>hSf (h ▸ hb)]
   exact e
  ·refine SetOf_congr hS2 (fun k'=>?_) ?_
   ·show _=((stepS _ _).any _)
    rw[stepS_any]
   ·show _=(stepS _ _).length
    rw[stepS_length]
  ·refine hR s'' (Moved.trans W.gtrans (Moved.then_heap (Moved.mono hm hsub) (Nat.le_succ s'.toks) fun b o hb e=>?_) hm'') hS''
   rw[hsb.right b fun h=>hb (h ▸ List.mem_cons_self)]
   exact e
theorem call_set_strs {prog:Program}{w:World}{A:Around}{E:Value→Shared→Prop}{s:Shared}{l:Addr}{items:Array Value}{val:Nat→Str}{Q:Value→Shared→Prop} (hh:A.handled=none) (hl:s.heap.IsList l items)
  (hi:∀ (i:Nat) (v:Value),items[i]?=some v→∃ t,v=Value.str (val i) t) (hb:items.size + 1 < scanBound)
  (h:∀ (h':Heap) (tk:Nat),Heap.SetOf (PySem.strKind prog w) h' s.heap.objs.size (fun k'=>(metS val items.size).any fun x=>x == k') (metS val items.size).length→
   (∀ (b:Nat) (o:Obj),b < s.heap.objs.size→s.heap.get? b=some o→h'.get? b=some o)→Q (Value.ref s.heap.objs.size) { s with heap:=h',toks:=tk }):
  wpAny (model prog w) A (call (Value.type "set") [Value.ref l]) Q E s:=by
 obtain ⟨c,tl,hmro⟩:=F.called_set.mro
 have hmade:=F.called_set.made
 have hsub:=F.called_set.sub
 have hct:=F.typeCall_set_1 (Value.ref l)
 refine wpAny_call (codeAny_of_tree (wpAny_pure ⟨Code.quiet_builtin _ (by decide),codeAny_builtin F.entry_type_call ?_⟩))
 rw[Around.under_plain (weight_type_call_type "set" [Value.ref l] []) rfl]
 unfold Builtin.«type.__call__»
 dsimp only
 refine wpAny_ite_false (by first | rfl | decide) ?_
 refine wpAny_ite_false (by first | rfl | decide) ?_
 refine wpAny_bind (wpAny_of_eq hct ?_)
 refine wpAny_bind (wpAny_of_eq hmro ?_)
 refine wpAny_ite_false (by first | rfl | decide) ?_
 refine wpAny_bind (wpAny_of_eq hmade ?_)
 refine wpAny_bind (wpAny_pure ?_)
 refine wpAny_bind (wpAny_holding (wpAny_call (codeAny_mono (code_set_new_1 (Q₁:=fun obj s₁=>∃ led,obj=Value.ref s.heap.objs.size∧s₁={ s with heap:=s.heap.push { cls:=Value.type "set",data:=Data.set #[] 0 (SetTable.fresh 0 0 led) } }) (E:=E) (Value.ref l) fun led=>⟨led,rfl,rfl⟩) fun r s₁ hr=>?_)))
 cases r with
 | error e=>exact hr
 | ok fl=>
  cases fl with
  | next=>exact hr.elim
  | brk=>exact hr.elim
  | cont=>exact hr.elim
  | ret v=>
   obtain ⟨led,rfl,rfl⟩:=hr
   have hS:=Heap.get?_push_size s.heap (o:={ cls:=Value.type "set",data:=Data.set #[] 0 (SetTable.fresh 0 0 led) }) rfl
   have hT:Shared.TypeIs { s with heap:=s.heap.push { cls:=Value.type "set",data:=Data.set #[] 0 (SetTable.fresh 0 0 led) } } (Value.ref s.heap.objs.size) "set":=⟨_,hS,rfl⟩
   have hli:=F.called_set.init.lookup
   have hbi:=F.called_set.init.bind (Value.ref s.heap.objs.size)
   obtain ⟨ol,hol,hcl,nl,hdl⟩:=hl
   have hol':=Heap.get?_push_of_some { cls:=Value.type "set",data:=Data.set #[] 0 (SetTable.fresh 0 0 led) } hol
   have hl1:Heap.IsList (s.heap.push { cls:=Value.type "set",data:=Data.set #[] 0 (SetTable.fresh 0 0 led) }) l items:=⟨ol,hol',hcl,nl,hdl⟩
   refine wpAny_bind (wpAny_isInstance hT hsub ?_)
   refine wpAny_ite_false (by first | rfl | decide) ?_
   refine wpAny_bind (wpAny_holding ?_)
   unfold callSpecial?
   refine wpAny_bind (wpAny_specialOf hT hli ?_)
   dsimp only
   refine wpAny_holding ?_
   refine wpAny_bind (wpAny_of_eq hbi ?_)
   refine wpAny_bind (wpAny_call (codeAny_mono (codeAny_call_builtin F.called_set.init.plain F.entry_set_init (R:=fun r s'=>match r with | .ok (.ret v)=>v=.none∧Q (.ref s.heap.objs.size) s' | _=>False) (check_set_init_1 hT ?_)) fun r s₁ hr=>?_))
   ·unfold Builtin.«set.__init__»
    refine wpAny_bind (wpAny_ite_true (by first | rfl | decide) (wpAny_pure ?_))
    refine wpAny_bind (wpAny_bind (wpAny_bind (wpAny_typeOf hT (wpAny_ite_false (by first | rfl | decide) (wpAny_pure ?_)))))
    refine wpAny_pure ?_
    refine wpAny_bind ?_
    unfold checkCount
    refine wpAny_ite_false (by first | rfl | decide) ?_
    refine wpAny_ite_false (by first | rfl | decide) ?_
    refine wpAny_ite_false (by first | rfl | decide) (wpAny_pure ?_)
    refine wpAny_bind (wpAny_pure ?_)
    refine wpAny_bind ?_
    unfold setUsed setState
    refine wpAny_bind (wpAny_bind (wpAny_load' hS ?_))
    dsimp only
    refine wpAny_ite_false (by first | rfl | decide) (wpAny_pure ?_)
    refine wpAny_pure ?_
    refine wpAny_ite_false (by first | rfl | decide) ?_
    show wpAny _ _ (do let __r ← Builtin.Frozenset.updateFrom "set.__init__" s.heap.objs.size (Value.ref l);ret Value.none) _ _ _
    refine wpAny_bind ?_
    unfold Builtin.Frozenset.updateFrom
    refine wpAny_bind ?_
    have hTl:Shared.TypeIs { s with heap:=s.heap.push { cls:=Value.type "set",data:=Data.set #[] 0 (SetTable.fresh 0 0 led) } } (Value.ref l) "list":=⟨ol,hol',hcl⟩
    unfold Builtin.Frozenset.isAnySet
    refine wpAny_bind (wpAny_isInstance hTl F.sub_list_set ?_)
    refine wpAny_isInstance hTl F.sub_list_frozenset ?_
    refine wpAny_ite_false (by first | rfl | decide) ?_
    refine wpAny_bind (wpAny_typeOf hTl ?_)
    refine wpAny_ite_false (by first | rfl | decide) ?_
    refine wpAny_bind (wpAny_pyIter_list hl1 ?_)
    refine wpAny_bind (wpAny_runValue ?_)
    have hlS:l < s.heap.objs.size:=Heap.lt_size hol
    have hsz:(s.heap.push { cls:=Value.type "set",data:=Data.set #[] 0 (SetTable.fresh 0 0 led) }).objs.size=s.heap.objs.size + 1:=Heap.size_push _ _
    have hneI:l≠(s.heap.push { cls:=Value.type "set",data:=Data.set #[] 0 (SetTable.fresh 0 0 led) }).objs.size:=by rw[hsz];exact Nat.ne_of_lt (Nat.lt_succ_of_lt hlS)
    have hSf:¬ s.heap.objs.size∈[(s.heap.push { cls:=Value.type "set",data:=Data.set #[] 0 (SetTable.fresh 0 0 led) }).objs.size,l]:=by
     rw[hsz]
     simp only [List.mem_cons,List.not_mem_nil,or_false,not_or]
     exact ⟨Nat.ne_of_lt (Nat.lt_succ_self _),Nat.ne_of_gt hlS⟩
    have hh3:A.in1.in1.in1.handled=none:=hh
    refine loop_strs (Walks.toS (Walks.list hh3 _ l hneI items)) s.heap.objs.size hSf val hi hb (items.size - 0) 0 _ rfl (Nat.zero_le _) ⟨⟨_,Heap.get?_push_size _ rfl,rfl,rfl⟩,Heap.IsList.push hl1 _⟩ ?_ ?_
    ·have hget:=Heap.get?_push_of_some { cls:=Value.type "list_iterator",data:=Data.fields #[Value.ref l,Value.int 0 0] } hS
     exact SetOf_congr (Obj.SetObjOf.setOf (setObjOf_fresh led) hget (by show 0 < scanBound;decide)) (fun x=>rfl) rfl
    ·rintro ⟨h',g',d',tk',os'⟩ hm hS'
     refine wpAny_pure (wpAny_pure ⟨rfl,?_⟩)
     have e1:=hm.gens
     have e2:=hm.drawn
     have e3:=hm.os
     dsimp only at e1 e2 e3
     subst e1 e2 e3
     refine h h' tk' hS' fun b o hb e=>hm.heap b o ?_ ?_
     ·simp only [List.mem_cons,List.not_mem_nil,or_false,not_or]
      rw[hsz]
      exact ⟨Nat.ne_of_lt hb,Nat.ne_of_lt (Nat.lt_succ_of_lt hb)⟩
     ·exact Heap.get?_push_of_some _ (Heap.get?_push_of_some _ e)
   ·cases r with
    | error e=>exact hr.elim
    | ok fl=>
     cases fl with
     | next=>exact hr.elim
     | brk=>exact hr.elim
     | cont=>exact hr.elim
     | ret v=>
      obtain ⟨rfl,q⟩:=hr
      refine wpAny_pure ?_
      refine wpAny_ite_false (by first | rfl | decide) ?_
      exact wpAny_pure q
end L2
namespace L2
open PySem PyProof.Rows
section
variable {X:Cx}
def setS (P:Program) (w:World) (a:Addr) (ss:List Str):HO:=.ext fun h=>Heap.SetOf (PySem.strKind P w) h a (fun k=>(metS (fun i=>ss.getD i "") ss.length).any fun x=>x == k) (metS (fun i=>ss.getD i "") ss.length).length
theorem call_setS (hc:X.calm=true):CallR X (.type "set") (fun xs H Q=>∃ (p:Addr) (ss:List Str),xs=[.ref p]∧SqL X.K H p (ss.map V.str)∧ss.length≤1000∧∀ a,H a=none→Q (.ref a) (upd H a (setS X.prog X.w a ss))):=by
 intro pins s σ H xs us Q I r h
 obtain ⟨p,ss,rfl,hx,h1000,q⟩:=h
 obtain ⟨u,rfl,ru⟩:=vals1 r
 cases ru
 obtain ⟨its,rv,pl,_⟩:=I.list hx
 have hlen:=rv.length
 rw[List.length_map] at hlen
 refine call_set_strs (val:=fun i=>ss.getD i "") (I.ok.hd hc) pl.isList (fun i v hv=>?_) (by rw[List.size_toArray,← hlen];show _ < 4096;omega) fun h' tk hS hk=>?_
 ·have hv':its[i]?=some v:=by simpa using hv
  have hi:i < ss.length:=by
   rw[hlen]
   exact (List.getElem?_eq_some_iff.mp hv').1
  have e:(ss.map V.str)[i]?=some (V.str (ss.getD i "")):=by
   rw[List.getElem?_map,List.getElem?_eq_getElem hi]
   simp[hi]
  obtain ⟨u,hu,ru⟩:=rv.get e
  rw[hv'] at hu
  cases hu
  exact ru
 ·have esz:its.toArray.size=ss.length:=by rw[List.size_toArray,← hlen]
  rw[esz] at hS
  have hkk:∀ b u,s.heap.get? b=some u→h'.get? b=some u:=fun b u e=>hk b u (Heap.lt_size e) e
  have hn:H s.heap.objs.size=none:=I.hok.fresh (Nat.le_refl _)
  refine ⟨.ref s.heap.objs.size,_,I.laid (t':=tk) (o:=setS X.prog X.w s.heap.objs.size ss) hkk (Nat.le_refl _) ⟨hS,?_,fun h1 h2 f g=>?_⟩,rfl,q _ hn⟩
  ·obtain ⟨o,_,_,_,e,_⟩:=hS
   exact ⟨o,e⟩
  ·obtain ⟨o,es,ep,t,e,rest⟩:=f
   exact ⟨o,es,ep,t,g o e,rest⟩
theorem call_lenS:CallR X (.builtin "len") (fun xs H Q=>∃ (p:Addr) (ss:List Str),xs=[.ref p]∧H p=some (setS X.prog X.w p ss)∧ss.length≤1000∧Q (.int ((metS (fun i=>ss.getD i "") ss.length).length:Nat)) H):=by
 intro pins s σ H xs us Q I r h
 obtain ⟨p,ss,rfl,hx,h1000,q⟩:=h
 obtain ⟨u,rfl,ru⟩:=vals1 r
 cases ru
 obtain ⟨⟨o,es,ep,t,ho,hex,hd,_,_,_,hf,hn⟩,_,_⟩:ObjOk X.prog X.w H s.heap p (setS X.prog X.w p ss):=I.hok p _ hx
 have hle:=metS_le (fun i=>ss.getD i "") ss.length
 exact call_len_set ho hex hd hf (by omega) ⟨.int _,H,I.tok _,⟨_,by rw[hn]⟩,q⟩
theorem metS_sub (val:Nat→Str):∀ i k,k∈metS val i↔∃ j,j < i∧val j=k
 | 0,k=>by
  show k∈[]↔_
  simp
 | i + 1,k=>by
  show k∈stepS (metS val i) (val i)↔_
  have ih:=metS_sub val i
  unfold stepS
  by_cases h:val i∈metS val i
  ·rw[if_pos h,ih k]
   constructor
   ·rintro ⟨j,hj,e⟩;exact ⟨j,by omega,e⟩
   ·rintro ⟨j,hj,e⟩
    by_cases z:j=i
    ·subst z
     obtain ⟨j',hj',e'⟩:=(ih _).mp h
     exact ⟨j',hj',e'.trans e⟩
    ·exact ⟨j,by omega,e⟩
  ·rw[if_neg h,List.mem_append,ih k,List.mem_singleton]
   constructor
   ·rintro (⟨j,hj,e⟩ | e)
    ·exact ⟨j,by omega,e⟩
    ·exact ⟨i,by omega,e.symm⟩
   ·rintro ⟨j,hj,e⟩
    by_cases z:j=i
    ·subst z;exact .inr e.symm
    ·exact .inl ⟨j,by omega,e⟩
theorem metS_full (val:Nat→Str):∀ i,(metS val i).length=i↔((List.range i).map val).Nodup
 | 0=>by simp[metS]
 | i + 1=>by
  have ih:=metS_full val i
  have hle:=metS_le val i
  show (stepS (metS val i) (val i)).length=_↔_
  rw[stepS_length,any_mem,List.range_succ,List.map_append,List.nodup_append]
  have hm:val i∈metS val i↔val i∈(List.range i).map val:=by
   rw[metS_sub,List.mem_map]
   constructor
   ·rintro ⟨j,hj,e⟩;exact ⟨j,List.mem_range.mpr hj,e⟩
   ·rintro ⟨j,hj,e⟩;exact ⟨j,List.mem_range.mp hj,e⟩
  by_cases h:val i∈metS val i
  ·rw[if_pos (decide_eq_true h)]
   constructor
   ·intro z;omega
   ·rintro ⟨_,_,z⟩
    exact absurd rfl (z _ (hm.mp h) _ (by simp))
  ·rw[if_neg (by simpa using h)]
   constructor
   ·intro z
    refine ⟨ih.mp (by omega),by simp,fun a ha b hb e=>?_⟩
    have hb':b=val i:=by simpa using hb
    subst hb'
    exact h (hm.mpr (e ▸ ha))
   ·rintro ⟨z,_,_⟩
    rw[ih.mpr z]
theorem set_count (ss:List Str):decide (((metS (fun i=>ss.getD i "") ss.length).length:Int)=(ss.length:Int))=decide ss.Nodup:=by
 have e:(List.range ss.length).map (fun i=>ss.getD i "")=ss:=by
  apply List.ext_getElem?
  intro j
  rw[List.getElem?_map]
  by_cases h:j < ss.length
  ·rw[List.getElem?_range h,List.getElem?_eq_getElem h]
   simp[h]
  ·rw[List.getElem?_eq_none (by rw[List.length_range];omega),List.getElem?_eq_none (by omega)]
   rfl
 have:=metS_full (fun i=>ss.getD i "") ss.length
 rw[e] at this
 rw[decide_eq_decide,← this]
 omega
end
end L2
namespace L2
open PySem PySem.Spec PyProof.Rows
section
variable {prog:Program}{w:World}{A:Around}{E:Value→Shared→Prop}{s:Shared}
end
section
variable {X:Cx}{e st:Expr}{te ts:TE}{pos p2:Pos}
end
end L2
namespace L2
open PySem PySem.Spec PyProof.Rows
section
variable {X:Cx}
end
end L2
namespace L2
open PySem PySem.Spec PyProof.Rows
mutual
inductive RdV (m:Bool) (H:Hp):V→PyData→Prop
 | non:RdV m H .non .none
 | bl (b:Bool):RdV m H (.bl b) (.bool b)
 | int (i:Int):RdV m H (.int i) (.int i)
 | str (z:Str) (h:z.length≤1000):RdV m H (.str z) (.str z)
 | lst {a:Addr} {xs:List V} {ds:List PyData} (hm:m=true) (e:H a=some (.lst xs)) (hl:xs.length≤1000) (r:RdVs m H xs ds):RdV m H (.ref a) (.list ds)
 | tup {a:Addr} {xs:List V} {ds:List PyData} (e:H a=some (.tup xs)) (hl:xs.length≤1000) (r:RdVs m H xs ds):RdV m H (.ref a) (.tuple ds)
 | dct {a:Addr} (hm:m=false) (e:H a=some (.dK [])):RdV m H (.ref a) (.dict [])
inductive RdVs (m:Bool) (H:Hp):List V→List PyData→Prop
 | nil:RdVs m H [] []
 | cons {x:V} {d:PyData} {xs:List V} {ds:List PyData} (a:RdV m H x d) (r:RdVs m H xs ds):RdVs m H (x :: xs) (d :: ds)
end
theorem RdV.keep {m:Bool}{H H':Hp} (k:∀ a o,H a=some o→(∀ kv r,o≠.dK (kv :: r))→H' a=some o) {x:V}{d:PyData} (h:RdV m H x d):RdV m H' x d:=
 RdV.rec (motive_1:=fun x d _=>RdV m H' x d) (motive_2:=fun xs ds _=>RdVs m H' xs ds) .non .bl .int .str (fun hm e hl _ r=>.lst hm (k _ _ e (fun _ _ z=>nomatch z)) hl r) (fun e hl _ r=>.tup (k _ _ e (fun _ _ z=>nomatch z)) hl r) (fun hm e=>.dct hm (k _ _ e (fun _ _ z=>nomatch z))) .nil (fun _ _ a r=>.cons a r) h
theorem RdVs.keep {m:Bool}{H H':Hp} (k:∀ a o,H a=some o→(∀ kv r,o≠.dK (kv :: r))→H' a=some o) {xs:List V}{ds:List PyData} (h:RdVs m H xs ds):RdVs m H' xs ds:=
 RdVs.rec (motive_1:=fun x d _=>RdV m H' x d) (motive_2:=fun xs ds _=>RdVs m H' xs ds) .non .bl .int .str (fun hm e hl _ r=>.lst hm (k _ _ e (fun _ _ z=>nomatch z)) hl r) (fun e hl _ r=>.tup (k _ _ e (fun _ _ z=>nomatch z)) hl r) (fun hm e=>.dct hm (k _ _ e (fun _ _ z=>nomatch z))) .nil (fun _ _ a r=>.cons a r) h
theorem RdV.same {m:Bool}{H H':Hp}{x:V}{d:PyData} (h:RdV m H x d) (s:Same H H'):RdV m H' x d:=h.keep fun a o e _=>s a o e
theorem RdVs.same {m:Bool}{H H':Hp}{x:List V}{d:List PyData} (h:RdVs m H x d) (s:Same H H'):RdVs m H' x d:=h.keep fun a o e _=>s a o e
theorem RdVs.len {m:Bool}{H:Hp}:∀ {xs:List V}{ds:List PyData},RdVs m H xs ds→xs.length=ds.length
 | _,_,.nil=>rfl
 | _,_,.cons _ r=>by rw[List.length_cons,List.length_cons,RdVs.len r]
theorem RdVs.app {m:Bool}{H:Hp}:∀ {xs:List V}{ds:List PyData}{ys:List V}{es:List PyData},RdVs m H xs ds→RdVs m H ys es→RdVs m H (xs ++ ys) (ds ++ es)
 | _,_,_,_,.nil,h=>h
 | _,_,_,_,.cons a r,h=>.cons a (RdVs.app r h)
theorem RdVs.at {m:Bool}{H:Hp}:∀ {xs:List V}{ds:List PyData}{i:Nat}{x:V},RdVs m H xs ds→xs[i]?=some x→∃ d,ds[i]?=some d∧RdV m H x d
 | _,_,0,_,.cons a r,e=>by simp at e;subst e;exact ⟨_,rfl,a⟩
 | _,_,i + 1,_,.cons a r,e=>by simp at e;simpa using RdVs.at r e
section
variable {X:Cx}
mutual
theorem RdV.reads {pins:List (Addr×Obj)}{σ:St}{m:Bool}{H:Hp}{s:Shared} (I:Inv X pins σ H s):∀ {x:V}{d:PyData}{v:Value},RdV m H x d→RelV x v→∃ as,Reads s.heap v d as∧(m=true→d.hasDict=false)∧(m=false→¬ sysModules∈as)
 | _,_,_,.non,r=>by cases r;exact ⟨[],.none,fun _=>rfl,fun _=>by simp⟩
 | _,_,_,.bl b,r=>by cases r;exact ⟨[],.bool b,fun _=>rfl,fun _=>by simp⟩
 | _,_,_,.int i,r=>by obtain ⟨t,rfl⟩:=r;exact ⟨[],.int i t,fun _=>rfl,fun _=>by simp⟩
 | _,_,_,.str z _,r=>by obtain ⟨t,rfl⟩:=r;exact ⟨[],.str z t,fun _=>rfl,fun _=>by simp⟩
 | _,_,_,.lst hm e _ rs,r=>by
  cases r
  obtain ⟨_,its,n,rv,eo⟩:ObjOk X.prog X.w H s.heap _ (.lst _):=I.hok _ _ e
  obtain ⟨as,ra,h1,h2⟩:=RdVs.reads I rs rv
  exact ⟨_,.list eo rfl rfl (by simpa using ra),fun _=>h1 hm,fun z=>by rw[hm] at z;cases z⟩
 | _,_,_,.tup e _ rs,r=>by
  cases r
  obtain ⟨_,its,rv,pt⟩:ObjOk X.prog X.w H s.heap _ (.tup _):=I.hok _ _ e
  obtain ⟨as,ra,h1,h2⟩:=RdVs.reads I rs rv
  obtain ⟨o,eo,hc,n,hd⟩:=pt
  exact ⟨as,.tuple eo hc hd (by simpa using ra),h1,h2⟩
 | _,_,_,.dct hm e,r=>by
  cases r
  obtain ⟨_,hs,vs,kv,o,es,ep,eo,hx,hd,hk,hp,_⟩:ObjOk X.prog X.w H s.heap _ (.dK []):=I.hok _ _ e
  cases kv
  have hes:es.toList=[]:=by
   cases h:es.toList with
   | nil=>rfl
   | cons y r=>rw[h] at hp;cases hp
  refine ⟨_,Reads.dict (kvs:=[]) (as:=[]) (bs:=[]) eo hx.1 hd (by rw[hes];exact .nil) (by rw[hes];exact .nil),(fun z=>by rw[hm] at z;cases z),fun _=>?_⟩
  intro z
  simp at z
  rw[z] at hs
  simp at hs
theorem RdVs.reads {pins:List (Addr×Obj)}{σ:St}{m:Bool}{H:Hp}{s:Shared} (I:Inv X pins σ H s):∀ {xs:List V}{ds:List PyData}{vs:List Value},RdVs m H xs ds→Vals xs vs→∃ as,ReadsAll s.heap vs ds as∧(m=true→PyData.hasDictAll ds=false)∧(m=false→¬ sysModules∈as)
 | _,_,_,.nil,.nil=>⟨[],.nil,fun _=>rfl,fun _=>by simp⟩
 | _,_,_,.cons a r,.cons ra rr=>by
  obtain ⟨as,h1,h2,h3⟩:=RdV.reads I a ra
  obtain ⟨bs,g1,g2,g3⟩:=RdVs.reads I r rr
  refine ⟨as ++ bs,.cons h1 g1,fun z=>?_,fun z w=>?_⟩
  ·unfold PyData.hasDictAll
   rw[h2 z,g2 z]
   rfl
  ·rcases List.mem_append.mp w with w | w
   ·exact h3 z w
   ·exact g3 z w
end
inductive I_r_call_repr (xs:List V) (H:Hp) (Q:VK):Prop
 | mk (a:Addr) (m:Bool) (d:PyData) (q0:xs=[.ref a]) (q1:RdV m H (.ref a) d) (q2:d.showable=true) (q3:d.depth≤20) (q4:d.shown.length≤sizeLine) (q5:Q (.str d.shown) H):I_r_call_repr xs H Q
def r_call_repr:List V→Hp→VK→Prop:=fun xs H Q=>I_r_call_repr xs H Q
theorem call_repr {k:Nat} (hr:Room k X.A):CallR X (.builtin "repr") r_call_repr:=by
 intro pins s σ H xs us Q I r h
 obtain ⟨a,m,d,rfl,hx,hs,hd,hz,q⟩:=h
 obtain ⟨u,rfl,ru⟩:=vals1 r
 cases ru
 obtain ⟨as,hrd,h1,h2⟩:=RdV.reads I hx rfl
 refine repr_of_reads' hrd hs (fun z=>?_) hr.gd (by have:=hr.un;omega) (fun b o e=>e) (fun h' u tk hk=>⟨.str d.shown,H,I.kept (t':=tk) hk,⟨u,rfl⟩,q⟩) hz
 cases m with
 | true=>rw[h1 rfl] at z;cases z
 | false=>exact h2 rfl
end
end L2
namespace L2
open PySem PySem.Spec PyProof.Rows
section
variable {prog:Program}{w:World}{A:Around}{E:Value→Shared→Prop}{s:Shared}
theorem getItem_tuple_all {t sl:Addr}{items:Array Value}{vl vu:Value}{lo hi:Option Int}{Q:Value→Shared→Prop} (ht:IsTup s.heap t items) (hs:s.heap.IsSliceOf sl vl vu .none) (pl:IsPart vl lo) (pu:IsPart vu hi)
  (hw:HT.sIx items.size 0 lo=0∧HT.sIx items.size items.size hi=items.size) (h:Q (.ref t) s):wpAny (model prog w) A (getItem (.ref t) (.ref sl)) Q E s:=by
 obtain ⟨os,hos,hcs,hds⟩:=id hs
 have hTs:s.TypeIs (.ref sl) "slice":=⟨os,hos,hcs⟩
 unfold getItem
 try with_reducible refine wpAny_holding ?_
 first | refine wpAny_bind (wpAny_pure ?_) | skip
 refine wpAny_bind (wpAny_sequenceKey ht.typeIs (by decide) ?_)
 refine wpAny_bind (wpAny_callSpecial?_slot (name:=Str.ofString "__getitem__") ht.typeIs PyProof.Rows.slot_tuple_getitem
  (wpAny_call_entry PyProof.Rows.slot_tuple_getitem ht.typeIs entry_tuple_getitem ?_ (args_tuple_getitem _ _)))
 show wpAny _ _ (Builtin.Tuple.tupleItemsOf (.ref t) >>= _) _ _ s
 refine wpAny_bind (tupleItemsOf_ ht ?_)
 refine wpAny_bind (wpAny_typeOf hTs ?_)
 rw[if_pos (by decide)]
 refine wpAny_bind (HT.sliceApplied_gen hs pl pu ?_)
 have hyes:(((HT.sIx items.size 0 lo:Nat):Int) == 0 && (1:Int) == 1 && (HT.sIx items.size items.size hi - HT.sIx items.size 0 lo) == items.size)=true:=by
  rw[hw.1,hw.2]
  simp
 show wpAny _ _ (if (((HT.sIx items.size 0 lo:Nat):Int) == 0 && (1:Int) == 1 && (HT.sIx items.size items.size hi - HT.sIx items.size 0 lo) == items.size)=true then _ else _) _ _ s
 rw[if_pos hyes]
 obtain ⟨⟨cls,dd,data,sl'⟩,ho,hc,n,hd⟩:=id ht
 simp only at hc hd
 subst hc hd
 wp_walk
 exact ⟨_,rfl,wpAny_pure h⟩
end
section
variable {X:Cx}
inductive I_rSlA (K:PySem.W.Frag) (x:V) (lo:Option Int) (hi:Option Int) (H:Hp) (Q:VK):Prop
 | mk (a:_) (xs:_) (q0:x=.ref a) (q1:H a=some (.tup xs)) (q2:∀ r H',Same H H'→H' r=some (.tup (cutV xs lo hi))→Q (.ref r) H'):I_rSlA K x lo hi H Q
def rSlA (K:PySem.W.Frag):V→Option Int→Option Int→Hp→VK→Prop:=fun x lo hi H Q=>I_rSlA K x lo hi H Q
theorem sl_tupA:SlR X (rSlA X.K):=by
 intro pins s σ H x v vl vu lo hi sl Q I rx hs pl pu h
 obtain ⟨a,xs,rfl,hx,q⟩:=h
 by_cases hw:HT.sIx xs.length 0 lo=0∧HT.sIx xs.length xs.length hi=xs.length
 ·cases rx
  obtain ⟨its,r,ht,hz⟩:=I.tuple (SqT.of hx)
  have hlen:its.toArray.size=xs.length:=by rw[List.size_toArray];exact r.length.symm
  refine ⟨"tuple",_,PyProof.Rows.slot_tuple_getitem.lookup,ht.typeIs,?_⟩
  refine getItem_tuple_all ht hs pl pu (by rw[hlen];exact hw) ⟨.ref a,H,I,rfl,q a H (Same.refl H) ?_⟩
  have e:cutV xs lo hi=xs:=by
   unfold cutV
   rw[hw.1,hw.2,List.drop_zero,Nat.sub_zero,List.take_length]
  rw[e]
  exact hx
 ·exact sl_tup pins s σ H _ v vl vu lo hi sl Q I rx hs pl pu ⟨a,xs,rfl,SqT.of hx,hw,fun p hp=>q p _ (Same.new hp) upd_same⟩
theorem cut_to {α:Type} (xs:List V) (n:Nat):cutV xs none (some (n:Int))=xs.take n:=by
 unfold cutV
 rw[HT.sIx_none,HT.sIx_nat,List.drop_zero,Nat.sub_zero]
 by_cases h:n≤xs.length
 ·rw[Nat.min_eq_left h]
 ·rw[Nat.min_eq_right (by omega),List.take_length,List.take_of_length_le (by omega)]
theorem cut_from {α:Type} (xs:List V) (n:Nat):cutV xs (some (n:Int)) none=xs.drop n:=by
 unfold cutV
 rw[HT.sIx_none,HT.sIx_nat]
 by_cases h:n≤xs.length
 ·rw[Nat.min_eq_left h]
  exact List.take_of_length_le (by rw[List.length_drop];exact Nat.le_refl _)
 ·rw[Nat.min_eq_right (by omega),List.drop_eq_nil_of_le (Nat.le_refl _),List.drop_eq_nil_of_le (by omega),List.take_nil]
theorem RdVs.flip {H:Hp}{xs:List V}{ds:List PyData} (h:RdVs false H xs ds) (hd:PyData.hasDictAll ds=false) (m:Bool):RdVs m H xs ds:=
 RdVs.rec (m:=false) (H:=H) (motive_1:=fun x d _=>d.hasDict=false→RdV m H x d) (motive_2:=fun xs ds _=>PyData.hasDictAll ds=false→RdVs m H xs ds) (fun _=>.non) (fun b _=>.bl b) (fun i _=>.int i) (fun z h _=>.str z h) (fun hm _ _ _ _ _=>nomatch hm) (fun e hl _ ih h=>.tup e hl (ih (by unfold PyData.hasDict at h;exact h))) (fun _ _ h=>by unfold PyData.hasDict at h;cases h) (fun _=>.nil) (fun _ _ ih1 ih2 h=>by unfold PyData.hasDictAll at h;rw[Bool.or_eq_false_iff] at h;exact .cons (ih1 h.1) (ih2 h.2)) h hd
theorem RdV.flip {H:Hp}{x:V}{d:PyData} (h:RdV false H x d) (hd:d.hasDict=false) (m:Bool):RdV m H x d:=by
 have:=RdVs.flip (.cons h .nil) (by simp[PyData.hasDictAll,hd]) m
 cases this with
 | cons a _=>exact a
theorem RdV.keepF {H H':Hp} (k:∀ a o,H a=some o→(∀ kv r,o≠.dK (kv :: r))→(∀ xs,o≠.lst xs)→H' a=some o) {x:V}{d:PyData} (h:RdV false H x d):RdV false H' x d:=
 RdV.rec (m:=false) (H:=H) (motive_1:=fun x d _=>RdV false H' x d) (motive_2:=fun xs ds _=>RdVs false H' xs ds) .non .bl .int .str (fun hm _ _ _ _=>nomatch hm) (fun e hl _ r=>.tup (k _ _ e (fun _ _ z=>nomatch z) (fun _ z=>nomatch z)) hl r) (fun hm e=>.dct hm (k _ _ e (fun _ _ z=>nomatch z) (fun _ z=>nomatch z))) .nil (fun _ _ a r=>.cons a r) h
theorem RdVs.keepF {H H':Hp} (k:∀ a o,H a=some o→(∀ kv r,o≠.dK (kv :: r))→(∀ xs,o≠.lst xs)→H' a=some o) {xs:List V}{ds:List PyData} (h:RdVs false H xs ds):RdVs false H' xs ds:=
 RdVs.rec (m:=false) (H:=H) (motive_1:=fun x d _=>RdV false H' x d) (motive_2:=fun xs ds _=>RdVs false H' xs ds) .non .bl .int .str (fun hm _ _ _ _=>nomatch hm) (fun e hl _ r=>.tup (k _ _ e (fun _ _ z=>nomatch z) (fun _ z=>nomatch z)) hl r) (fun hm e=>.dct hm (k _ _ e (fun _ _ z=>nomatch z) (fun _ z=>nomatch z))) .nil (fun _ _ a r=>.cons a r) h
end
end L2
namespace L2
open PySem PySem.Spec PyProof.Rows PySem.W
def KAll {α:Type} (n:Nat) (P:α→Prop):KasT α→Prop
 | .ret a=>P a
 | .ask i j k=>i < n∧j < n∧∀ b,KAll n P (k b)
theorem KAll.bind {α β:Type}{n:Nat}{P:α→Prop}{Q:β→Prop}{f:α→KasT β}:∀ {t:KasT α},KAll n P t→(∀ a,P a→KAll n Q (f a))→KAll n Q (t.bind f)
 | .ret a,h,g=>by rw[KasT.bind.eq_1];exact g a h
 | .ask i j k,h,g=>by
  rw[KasT.bind.eq_2]
  exact ⟨h.1,h.2.1,fun b=>KAll.bind (h.2.2 b) g⟩
def Pm (n:Nat) (p:Array Nat):Prop:=p.Perm (List.range n).toArray
theorem Pm.lt {n:Nat}{p:Array Nat} (h:Pm n p) (hn:0 < n) (i:Nat):p.getD i 0 < n:=by
 by_cases hi:i < p.size
 ·have hm:p[i]∈(List.range n).toArray:=h.mem_iff.mp (Array.getElem_mem hi)
  have:p[i] < n:=by simpa using hm
  rw[Array.getD_eq_getD_getElem?,Array.getElem?_eq_getElem hi]
  exact this
 ·rw[Array.getD_eq_getD_getElem?,Array.getElem?_eq_none (by omega)]
  exact hn
theorem Pm.rev {n:Nat}{p:Array Nat} (h:Pm n p) (i j:Nat):Pm n (kas_rev p i j):=(mirror_perm p i j _).trans h
theorem Pm.bub {n:Nat}{p:Array Nat} (h:Pm n p) (i j:Nat):Pm n (bubble p i j):=(bubble_perm p i j).trans h
section
variable {n:Nat} (hn:0 < n)
include hn
theorem kall_asc {p:Array Nat} (h:Pm n p):∀ (f x:Nat),KAll n (fun _=>True) (kas_asc p f x)
 | 0,x=>by rw[kas_asc.eq_1];trivial
 | f + 1,x=>by
  rw[kas_asc.eq_2]
  refine ⟨h.lt hn _,h.lt hn _,fun b=>?_⟩
  cases b
  ·exact kall_asc h f (x + 1)
  ·exact trivial
theorem kall_desc:∀ (f:Nat) {p:Array Nat} (x y:Nat),Pm n p→KAll n (fun r=>Pm n r.1) (kas_desc f p x y)
 | 0,p,x,y,h=>by rw[kas_desc.eq_1];exact h
 | f + 1,p,x,y,h=>by
  rw[kas_desc.eq_2]
  refine ⟨h.lt hn _,h.lt hn _,fun b=>?_⟩
  cases b
  ·refine ⟨h.lt hn _,h.lt hn _,fun b=>?_⟩
   cases b
   ·exact kall_desc f _ _ h
   ·exact h
  ·show KAll n _ (if y > 0 then _ else _)
   split
   ·exact kall_desc f _ _ (h.rev _ _)
   ·exact kall_desc f _ _ h
theorem kall_place {p:Array Nat} (h:Pm n p) (k:Nat):∀ (f x y:Nat),KAll n (fun _=>True) (kas_place p k f x y)
 | 0,x,y=>by rw[kas_place.eq_1];trivial
 | f + 1,x,y=>by
  rw[kas_place.eq_2]
  split
  ·trivial
  ·refine ⟨h.lt hn _,h.lt hn _,fun b=>?_⟩
   cases b
   ·exact kall_place h k f _ _
   ·exact kall_place h k f _ _
theorem kall_bin:∀ (f:Nat) {p:Array Nat} (x:Nat),Pm n p→KAll n (Pm n) (kas_bin f p x)
 | 0,p,x,h=>by rw[kas_bin.eq_1];exact h
 | f + 1,p,x,h=>by
  rw[kas_bin.eq_2]
  exact (kall_place hn h x _ _ _).bind fun l _=>kall_bin f _ (h.bub _ _)
theorem kall_tail3 {p:Array Nat} (h:Pm n p) (a b:Nat):KAll n (fun r=>Pm n r.2) (kas_tail3 a b p):=by
 unfold kas_tail3
 exact (kall_asc hn (h.rev _ _) _ _).bind fun m _=>h.rev _ _
theorem kall_descPart {p:Array Nat} (h:Pm n p) (a b:Nat):KAll n (fun r=>Pm n r.2) (kas_descPart a b p):=by
 unfold kas_descPart
 refine (kall_desc hn _ _ _ h).bind fun r hr=>?_
 split
 ·exact kall_tail3 hn (hr.rev _ _) _ _
 ·exact kall_tail3 hn hr _ _
theorem kall_count {p:Array Nat} (h:Pm n p) (a:Nat):KAll n (fun r=>Pm n r.2) (kas_count a p):=by
 unfold kas_count
 refine (kall_asc hn h _ _).bind fun m _=>?_
 split
 ·exact h
 ·split
  ·refine ⟨h.lt hn _,h.lt hn _,fun b=>?_⟩
   cases b
   ·exact kall_descPart hn (h.rev _ _) _ _
   ·exact h
  ·exact kall_descPart hn h _ _
theorem kall_sort:KAll n (Pm n) (kas_sort n):=by
 unfold kas_sort
 refine (kall_count hn (Array.Perm.refl _) n).bind fun r hr=>?_
 split
 ·exact kall_bin hn _ _ hr
 ·exact hr
end
end L2
namespace L2
open PySem PySem.Spec PyProof.Rows PySem.W
section
variable {prog:Program}{w:World}{A:Around}{E:Value→Shared→Prop}{s:Shared}
theorem items_tup {x:Addr}{its:Array Value}{Q:Array Value→Shared→Prop} (hx:IsTup s.heap x its) (h:Q its s):wpAny (model prog w) A (Builtin.List.listItems (Value.ref x)) Q E s:=by
 obtain ⟨⟨cls,dd,data,sl⟩,ho,hc,n,hd⟩:=id hx
 simp only at hc hd
 subst hc hd
 unfold Builtin.List.listItems
 wp_walk
 exact h
end
end L2
namespace L2
open PySem PySem.Spec PyProof.Rows PySem.W
section
variable {prog:Program}{w:World}{A:Around}{E:Value→Shared→Prop}{s:Shared}
inductive I_KeyT (h:Heap) (v:Value):Prop
 | mk (t:_) (a:_) (b:_) (c:_) (u1:_) (u2:_) (u3:_) (q0:v=.ref t) (q1:IsTup h t #[.int a u1,.int b u2,.str c u3]):I_KeyT h v
def KeyT (h:Heap) (v:Value):Prop:=I_KeyT h v
theorem mapM_any {α β:Type}{f:α→Sem β}{R:α→β→Prop}:∀ (l:List α) {Q:List β→Shared→Prop},(∀ v∈l,∃ r,R v r∧∀ Q':β→Shared→Prop,Q' r s→wpAny (model prog w) A (f v) Q' E s)→(∀ rs:List β,rs.length=l.length→(∀ r∈rs,∃ v∈l,R v r)→Q rs s)→wpAny (model prog w) A (List.mapM f l) Q E s
 | [],Q,_,q=>by
  rw[List.mapM_nil]
  exact wpAny_pure (q [] rfl fun r hr=>by simp at hr)
 | a :: l,Q,h,q=>by
  rw[List.mapM_cons]
  obtain ⟨r,hr,hw⟩:=h a List.mem_cons_self
  refine wpAny_bind (hw _ (wpAny_bind (mapM_any l (fun v hv=>h v (List.mem_cons_of_mem _ hv)) fun rs hl hrs=>wpAny_pure (q (r :: rs) (by rw[List.length_cons,List.length_cons,hl]) fun z hz=>?_))))
  rcases List.mem_cons.mp hz with rfl | hz
  ·exact ⟨a,List.mem_cons_self,hr⟩
  ·obtain ⟨v,hv,hR⟩:=hrs z hz
   exact ⟨v,List.mem_cons_of_mem _ hv,hR⟩
theorem kindT {ks:List Value}{Q:SortKind→Shared→Prop} (hk:∀ v∈ks,KeyT s.heap v) (h:∀ b,Q (tuples' b) s):wpAny (model prog w) A (keyKind' ks.toArray) Q E s:=by
 rw[keyKind'_eq,Array.mapM_eq_mapM_toList]
 refine wpAny_bind ?_
 rw[← bind_pure_comp]
 refine wpAny_bind (mapM_any (R:=fun _ r=>∃ a u,r=some (Value.int a u)) ks (fun v hv=>?_) fun rs hl hrs=>wpAny_pure ?_)
 ·obtain ⟨t,a,b,c,u1,u2,u3,rfl,ht⟩:=hk v hv
  refine ⟨some (.int a u1),⟨a,u1,rfl⟩,fun Q' q=>?_⟩
  rw[kas_first_eq]
  refine wpAny_bind (wpAny_typeOf ht.typeIs ?_)
  refine wpAny_ite_false (by decide) ?_
  refine wpAny_bind (items_tup ht ?_)
  exact wpAny_pure q
 ·have hall:(rs.toArray.all fun x=>x.isSome)=true:=by
   rw[List.all_toArray,List.all_eq_true]
   intro r hr
   obtain ⟨v,_,a,u,rfl⟩:=hrs r hr
   rfl
  refine wpAny_ite_true (by rw[hall];rfl) ?_
  refine wpAny_bind (wpAny_rule ?_)
  rw[oneTypeOnly'_eq,Array.mapM_eq_mapM_toList]
  refine wpAny_bind ?_
  refine wpAny_bind ?_
  rw[← bind_pure_comp]
  refine wpAny_bind (mapM_any (R:=fun _ r=>r=Value.type "int") _ (fun v hv=>?_) fun ts htl hts=>wpAny_pure ?_)
  ·have hv':some v∈rs:=by simpa using hv
   obtain ⟨_,_,a,u,e⟩:=hrs _ hv'
   cases e
   exact ⟨_,rfl,fun Q' q=>wpAny_typeOf (typeIs_int s a u) q⟩
  ·cases hts0:ts.toArray[0]? with
   | none=>exact wpAny_pure (wpAny_pure (h _))
   | some t=>exact wpAny_pure (wpAny_pure (h _))
end
end L2
namespace L2
open PySem PySem.Spec PyProof.Rows PySem.W
section
variable {prog:Program}{w:World}{A:Around}{E:Value→Shared→Prop}{s:Shared}
theorem tailT {a kS:Addr}{st:SortSt}{keys:Array Value}{e e1:Nat}{P:PySem.Fin→Shared→Prop} (ha:s.heap.get? a=some (seqObj "list" #[] e1)) (hk:s.heap.get? kS=some (seqObj "list" keys e)) (hne:a≠kS) (hkz:keys.size≤sizeLine) (hz:(arrOf st).size≤sizeLine) (hf:failedOf st=none)
  (h:P (Fin.done (Flow.ret Value.none)) { s with heap:=(s.heap.update kS (Obj.mapSeq fun _=>#[])).update a (Obj.mapSeq fun _=>(arrOf st).map (·.2)) }):wpAny (model prog w) A (ksk_tail a false e1 (.ref kS) st) P E s:=by
 unfold ksk_tail
 refine wpAny_bind (listUpdate_at hk rfl ?_ hkz (Nat.zero_le _))
 refine wpAny_bind (wpAny_letGo ?_)
 have ha1:(s.heap.update kS (Obj.mapSeq fun _=>#[])).get? a=some (seqObj "list" #[] e1):=by
  rw[Heap.get?_update_ne _ _ _ _ hne]
  exact ha
 refine wpAny_bind (seqEpoch_at ha1 rfl ?_)
 refine wpAny_bind (listUpdate_at ha1 rfl ?_ (Nat.zero_le _) (by show ((arrOf st).map (·.2)).size≤_;rw[Array.size_map];omega))
 rw[hf]
 refine wpAny_ite_false (by simp) ?_
 exact wpAny_pure h
end
end L2
namespace L2
open PySem PySem.Spec PyProof.Rows PySem.W
section
variable {X:Cx}{pins:List (Addr×Obj)}{σ:St}
inductive I_KeyH (H:Hp) (v:Value):Prop
 | mk (t:_) (a:_) (b:_) (c:_) (q0:v=.ref t) (q1:H t=some (.tup [.int a,.int b,.str c])):I_KeyH H v
def KeyH (H:Hp) (v:Value):Prop:=I_KeyH H v
end
end L2
namespace L2
open PySem PySem.Spec PyProof.Rows PySem.W
section
variable {X:Cx}{pins:List (Addr×Obj)}{σ:St}{H:Hp}{s:Shared}
end
end L2
namespace L2
open PySem PySem.Spec PyProof.Rows PySem.W
section
variable {X:Cx}{e:Expr}{ta:TA}
end
end L2
namespace L2
open PySem PySem.Spec PyProof.Rows
open PySem.SeqAt
open PySem.AutoSeq1 (wpAny_loadPart')
open PySem.MeetsSeq PySem.MeetsSeq2 PySem.MeetsSeq3
end L2
namespace L2
open PySem PySem.Spec PyProof.Rows
inductive I_FnV (X:Cx) (k:Nat) (ps:List Str) (f:Addr) (sp:Sp):Prop
 | mk (fd:FuncData) (q0:FnOk X.prog X.w X.K X.mg X.base CX0 k f fd ps sp) (q1:PySem.W.keepIn X.K (.ref f)=true) (q2:Binds X.K fd ps []):I_FnV X k ps f sp
def FnV (X:Cx) (k:Nat) (ps:List Str) (f:Addr) (sp:Sp):Prop:=I_FnV X k ps f sp
def tCallV (X:Cx) (k:Nat) (ps:List Str) (tv:TE) (t:TA):TE:=fun σ H Q=>tv σ H fun v H1=>∃ (f:Addr) (sp:Sp),v=.ref f∧FnV X k ps f sp∧t σ H1 fun vs H2=>sp vs H2 Q E0
theorem pe_callV {X:Cx}{k:Nat}{ps:List Str}{x:Str}{p pos:Pos}{e:Expr}{es:List Expr}{tv:TE}{t:TA} (hv:PE X (.Name x p) tv) (hr:Room k X.A) (ha:PA X (e :: es) t)
  (he:starEach (e :: es) X.env=(false,eval e X.env) :: starEach es X.env:=by rfl) (hpl:(backTo pos (starEach es X.env)).any (·.1)=false:=by rfl):
  PE X (.Call (.Name x p) (e :: es) [] pos) (tCallV X k ps tv t):=by
 constructor
 intro pins s σ H Q I h
 refine wpAny_Call_Name_kw (thn (hv pins s σ H _ I h) fun u s1 ⟨y,H1,I1,ry,f,sp,ey,⟨fd,F,hk,hb⟩,h2⟩=>?_)
 subst ey
 cases ry
 refine PySem.W.callWith_K (h₀:=X.base) I1.ok.mod.kin hk (thn (ha pos pins s1 σ H1 _ I1 h2) fun us s2 ⟨vs,H2,I2,r,q⟩=>⟨I2.kIn,?_⟩) he hpl
 exact run_fn F hr hb .nil pass0 I2 r (by rw[List.append_nil];exact q)
def tKGet (kvs:List (Key×V)) (ty:TE):TE:=fun σ H Q=>ty σ H fun y H2=>∃ k v,y=kV k∧valV kvs k=some v∧Q v H2
theorem pe_kget {X:Cx}{i:Expr}{x:Str}{ty:TE}{a:Addr}{vs:List (Key×Value)}{kvs:List (Key×V)}{p pos:Pos} (hd:∀ h:Heap,X.K.In h→h.DictOf (mixKind X.prog X.w) a vs) (rel:KV kvs vs) (hg:Gl X x) (hm:X.mg x=some (.ref a)) (hi:PE X i ty) (hs:NoSl i) (hdb:(x == ("__debug__":Str))=false:=by decide):
  PE X (.Subscript (.Name x p) i pos) (tKGet kvs ty):=by
 constructor
 intro pins s σ H Q I h
 have ho:PE X (.Name x p) (tC (.ref a)):=pe_glob hg hm rfl hdb
 refine subD_of PySem.F.slot_dict_getitem.lookup hs (thn (ho pins s σ H (fun v H1=>v=.ref a∧ty σ H1 fun y H2=>∃ k v,y=kV k∧valV kvs k=some v∧Q v H2) I ⟨rfl,h⟩) fun u s1 ⟨x,H1,I1,rx,ex,q1⟩=>thn (hi pins s1 σ H1 _ I1 q1) fun iv s2 ⟨y,H2,I2,ry,k,v,ey,l,q2⟩=>?_)
 subst ex ey
 obtain rfl:u=Value.ref a:=rx
 have dd:=hd s2.heap I2.kIn
 refine ⟨?_,?_⟩
 ·obtain ⟨o,es,ep,e,hx,_⟩:=dd
  exact ⟨o,e,hx.1⟩
 ·obtain ⟨w',hw,rw'⟩:=RelO.some_of (v:=v) (o:=valueAt vs k) (by rw[← l];exact rel.val k)
  exact wpAny_getItem_of (kV_is ry) dd.mapOf hw ⟨v,H2,I2.tok _,rw',q2⟩
theorem op_notInK {X:Cx}{a:Addr}{vs:List (Key×Value)}{kvs:List (Key×V)} (hd:∀ h:Heap,X.K.In h→h.DictOf (mixKind X.prog X.w) a vs) (rel:KV kvs vs) (hz:(a == sysModules)=false):OpR X (compareOp .NotIn) (fun x y H Q=>∃ k,x=kV k∧y=.ref a∧Q (.bl (!(valV kvs k).isSome)) H):=by
 intro pins s σ H x y v u Q I rx ry h
 obtain ⟨k,rfl,rfl,q⟩:=h
 cases ry
 refine wpAny_notIn_of (kV_is rx) hz (hd _ I.kIn).mapOf ?_
 rw[← (rel.val k).isSome_eq]
 exact ⟨.bl _,H,I.tok _,rfl,q⟩
end L2
namespace L2
open PySem PySem.Spec PyProof.Rows
section
variable {X:Cx}{pins:List (Addr×Obj)}{σ:St}{H:Hp}{s:Shared}{A:Around}{E:Value→Shared→Prop}{Q:Value→Shared→Prop}{b:Bool}
theorem isinst_tup {x:V}{u t:Value}{q:Addr}{n1 n2:String} (I:Inv X pins σ H s) (rx:RelV x u) (ty:TyOf X.K H x t) (hq:H q=some (.tup [.ty n1,.ty n2])) (e:PySem.W.kitAny X.K t [.type n1,.type n2]=some b) (h:∀ tk,Q (.bool b) { s with toks:=tk }):
  wpAny (model X.prog X.w) A (call (.builtin "isinstance") [u,.ref q]) Q E s:=by
 obtain ⟨_,its,rv,hT⟩:ObjOk X.prog X.w H s.heap q (.tup [.ty n1,.ty n2]):=I.hok _ _ hq
 obtain ⟨⟨cls,dd,data,sl⟩,ho,hc,n,hd⟩:=id hT
 simp only at hc hd
 subst hc hd
 have hi:its=[.type n1,.type n2]:=by
  cases rv with
  | cons r1 rv=>
   cases rv with
   | cons r2 rv=>
    cases rv
    cases r1
    cases r2
    rfl
 subst hi
 cases ty with
 | non=>cases (show u=Value.none from rx);exact PySem.W.kia_tup PySem.W.kitx_none I.kIn True.intro ho e (fun z=>nomatch z) h
 | bl y=>cases (show u=Value.bool y from rx);exact PySem.W.kia_tup PySem.W.kitx_bool I.kIn True.intro ho e (fun z=>nomatch z) h
 | int i=>obtain ⟨t,q⟩:=(show ∃ t,u=Value.int i t from rx);cases q;exact PySem.W.kia_tup PySem.W.kitx_int I.kIn True.intro ho e (fun z=>nomatch z) h
 | str y=>obtain ⟨t,q⟩:=(show ∃ t,u=Value.str y t from rx);cases q;exact PySem.W.kia_tup PySem.W.kitx_str I.kIn True.intro ho e (fun z=>nomatch z) h
 | flt y=>obtain ⟨t,q⟩:=(show ∃ t,u=Value.float y t from rx);cases q;exact PySem.W.kia_tup PySem.W.kitx_float I.kIn True.intro ho e (fun z=>nomatch z) h
 | @lst a xs ea=>
  cases (show u=Value.ref a from rx)
  obtain ⟨_,_,n,_,h1⟩:=(show ObjOk X.prog X.w H s.heap a (.lst xs) from I.hok a _ ea)
  exact PySem.W.kia_tup PySem.W.kitx_list I.kIn ⟨_,h1,rfl⟩ ho e (fun z=>nomatch z) h
 | @frz a ob xs ea=>
  cases (show u=Value.ref a from rx)
  obtain ⟨_,_,_,n,_,h1⟩:=(show ObjOk X.prog X.w H s.heap a (.frz ob (.lst xs)) from I.hok a _ ea)
  exact PySem.W.kia_tup PySem.W.kitx_list I.kIn ⟨_,h1,rfl⟩ ho e (fun z=>nomatch z) h
 | @tup a xs ea=>
  cases (show u=Value.ref a from rx)
  obtain ⟨_,_,_,p⟩:=(show ObjOk X.prog X.w H s.heap a (.tup xs) from I.hok a _ ea)
  obtain ⟨o,h1,h2,_⟩:=p
  exact PySem.W.kia_tup PySem.W.kitx_tuple I.kIn ⟨o,h1,h2⟩ ho e (fun z=>nomatch z) h
 | @dK a kvs ea=>
  cases (show u=Value.ref a from rx)
  obtain ⟨_,_,vs,_,p⟩:=(show ObjOk X.prog X.w H s.heap a (.dK kvs) from I.hok a _ ea)
  obtain ⟨o,es,ep,h1,h2,_⟩:=p
  exact PySem.W.kia_tup PySem.W.kitx_dict I.kIn ⟨o,h1,h2.1⟩ ho e (fun z=>nomatch z) h
 | @dT a kvs ea=>
  cases (show u=Value.ref a from rx)
  obtain ⟨_,_,xs,_,o,es,ep,h1,h2,_⟩:=(show ObjOk X.prog X.w H s.heap a (.dT kvs) from I.hok a _ ea)
  exact PySem.W.kia_tup PySem.W.kitx_dict I.kIn ⟨o,h1,h2.1⟩ ho e (fun z=>nomatch z) h
 | @ins a C dx fs ea cl ha hn htk hm=>
  cases (show u=Value.ref a from rx)
  obtain ⟨mA,O,_⟩:=ins_get I.hok ea
  obtain ⟨od,J,_⟩:=O.look
  exact PySem.W.kia_tup (PySem.W.kitx_own (cl.get _) cl.hd ha hn htk hm) I.kIn J ho e (fun z=>nomatch z) h
inductive I_r_call_isinstT (K:PySem.W.Frag) (xs:List V) (H:Hp) (Q:VK):Prop
 | mk (x:_) (q:_) (n1:_) (n2:_) (t:_) (b:_) (q0:xs=[x,.ref q]) (q1:H q=some (.tup [.ty n1,.ty n2])) (q2:TyOf K H x t) (q3:PySem.W.kitAny K t [.type n1,.type n2]=some b) (q4:Q (.bl b) H):I_r_call_isinstT K xs H Q
def r_call_isinstT (K:PySem.W.Frag):List V→Hp→VK→Prop:=fun xs H Q=>I_r_call_isinstT K xs H Q
theorem call_isinstT:CallR X (.builtin "isinstance") (r_call_isinstT X.K):=by
 intro pins s σ H xs us Q I r h
 obtain ⟨x,q0,n1,n2,t,b,rfl,hq,ty,e,q⟩:=h
 obtain ⟨u,w',rfl,r1,r2⟩:=vals2 r
 cases r2
 exact isinst_tup I r1 ty hq e fun tk=>⟨.bl b,H,I.tok _,rfl,q⟩
end
end L2
namespace L2
open PySem PySem.Spec PyProof.Rows
theorem pe_bmK {X:Cx}{K:PySem.W.Frag}{o e:Expr}{es:List Expr}{to:TE}{t:TA}{name:Str}{apos cpos:Pos}{T id:String}{r:V→List V→Hp→VK→Prop} (pa:PlainAttrs T) (slot:Slot T name id) (hty:typeOf (.builtin id)=pure (.type "method_descriptor")) (hm:MtR X id r) (ho:PE X o to) (ha:PA X (e :: es) t) (hK:X.K=K:=by rfl)
  (hbase:attributeBase o name X.env (eval o X.env)=eval o X.env:=by rfl)
  (hfew:((backTo cpos (starEach (e :: es) X.env)).all (fun x=>!x.1) && (backToKw cpos (keywordEach [] X.env)).all (fun x=>x.1.isSome)
   && decide ((e :: es).length + ([]:List Keyword).length + (if ([]:List Keyword).isEmpty then 0 else 1) < 30))=true:=by rfl)
  (hline:(apos.endLine == cpos.line)=true:=by rfl) (hs:starEach (e :: es) X.env=(false,eval e X.env) :: starEach es X.env:=by rfl) (hplain:(backTo cpos (starEach es X.env)).any (·.1)=false:=by rfl):
  PE X (.Call (.Attribute o name apos) (e :: es) [] cpos) (tBM K T r to t):=by
 subst hK
 exact pe_bm pa slot hty hm ho ha hbase hfew hline hs hplain
theorem strsAre_of:∀ {ss:List Str}{us:List Value},Vals (ss.map V.str) us→StrsAre us ss
 | [],_,r=>by rw[List.map_nil] at r;cases r;exact .nil
 | s :: ss,_,r=>by
  rw[List.map_cons] at r
  cases r with
  | cons r1 r2=>
   obtain ⟨t,e⟩:=r1
   subst e
   exact .cons s t (strsAre_of r2)
theorem vals_of_strs:∀ {us:List Value}{ns:List Str},StrsAre us ns→Vals (ns.map V.str) us
 | _,_,.nil=>.nil
 | _,_,.cons i t r=>.cons ⟨t,rfl⟩ (vals_of_strs r)
inductive I_r_call_sortedS (K:PySem.W.Frag) (xs:List V) (H:Hp) (Q:VK):Prop
 | mk (p:Addr) (ns:List Str) (q0:xs=[.ref p]) (q1:SqL K H p (ns.map V.str)) (q2:ns.length < 64) (q3:∀ (l:Addr) (ms:List Str),H l=none→ms.Perm ns→sortedS ms=true→Q (.ref l) (upd H l (.lst (ms.map V.str)))):I_r_call_sortedS K xs H Q
def r_call_sortedS (K:PySem.W.Frag):List V→Hp→VK→Prop:=fun xs H Q=>I_r_call_sortedS K xs H Q
theorem call_sortedS {X:Cx}:CallR X (.builtin "sorted") (r_call_sortedS X.K):=by
 intro pins s σ H xs us Q I r h
 obtain ⟨p,ns,rfl,hx,h64,q⟩:=h
 obtain ⟨u,rfl,ru⟩:=vals1 r
 cases ru
 obtain ⟨its,rv,pl,_⟩:=I.list hx
 have hi:StrsAre its ns:=strsAre_of rv
 have hlen:=rv.length
 rw[List.length_map] at hlen
 refine sorted_strs pl.isList hi (by omega) fun out ms hI hp hs=>?_
 have hk:∀ b o,s.heap.get? b=some o→(sortedAll s.heap its out).get? b=some o:=fun b o e=>sortedAll_old e
 obtain ⟨e,he⟩:=sortedAll_at s.heap its out
 have hn:H (s.heap.objs.size + 1)=none:=I.hok.fresh (Nat.le_succ _)
 have hms:=hp.length_eq
 have hv:Vals (ms.map V.str) out.toList:=vals_of_strs hI
 refine ⟨.ref (s.heap.objs.size + 1),_,I.laid (t':=s.toks) (o:=.lst (ms.map V.str)) hk (Nat.le_succ _) ⟨sizeLine_big (by rw[List.length_map];omega),out.toList,e,hv,by rw[he] <;> rfl⟩,rfl,q _ ms hn hp hs⟩
end L2
namespace L2
open PySem PyProof.Rows
def SetTab (w:World) (es:Array (Int×Value)) (t:SetTable):Prop:=t.led=!w.params.followText "set-order"∧(es.size=0∨t.plain=false)
def SetP (prog:Program) (w:World) (h:Heap) (a:Addr) (S:Str→Bool) (n:Nat):Prop:=
 ∃ o es ep t,h.get? a=some o∧o.ExactSet∧o.data=.set es ep t∧ElemsOf (PySem.strKind prog w) es.toList∧(∀ k,S k=true↔∃ e∈es.toList,(PySem.strKind prog w).is k e.2=true)
  ∧es.size < scanBound∧t.fits es.size=true∧es.size=n∧SetTab w es t
theorem SetP.at {prog:Program}{w:World}{h h':Heap}{a:Addr}{S:Str→Bool}{n:Nat} (x:SetP prog w h a S n) (e:∀ o,h.get? a=some o→h'.get? a=some o):SetP prog w h' a S n:=by
 obtain ⟨o,es,ep,t,h1,r⟩:=x
 exact ⟨o,es,ep,t,e o h1,r⟩
theorem SetP.congr {prog:Program}{w:World}{h:Heap}{a:Addr}{S S':Str→Bool}{n n':Nat} (x:SetP prog w h a S n) (e:∀ k,S k=S' k) (en:n=n'):SetP prog w h a S' n':=by
 have e':S=S':=funext e
 subst e' en
 exact x
theorem orStandIn_led (t:SetTable) (n:Nat):(t.orStandIn n).led=t.led:=by
 unfold SetTable.orStandIn
 split <;> rfl
theorem layNew_led (t:SetTable) (es:Array (Int×Value)) (h:Int) (x:Value):(layNew t es h x).2.1.led=t.led:=by
 unfold layNew
 split
 ·exact orStandIn_led _ _
 ·rfl
theorem relayAll_kept (t:SetTable) (es:Array (Int×Value)) (n:Nat) (hp:t.plain=false):(relayAll t es n).2.1.led=t.led∧(relayAll t es n).2.1.plain=false:=by
 unfold relayAll
 split
 ·next t' ord e=>
  dsimp only
  split
  ·dsimp only
   unfold SetTable.relaid SetTable.laid at e
   cases hL:SetTable.layClean (SetTable.sizeAbove n - 1) (es.map (·.1)) with
   | none=>rw[hL] at e;cases e
   | some ow=>
    rw[hL] at e
    cases e
    exact ⟨rfl,hp⟩
  ·exact ⟨rfl,rfl⟩
 ·exact ⟨rfl,rfl⟩
theorem SetP.stored {prog:Program}{w:World}{h:Heap}{a:Addr}{o:Obj}{es:Array (Int×Value)}{ep:Nat}{t:SetTable} (ho:h.get? a=some o) (hex:o.ExactSet) (hd:o.data=.set es ep t)
  {es':Array (Int×Value)} {t':SetTable} {S':Str→Bool} (hel:ElemsOf (PySem.strKind prog w) es'.toList) (hmem:∀ k,S' k=true↔∃ e∈es'.toList,(PySem.strKind prog w).is k e.2=true) (hb:es'.size < scanBound) (hf:t'.fits es'.size=true) (hT:SetTab w es' t'):
  (h.update a (Obj.putSet es' t')).get? a=some { o with data:=.set es' (ep + 1) t' }∧SetP prog w (h.update a (Obj.putSet es' t')) a S' es'.size:=by
 obtain ⟨hg,_⟩:=SetOf_store (knd:=PySem.strKind prog w) (S':=S') ho hex hd hel hmem hb hf
 exact ⟨hg,_,es',ep + 1,t',hg,hex,rfl,hel,hmem,hb,hf,rfl,hT⟩
theorem add_P {prog:Program}{w:World}{A:Around}{E:Value→Shared→Prop}{s:Shared}{a:Addr}{S:Str→Bool}{n:Nat}{k:Str}{tk:Tok}{Q:Bool→Shared→Prop} (hS:SetP prog w s.heap a S n) (hroom:n + 1 < scanBound)
  (h:∀ h',Heap.SameBut a s.heap h'→SetP prog w h' a (fun k'=>S k' || decide (k'=k)) (if S k then n else n + 1)→Q (!S k) { s with heap:=h' }):
  wpAny (model prog w) A (setAddHashed a (.str k tk) ((PySem.strKind prog w).hash k)) Q E s:=by
 have hkey:=strKind_is prog w k tk
 obtain ⟨o,es,ep,t,ho,hex,hd,hel,hmem,hb,hf,hn,hTab⟩:=hS
 have hbS:es.size + 1 < scanBound:=by rw[hn];exact hroom
 unfold setAddHashed setAddHashedIn
 refine wpAny_holding (wpAny_bind (wpAny_setState_of ho hd hf ?_))
 dsimp only
 rw[byScan_of (x:=Value.str k tk) rfl hb hel,if_pos rfl]
 unfold setAddByScan
 refine wpAny_bind (wpAny_bind (wpAny_rule (wpAny_bind (wpAny_setScan_of hkey ho hd hf hel ?_))))
 cases hr:List.findIdx? (fun e=>(PySem.strKind prog w).is k e.2) es.toList with
 | some j=>
  dsimp only
  obtain ⟨hj,hpj,_⟩:=List.findIdx?_eq_some_iff_getElem.mp hr
  have hSk:S k=true:=(hmem k).mpr ⟨es.toList[j],List.getElem_mem hj,hpj⟩
  refine wpAny_pure (wpAny_pure ?_)
  have q:=h s.heap (Heap.SameBut.refl a s.heap) ⟨o,es,ep,t,ho,hex,hd,hel,fun z=>by
   rw[Bool.or_eq_true,decide_eq_true_eq,← hmem z]
   exact ⟨fun hz=>hz.elim id (fun e=>e ▸ hSk),.inl⟩,hb,hf,by rw[hSk];exact hn,hTab⟩
  rw[hSk] at q
  exact q
 | none=>
  dsimp only
  have hSk:S k=false:=by
   cases hz:S k with
   | false=>rfl
   | true=>
    obtain ⟨e,he,hp⟩:=(hmem k).mp hz
    have z:=List.findIdx?_eq_none_iff.mp hr e he
    rw[hp] at z
    exact Bool.noConfusion z
  have hperm:=layNew_perm t es ((PySem.strKind prog w).hash k) (Value.str k tk)
  have hfits:=layNew_fits t es ((PySem.strKind prog w).hash k) (Value.str k tk)
  have hled:=layNew_led t es ((PySem.strKind prog w).hash k) (Value.str k tk)
  generalize hL:layNew t es ((PySem.strKind prog w).hash k) (Value.str k tk)=L at hperm hfits hled ⊢
  obtain ⟨es1,t1,wasD,gave⟩:=L
  dsimp only at hperm hfits hled ⊢
  rw[Array.toList_push] at hperm
  have hel1:ElemsOf (PySem.strKind prog w) es1.toList:=(hel.push hkey rfl).perm hperm
  have hmem1:=mem_push_iff hkey hmem hperm
  have hsz1:es1.size=n + 1:=by rw[← Array.length_toList,hperm.length_eq,List.length_append,Array.length_toList,hn];rfl
  have hb1:es1.size < scanBound:=by rw[hsz1];exact hroom
  have gw:∀ (b:Bool) {s₁:Shared} {Q':Unit→Shared→Prop},Q' () s₁→wpAny (model prog w) A (match b with | true=>rule "set.scan.the-table-gave-way" | false=>pure ()) Q' E s₁:=fun b s₁ Q' hq=>by cases b <;> first | exact wpAny_pure hq | exact wpAny_rule hq
  have hend:∀ h',Heap.SameBut a s.heap h'→SetP prog w h' a (fun k'=>S k' || decide (k'=k)) es1.size→Q true { s with heap:=h' }:=fun h' x1 x2=>by
   have q:=h h' x1
   rw[hSk] at q
   rw[hsz1] at x2
   exact q x2
  have tail:∀ t2:SetTable,t2.led=t.led→t2.plain=false→t2.fits es1.size=true→
    wpAny (model prog w) A (do
     storeSet a es1 t2
     if (!wasD && t2.tooFull)=true then do
       (match (relayAll t2 es1 (SetTable.grown es1.size)).2.2 with | true=>rule "set.scan.the-table-gave-way" | false=>pure ())
       storeSet a (relayAll t2 es1 (SetTable.grown es1.size)).1 (relayAll t2 es1 (SetTable.grown es1.size)).2.1
       pure (some true)
      else pure (some true)) (fun r s'=>wpAny (model prog w) A (match r with | some added=>pure added | none=>setAddHashedIn a (.str k tk) ((PySem.strKind prog w).hash k) 99999) Q E s') E s:=by
   intro t2 l2 p2 f2
   refine wpAny_bind (wpAny_storeSet_of ho hd ?_ (fits_of_scanBound hb1))
   obtain ⟨ho1,hS1⟩:=SetP.stored (prog:=prog) (w:=w) ho hex hd hel1 hmem1 hb1 f2 ⟨by rw[l2];exact hTab.1,.inr p2⟩
   have sb1:=Heap.SameBut.update s.heap a (Obj.putSet es1 t2)
   split
   ·have hp:=relayAll_perm t2 es1 (SetTable.grown es1.size)
    have hfr:=relayAll_fits t2 es1 (SetTable.grown es1.size)
    obtain ⟨rl,rp⟩:=relayAll_kept t2 es1 (SetTable.grown es1.size) p2
    generalize relayAll t2 es1 (SetTable.grown es1.size)=R at hp hfr rl rp ⊢
    obtain ⟨es2,t3,g2⟩:=R
    dsimp only at hp hfr rl rp ⊢
    have hel2:ElemsOf (PySem.strKind prog w) es2.toList:=hel1.perm hp
    have hmem2:∀ z,(S z || decide (z=k))=true↔∃ e∈es2.toList,(PySem.strKind prog w).is z e.2=true:=fun z=>(hmem1 z).trans ⟨fun ⟨e,he,q⟩=>⟨e,hp.mem_iff.mpr he,q⟩,fun ⟨e,he,q⟩=>⟨e,hp.mem_iff.mp he,q⟩⟩
    have hsz2:es2.size=es1.size:=by rw[← Array.length_toList,hp.length_eq,Array.length_toList]
    have hb2:es2.size < scanBound:=by rw[hsz2];exact hb1
    refine wpAny_bind (gw _ (wpAny_bind (wpAny_storeSet_of ho1 rfl ?_ (fits_of_scanBound hb2))))
    obtain ⟨_,hS2⟩:=SetP.stored (prog:=prog) (w:=w) ho1 hex rfl hel2 hmem2 hb2 hfr ⟨by rw[rl,l2];exact hTab.1,.inr rp⟩
    rw[hsz2] at hS2
    exact wpAny_pure (wpAny_pure (hend _ (sb1.trans (Heap.SameBut.update _ a _)) hS2))
   ·exact wpAny_pure (wpAny_pure (hend _ sb1 hS1))
  refine wpAny_bind (gw _ ?_)
  split
  ·next hpl=>
   rw[hashByValue_scannable 8 (x:=Value.str k tk) rfl]
   refine wpAny_bind (wpAny_pure ?_)
   exact tail { t1 with plain:=false } hled rfl (SetTable.fits_plain_off hfits)
  ·next hpl=>
   refine wpAny_bind (wpAny_pure ?_)
   exact tail t1 hled (by simpa using hpl) hfits
end L2
namespace L2
open PySem PyProof.Rows
theorem tuple_push {h:Heap}{a:Addr}{items:Array Value} (x:h.IsTuple a items) (o:Obj):(h.push o).IsTuple a items:=by
 obtain ⟨u,hu,r⟩:=x
 exact ⟨u,Heap.get?_push_of_some o hu,r⟩
theorem loop_P {prog:Program}{w:World}{A:Around}{R:Result→Shared→Prop}{I:Addr}{fp wr:List Addr}{G:Array GenState→Array GenState→Prop}{n:Nat}{P:Nat→Value→Prop}{St:Nat→Shared→Prop}
  (W:WalksS prog w A.in1 I fp wr G n P St) (S:Addr) (hSf:¬ S∈fp) (val:Nat→Str) (hval:∀ (i:Nat) (v:Value),P i v→∃ t,v=Value.str (val i) t) (hb:n + 1 < scanBound):
  ∀ (k i:Nat) (s:Shared),n - i=k→i≤n→St i s→SetP prog w s.heap S (fun k'=>(metS val i).any fun x=>x == k') (metS val i).length→
   (∀ s':Shared,Moved (S :: wr) G s s'→SetP prog w s'.heap S (fun k'=>(metS val n).any fun x=>x == k') (metS val n).length→R (Except.ok (Flow.ret Value.none)) s')→
   codeAny (model prog w) A (Code.builtin "set.update.loop" { pos:=[Value.ref S,Value.ref I] }) R s:=by
 have hSw:¬ S∈wr:=fun h=>hSf (W.sub S h)
 have hsub:∀ b,b∈wr→b∈S :: wr:=fun b hb=>List.mem_cons_of_mem S hb
 intro k
 induction k with
 | zero=>
  intro i s hk hi hst hS hR
  have hin:i=n:=by omega
  subst hin
  refine codeAny_builtin PyProof.Rows.F.entry_set_update_loop ?_
  rw[Around.under_plainId PyProof.Rows.F.plain_set_update_loop]
  refine wpAny_bind (W.done s _ _ hst fun s' hm=>?_)
  refine wpAny_pure (hR s' (Moved.mono hm hsub) ?_)
  exact hS.at fun o ho=>hm.heap S o hSw ho
 | succ k ih=>
  intro i s hk hi hst hS hR
  have hlt:i < n:=by omega
  refine codeAny_builtin PyProof.Rows.F.entry_set_update_loop ?_
  rw[Around.under_plainId PyProof.Rows.F.plain_set_update_loop]
  refine wpAny_bind (W.item i s _ _ hlt hst fun v s' hP hst' hm=>?_)
  obtain ⟨t,rfl⟩:=hval i v hP
  have hS':SetP prog w s'.heap S (fun k'=>(metS val i).any fun x=>x == k') (metS val i).length:=by
   exact hS.at fun o ho=>hm.heap S o hSw ho
  have hroom:(metS val i).length + 1 < scanBound:=by
   have:=metS_le val i
   omega
  refine wpAny_bind (wpAny_holding (wpAny_holding (wpAny_bind ((PySem.strKind prog w).pyHash (strKind_is prog w (val i) t) ?_))))
  refine add_P hS' hroom fun h' hsb hS2=>?_
  refine wpAny_pure ⟨plainId_quiet PyProof.Rows.F.plain_set_update_loop _,?_⟩
  refine ih (i + 1) _ (by omega) hlt (W.frame (i + 1) s' h' _ hst' (Nat.le_succ s'.toks) fun b hb o e=>?_) ?_ fun s'' hm'' hS''=>?_
  ·rw[hsb.right b fun h=>hSf (h ▸ hb)]
   exact e
  ·refine hS2.congr (fun k'=>?_) ?_
   ·show _=((stepS _ _).any _)
    rw[stepS_any]
   ·show _=(stepS _ _).length
    rw[stepS_length]
  ·refine hR s'' (Moved.trans W.gtrans (Moved.then_heap (Moved.mono hm hsub) (Nat.le_succ s'.toks) fun b o hb e=>?_) hm'') hS''
   rw[hsb.right b fun h=>hb (h ▸ List.mem_cons_self)]
   exact e
theorem new_P {prog:Program}{w:World}{A:Around}{E:Value→Shared→Prop}{s:Shared} (a:Value) {Q₁:Value→Shared→Prop}
  (h:Q₁ (.ref s.heap.objs.size) { s with heap:=s.heap.push { cls:=.type "set",dict:=none,data:=.set #[] 0 (.fresh 0 0 (!w.params.followText "set-order")) } }):
  codeAny (model prog w) A (.call (.builtin "set.__new__") ⟨[.type "set",a],[]⟩) (wants Q₁ E) s:=by
 apply codeAny_of_tree
 show wpAny (model prog w) A.in1 (checkBuiltinCall "set.__new__" ⟨[.type "set",a],[]⟩ >>= fun _=>again (.builtin "set.__new__" ⟨[.type "set",a],[]⟩)) _ _ s
 apply wpAny_bind
 refine wpAny_of_eq (F.newCall_set_1 a) (wpAny_pure ⟨plainId_quiet F.plain_set_new _,?_⟩)
 apply codeAny_builtin F.entry_set_new
 rw[Around.under_plainId F.plain_set_new]
 unfold Builtin.«set.__new__» Builtin.Frozenset.newClass
 have hself:=sub_set_self
 obtain ⟨hp,gs,dr,tk,os⟩:=s
 dsimp only
 wp_walk
 apply wpAny_askSetting
 apply wpAny_pure
 dsimp only
 simp only [newObj]
 apply wpAny_bind
 apply wpAny_alloc
 exact wpAny_pure (wpAny_pure h)
theorem call_set_PL {prog:Program}{w:World}{A:Around}{E:Value→Shared→Prop}{s:Shared}{l:Addr}{items:Array Value}{val:Nat→Str}{Q:Value→Shared→Prop} (hh:A.handled=none) (hl:s.heap.IsList l items)
  (hi:∀ (i:Nat) (v:Value),items[i]?=some v→∃ t,v=Value.str (val i) t) (hb:items.size + 1 < scanBound)
  (h:∀ (h':Heap) (tk:Nat),SetP prog w h' s.heap.objs.size (fun k'=>(metS val items.size).any fun x=>x == k') (metS val items.size).length→
   (∀ (b:Nat) (o:Obj),b < s.heap.objs.size→s.heap.get? b=some o→h'.get? b=some o)→Q (Value.ref s.heap.objs.size) { s with heap:=h',toks:=tk }):
  wpAny (model prog w) A (call (Value.type "set") [Value.ref l]) Q E s:=by
 obtain ⟨c,tl,hmro⟩:=F.called_set.mro
 have hmade:=F.called_set.made
 have hsub:=F.called_set.sub
 have hct:=F.typeCall_set_1 (Value.ref l)
 refine wpAny_call (codeAny_of_tree (wpAny_pure ⟨Code.quiet_builtin _ (by decide),codeAny_builtin F.entry_type_call ?_⟩))
 rw[Around.under_plain (weight_type_call_type "set" [Value.ref l] []) rfl]
 unfold Builtin.«type.__call__»
 dsimp only
 refine wpAny_ite_false (by first | rfl | decide) ?_
 refine wpAny_ite_false (by first | rfl | decide) ?_
 refine wpAny_bind (wpAny_of_eq hct ?_)
 refine wpAny_bind (wpAny_of_eq hmro ?_)
 refine wpAny_ite_false (by first | rfl | decide) ?_
 refine wpAny_bind (wpAny_of_eq hmade ?_)
 refine wpAny_bind (wpAny_pure ?_)
 refine wpAny_bind (wpAny_holding (wpAny_call (codeAny_mono (new_P (Q₁:=fun obj s₁=>∃ led,led=(!w.params.followText "set-order")∧obj=Value.ref s.heap.objs.size∧s₁={ s with heap:=s.heap.push { cls:=Value.type "set",data:=Data.set #[] 0 (SetTable.fresh 0 0 led) } }) (E:=E) (Value.ref l) ⟨_,rfl,rfl,rfl⟩) fun r s₁ hr=>?_)))
 cases r with
 | error e=>exact hr
 | ok fl=>
  cases fl with
  | next=>exact hr.elim
  | brk=>exact hr.elim
  | cont=>exact hr.elim
  | ret v=>
   obtain ⟨led,hled,rfl,rfl⟩:=hr
   have hS:=Heap.get?_push_size s.heap (o:={ cls:=Value.type "set",data:=Data.set #[] 0 (SetTable.fresh 0 0 led) }) rfl
   have hT:Shared.TypeIs { s with heap:=s.heap.push { cls:=Value.type "set",data:=Data.set #[] 0 (SetTable.fresh 0 0 led) } } (Value.ref s.heap.objs.size) "set":=⟨_,hS,rfl⟩
   have hli:=F.called_set.init.lookup
   have hbi:=F.called_set.init.bind (Value.ref s.heap.objs.size)
   obtain ⟨ol,hol,hcl,nl,hdl⟩:=hl
   have hol':=Heap.get?_push_of_some { cls:=Value.type "set",data:=Data.set #[] 0 (SetTable.fresh 0 0 led) } hol
   have hl1:Heap.IsList (s.heap.push { cls:=Value.type "set",data:=Data.set #[] 0 (SetTable.fresh 0 0 led) }) l items:=⟨ol,hol',hcl,nl,hdl⟩
   refine wpAny_bind (wpAny_isInstance hT hsub ?_)
   refine wpAny_ite_false (by first | rfl | decide) ?_
   refine wpAny_bind (wpAny_holding ?_)
   unfold callSpecial?
   refine wpAny_bind (wpAny_specialOf hT hli ?_)
   dsimp only
   refine wpAny_holding ?_
   refine wpAny_bind (wpAny_of_eq hbi ?_)
   refine wpAny_bind (wpAny_call (codeAny_mono (codeAny_call_builtin F.called_set.init.plain F.entry_set_init (R:=fun r s'=>match r with | .ok (.ret v)=>v=.none∧Q (.ref s.heap.objs.size) s' | _=>False) (check_set_init_1 hT ?_)) fun r s₁ hr=>?_))
   ·unfold Builtin.«set.__init__»
    refine wpAny_bind (wpAny_ite_true (by first | rfl | decide) (wpAny_pure ?_))
    refine wpAny_bind (wpAny_bind (wpAny_bind (wpAny_typeOf hT (wpAny_ite_false (by first | rfl | decide) (wpAny_pure ?_)))))
    refine wpAny_pure ?_
    refine wpAny_bind ?_
    unfold checkCount
    refine wpAny_ite_false (by first | rfl | decide) ?_
    refine wpAny_ite_false (by first | rfl | decide) ?_
    refine wpAny_ite_false (by first | rfl | decide) (wpAny_pure ?_)
    refine wpAny_bind (wpAny_pure ?_)
    refine wpAny_bind ?_
    unfold setUsed setState
    refine wpAny_bind (wpAny_bind (wpAny_load' hS ?_))
    dsimp only
    refine wpAny_ite_false (by first | rfl | decide) (wpAny_pure ?_)
    refine wpAny_pure ?_
    refine wpAny_ite_false (by first | rfl | decide) ?_
    show wpAny _ _ (do let __r ← Builtin.Frozenset.updateFrom "set.__init__" s.heap.objs.size (Value.ref l);ret Value.none) _ _ _
    refine wpAny_bind ?_
    unfold Builtin.Frozenset.updateFrom
    refine wpAny_bind ?_
    have hTl:Shared.TypeIs { s with heap:=s.heap.push { cls:=Value.type "set",data:=Data.set #[] 0 (SetTable.fresh 0 0 led) } } (Value.ref l) "list":=⟨ol,hol',hcl⟩
    unfold Builtin.Frozenset.isAnySet
    refine wpAny_bind (wpAny_isInstance hTl F.sub_list_set ?_)
    refine wpAny_isInstance hTl F.sub_list_frozenset ?_
    refine wpAny_ite_false (by first | rfl | decide) ?_
    refine wpAny_bind (wpAny_typeOf hTl ?_)
    refine wpAny_ite_false (by first | rfl | decide) ?_
    refine wpAny_bind (wpAny_pyIter_list hl1 ?_)
    refine wpAny_bind (wpAny_runValue ?_)
    have hlS:l < s.heap.objs.size:=Heap.lt_size hol
    have hsz:(s.heap.push { cls:=Value.type "set",data:=Data.set #[] 0 (SetTable.fresh 0 0 led) }).objs.size=s.heap.objs.size + 1:=Heap.size_push _ _
    have hneI:l≠(s.heap.push { cls:=Value.type "set",data:=Data.set #[] 0 (SetTable.fresh 0 0 led) }).objs.size:=by rw[hsz];exact Nat.ne_of_lt (Nat.lt_succ_of_lt hlS)
    have hSf:¬ s.heap.objs.size∈[(s.heap.push { cls:=Value.type "set",data:=Data.set #[] 0 (SetTable.fresh 0 0 led) }).objs.size,l]:=by
     rw[hsz]
     simp only [List.mem_cons,List.not_mem_nil,or_false,not_or]
     exact ⟨Nat.ne_of_lt (Nat.lt_succ_self _),Nat.ne_of_gt hlS⟩
    have hh3:A.in1.in1.in1.handled=none:=hh
    refine loop_P (Walks.toS (Walks.list hh3 _ l hneI items)) s.heap.objs.size hSf val hi hb (items.size - 0) 0 _ rfl (Nat.zero_le _) ⟨⟨_,Heap.get?_push_size _ rfl,rfl,rfl⟩,Heap.IsList.push hl1 _⟩ ?_ ?_
    ·have hget:=Heap.get?_push_of_some { cls:=Value.type "list_iterator",data:=Data.fields #[Value.ref l,Value.int 0 0] } hS
     exact ⟨_,#[],0,_,hget,⟨rfl,rfl,rfl⟩,rfl,(fun e he=>by simp at he),(fun k=>by show (false=true)↔_;simp),(by decide),rfl,rfl,hled,.inl rfl⟩
    ·rintro ⟨h',g',d',tk',os'⟩ hm hS'
     refine wpAny_pure (wpAny_pure ⟨rfl,?_⟩)
     have e1:=hm.gens
     have e2:=hm.drawn
     have e3:=hm.os
     dsimp only at e1 e2 e3
     subst e1 e2 e3
     refine h h' tk' hS' fun b o hb e=>hm.heap b o ?_ ?_
     ·simp only [List.mem_cons,List.not_mem_nil,or_false,not_or]
      rw[hsz]
      exact ⟨Nat.ne_of_lt hb,Nat.ne_of_lt (Nat.lt_succ_of_lt hb)⟩
     ·exact Heap.get?_push_of_some _ (Heap.get?_push_of_some _ e)
   ·cases r with
    | error e=>exact hr.elim
    | ok fl=>
     cases fl with
     | next=>exact hr.elim
     | brk=>exact hr.elim
     | cont=>exact hr.elim
     | ret v=>
      obtain ⟨rfl,q⟩:=hr
      refine wpAny_pure ?_
      refine wpAny_ite_false (by first | rfl | decide) ?_
      exact wpAny_pure q
theorem call_set_PT {prog:Program}{w:World}{A:Around}{E:Value→Shared→Prop}{s:Shared}{l:Addr}{items:Array Value}{val:Nat→Str}{Q:Value→Shared→Prop} (hh:A.handled=none) (hl:s.heap.IsTuple l items)
  (hi:∀ (i:Nat) (v:Value),items[i]?=some v→∃ t,v=Value.str (val i) t) (hb:items.size + 1 < scanBound)
  (h:∀ (h':Heap) (tk:Nat),SetP prog w h' s.heap.objs.size (fun k'=>(metS val items.size).any fun x=>x == k') (metS val items.size).length→
   (∀ (b:Nat) (o:Obj),b < s.heap.objs.size→s.heap.get? b=some o→h'.get? b=some o)→Q (Value.ref s.heap.objs.size) { s with heap:=h',toks:=tk }):
  wpAny (model prog w) A (call (Value.type "set") [Value.ref l]) Q E s:=by
 obtain ⟨c,tl,hmro⟩:=F.called_set.mro
 have hmade:=F.called_set.made
 have hsub:=F.called_set.sub
 have hct:=F.typeCall_set_1 (Value.ref l)
 refine wpAny_call (codeAny_of_tree (wpAny_pure ⟨Code.quiet_builtin _ (by decide),codeAny_builtin F.entry_type_call ?_⟩))
 rw[Around.under_plain (weight_type_call_type "set" [Value.ref l] []) rfl]
 unfold Builtin.«type.__call__»
 dsimp only
 refine wpAny_ite_false (by first | rfl | decide) ?_
 refine wpAny_ite_false (by first | rfl | decide) ?_
 refine wpAny_bind (wpAny_of_eq hct ?_)
 refine wpAny_bind (wpAny_of_eq hmro ?_)
 refine wpAny_ite_false (by first | rfl | decide) ?_
 refine wpAny_bind (wpAny_of_eq hmade ?_)
 refine wpAny_bind (wpAny_pure ?_)
 refine wpAny_bind (wpAny_holding (wpAny_call (codeAny_mono (new_P (Q₁:=fun obj s₁=>∃ led,led=(!w.params.followText "set-order")∧obj=Value.ref s.heap.objs.size∧s₁={ s with heap:=s.heap.push { cls:=Value.type "set",data:=Data.set #[] 0 (SetTable.fresh 0 0 led) } }) (E:=E) (Value.ref l) ⟨_,rfl,rfl,rfl⟩) fun r s₁ hr=>?_)))
 cases r with
 | error e=>exact hr
 | ok fl=>
  cases fl with
  | next=>exact hr.elim
  | brk=>exact hr.elim
  | cont=>exact hr.elim
  | ret v=>
   obtain ⟨led,hled,rfl,rfl⟩:=hr
   have hS:=Heap.get?_push_size s.heap (o:={ cls:=Value.type "set",data:=Data.set #[] 0 (SetTable.fresh 0 0 led) }) rfl
   have hT:Shared.TypeIs { s with heap:=s.heap.push { cls:=Value.type "set",data:=Data.set #[] 0 (SetTable.fresh 0 0 led) } } (Value.ref s.heap.objs.size) "set":=⟨_,hS,rfl⟩
   have hli:=F.called_set.init.lookup
   have hbi:=F.called_set.init.bind (Value.ref s.heap.objs.size)
   obtain ⟨ol,hol,hcl,nl,hdl⟩:=hl
   have hol':=Heap.get?_push_of_some { cls:=Value.type "set",data:=Data.set #[] 0 (SetTable.fresh 0 0 led) } hol
   have hl1:Heap.IsTuple (s.heap.push { cls:=Value.type "set",data:=Data.set #[] 0 (SetTable.fresh 0 0 led) }) l items:=⟨ol,hol',hcl,nl,hdl⟩
   refine wpAny_bind (wpAny_isInstance hT hsub ?_)
   refine wpAny_ite_false (by first | rfl | decide) ?_
   refine wpAny_bind (wpAny_holding ?_)
   unfold callSpecial?
   refine wpAny_bind (wpAny_specialOf hT hli ?_)
   dsimp only
   refine wpAny_holding ?_
   refine wpAny_bind (wpAny_of_eq hbi ?_)
   refine wpAny_bind (wpAny_call (codeAny_mono (codeAny_call_builtin F.called_set.init.plain F.entry_set_init (R:=fun r s'=>match r with | .ok (.ret v)=>v=.none∧Q (.ref s.heap.objs.size) s' | _=>False) (check_set_init_1 hT ?_)) fun r s₁ hr=>?_))
   ·unfold Builtin.«set.__init__»
    refine wpAny_bind (wpAny_ite_true (by first | rfl | decide) (wpAny_pure ?_))
    refine wpAny_bind (wpAny_bind (wpAny_bind (wpAny_typeOf hT (wpAny_ite_false (by first | rfl | decide) (wpAny_pure ?_)))))
    refine wpAny_pure ?_
    refine wpAny_bind ?_
    unfold checkCount
    refine wpAny_ite_false (by first | rfl | decide) ?_
    refine wpAny_ite_false (by first | rfl | decide) ?_
    refine wpAny_ite_false (by first | rfl | decide) (wpAny_pure ?_)
    refine wpAny_bind (wpAny_pure ?_)
    refine wpAny_bind ?_
    unfold setUsed setState
    refine wpAny_bind (wpAny_bind (wpAny_load' hS ?_))
    dsimp only
    refine wpAny_ite_false (by first | rfl | decide) (wpAny_pure ?_)
    refine wpAny_pure ?_
    refine wpAny_ite_false (by first | rfl | decide) ?_
    show wpAny _ _ (do let __r ← Builtin.Frozenset.updateFrom "set.__init__" s.heap.objs.size (Value.ref l);ret Value.none) _ _ _
    refine wpAny_bind ?_
    unfold Builtin.Frozenset.updateFrom
    refine wpAny_bind ?_
    have hTl:Shared.TypeIs { s with heap:=s.heap.push { cls:=Value.type "set",data:=Data.set #[] 0 (SetTable.fresh 0 0 led) } } (Value.ref l) "tuple":=⟨ol,hol',hcl⟩
    unfold Builtin.Frozenset.isAnySet
    refine wpAny_bind (wpAny_isInstance hTl F.sub_tuple_set ?_)
    refine wpAny_isInstance hTl F.sub_tuple_frozenset ?_
    refine wpAny_ite_false (by first | rfl | decide) ?_
    refine wpAny_bind (wpAny_typeOf hTl ?_)
    refine wpAny_ite_false (by first | rfl | decide) ?_
    refine wpAny_bind (wpAny_pyIter_tuple hl1 ?_)
    refine wpAny_bind (wpAny_runValue ?_)
    have hlS:l < s.heap.objs.size:=Heap.lt_size hol
    have hsz:(s.heap.push { cls:=Value.type "set",data:=Data.set #[] 0 (SetTable.fresh 0 0 led) }).objs.size=s.heap.objs.size + 1:=Heap.size_push _ _
    have hneI:l≠(s.heap.push { cls:=Value.type "set",data:=Data.set #[] 0 (SetTable.fresh 0 0 led) }).objs.size:=by rw[hsz];exact Nat.ne_of_lt (Nat.lt_succ_of_lt hlS)
    have hSf:¬ s.heap.objs.size∈[(s.heap.push { cls:=Value.type "set",data:=Data.set #[] 0 (SetTable.fresh 0 0 led) }).objs.size,l]:=by
     rw[hsz]
     simp only [List.mem_cons,List.not_mem_nil,or_false,not_or]
     exact ⟨Nat.ne_of_lt (Nat.lt_succ_self _),Nat.ne_of_gt hlS⟩
    have hh3:A.in1.in1.in1.handled=none:=hh
    refine loop_P (Walks.toS (Walks.tuple hh3 _ l hneI items)) s.heap.objs.size hSf val hi hb (items.size - 0) 0 _ rfl (Nat.zero_le _) ⟨⟨_,Heap.get?_push_size _ rfl,rfl,rfl⟩,tuple_push hl1 _⟩ ?_ ?_
    ·have hget:=Heap.get?_push_of_some { cls:=Value.type "tuple_iterator",data:=Data.fields #[Value.ref l,Value.int 0 0] } hS
     exact ⟨_,#[],0,_,hget,⟨rfl,rfl,rfl⟩,rfl,(fun e he=>by simp at he),(fun k=>by show (false=true)↔_;simp),(by decide),rfl,rfl,hled,.inl rfl⟩
    ·rintro ⟨h',g',d',tk',os'⟩ hm hS'
     refine wpAny_pure (wpAny_pure ⟨rfl,?_⟩)
     have e1:=hm.gens
     have e2:=hm.drawn
     have e3:=hm.os
     dsimp only at e1 e2 e3
     subst e1 e2 e3
     refine h h' tk' hS' fun b o hb e=>hm.heap b o ?_ ?_
     ·simp only [List.mem_cons,List.not_mem_nil,or_false,not_or]
      rw[hsz]
      exact ⟨Nat.ne_of_lt hb,Nat.ne_of_lt (Nat.lt_succ_of_lt hb)⟩
     ·exact Heap.get?_push_of_some _ (Heap.get?_push_of_some _ e)
   ·cases r with
    | error e=>exact hr.elim
    | ok fl=>
     cases fl with
     | next=>exact hr.elim
     | brk=>exact hr.elim
     | cont=>exact hr.elim
     | ret v=>
      obtain ⟨rfl,q⟩:=hr
      refine wpAny_pure ?_
      refine wpAny_ite_false (by first | rfl | decide) ?_
      exact wpAny_pure q
end L2
namespace L2
open PySem PyProof.Rows
theorem erase_permL {α:Type}:∀ (l:List α) (j:Nat) (y:α),l[j]?=some y→(y :: l.eraseIdx j).Perm l
 | [],j,y,h=>by simp at h
 | x :: r,0,y,h=>by
  simp at h
  subst h
  simp
 | x :: r,j + 1,y,h=>by
  simp at h
  rw[List.eraseIdx_cons_succ]
  exact (List.Perm.swap x y _).trans ((erase_permL r j y h).cons x)
theorem wp_draw {M:Model}{A:Around}{Q:Nat→Shared→Prop}{E:Value→Shared→Prop}{s:Shared}{src:Source}{n:Nat} (hn:n≠0) (h:∀ i d,i < n→Q i { s with drawn:=d }):wpAny M A (choose src n) Q E s:=
 fun _ _ _=>⟨hn,h _ _ (Nat.mod_lt _ (Nat.pos_of_ne_zero hn))⟩
theorem draw_order {α:Type}{M:Model}{A:Around}{E:Value→Shared→Prop}:∀ (n:Nat) (xs:List α) (s:Shared) (Q:List α→Shared→Prop),xs.length=n→(∀ ys d,ys.Perm xs→Q ys { s with drawn:=d })→wpAny M A (drawOrder n xs) Q E s:=by
 intro n
 induction n with
 | zero=>
  intro xs s Q hl h
  obtain rfl:xs=[]:=List.eq_nil_of_length_eq_zero hl
  exact wpAny_pure (h [] s.drawn (List.Perm.refl _))
 | succ n ih=>
  intro xs s Q hl h
  cases xs with
  | nil=>simp at hl
  | cons x r=>
   unfold drawOrder
   refine wpAny_bind (wp_draw (by simp) fun i d hi=>?_)
   obtain ⟨y,hy⟩:∃ y,(x :: r)[i]?=some y:=⟨_,List.getElem?_eq_getElem hi⟩
   rw[hy]
   dsimp only
   refine wpAny_bind (ih _ _ _ (by rw[List.length_eraseIdx_of_lt hi];simp at hl ⊢;exact hl) fun ys d' hp=>wpAny_pure (h _ _ ((hp.cons y).trans (erase_permL _ i y hy))))
theorem slot_si_next:Slot "set_iterator" "__next__" "set_iterator.__next__":=
 .of (owner:="set_iterator") (n:="__next__") (by rw[typeLookup_type,builtinLookup_eq_fast];kernel_rfl) (by decide) (by decide) (by decide) (by first | exact .inl (by decide) | exact .inr (by decide)) (by rw[isSubtype_type];kernel_rfl)
theorem slot_si_iter:Slot "set_iterator" "__iter__" "set_iterator.__iter__":=
 .of (owner:="set_iterator") (n:="__iter__") (by rw[typeLookup_type,builtinLookup_eq_fast];kernel_rfl) (by decide) (by decide) (by decide) (by first | exact .inl (by decide) | exact .inr (by decide)) (by rw[isSubtype_type];kernel_rfl)
theorem entry_si_next:entryFor table "set_iterator.__next__"=some Builtin.«set_iterator.__next__»:=entryFor_of_tree (by kernel_rfl)
theorem entry_si_iter:entryFor table "set_iterator.__iter__"=some Builtin.«dict_keyiterator.__iter__»:=entryFor_alias (id':="dict_keyiterator.__iter__") (by kernel_rfl) rfl (by decide) (by kernel_rfl)
theorem entry_set_iterF:entryFor table "set.__iter__"=some Builtin.«frozenset.__iter__»:=entryFor_alias (id':="frozenset.__iter__") (by kernel_rfl) rfl (by decide) (by kernel_rfl)
theorem owner_si:Manifest.owners.lookup (String.ofList ("set_iterator".toList.reverse).reverse)=some Manifest.sig_set_iterator:=by kernel_rfl
theorem args_si_next (a:Value):argsOk "set_iterator.__next__" ⟨[a],[]⟩:=by
 unfold argsOk
 rw[signature?_of (id:="set_iterator.__next__") (n:="__next__".toList.reverse) (o:="set_iterator".toList.reverse) (by kernel_rfl) owner_si]
 kernel_rfl
theorem args_si_iter (a:Value):argsOk "set_iterator.__iter__" ⟨[a],[]⟩:=by
 unfold argsOk
 rw[signature?_of (id:="set_iterator.__iter__") (n:="__iter__".toList.reverse) (o:="set_iterator".toList.reverse) (by kernel_rfl) owner_si]
 kernel_rfl
def siObj (first:Value) (i:Nat) (S:Addr) (n ep:Nat):Obj:={ cls:=.type "set_iterator",dict:=none,data:=.fields #[first,.int i 0,.ref S,.int n 0,.int ep 0],slots:=#[] }
section
variable {prog:Program}{w:World}{A:Around}{E:Value→Shared→Prop}{s:Shared}{I S T:Addr}{i m ep:Nat}{o ot:Obj}{es:Array (Int×Value)}{t:SetTable}{places:Array Value}{x:Value}
theorem raise_stop {M:Model}{B:Around}{E':Value→Shared→Prop}{Q:Fin→Shared→Prop}{s:Shared} (hh:B.handled=none) (h:∀ (e:Value) (h':Heap),(∀ b u,s.heap.get? b=some u→h'.get? b=some u)→Shared.TypeIs { s with heap:=h' } e "StopIteration"→E' e { s with heap:=h' }):
  wpAny M B (newExc (.type "StopIteration") [] >>= fun e=>raiseNew e) Q E' s:=by
 refine wpAny_bind ?_
 simp only [newExc,newTuple]
 apply wpAny_bind
 refine wpAny_newObj_type ?_ (by size_fits)
 apply wpAny_bind (m:=firstArgMember _ _)
 refine wpAny_of_eq (a:=Value.none) (by first | rfl | (simp only [firstArgMember];rfl)) ?_
 refine wpAny_newObj_type (h:=?_) (by size_fits)
 simp only [raiseNew]
 refine wpAny_bind (wpAny_handled ?_)
 rw[hh]
 refine wpAny_bind (wpAny_pure (wpAny_throw (h (.ref _) _ (fun b u e=>Heap.get?_push_of_some _ (Heap.get?_push_of_some _ e)) ⟨_,Heap.get?_push_size _ rfl,rfl⟩)))
theorem si_item_D (hI:s.heap.get? I=some (siObj (.ref T) i S es.size ep)) (hS:s.heap.get? S=some o) (hd:o.data=.set es ep t) (hf:t.fits es.size=true) (hT:s.heap.get? T=some ot) (hTd:ot.data=.seq places m) {p:Nat}{tk:Tok}{hs:Int} (hp:places[i]?=some (.int p tk)) (hx:es[p]?=some (hs,x)) {Q:Option Value→Shared→Prop}
  (hQ:∀ h',h'.get? I=some (siObj (.ref T) (i + 1) S es.size ep)→Heap.SameBut I s.heap h'→Q (some x) { s with heap:=h' }):wpAny (model prog w) A (pyNext (.ref I)) Q E s:=by
 have hty:s.TypeIs (.ref I) "set_iterator":=⟨_,hI,rfl⟩
 unfold pyNext
 apply wpAny_bind
 apply wpAny_attempt
 refine wpAny_callSpecial?_slot (name:=Str.ofString "__next__") hty slot_si_next (wpAny_call_entry slot_si_next hty entry_si_next ?_ (args_si_next _))
 unfold Builtin.«set_iterator.__next__»
 refine wpAny_bind (wpAny_pure ?_)
 refine wpAny_bind (wpAny_fieldsOf hI rfl ?_)
 dsimp only
 refine wpAny_bind (wpAny_setEntries_of hS hd hf ?_)
 rw[if_neg (show ¬ ((((es.size:Nat):Int) != ((es.size:Nat):Int))=true) by simp)]
 refine wpAny_bind (wpAny_seqItems hT hTd ?_)
 dsimp only
 rw[show ((i:Nat):Int).toNat=i from Int.toNat_natCast i,hp]
 dsimp only
 unfold setNextDrawn
 refine wpAny_bind (wpAny_bind (wpAny_setState_of hS hd hf ?_))
 dsimp only
 rw[if_neg (show ¬ ((ep != ((ep:Nat):Int).toNat)=true) by simp)]
 rw[show ((p:Nat):Int).toNat=p from Int.toNat_natCast p,hx]
 refine wpAny_pure ?_
 refine wpAny_bind (wpAny_setField hI rfl (by simp[siObj]) (wpAny_pure ⟨x,rfl,wpAny_pure (hQ _ ?_ (Heap.SameBut.update ..))⟩))
 rw[Heap.get?_update_self _ hI (Obj.isFreed_of_fields (Obj.data_mapFields rfl _))]
 rfl
theorem si_end_D (hh:A.handled=none) (hI:s.heap.get? I=some (siObj (.ref T) i S es.size ep)) (hS:s.heap.get? S=some o) (hd:o.data=.set es ep t) (hf:t.fits es.size=true) (hT:s.heap.get? T=some ot) (hTd:ot.data=.seq places m) (hp:places[i]?=none) {Q:Option Value→Shared→Prop}
  (hQ:∀ h',(∀ b u,b≠I→s.heap.get? b=some u→h'.get? b=some u)→Q none { s with heap:=h' }):wpAny (model prog w) A (pyNext (.ref I)) Q E s:=by
 have hty:s.TypeIs (.ref I) "set_iterator":=⟨_,hI,rfl⟩
 unfold pyNext
 apply wpAny_bind
 apply wpAny_attempt
 refine wpAny_callSpecial?_slot (name:=Str.ofString "__next__") hty slot_si_next (wpAny_call_entry slot_si_next hty entry_si_next ?_ (args_si_next _))
 unfold Builtin.«set_iterator.__next__»
 refine wpAny_bind (wpAny_pure ?_)
 refine wpAny_bind (wpAny_fieldsOf hI rfl ?_)
 dsimp only
 refine wpAny_bind (wpAny_setEntries_of hS hd hf ?_)
 rw[if_neg (show ¬ ((((es.size:Nat):Int) != ((es.size:Nat):Int))=true) by simp)]
 refine wpAny_bind (wpAny_seqItems hT hTd ?_)
 dsimp only
 rw[show ((i:Nat):Int).toNat=i from Int.toNat_natCast i,hp]
 dsimp only
 refine wpAny_bind (wpAny_setField hI rfl (by simp[siObj]) ?_)
 have hI2:=Heap.get?_update_self (Obj.mapFields (·.setIfInBounds 0 (rawInt 0))) hI (Obj.isFreed_of_fields (Obj.data_mapFields rfl _))
 refine wpAny_bind (wpAny_setField hI2 (Obj.data_mapFields rfl _) (by simp[siObj]) ?_)
 refine raise_stop (show A.in1.handled=none from hh) fun e h' k hE=>?_
 refine wpAny_bind (wpAny_isInstance (T:="StopIteration") (b:=true) hE isSubtype_stop ?_)
 refine wpAny_pure (hQ h' fun b u nb hb=>k b u ?_)
 exact (Heap.SameBut.update _ I _).extBut b u nb ((Heap.SameBut.update _ I _).extBut b u nb hb)
theorem si_item_N {sl nx:Nat} (hI:s.heap.get? I=some (siObj (rawInt sl) i S es.size ep)) (hS:s.heap.get? S=some o) (hd:o.data=.set es ep t) (hf:t.fits es.size=true)
  (hN:∀ (B:Around) (E':Value→Shared→Prop) (Q':Option (Value×Nat)→Shared→Prop),Q' (some (x,nx)) s→wpAny (model prog w) B (setNext S sl i ep) Q' E' s) {Q:Option Value→Shared→Prop}
  (hQ:∀ h',h'.get? I=some (siObj (rawInt nx) (i + 1) S es.size ep)→Heap.SameBut I s.heap h'→Q (some x) { s with heap:=h' }):wpAny (model prog w) A (pyNext (.ref I)) Q E s:=by
 have hty:s.TypeIs (.ref I) "set_iterator":=⟨_,hI,rfl⟩
 unfold pyNext
 apply wpAny_bind
 apply wpAny_attempt
 refine wpAny_callSpecial?_slot (name:=Str.ofString "__next__") hty slot_si_next (wpAny_call_entry slot_si_next hty entry_si_next ?_ (args_si_next _))
 unfold Builtin.«set_iterator.__next__»
 refine wpAny_bind (wpAny_pure ?_)
 refine wpAny_bind (wpAny_fieldsOf hI rfl ?_)
 dsimp only
 refine wpAny_bind (wpAny_setEntries_of hS hd hf ?_)
 rw[if_neg (show ¬ ((((es.size:Nat):Int) != ((es.size:Nat):Int))=true) by simp)]
 dsimp only [rawInt]
 refine wpAny_bind ?_
 rw[show ((i:Nat):Int).toNat=i from Int.toNat_natCast i,show ((sl:Nat):Int).toNat=sl from Int.toNat_natCast sl,show ((ep:Nat):Int).toNat=ep from Int.toNat_natCast ep]
 refine hN _ _ _ ?_
 dsimp only
 refine wpAny_bind (wpAny_setField hI rfl (by simp[siObj]) ?_)
 have hI2:=Heap.get?_update_self (Obj.mapFields (·.setIfInBounds 0 (rawInt nx))) hI (Obj.isFreed_of_fields (Obj.data_mapFields rfl _))
 refine wpAny_bind (wpAny_setField hI2 (Obj.data_mapFields rfl _) (by simp[siObj]) (wpAny_pure ⟨x,rfl,wpAny_pure (hQ _ ?_ ((Heap.SameBut.update ..).trans (Heap.SameBut.update ..)))⟩))
 exact (Heap.get?_update_self _ hI2 (Obj.isFreed_of_fields (Obj.data_mapFields (Obj.data_mapFields rfl _) _))).trans rfl
theorem si_end_N {sl:Nat} (hh:A.handled=none) (hI:s.heap.get? I=some (siObj (rawInt sl) i S es.size ep)) (hS:s.heap.get? S=some o) (hd:o.data=.set es ep t) (hf:t.fits es.size=true)
  (hN:∀ (B:Around) (E':Value→Shared→Prop) (Q':Option (Value×Nat)→Shared→Prop),Q' none s→wpAny (model prog w) B (setNext S sl i ep) Q' E' s) {Q:Option Value→Shared→Prop}
  (hQ:∀ h',(∀ b u,b≠I→s.heap.get? b=some u→h'.get? b=some u)→Q none { s with heap:=h' }):wpAny (model prog w) A (pyNext (.ref I)) Q E s:=by
 have hty:s.TypeIs (.ref I) "set_iterator":=⟨_,hI,rfl⟩
 unfold pyNext
 apply wpAny_bind
 apply wpAny_attempt
 refine wpAny_callSpecial?_slot (name:=Str.ofString "__next__") hty slot_si_next (wpAny_call_entry slot_si_next hty entry_si_next ?_ (args_si_next _))
 unfold Builtin.«set_iterator.__next__»
 refine wpAny_bind (wpAny_pure ?_)
 refine wpAny_bind (wpAny_fieldsOf hI rfl ?_)
 dsimp only
 refine wpAny_bind (wpAny_setEntries_of hS hd hf ?_)
 rw[if_neg (show ¬ ((((es.size:Nat):Int) != ((es.size:Nat):Int))=true) by simp)]
 dsimp only [rawInt]
 refine wpAny_bind ?_
 rw[show ((i:Nat):Int).toNat=i from Int.toNat_natCast i,show ((sl:Nat):Int).toNat=sl from Int.toNat_natCast sl,show ((ep:Nat):Int).toNat=ep from Int.toNat_natCast ep]
 refine hN _ _ _ ?_
 dsimp only
 refine wpAny_bind (wpAny_setField hI rfl (by simp[siObj]) ?_)
 refine raise_stop (show A.in1.handled=none from hh) fun e h' k hE=>?_
 refine wpAny_bind (wpAny_isInstance (T:="StopIteration") (b:=true) hE isSubtype_stop ?_)
 refine wpAny_pure (hQ h' fun b u nb hb=>k b u ?_)
 exact (Heap.SameBut.update _ I _).extBut b u nb hb
theorem si_self {first:Value} (hI:s.heap.get? I=some (siObj first i S es.size ep)) {Q:Value→Shared→Prop} (h:Q (.ref I) s):wpAny (model prog w) A (pyIter (.ref I)) Q E s:=by
 have hty:s.TypeIs (.ref I) "set_iterator":=⟨_,hI,rfl⟩
 refine wpAny_pyIter_slot hty slot_si_iter (wpAny_call_entry slot_si_iter hty entry_si_iter ?_ (args_si_iter _))
 exact wpAny_pure ⟨_,rfl,"set_iterator",_,hty,slot_si_next.lookup,h⟩
end
end L2
namespace L2
open PySem PyProof.Rows
theorem pick_perm {α:Type} (next:Nat→Nat):∀ (fuel k:Nat) (left:List α) (out:Array α),left.length=fuel→(pickOrder.go next fuel k left out).toList.Perm (out.toList ++ left)
 | 0,k,[],out,_=>by
  unfold pickOrder.go
  rw[List.append_nil]
 | fuel + 1,k,x :: r,out,hl=>by
  unfold pickOrder.go
  have hi:next k % (x :: r).length < (x :: r).length:=Nat.mod_lt _ (by simp)
  obtain ⟨y,hy⟩:∃ y,(x :: r)[next k % (x :: r).length]?=some y:=⟨_,List.getElem?_eq_getElem hi⟩
  rw[hy]
  dsimp only
  refine (pick_perm next fuel (k + 1) _ _ (by rw[List.length_eraseIdx_of_lt hi];simp at hl ⊢;exact hl)).trans ?_
  rw[Array.toList_push,List.append_assoc]
  exact List.Perm.append_left _ (erase_permL _ _ y hy)
theorem pickOrder_perm {α:Type} (next:Nat→Nat) (xs:Array α):(pickOrder next xs).toList.Perm xs.toList:=by
 unfold pickOrder
 have h:=pick_perm next xs.size 0 xs.toList #[] (by simp)
 simpa using h
section
variable {prog:Program}{w:World}{A:Around}{I S T:Addr}{m ep:Nat}{o ot:Obj}{es:Array (Int×Value)}{t:SetTable}{places:Array Value}
theorem walk_D (hh:A.handled=none) (hS:S≠I) (hT:T≠I) (hd:o.data=.set es ep t) (hf:t.fits es.size=true) (hTd:ot.data=.seq places m) (hp:∀ i,i < places.size→∃ (p:Nat) (tk:Tok) (z:Int×Value),places[i]?=some (.int p tk)∧es[p]?=some z):
  Walks prog w A I [I,S,T] [I] places.size (fun i v=>∃ (p:Nat) (tk:Tok) (z:Int),places[i]?=some (.int p tk)∧es[p]?=some (z,v)) (fun i h=>h.get? I=some (siObj (.ref T) i S es.size ep)∧h.get? S=some o∧h.get? T=some ot) where
 sub:=fun b hb=>by simp at hb;simp[hb]
 frame:=fun _ _ _ st hk=>⟨hk I (by simp) _ st.1,hk S (by simp) _ st.2.1,hk T (by simp) _ st.2.2⟩
 item:=fun i s Q E hi st hQ=>by
  obtain ⟨p,tk,⟨z,v⟩,h1,h2⟩:=hp i hi
  refine si_item_D st.1 st.2.1 hd hf st.2.2 hTd h1 h2 fun h' hI sb=>?_
  exact hQ v h' s.toks ⟨p,tk,z,h1,h2⟩ ⟨hI,sb.extBut S _ hS st.2.1,sb.extBut T _ hT st.2.2⟩ fun b u nb e=>sb.extBut b u (by simpa using nb) e
 done:=fun s Q E st hQ=>si_end_D hh st.1 st.2.1 hd hf st.2.2 hTd (by simp) fun h' k=>hQ h' s.toks fun b u nb e=>k b u (by simpa using nb) e
 self:=fun i s Q E st hQ=>si_self st.1 hQ
theorem walk_N (hh:A.handled=none) (hS:S≠I) (hd:o.data=.set es ep t) (hf:t.fits es.size=true) (sl:Nat→Nat) (ord:List Value)
  (hN:∀ (i:Nat) (s:Shared),s.heap.get? S=some o→i≤ord.length→∀ (B:Around) (E':Value→Shared→Prop) (Q':Option (Value×Nat)→Shared→Prop),Q' ((ord[i]?).map fun v=>(v,sl (i + 1))) s→wpAny (model prog w) B (setNext S (sl i) i ep) Q' E' s):
  Walks prog w A I [I,S] [I] ord.length (fun i v=>ord[i]?=some v) (fun i h=>h.get? I=some (siObj (rawInt (sl i)) i S es.size ep)∧h.get? S=some o) where
 sub:=fun b hb=>by simp at hb;simp[hb]
 frame:=fun _ _ _ st hk=>⟨hk I (by simp) _ st.1,hk S (by simp) _ st.2⟩
 item:=fun i s Q E hi st hQ=>by
  obtain ⟨v,hv⟩:∃ v,ord[i]?=some v:=⟨_,List.getElem?_eq_getElem hi⟩
  refine si_item_N (x:=v) (nx:=sl (i + 1)) st.1 st.2 hd hf (fun B E' Q' q=>hN i s st.2 (Nat.le_of_lt hi) B E' Q' (by rw[hv];exact q)) fun h' hI sb=>?_
  exact hQ v h' s.toks hv ⟨hI,sb.extBut S _ hS st.2⟩ fun b u nb e=>sb.extBut b u (by simpa using nb) e
 done:=fun s Q E st hQ=>si_end_N hh st.1 st.2 hd hf (fun B E' Q' q=>hN _ s st.2 (Nat.le_refl _) B E' Q' (by rw[List.getElem?_eq_none (Nat.le_refl _)];exact q)) fun h' k=>hQ h' s.toks fun b u nb e=>k b u (by simpa using nb) e
 self:=fun i s Q E st hQ=>si_self st.1 hQ
structure ItOk (prog:Program) (w:World) (A:Around) (S:Addr) (el:List Value) (s s2:Shared) (I:Addr):Prop where
 w:∃ (fp:List Addr) (P:Nat→Value→Prop) (St:Nat→Heap→Prop),Walks prog w A I fp [I] el.length P St∧St 0 s2.heap∧I∈fp∧(∀ b∈fp,b < s2.heap.objs.size∧(b=S∨s.heap.objs.size≤b))∧∀ acc,ItemsOf P acc el.length→acc.toList.Perm el
 keep:∀ b u,s.heap.get? b=some u→s2.heap.get? b=some u
 new:s.heap.objs.size≤I
 gens:s2.gens=s.gens
 os:s2.os=s.os
 toks:s2.toks=s.toks
theorem items_of {ord:List Value}{acc:Array Value} (h:ItemsOf (fun i v=>ord[i]?=some v) acc ord.length):acc.toList=ord:=by
 obtain ⟨hl,h⟩:=h
 apply List.ext_getElem?
 intro j
 by_cases hj:j < acc.size
 ·have:=h j acc[j] (by simp[hj])
  rw[this]
  simp[hj]
 ·rw[List.getElem?_eq_none (by simpa using hj),List.getElem?_eq_none (by omega)]
end
end L2
namespace L2
open PySem PyProof.Rows
section
variable {prog:Program}{w:World}{A:Around}{S:Addr}{ep:Nat}{o:Obj}{es:Array (Int×Value)}{t:SetTable}
theorem walk_places {ys:List Nat}{n:Nat} (hp:ys.Perm (List.range n)) (hn:n=es.size):∀ i,i < (ys.map fun (i:Nat)=>rawInt i).toArray.size→∃ (p:Nat) (tk:Tok) (z:Int×Value),(ys.map fun (i:Nat)=>rawInt i).toArray[i]?=some (.int p tk)∧es[p]?=some z:=by
 intro i hi
 have hi':i < ys.length:=by simpa using hi
 have hm:ys[i]∈List.range n:=hp.mem_iff.mp (List.getElem_mem hi')
 have hlt:ys[i] < es.size:=by rw[← hn];exact List.mem_range.mp hm
 exact ⟨ys[i],0,es[ys[i]],by simp[hi',rawInt],by simp[hlt]⟩
theorem items_places {ys:List Nat}{n:Nat} (hp:ys.Perm (List.range n)) (hn:n=es.size) {acc:Array Value} (h:ItemsOf (fun i v=>∃ (p:Nat) (tk:Tok) (z:Int),(ys.map fun (i:Nat)=>rawInt i).toArray[i]?=some (.int p tk)∧es[p]?=some (z,v)) acc ys.length):acc.toList.Perm (es.toList.map (·.2)):=by
 have e:acc.toList=ys.map fun p=>(es.toList.getD p (0,.none)).2:=by
  apply List.ext_getElem?
  intro j
  by_cases hj:j < ys.length
  ·have hj':j < acc.size:=by rw[h.1];exact hj
   obtain ⟨p,tk,z,h1,h2⟩:=h.2 j acc[j] (by simp[hj'])
   simp[hj,rawInt] at h1
   obtain ⟨h1,_⟩:=h1
   have h1':ys[j]=p:=by exact_mod_cast h1
   rw[List.getElem?_map,List.getElem?_eq_getElem hj,h1']
   have h2':es.toList[p]?=some (z,acc[j]):=by simpa using h2
   simp[List.getD,h2,h2',hj']
  ·rw[List.getElem?_eq_none (by have:=h.1;simp;omega),List.getElem?_eq_none (by simpa using hj)]
 rw[e]
 refine (hp.map _).trans (List.Perm.of_eq ?_)
 apply List.ext_getElem?
 intro j
 rw[List.getElem?_map,List.getElem?_map]
 by_cases hj:j < n
 ·rw[List.getElem?_range hj]
  have hj':j < es.size:=by omega
  simp[List.getD,hj']
 ·rw[List.getElem?_eq_none (by simpa using hj),List.getElem?_eq_none (by simp;omega)]
  rfl
theorem set_iter (hh:A.handled=none) (hcls:o.cls=.type "set") (hd:o.data=.set es ep t) (hf:t.fits es.size=true) (hb:es.size < scanBound) (hTab:SetTab w es t) {E:Value→Shared→Prop}{s:Shared}{R:Value→Shared→Prop} (hS:s.heap.get? S=some o)
  (h:∀ (I:Addr) (s2:Shared),ItOk prog w A S (es.toList.map (·.2)) s s2 I→R (.ref I) s2):wpAny (model prog w) A (pyIter (.ref S)) R E s:=by
 have hty:s.TypeIs (.ref S) "set":=⟨_,hS,hcls⟩
 have hlt:=Heap.lt_size hS
 refine wpAny_pyIter_slot hty F.slot_set_iter (wpAny_call_entry F.slot_set_iter hty entry_set_iterF ?_ (F.args_set_iter_1 _))
 unfold Builtin.«frozenset.__iter__» Builtin.Frozenset.slot0 Builtin.Frozenset.sizeOf
 refine wpAny_bind (wpAny_bind (wpAny_pure (wpAny_pure ?_)))
 refine wpAny_bind (wpAny_bind (wpAny_setEntries_of hS hd hf (wpAny_pure ?_)))
 refine wpAny_bind ?_
 unfold setDrawn setsByText
 refine wpAny_bind (wpAny_setState_of hS hd hf (wpAny_bind (wpAny_bind (wpAny_askSetting (wpAny_pure (wpAny_pure ?_))))))
 have hlen:(es.toList.map (·.2)).length=es.size:=by simp
 have fin:(∀ (i:Nat) (s:Shared),s.heap.get? S=some o→i≤es.size→True)→∀ (sl:Nat→Nat) (ord:List Value),sl 0=0→ord.Perm (es.toList.map (·.2))→
   (∀ (i:Nat) (s:Shared),s.heap.get? S=some o→i≤ord.length→∀ (B:Around) (E':Value→Shared→Prop) (Q':Option (Value×Nat)→Shared→Prop),Q' ((ord[i]?).map fun v=>(v,sl (i + 1))) s→wpAny (model prog w) B (setNext S (sl i) i ep) Q' E' s)→
   wpAny (model prog w) A.in1 (do ret (← newFields "set_iterator" [rawInt 0,rawInt 0,.ref S,rawInt es.size,rawInt (← setEpoch S)])) (fun fin s'=>∃ v,fin=.done (.ret v)∧∃ T' r,s'.TypeIs v T'∧typeLookup (.type T') "__next__"=pure (some r)∧R v s') E s:=by
  intro _ sl ord h0 hperm hN
  refine wpAny_bind (wpAny_setEpoch_of hS hd hf ?_)
  refine wpAny_bind (wpAny_newObj_type (wpAny_pure ⟨_,rfl,"set_iterator",_,⟨_,Heap.get?_push_size _ rfl,rfl⟩,slot_si_next.lookup,h _ _ ?_⟩))
  have hol:ord.length=(es.toList.map (·.2)).length:=hperm.length_eq
  refine ⟨⟨[s.heap.objs.size,S],_,_,hol ▸ walk_N hh (Nat.ne_of_lt hlt) hd hf sl ord hN,⟨by rw[h0];exact Heap.get?_push_size _ rfl,Heap.get?_push_of_some _ hS⟩,by simp,?_,fun acc ha=>?_⟩,fun b u e=>Heap.get?_push_of_some _ e,Nat.le_refl _,rfl,rfl,rfl⟩
  ·intro b hb
   rw[Heap.size_push]
   simp at hb
   rcases hb with rfl | rfl
   ·exact ⟨Nat.lt_succ_self _,.inr (Nat.le_refl _)⟩
   ·exact ⟨Nat.lt_succ_of_lt hlt,.inl rfl⟩
  ·rw[← hol] at ha
   rw[items_of ha]
   exact hperm
 dsimp only
 cases hft:(model prog w).w.params.followText "set-order" with
 | true=>
  rw[if_neg (by simp)]
  refine wpAny_bind (wpAny_pure ?_)
  refine fin (fun _ _ _ _=>trivial) (fun _=>0) ((pickOrder ((model prog w).w.params.setOrder S ep) es).toList.map (·.2)) rfl ((pickOrder_perm _ es).map _) fun i s1 hS1 hi B E' Q' q=>?_
  unfold setNext setsByText setWalk setsByText
  refine wpAny_bind (wpAny_setState_of hS1 hd hf ?_)
  refine wpAny_bind (wpAny_bind (wpAny_askSetting (wpAny_pure ?_)))
  dsimp only
  rw[hft,if_pos rfl]
  rw[if_neg (show ¬ ((ep != ep)=true) by simp)]
  refine wpAny_bind (wpAny_bind (wpAny_setState_of hS1 hd hf ?_))
  refine wpAny_bind (wpAny_bind (wpAny_askSetting (wpAny_pure ?_)))
  dsimp only
  rw[hft,if_pos rfl]
  refine wpAny_bind (wpAny_askSetting (wpAny_pure (wpAny_pure ?_)))
  simpa [Function.comp_def] using q
 | false=>
  by_cases h1:es.size > 1
  ·have hpl:t.plain=false:=hTab.2.resolve_left (by omega)
   refine wpAny_ite_true (decide_eq_true (show ((!false) && (!t.plain && decide (es.size > 1)))=true by rw[hpl];simp[h1])) ?_
   refine wpAny_bind (draw_order es.size (List.range es.size) s _ (by simp) fun ys d hperm=>?_)
   have hyl:ys.length=es.size:=by rw[hperm.length_eq];simp
   refine wpAny_bind (wpAny_newTuple ?_ (by rw[List.length_map,hyl];exact fits_of_scanBound hb))
   have hS1:(s.heap.push { cls:=.type "tuple",data:=.seq (ys.map fun (i:Nat)=>rawInt i).toArray }).get? S=some o:=Heap.get?_push_of_some _ hS
   refine wpAny_bind (wpAny_setEpoch_of hS1 hd hf ?_)
   refine wpAny_bind (wpAny_newObj_type (wpAny_pure ⟨_,rfl,"set_iterator",_,⟨_,Heap.get?_push_size _ rfl,rfl⟩,slot_si_next.lookup,h _ _ ?_⟩))
   have esz:(s.heap.push { cls:=.type "tuple",data:=.seq (ys.map fun (i:Nat)=>rawInt i).toArray }).objs.size=s.heap.objs.size + 1:=Heap.size_push _ _
   have epl:(ys.map fun (i:Nat)=>rawInt i).toArray.size=(es.toList.map (·.2)).length:=by simp[hyl]
   have hw:=walk_D (prog:=prog) (w:=w) (A:=A) (I:=(s.heap.push { cls:=.type "tuple",data:=.seq (ys.map fun (i:Nat)=>rawInt i).toArray }).objs.size) (S:=S) (T:=s.heap.objs.size) (o:=o) (ot:={ cls:=.type "tuple",data:=.seq (ys.map fun (i:Nat)=>rawInt i).toArray }) hh (by rw[esz];exact Nat.ne_of_lt (Nat.lt_succ_of_lt hlt)) (by rw[esz];exact Nat.ne_of_lt (Nat.lt_succ_self _)) hd hf rfl (walk_places hperm rfl)
   rw[epl] at hw
   refine ⟨⟨_,_,_,hw,⟨Heap.get?_push_size _ rfl,Heap.get?_push_of_some _ hS1,Heap.get?_push_of_some _ (Heap.get?_push_size _ rfl)⟩,by simp,?_,fun acc ha=>?_⟩,fun b u e=>Heap.get?_push_of_some _ (Heap.get?_push_of_some _ e),by dsimp only;rw[esz];exact Nat.le_succ _,rfl,rfl,rfl⟩
   ·intro b hb
    have h3:b=s.heap.objs.size + 1∨b=S∨b=s.heap.objs.size:=by
     rw[esz] at hb
     simpa using hb
    dsimp only
    rw[Heap.size_push,esz]
    rcases h3 with rfl | rfl | rfl
    ·exact ⟨Nat.lt_succ_self _,.inr (Nat.le_succ _)⟩
    ·exact ⟨Nat.lt_succ_of_lt (Nat.lt_succ_of_lt hlt),.inl rfl⟩
    ·exact ⟨Nat.lt_succ_of_lt (Nat.lt_succ_self _),.inr (Nat.le_refl _)⟩
   ·rw[← epl,List.size_toArray,List.length_map] at ha
    exact items_places hperm rfl ha
  ·refine wpAny_ite_false (decide_eq_false (show ¬ (((!false) && (!t.plain && decide (es.size > 1)))=true) by simp[h1])) ?_
   refine wpAny_bind (wpAny_pure ?_)
   have hdr:(!t.plain && decide (es.size > 1))=false:=by simp[h1]
   have hled:t.led=true:=by
    have z:=hTab.1
    rw[show w.params.followText "set-order"=false from hft] at z
    exact z
   have hpz:t.place.size=es.size:=by
    unfold SetTable.fits at hf
    simp at hf
    exact hf.1
   refine fin (fun _ _ _ _=>trivial) (fun i=>if i=0 then 0 else t.place.getD 0 0 + 1) (es.toList.map (·.2)) rfl (List.Perm.refl _) fun i s1 hS1 hi B E' Q' q=>?_
   unfold setNext setsByText
   refine wpAny_bind (wpAny_setState_of hS1 hd hf ?_)
   refine wpAny_bind (wpAny_bind (wpAny_askSetting (wpAny_pure ?_)))
   dsimp only
   rw[hft,if_neg (by simp)]
   refine wpAny_ite_false (decide_eq_false (show ¬ ((!t.plain && decide (es.size > 1))=true) by rw[hdr];simp)) ?_
   refine wpAny_bind (wpAny_ite_false (decide_eq_false (show ¬ ((!t.led && !es.isEmpty)=true) by rw[hled];simp)) (wpAny_pure (wpAny_pure ?_)))
   have hcase:es.size=0∨es.size=1:=by omega
   rcases hcase with hz | hz
   ·have hes:es=#[]:=Array.eq_empty_of_size_eq_zero hz
    have hpl:t.place=#[]:=Array.eq_empty_of_size_eq_zero (by omega)
    subst hes
    have hi0:i=0:=by simpa using hi
    subst hi0
    rw[hpl]
    simpa [SetTable.below,SetTable.below.go] using q
   ·obtain ⟨e,hes⟩:=Array.size_eq_one_iff.mp hz
    obtain ⟨j,hpl⟩:=Array.size_eq_one_iff.mp (hpz.trans hz)
    subst hes
    have hi1:i=0∨i=1:=by
     have:i≤1:=by simpa using hi
     omega
    rw[hpl] at q ⊢
    rcases hi1 with rfl | rfl
    ·simpa [SetTable.below,SetTable.below.go] using q
    ·simpa [SetTable.below,SetTable.below.go] using q
end
end L2
namespace L2
open PySem PyProof.Rows
section
variable {prog:Program}{w:World}{A:Around}{S:Addr}{ep:Nat}{o:Obj}{es:Array (Int×Value)}{t:SetTable}
theorem collect_set (hh:A.handled=none) (hcls:o.cls=.type "set") (hd:o.data=.set es ep t) (hf:t.fits es.size=true) (hb:es.size < scanBound) (hTab:SetTab w es t) {E:Value→Shared→Prop}{s:Shared}{Q:List Value→Shared→Prop} (hS:s.heap.get? S=some o)
  (h:∀ (acc:List Value) (h':Heap) (d:Drawn) (tk:Nat),acc.Perm (es.toList.map (·.2))→(∀ b u,s.heap.get? b=some u→h'.get? b=some u)→s.heap.objs.size < h'.objs.size→Q acc { s with heap:=h',drawn:=d,toks:=tk }):wpAny (model prog w) A (collect (.ref S)) Q E s:=by
 have hlt:=Heap.lt_size hS
 unfold collect
 apply wpAny_bind
 apply wpAny_runValue
 apply codeAny_builtin F.entry_proto_collect
 rw[Around.under_plainId F.plain_proto_collect]
 show wpAny _ A.in1 (newList [] >>= fun l=>again (.builtin "list.__iadd__" ⟨[l,.ref S],[]⟩)) _ _ s
 apply wpAny_bind
 refine wpAny_newObj_type (wpAny_pure ⟨plainId_quiet F.plain_list_iadd _,codeAny_builtin F.entry_list_iadd ?_⟩)
 rw[Around.under_plainId F.plain_list_iadd]
 have hS1:(s.heap.push { cls:=.type "list",data:=.seq ([]:List Value).toArray }).get? S=some o:=Heap.get?_push_of_some _ hS
 have hL1:(s.heap.push { cls:=.type "list",data:=.seq ([]:List Value).toArray }).get? s.heap.objs.size=some { cls:=.type "list",data:=.seq ([]:List Value).toArray }:=Heap.get?_push_size _ rfl
 have e1:Builtin.List.listSameRef (.ref s.heap.objs.size) (.ref S)=false:=by
  show (s.heap.objs.size == S)=false
  simpa using Nat.ne_of_gt hlt
 show wpAny _ A.in1 (Builtin.List.listExtendWith (.ref s.heap.objs.size) (.ref S) (.ref s.heap.objs.size)) _ _ _
 unfold Builtin.List.listExtendWith
 refine wpAny_bind (wpAny_typeOf (T:="set") ⟨o,hS1,hcls⟩ ?_)
 rw[if_neg (by rw[e1];decide)]
 refine wpAny_bind (set_iter (A:=A.in1) hh hcls hd hf hb hTab hS1 fun I s2 it=>?_)
 have hS2:=it.keep S o hS1
 have hL2:=it.keep _ _ hL1
 refine wpAny_bind (wpAny_holding ?_)
 unfold Builtin.List.listLengthHint
 refine wpAny_bind (wpAny_specialOf (T:="set") ⟨o,hS2,hcls⟩ F.slot_set_len.lookup ?_)
 generalize hid:("set.__len__":String)=id0
 wp_delta
 rw[show splitId id0=some ("set","__len__") from by subst hid;decide]
 subst hid
 refine wpAny_bind (wpAny_isInstance (b:=true) (T:="set") ⟨o,hS2,hcls⟩ sub_set_self ?_)
 refine wpAny_ite_false (by rfl) ?_
 refine wpAny_ite_true (by decide) ?_
 refine wpAny_bind (wpAny_typeOf (T:="set") ⟨o,hS2,hcls⟩ ?_)
 refine wpAny_pure ?_
 refine wpAny_ite_true (by decide) ?_
 refine wpAny_bind (wpAny_rule ?_)
 obtain ⟨fp,P,St,W,st0,hI,hfp,hit⟩:=it.w
 have esz:(s.heap.push { cls:=.type "list",data:=.seq ([]:List Value).toArray }).objs.size=s.heap.objs.size + 1:=Heap.size_push _ _
 have hLf:s.heap.objs.size ∉ fp:=fun hm=>by
  rcases (hfp _ hm).2 with z | z
  ·exact absurd z (Nat.ne_of_gt hlt)
  ·dsimp only at z
   rw[esz] at z
   exact absurd z (Nat.not_succ_le_self _)
 apply wpAny_bind
 show wpAny _ A.in1 (updateSeq s.heap.objs.size (·.push .none) >>= fun _=>updateSeq s.heap.objs.size (·.pop)) _ _ _
 apply wpAny_bind
 refine wpAny_updateSeq hL2 rfl ?_
 have hL3:=Heap.get?_update_self (Obj.mapSeq (·.push Value.none)) hL2 rfl
 refine wpAny_updateSeq hL3 rfl ?_
 have hL4:=Heap.get?_update_self (Obj.mapSeq (·.pop)) hL3 rfl
 have oth:∀ b u,b≠s.heap.objs.size→s2.heap.get? b=some u→((s2.heap.update s.heap.objs.size (Obj.mapSeq (·.push Value.none))).update s.heap.objs.size (Obj.mapSeq (·.pop))).get? b=some u:=
  fun b u nb e=>(Heap.get?_update_other _ _ (Ne.symm nb)).trans ((Heap.get?_update_other _ _ (Ne.symm nb)).trans e)
 have hel:(es.toList.map (·.2)).length≤sizeLine:=by
  rw[List.length_map,Array.length_toList]
  exact fits_of_scanBound hb
 refine wpAny_pure ⟨plainId_quiet F.plain_extend_loop _,codeAny_extend_loopS (Walks.toS W) hel s.heap.objs.size hLf _ _ 0 _ _ _ rfl (Nat.zero_le _) (W.frame 0 _ _ st0 fun b hb u e=>oth b u (fun z=>hLf (z ▸ hb)) e) hL4 (ItemsOf.nil P) fun s' acc' c' hm hS' hacc=>?_⟩
 show wpAny _ A (load s.heap.objs.size >>= _) _ _ s'
 apply wpAny_bind
 refine wpAny_load hS' (wpAny_pure ?_)
 obtain ⟨h',g',d',tk',os'⟩:=s'
 have g1:=hm.gens
 have g2:=hm.os
 dsimp only at g1 g2
 have g3:=it.gens
 have g4:=it.os
 rw[g3] at g1
 rw[g4] at g2
 dsimp only at g1 g2
 subst g1 g2
 refine h acc'.toList h' d' tk' (hit acc' hacc) (fun b u e=>?_) (Heap.lt_size hS')
 have hbl:=Heap.lt_size e
 have nb:b≠s.heap.objs.size:=Nat.ne_of_lt hbl
 have nI:b≠I:=fun z=>by
  have z2:=it.new
  dsimp only at z2
  rw[esz,← z] at z2
  exact absurd (Nat.lt_trans hbl z2) (Nat.lt_irrefl _)
 refine hm.heap b u (by simp[nb,nI]) (oth b u nb (it.keep b u (Heap.get?_push_of_some _ e)))
end
end L2
namespace L2
open PySem PyProof.Rows
theorem perm_of_full {α:Type} [DecidableEq α]:∀ (L M:List α),L.Nodup→(∀ x∈L,x∈M)→M.length=L.length→M.Perm L
 | [],M,_,_,hl=>by
  have:M=[]:=List.eq_nil_of_length_eq_zero hl
  rw[this]
 | x :: r,M,hn,hm,hl=>by
  obtain ⟨hx,hr⟩:=List.nodup_cons.mp hn
  have hxM:=hm x (by simp)
  have ih:=perm_of_full r (M.erase x) hr (fun y hy=>(List.mem_erase_of_ne (show y≠x from fun z=>hx (by rw[← z];exact hy))).mpr (hm y (by simp[hy]))) (by rw[List.length_erase_of_mem hxM,hl];simp)
  exact (List.perm_cons_erase hxM).trans (ih.cons x)
section
variable {prog:Program}{w:World}{A:Around}{S:Addr}{E:Value→Shared→Prop}{s:Shared}
theorem sorted_setP (hh:A.handled=none) {f:Str→Bool}{n:Nat} (hS:SetP prog w s.heap S f n) {L0:List Str} (hnd:L0.Nodup) (hmem:∀ k,f k=true↔k∈L0) (hn:n=L0.length) (h64:n < 64) {Q:Value→Shared→Prop}
  (h:∀ (l:Addr) (h':Heap) (d:Drawn) (tk e:Nat) (out:Array Value) (ms:List Str),s.heap.objs.size≤l→(∀ b u,s.heap.get? b=some u→h'.get? b=some u)→h'.get? l=some (seqObj "list" out e)→StrsAre out.toList ms→ms.Perm L0→sortedS ms=true→Q (.ref l) { s with heap:=h',drawn:=d,toks:=tk }):
  wpAny (model prog w) A (call (.builtin "sorted") [.ref S]) Q E s:=by
 obtain ⟨o,es,ep,t,ho,hex,hd,hel,hm,hb,hf,hsz,hTab⟩:=hS
 refine Calls.call_function_entry kind_sorted plain_sorted entry_sorted (args_sorted1 _) ?_
 unfold Builtin.«sorted»
 apply wpAny_bind (m:=checkCount "sorted" 1 1 _)
 apply wpAny_pure
 refine wpAny_bind (collect_set (A:=A.in1) hh hex.1 hd hf hb hTab ho fun acc h1 d tk hp hk hgr=>?_)
 have hall:∀ v,v∈acc→∃ x t,v=.str x t:=fun v hv=>by
  obtain ⟨e,he,rfl⟩:=List.mem_map.mp (hp.mem_iff.mp hv)
  obtain ⟨⟨k,hk,_⟩,_⟩:=hel e he
  obtain ⟨t,ht⟩:=Value.isStrOf_shape hk
  exact ⟨k,t,ht⟩
 have hA:=strsAre_map acc hall
 have hlen:acc.length=n:=by rw[hp.length_eq,List.length_map,Array.length_toList];exact hsz
 have hM:(acc.map strOf).Perm L0:=by
  refine ((hp.map strOf)).trans (perm_of_full L0 _ hnd (fun x hx=>?_) (by rw[List.length_map,List.length_map,Array.length_toList,hsz,hn]))
  obtain ⟨e,he,hk⟩:=(hm x).mp ((hmem x).mpr hx)
  obtain ⟨t,ht⟩:=Value.isStrOf_shape hk
  exact List.mem_map.mpr ⟨e.2,List.mem_map.mpr ⟨e,he,rfl⟩,by rw[ht];rfl⟩
 have z64:acc.length≤sizeLine:=by rw[sizeLine_eq];omega
 apply wpAny_bind
 refine wpAny_newList ?_ z64
 have hoL:(h1.push (seqObj "list" acc.toArray 0)).get? h1.objs.size=some (seqObj "list" acc.toArray 0):=Heap.get?_push_size _ rfl
 refine wpAny_bind (wpAny_holding (wpAny_call_entry slot_list_sort ⟨_,hoL,rfl⟩ entry_list_sort (list_sort_treeK strKind_oneLt hoL hA.keysOf (fun v₁ v₂ rest e=>keyKind_strs (by rw[← e];exact hA)) (by omega) fun st' a1 a2=>⟨_,rfl,?_⟩) (args_list_sort _)))
 obtain ⟨ms,b1,b2,b3⟩:=sorted_out_str hA a1 a2
 refine wpAny_pure ⟨_,rfl,?_⟩
 obtain ⟨e,he⟩:=sortedHeap_at (vs:=acc) (out:=(arrOf st').map (·.2)) hoL
 have hszl:s.heap.objs.size≤h1.objs.size:=Nat.le_of_lt hgr
 refine h _ _ d tk e _ ms hszl (fun b u eb=>?_) he b1 (b2.trans hM) b3
 have hbl:=Heap.lt_size (hk b u eb)
 rw[sortedHeap_old (Nat.ne_of_lt hbl) (by rw[Heap.size_push];exact Nat.lt_succ_of_lt hbl)]
 exact Heap.get?_push_of_some _ (hk b u eb)
end
end L2
namespace L2
open PySem PySem.Spec PyProof.Rows
section
variable {X:Cx}{pins:List (Addr×Obj)}{σ:St}{H H':Hp}{s:Shared}{h':Heap}
theorem Inv.laidD {a:Addr}{o:HO}{t':Nat}{d':Drawn} (I:Inv X pins σ H s) (k:∀ b u,s.heap.get? b=some u→h'.get? b=some u) (hp:s.heap.objs.size≤a) (new:ObjOk X.prog X.w (upd H a o) h' a o):
  Inv X pins σ (upd H a o) { s with heap:=h',drawn:=d',toks:=t' }:=by
 have u:Un (frs X.stack) [] H (upd H a o) s.heap h':=Un.laid k hp (I.hok.fresh hp)
 exact I.call (g':=s.gens) (d':=d') u (I.hok.laid k hp new) I.bare (fun _ z=>nomatch z)
theorem metS_nodup (val : Nat → Str) : ∀ i, (metS val i).Nodup
  | 0 => List.nodup_nil
  | i + 1 => by
    show (stepS (metS val i) (val i)).Nodup
    have ih := metS_nodup val i
    unfold stepS
    split
    · exact ih
    · next hne =>
      rw[List.nodup_append]
      exact ⟨ih, by simp, fun x hx y hy e => hne (by have : y = val i := by simpa using hy
                                                     rw[← this, ← e];exact hx)⟩
def mets (ss:List Str):List Str:=metS (fun i=>ss.getD i "") ss.length
theorem mets_mem (ss:List Str) (k:Str):k∈mets ss↔k∈ss:=by
 unfold mets
 rw[metS_sub]
 constructor
 ·rintro ⟨j,hj,e⟩
  rw[← e,List.getD_eq_getElem?_getD,List.getElem?_eq_getElem hj]
  exact List.getElem_mem hj
 ·intro hk
  obtain ⟨j,hj,e⟩:=List.mem_iff_getElem.mp hk
  exact ⟨j,hj,by rw[List.getD_eq_getElem?_getD,List.getElem?_eq_getElem hj];exact e⟩
theorem mets_nodup (ss:List Str):(mets ss).Nodup:=metS_nodup _ _
def setQ (P:Program) (w:World) (a:Addr) (ss:List Str):HO:=.ext fun h=>SetP P w h a (fun k=>(mets ss).any fun x=>x == k) (mets ss).length
theorem str_getD {ss:List Str}{its:List Value} (rv:Vals (ss.map V.str) its) {i:Nat}{v:Value} (hv:its.toArray[i]?=some v):∃ t,v=Value.str (ss.getD i "") t:=by
 have hlen:=rv.length
 rw[List.length_map] at hlen
 have hv':its[i]?=some v:=by simpa using hv
 have hi:i < ss.length:=by
  rw[hlen]
  exact (List.getElem?_eq_some_iff.mp hv').1
 have e:(ss.map V.str)[i]?=some (V.str (ss.getD i "")):=by
  rw[List.getElem?_map,List.getElem?_eq_getElem hi]
  simp[hi]
 obtain ⟨u,hu,ru⟩:=rv.get e
 rw[hv'] at hu
 cases hu
 exact ru
theorem call_setQ (hc:X.calm=true):CallR X (.type "set") (fun xs H Q=>∃ (p:Addr) (ss:List Str),xs=[.ref p]∧(H p=some (.lst (ss.map V.str))∨H p=some (.tup (ss.map V.str)))∧ss.length≤1000∧∀ a,H a=none→Q (.ref a) (upd H a (setQ X.prog X.w a ss))):=by
 intro pins s σ H xs us Q I r h
 obtain ⟨p,ss,rfl,hx,h1000,q⟩:=h
 obtain ⟨u,rfl,ru⟩:=vals1 r
 cases ru
 have fin:∀ (its:List Value),its.length=ss.length→∀ (h':Heap) (tk:Nat),SetP X.prog X.w h' s.heap.objs.size (fun k'=>(metS (fun i=>ss.getD i "") its.toArray.size).any fun x=>x == k') (metS (fun i=>ss.getD i "") its.toArray.size).length→
   (∀ (b:Nat) (o:Obj),b < s.heap.objs.size→s.heap.get? b=some o→h'.get? b=some o)→EP X pins σ Q (Value.ref s.heap.objs.size) { s with heap:=h',toks:=tk }:=by
  intro its hl h' tk hS hk
  have esz:its.toArray.size=ss.length:=by rw[List.size_toArray,hl]
  rw[esz] at hS
  have hkk:∀ b u,s.heap.get? b=some u→h'.get? b=some u:=fun b u e=>hk b u (Heap.lt_size e) e
  have hn:H s.heap.objs.size=none:=I.hok.fresh (Nat.le_refl _)
  refine ⟨.ref s.heap.objs.size,_,I.laid (t':=tk) (o:=setQ X.prog X.w s.heap.objs.size ss) hkk (Nat.le_refl _) ⟨hS,?_,fun h1 h2 f g=>?_⟩,rfl,q _ hn⟩
  ·obtain ⟨o,_,_,_,e,_⟩:=hS
   exact ⟨o,e⟩
  ·exact f.at g
 rcases hx with hx | hx
 ·obtain ⟨its,rv,pl,_⟩:=I.list (SqL.of hx)
  have hlen:=rv.length
  rw[List.length_map] at hlen
  exact call_set_PL (val:=fun i=>ss.getD i "") (I.ok.hd hc) pl.isList (fun i v hv=>str_getD rv hv) (by rw[List.size_toArray,← hlen];show _ < 4096;omega) (fin its hlen.symm)
 ·obtain ⟨its,rv,pl,_⟩:=I.tuple (SqT.of hx)
  have hlen:=rv.length
  rw[List.length_map] at hlen
  exact call_set_PT (val:=fun i=>ss.getD i "") (I.ok.hd hc) pl (fun i v hv=>str_getD rv hv) (by rw[List.size_toArray,← hlen];show _ < 4096;omega) (fin its hlen.symm)
theorem call_sortedQ (hc:X.calm=true):CallR X (.builtin "sorted") (fun xs H Q=>∃ (p:Addr) (ss:List Str),xs=[.ref p]∧H p=some (setQ X.prog X.w p ss)∧ss.length < 64∧∀ (l:Addr) (ms:List Str),H l=none→ms.Perm (mets ss)→sortedS ms=true→Q (.ref l) (upd H l (.lst (ms.map V.str)))):=by
 intro pins s σ H xs us Q I r h
 obtain ⟨p,ss,rfl,hx,h64,q⟩:=h
 obtain ⟨u,rfl,ru⟩:=vals1 r
 cases ru
 obtain ⟨hS,_,_⟩:ObjOk X.prog X.w H s.heap p (setQ X.prog X.w p ss):=I.hok p _ hx
 have hle:(mets ss).length≤ss.length:=metS_le (fun i=>ss.getD i "") ss.length
 refine sorted_setP (I.ok.hd hc) hS (mets_nodup ss) (fun k=>by rw[any_mem];simp) rfl (by omega) fun l h' d tk e out ms hl hk ho ha hp hs=>?_
 have hv:Vals (ms.map V.str) out.toList:=vals_of_strs ha
 have hml:=hp.length_eq
 exact ⟨.ref l,_,I.laidD (t':=tk) (d':=d) (o:=.lst (ms.map V.str)) hk hl ⟨sizeLine_big (by rw[List.length_map];omega),out.toList,e,hv,by rw[ho] <;> rfl⟩,rfl,q l ms (I.hok.fresh hl) hp hs⟩
theorem risingS_pair:∀ (p:Str) (l:List Str),risingS p l=true→(∀ x∈l,¬ x.cps.toList < p.cps.toList)∧l.Pairwise fun a b=>¬ b.cps.toList < a.cps.toList
 | p,[],_=>⟨fun x hx=>by simp at hx,List.Pairwise.nil⟩
 | p,x :: r,h=>by
  have h':(!ltCps x.cps.toList p.cps.toList && risingS x r)=true:=h
  rw[Bool.and_eq_true,ltCps_eq] at h'
  have hx:¬ x.cps.toList < p.cps.toList:=by simpa using h'.1
  obtain ⟨i1,i2⟩:=risingS_pair x r h'.2
  refine ⟨fun y hy=>?_,List.pairwise_cons.mpr ⟨i1,i2⟩⟩
  rcases List.mem_cons.mp hy with rfl | hy
  ·exact hx
  ·intro z
   have h1:=i1 y hy
   exact hx (List.lt_of_le_of_lt (List.not_lt.mp h1) z)
theorem sortedS_pair:∀ (l:List Str),sortedS l=true→l.Pairwise fun a b=>¬ b.cps.toList < a.cps.toList
 | [],_=>List.Pairwise.nil
 | x :: r,h=>List.pairwise_cons.mpr (risingS_pair x r h)
theorem cps_inj {a b:Str} (h:a.cps.toList=b.cps.toList):a=b:=by
 cases a;cases b
 congr
 exact Array.toList_inj.mp h
theorem sorted_uniq:∀ {l m:List Str},l.Perm m→(l.Pairwise fun a b=>¬ b.cps.toList < a.cps.toList)→(m.Pairwise fun a b=>¬ b.cps.toList < a.cps.toList)→l=m
 | [],m,h,_,_=>(List.Perm.eq_nil h.symm).symm
 | x :: r,[],h,_,_=>by simpa using h.length_eq
 | x :: r,y :: q,h,h1,h2=>by
  obtain ⟨a1,a2⟩:=List.pairwise_cons.mp h1
  obtain ⟨b1,b2⟩:=List.pairwise_cons.mp h2
  have e:x=y:=by
   rcases List.mem_cons.mp (h.mem_iff.mp (List.mem_cons_self (a:=x) (l:=r))) with e | hx
   ·exact e
   ·rcases List.mem_cons.mp (h.mem_iff.mpr (List.mem_cons_self (a:=y) (l:=q))) with e | hy
    ·exact e.symm
    ·exact cps_inj (List.le_antisymm (List.not_lt.mp (a1 y hy)) (List.not_lt.mp (b1 x hx)))
  subst e
  rw[sorted_uniq ((List.perm_cons x).mp h) a2 b2]
end
end L2
namespace L2
open PySem PySem.Spec PyProof.Rows PySem.W
def krun {α:Type} (o:Nat→Nat→Bool):KasT α→α
 | .ret a=>a
 | .ask i j k=>krun o (k (o i j))
def lperms:Nat→List Nat→List (List Nat)
 | 0,_=>[[]]
 | f + 1,l=>l.flatMap fun x=>(lperms f (l.erase x)).map (x :: ·)
theorem mem_lperms:∀ (q l:List Nat),q.Perm l→q∈lperms q.length l
 | [],l,_=>by simp[lperms]
 | x :: r,l,h=>by
  have hx:x∈l:=h.mem_iff.mp (by simp)
  have hr:r.Perm (l.erase x):=by
   have:=h.trans (List.perm_cons_erase hx)
   exact (List.perm_cons x).mp this
  show x :: r∈l.flatMap _
  exact List.mem_flatMap.mpr ⟨x,hx,List.mem_map.mpr ⟨r,mem_lperms r _ hr,rfl⟩⟩
def sortsAll (n:Nat):Bool:=(lperms n (List.range n)).all fun π=>(krun (fun i j=>decide (π.getD i 0 < π.getD j 0)) (kas_sort n)).toList.map (fun i=>π.getD i 0) == List.range n
theorem sorts2:sortsAll 2=true:=by decide
theorem sorts3:sortsAll 3=true:=by decide
theorem sorts4:sortsAll 4=true:=by decide
theorem sorts5:sortsAll 5=true:=by decide
theorem sorts6:sortsAll 6=true:=by decide
end L2
namespace L2
open PySem PySem.Spec PyProof.Rows PySem.W
theorem krun_congr {α:Type}{n:Nat}{P:α→Prop}{o o':Nat→Nat→Bool} (h:∀ i j,i < n→j < n→o i j=o' i j):∀ {t:KasT α},KAll n P t→krun o t=krun o' t
 | .ret a,_=>rfl
 | .ask i j k,z=>by
  show krun o (k (o i j))=krun o' (k (o' i j))
  rw[h i j z.1 z.2.1]
  exact krun_congr h (z.2.2 _)
theorem KAll.run {α:Type}{n:Nat}{P:α→Prop} (o:Nat→Nat→Bool):∀ {t:KasT α},KAll n P t→P (krun o t)
 | .ret a,h=>h
 | .ask i j k,h=>by
  show P (krun o (k (o i j)))
  exact KAll.run o (h.2.2 (o i j))
theorem KAll.wpO {α:Type}{n:Nat}{P:α→Prop}{cmp:Nat→Nat→(Bool→Shared→Prop)→Shared→Prop}{Q:α→Shared→Prop}{s:Shared}{o:Nat→Nat→Bool} (hc:∀ i j C,i < n→j < n→C (o i j) s→cmp i j C s):∀ {t:KasT α},KAll n P t→Q (krun o t) s→t.kasWp cmp Q s
 | .ret a,_,q=>by rw[KasT.kasWp.eq_1];exact q
 | .ask i j k,h,q=>by
  rw[KasT.kasWp.eq_2]
  exact hc i j _ h.1 h.2.1 (KAll.wpO hc (h.2.2 _) q)
abbrev P3:=Str×Str×Int
def lexP (x y:P3):Bool:=if x.1 == y.1 then (if x.2.1 == y.2.1 then (if x.2.2 == y.2.2 then false else decide (x.2.2 < y.2.2)) else decide (x.2.1.cps.toList < y.2.1.cps.toList)) else decide (x.1.cps.toList < y.1.cps.toList)
inductive I_PartT (h:Heap) (v:Value) (x:P3):Prop
 | mk (t:_) (u1:_) (u2:_) (u3:_) (q0:v=.ref t) (q1:IsTup h t #[.str x.1 u1,.str x.2.1 u2,.int x.2.2 u3]):I_PartT h v x
def PartT (h:Heap) (v:Value) (x:P3):Prop:=I_PartT h v x
section
variable {prog:Program}{w:World}{A:Around}{E:Value→Shared→Prop}{s:Shared}
theorem ltX_int {a b:Int}{t u:Tok}{Q:Bool→Shared→Prop} (h:Q (decide (a < b)) s):wpAny (model prog w) A (oneLt' false (Value.int a t) (Value.int b u)) Q E s:=by
 rw[oneLt'_eq]
 show wpAny _ _ (compareOp .Lt (Value.int a t) (Value.int b u) >>= _) _ _ _
 apply wpAny_bind
 refine lt_int ?_
 wp_walk
 exact h
theorem ltX_str {a b:Str}{t u:Tok}{Q:Bool→Shared→Prop} (h:Q (decide (a.cps.toList < b.cps.toList)) s):wpAny (model prog w) A (oneLt' false (Value.str a t) (Value.str b u)) Q E s:=by
 rw[oneLt'_eq]
 show wpAny _ _ (compareOp .Lt (Value.str a t) (Value.str b u) >>= _) _ _ _
 apply wpAny_bind
 refine lt_str ?_
 wp_walk
 exact h
theorem ltP {fb:Bool}{v1 v2:Value}{x y:P3}{C:Bool→Shared→Prop} (hx:PartT s.heap v1 x) (hy:PartT s.heap v2 y) (h:C (lexP x y) s):wpAny (model prog w) A (keyLt' (tuples' fb) v1 v2) C E s:=by
 obtain ⟨a1,b1,c1⟩:=x
 obtain ⟨a2,b2,c2⟩:=y
 obtain ⟨p1,t1,t2,t3,rfl,hx⟩:=hx
 obtain ⟨p2,u1,u2,u3,rfl,hy⟩:=hy
 dsimp only at hx hy
 unfold lexP at h
 dsimp only at h
 show wpAny _ _ (Builtin.List.listItems (.ref p1) >>= _) _ _ _
 refine wpAny_bind (items_tup hx ?_)
 refine wpAny_bind (items_tup hy ?_)
 dsimp only [List.zip_cons_cons,List.zipIdx_cons,List.zip_nil_left]
 rw[List.zipIdx_nil]
 have e1:∀ {Q:Bool→Shared→Prop} {a b:Int} {t u:Tok},Q (a == b) s→wpAny (model prog w) A (eqBool (.int a t) (.int b u)) Q E s:=fun {Q a b t u} q=>eqAt_V (y:=.int a) (x:=.int b) ⟨t,rfl⟩ ⟨u,rfl⟩ rfl rfl prog w _ _ q
 have e2:∀ {Q:Bool→Shared→Prop} {a b:Str} {t u:Tok},Q (a == b) s→wpAny (model prog w) A (eqBool (.str a t) (.str b u)) Q E s:=fun {Q a b t u} q=>SeqAt.EqAt.str_str a t b u prog w _ _ q
 refine wpAny_bind ?_
 rw[List.forIn_cons]
 refine wpAny_bind (wpAny_bind (e2 ?_))
 cases hz:(a1 == a2) with
 | false=>
  rw[hz] at h
  refine wpAny_ite_true (by decide) ?_
  refine wpAny_bind ?_
  show wpAny _ _ (oneLt' (fb && 0 == 0) (Value.str a1 t1) (Value.str a2 u1)) _ _ _
  cases fb
  ·exact ltX_str (wpAny_pure (wpAny_pure (wpAny_pure h)))
  ·exact oneLt_str (wpAny_pure (wpAny_pure (wpAny_pure h)))
 | true=>
  rw[hz,if_pos rfl] at h
  refine wpAny_ite_false (by decide) (wpAny_pure ?_)
  dsimp only
  rw[List.forIn_cons]
  refine wpAny_bind (wpAny_bind (e2 ?_))
  cases hz2:(b1 == b2) with
  | false=>
   rw[hz2] at h
   refine wpAny_ite_true (by decide) ?_
   refine wpAny_bind ?_
   have ez:(fb && ((0 + 1:Nat) == 0))=false:=by cases fb <;> rfl
   show wpAny _ _ (oneLt' (fb && (0 + 1 == 0)) (Value.str b1 t2) (Value.str b2 u2)) _ _ _
   rw[ez]
   exact ltX_str (wpAny_pure (wpAny_pure (wpAny_pure h)))
  | true=>
   rw[hz2,if_pos rfl] at h
   refine wpAny_ite_false (by decide) (wpAny_pure ?_)
   dsimp only
   rw[List.forIn_cons]
   refine wpAny_bind (wpAny_bind (e1 ?_))
   cases hz3:(c1 == c2) with
   | false=>
    rw[hz3] at h
    refine wpAny_ite_true (by decide) ?_
    refine wpAny_bind ?_
    have ez:(fb && ((0 + 1 + 1:Nat) == 0))=false:=by cases fb <;> rfl
    show wpAny _ _ (oneLt' (fb && (0 + 1 + 1 == 0)) (Value.int c1 t3) (Value.int c2 u3)) _ _ _
    rw[ez]
    exact ltX_int (wpAny_pure (wpAny_pure (wpAny_pure h)))
   | true=>
    rw[hz3,if_pos rfl] at h
    refine wpAny_ite_false (by decide) (wpAny_pure ?_)
    dsimp only
    rw[List.forIn_nil]
    exact wpAny_pure (wpAny_pure h)
end
end L2
namespace L2
open PySem PySem.Spec PyProof.Rows PySem.W
def kord (ps:List P3):List Nat:=(krun (fun i j=>lexP (ps.getD i ("","",0)) (ps.getD j ("","",0))) (kas_sort ps.length)).toList
theorem kord_perm (ps:List P3) (h:0 < ps.length):(kord ps).Perm (List.range ps.length):=by
 have:=KAll.run (fun i j=>lexP (ps.getD i ("","",0)) (ps.getD j ("","",0))) (kall_sort h)
 exact Array.perm_iff_toList_perm.mp this
section
variable {prog:Program}{w:World}{A:Around}{E:Value→Shared→Prop}{s:Shared}
theorem kindP {ks:List Value}{Q:SortKind→Shared→Prop} (hk:∀ v∈ks,∃ x,PartT s.heap v x) (h:∀ b,Q (tuples' b) s):wpAny (model prog w) A (keyKind' ks.toArray) Q E s:=by
 rw[keyKind'_eq,Array.mapM_eq_mapM_toList]
 refine wpAny_bind ?_
 rw[← bind_pure_comp]
 refine wpAny_bind (mapM_any (R:=fun _ r=>∃ a u,r=some (Value.str a u)) ks (fun v hv=>?_) fun rs hl hrs=>wpAny_pure ?_)
 ·obtain ⟨x,t,u1,u2,u3,rfl,ht⟩:=hk v hv
  refine ⟨some (.str x.1 u1),⟨x.1,u1,rfl⟩,fun Q' q=>?_⟩
  rw[kas_first_eq]
  refine wpAny_bind (wpAny_typeOf ht.typeIs ?_)
  refine wpAny_ite_false (by decide) ?_
  refine wpAny_bind (items_tup ht ?_)
  exact wpAny_pure q
 ·have hall:(rs.toArray.all fun x=>x.isSome)=true:=by
   rw[List.all_toArray,List.all_eq_true]
   intro r hr
   obtain ⟨v,_,a,u,rfl⟩:=hrs r hr
   rfl
  refine wpAny_ite_true (by rw[hall];rfl) ?_
  refine wpAny_bind (wpAny_rule ?_)
  rw[oneTypeOnly'_eq,Array.mapM_eq_mapM_toList]
  refine wpAny_bind ?_
  refine wpAny_bind ?_
  rw[← bind_pure_comp]
  refine wpAny_bind (mapM_any (R:=fun _ r=>r=Value.type "str") _ (fun v hv=>?_) fun ts htl hts=>wpAny_pure ?_)
  ·have hv':some v∈rs:=by simpa using hv
   obtain ⟨_,_,a,u,e⟩:=hrs _ hv'
   cases e
   exact ⟨_,rfl,fun Q' q=>wpAny_typeOf (typeIs_str s a u) q⟩
  ·cases hts0:ts.toArray[0]? with
   | none=>exact wpAny_pure (wpAny_pure (h _))
   | some t=>exact wpAny_pure (wpAny_pure (h _))
theorem runsP {b:Bool}{vs:List Value}{ps:List P3}{Q:Unit×SortSt→Shared→Prop} (hl:vs.length=ps.length) (h2:2≤vs.length) (h64:vs.length < 64) (hk:∀ i,i < vs.length→PartT s.heap (vs.getD i .none) (ps.getD i ("","",0)))
  (h:∀ st:SortSt,(arrOf st).map (·.2)=((kord ps).map fun i=>vs.getD i .none).toArray→failedOf st=none→Q ((),st) s):wpAny (model prog w) A (sortRuns'.run (SortSt.mk' (tuples' b) (vs.toArray.zip vs.toArray) #[] 7 none)) Q E s:=by
 have hz:(vs.toArray.zip vs.toArray).size=vs.length:=by simp
 have main:=kas_runs (prog:=prog) (w:=w) (A:=A) (E:=E) (κ:=tuples' b) (it:=vs.toArray.zip vs.toArray) (n:=vs.length) (s:=s) (Q:=fun u st s'=>s'=s∧Q (u,st) s) (G:=fun p s'=>p.toList=kord ps∧s'=s) h2 h64 (fun p' st' s' hsz ha hf hG=>?_)
  (KAll.wpO (n:=vs.length) (P:=Pm vs.length) (o:=fun i j=>lexP (ps.getD i ("","",0)) (ps.getD j ("","",0))) (fun i j C hi hj hC=>?_) (kall_sort (by omega)) ⟨by unfold kord;rw[hl],rfl⟩)
 ·have e1:kas_st (tuples' b) (vs.toArray.zip vs.toArray) (List.range vs.length).toArray=SortSt.mk' (tuples' b) (vs.toArray.zip vs.toArray) #[] 7 none:=by
   unfold kas_st
   have:=kas_range (vs.toArray.zip vs.toArray)
   rw[hz] at this
   rw[this]
  rw[e1] at main
  exact wpAny_mono main (fun r s' z=>by
   obtain ⟨rfl,q⟩:=z
   exact q) fun e s' z=>z
 ·obtain ⟨hp,rfl⟩:=hG
  refine ⟨rfl,h st' ?_ hf⟩
  rw[ha]
  apply Array.toList_inj.mp
  rw[Array.map_map,Array.toList_map,hp]
  show _=(kord ps).map _
  refine List.map_congr_left fun i _=>?_
  show (kas_item (pairsOf vs) i).2=_
  rw[kas_item_eq]
 ·unfold kas_cmp
  show wpAny _ _ (keyLt' _ (kas_item (pairsOf vs) i).1 (kas_item (pairsOf vs) j).1) _ _ _
  rw[kas_item_eq,kas_item_eq]
  exact ltP (hk i hi) (hk j hj) hC
theorem PartT.keep {h h':Heap}{v:Value}{x:P3} (p:PartT h v x) (k:∀ b o,h.get? b=some o→o.cls=.type "tuple"→h'.get? b=some o):PartT h' v x:=by
 obtain ⟨t,u1,u2,u3,e,o,ho,hc,r⟩:=p
 exact ⟨t,u1,u2,u3,e,o,k t o ho hc,hc,r⟩
theorem list_sortP {a:Addr}{vs:List Value}{ps:List P3}{n:Nat}{P:PySem.Fin→Shared→Prop} (gA:s.heap.get? a=some (seqObj "list" vs.toArray n)) (hl:vs.length=ps.length) (h2:2≤vs.length) (h64:vs.length < 64) (hk:∀ i,i < vs.length→PartT s.heap (vs.getD i .none) (ps.getD i ("","",0)))
  (h:∀ (h':Heap) (e:Nat),(∀ b u,b≠a→s.heap.get? b=some u→h'.get? b=some u)→h'.get? a=some (seqObj "list" ((kord ps).map fun i=>vs.getD i .none).toArray e)→P (.done (.ret .none)) { s with heap:=h' }):
  wpAny (model prog w) A (Builtin.«list.sort» ⟨[.ref a],[]⟩) P E s:=by
 have zz:∀ m,m≤vs.length→m≤sizeLine:=fun m hm=>sizeLine_big (by omega)
 rw[list_sort_plain]
 refine wpAny_bind (listItems_at gA rfl ?_)
 refine wpAny_bind (listUpdate_at gA rfl ?_ (by rw[List.size_toArray];exact zz _ (Nat.le_refl _)) (Nat.zero_le _))
 have gA1:=get?_update_seq gA (fun _=>#[])
 generalize (if ((#[]:Array Value).size == vs.toArray.size)=true then n else n + 1)=e1 at gA1
 have old1:∀ b u,b≠a→s.heap.get? b=some u→(s.heap.update a (Obj.mapSeq fun _=>#[])).get? b=some u:=fun b u nb e=>by
  rw[Heap.get?_update_ne _ _ _ _ nb]
  exact e
 dsimp only
 generalize s.heap.update a (Obj.mapSeq fun _=>#[])=h1 at gA1 old1 ⊢
 refine wpAny_bind (seqEpoch_at gA1 rfl ?_)
 refine wpAny_bind (wpAny_newTuple ?_ (by simpa using zz _ (Nat.le_refl _)))
 refine wpAny_bind (wpAny_newList ?_ (Nat.zero_le _))
 refine wpAny_holding ?_
 have gA2:((h1.push { cls:=Value.type "tuple",data:=Data.seq vs.toArray.toList.toArray }).push { cls:=Value.type "list",data:=Data.seq ([]:List Value).toArray }).get? a=some (seqObj "list" #[] e1):=Heap.get?_push_of_some _ (Heap.get?_push_of_some _ gA1)
 have old2:∀ b u,b≠a→s.heap.get? b=some u→((h1.push { cls:=Value.type "tuple",data:=Data.seq vs.toArray.toList.toArray }).push { cls:=Value.type "list",data:=Data.seq ([]:List Value).toArray }).get? b=some u:=fun b u nb e=>Heap.get?_push_of_some _ (Heap.get?_push_of_some _ (old1 b u nb e))
 dsimp only
 generalize (h1.push { cls:=Value.type "tuple",data:=Data.seq vs.toArray.toList.toArray }).push { cls:=Value.type "list",data:=Data.seq ([]:List Value).toArray }=h3 at gA2 old2 ⊢
 have hk2:∀ i,i < vs.length→PartT h3 (vs.getD i .none) (ps.getD i ("","",0)):=fun i hi=>(hk i hi).keep fun b o e hc=>old2 b o (fun z=>by
  rw[z,gA] at e
  cases e
  have hc':(Value.type "list")=Value.type "tuple":=hc
  injection hc' with z2
  exact absurd z2 (by decide)) e
 have hsz:¬ vs.toArray.size < 2:=by simpa using Nat.not_lt.mpr h2
 rw[if_neg hsz,if_neg hsz]
 refine wpAny_bind (kindP (fun v hv=>?_) fun b=>?_)
 ·obtain ⟨i,hi,rfl⟩:=List.mem_iff_getElem.mp hv
  have:=hk2 i hi
  rw[List.getD_eq_getElem?_getD,List.getElem?_eq_getElem hi] at this
  exact ⟨_,this⟩
 ·refine wpAny_bind (runsP hl h2 h64 hk2 fun st hst hf=>?_)
  dsimp only
  refine wpAny_bind (seqEpoch_at gA2 rfl ?_)
  have hkl:((kord ps).map fun i=>vs.getD i .none).length=vs.length:=by rw[List.length_map,(kord_perm ps (by omega)).length_eq,List.length_range,hl]
  refine wpAny_bind (listUpdate_at gA2 rfl ?_ (Nat.zero_le _) (by show ((arrOf st).map (·.2)).size≤_;rw[hst,List.size_toArray,hkl];exact Nat.le_succ_of_le (zz _ (Nat.le_refl _))))
  rw[hf]
  refine wpAny_ite_false (by simp) ?_
  obtain ⟨e3,gA3⟩:∃ e3,(h3.update a (Obj.mapSeq fun _=>(arrOf st).map (·.2))).get? a=some (seqObj "list" ((arrOf st).map (·.2)) e3):=⟨_,get?_update_seq gA2 (fun _=>(arrOf st).map (·.2))⟩
  refine wpAny_pure (h _ e3 (fun b u nb e=>?_) (by rw[← hst];exact gA3))
  rw[Heap.get?_update_ne _ _ _ _ nb]
  exact old2 b u nb e
end
end L2
namespace L2
open PySem PySem.Spec PyProof.Rows PySem.W
section
variable {prog:Program}{w:World}{A:Around}{E:Value→Shared→Prop}{s:Shared}
theorem collect_tup {p:Addr}{its:List Value}{Q:List Value→Shared→Prop} (hp:IsTup s.heap p its.toArray) (zz:its.length≤sizeLine)
  (h:∀ h1:Heap,(∀ b u,s.heap.get? b=some u→h1.get? b=some u)→s.heap.objs.size≤h1.objs.size→Q its { s with heap:=h1 }):wpAny (model prog w) A (collect (.ref p)) Q E s:=by
 obtain ⟨o,ho,hc,n,hd⟩:=hp
 unfold collect
 apply wpAny_bind
 apply wpAny_runValue
 apply codeAny_builtin F.entry_proto_collect
 rw[Around.under_plainId F.plain_proto_collect]
 show wpAny _ A.in1 (newList [] >>= fun l=>again (.builtin "list.__iadd__" ⟨[l,.ref p],[]⟩)) _ _ s
 apply wpAny_bind
 refine wpAny_newObj_type (wpAny_pure ⟨plainId_quiet F.plain_list_iadd _,codeAny_builtin F.entry_list_iadd ?_⟩)
 rw[Around.under_plainId F.plain_list_iadd]
 have hP1:(s.heap.push (seqObj "list" #[] 0)).get? p=some o:=Heap.get?_push_of_some _ ho
 have hL1:(s.heap.push (seqObj "list" #[] 0)).get? s.heap.objs.size=some (seqObj "list" #[] 0):=Heap.get?_push_size _ rfl
 show wpAny _ A.in1 (Builtin.List.listExtendWith (.ref s.heap.objs.size) (.ref p) (.ref s.heap.objs.size)) _ _ { s with heap:=s.heap.push (seqObj "list" #[] 0) }
 unfold Builtin.List.listExtendWith
 refine wpAny_bind (wpAny_typeOf (T:="tuple") ⟨o,hP1,hc⟩ ?_)
 rw[if_pos (by simp)]
 apply wpAny_bind
 refine listItems_at hP1 hd ?_
 apply wpAny_bind
 refine listItems_at hL1 rfl ?_
 rw[if_neg (by simp)]
 refine wpAny_bind (listUpdate_at hL1 rfl ?_ (Nat.zero_le _) (by show (#[] ++ its.toArray).size≤sizeLine + 1;simp only [Array.size_append,List.size_toArray,List.length_nil];omega))
 apply wpAny_pure
 have gL:=get?_update_seq hL1 (· ++ its.toArray)
 show wpAny (model prog w) A (load s.heap.objs.size >>= _) Q E _
 refine wpAny_bind (wpAny_load gL ?_)
 show wpAny _ _ (pure ((#[]:Array Value) ++ its.toArray).toList) Q E _
 rw[show ((#[]:Array Value) ++ its.toArray).toList=its by simp]
 refine wpAny_pure (h _ (fun b u e=>?_) (Nat.le_of_lt (Heap.lt_size gL)))
 rw[Heap.get?_update_ne _ _ _ _ (Nat.ne_of_lt (Heap.lt_size e))]
 exact Heap.get?_push_of_some _ e
theorem sorted_tup {p:Addr}{its:List Value}{Q:Value→Shared→Prop} (hp:IsTup s.heap p its.toArray) (h64:its.length < 64)
  (h:∀ (h1:Heap),(∀ b u,s.heap.get? b=some u→h1.get? b=some u)→s.heap.objs.size≤h1.objs.size→wpAny (model prog w) A.in1.in1 (Builtin.«list.sort» ⟨[.ref h1.objs.size],[]⟩) (fun fin s'=>fin=.done (.ret .none)∧Q (.ref h1.objs.size) s') E { s with heap:=h1.push (seqObj "list" its.toArray 0) }):
  wpAny (model prog w) A (call (.builtin "sorted") [.ref p]) Q E s:=by
 have zz:its.length≤sizeLine:=sizeLine_big (by omega)
 refine Calls.call_function_entry kind_sorted plain_sorted entry_sorted (args_sorted1 _) ?_
 unfold Builtin.«sorted»
 apply wpAny_bind (m:=checkCount "sorted" 1 1 _)
 apply wpAny_pure
 refine wpAny_bind (collect_tup hp zz fun h1 hk hg=>?_)
 apply wpAny_bind
 refine wpAny_newList ?_ zz
 have hoL:(h1.push (seqObj "list" its.toArray 0)).get? h1.objs.size=some (seqObj "list" its.toArray 0):=Heap.get?_push_size _ rfl
 refine wpAny_bind (wpAny_holding (wpAny_call_entry slot_list_sort ⟨_,hoL,rfl⟩ entry_list_sort (wpAny_mono (h h1 hk hg) (fun fin s' z=>⟨.none,z.1,?_⟩) fun _ _ e=>e) (args_list_sort _)))
 exact wpAny_pure ⟨_,rfl,z.2⟩
end
section
variable {X:Cx}
inductive I_r_call_sortedST (xs:List V) (H:Hp) (Q:VK):Prop
 | mk (p:Addr) (ns:List Str) (q0:xs=[.ref p]) (q1:H p=some (.tup (ns.map V.str))) (q2:ns.length < 64) (q3:∀ (l:Addr) (ms:List Str),H l=none→ms.Perm ns→sortedS ms=true→Q (.ref l) (upd H l (.lst (ms.map V.str)))):I_r_call_sortedST xs H Q
def r_call_sortedST:List V→Hp→VK→Prop:=fun xs H Q=>I_r_call_sortedST xs H Q
theorem call_sortedST:CallR X (.builtin "sorted") r_call_sortedST:=by
 intro pins s σ H xs us Q I r h
 obtain ⟨p,ns,rfl,hx,h64,q⟩:=h
 obtain ⟨u,rfl,ru⟩:=vals1 r
 cases ru
 obtain ⟨its,rv,ht,_⟩:=I.tuple (SqT.of hx)
 have hi:StrsAre its ns:=strsAre_of rv
 have hlen:=rv.length
 rw[List.length_map] at hlen
 refine sorted_tup ht (by omega) fun h1 hk hg=>?_
 have hoL:(h1.push (seqObj "list" its.toArray 0)).get? h1.objs.size=some (seqObj "list" its.toArray 0):=Heap.get?_push_size _ rfl
 refine list_sort_treeK strKind_oneLt hoL hi.keysOf (fun v₁ v₂ rest e=>keyKind_strs (by rw[← e];exact hi)) (by omega) fun st' a1 a2=>⟨rfl,?_⟩
 obtain ⟨ms,b1,b2,b3⟩:=sorted_out_str hi a1 a2
 obtain ⟨e,he⟩:=sortedHeap_at (vs:=its) (out:=(arrOf st').map (·.2)) hoL
 have hml:=b2.length_eq
 refine ⟨.ref h1.objs.size,_,I.laid (t':=s.toks) (o:=.lst (ms.map V.str)) (fun b u eb=>?_) hg ⟨sizeLine_big (by rw[List.length_map];omega),((arrOf st').map (·.2)).toList,e,vals_of_strs b1,by rw[he] <;> rfl⟩,rfl,q _ ms (I.hok.fresh hg) b2 b3⟩
 have hbl:=Heap.lt_size (hk b u eb)
 rw[sortedHeap_old (Nat.ne_of_lt hbl) (by rw[Heap.size_push];exact Nat.lt_succ_of_lt hbl)]
 exact Heap.get?_push_of_some _ (hk b u eb)
inductive I_PartH (H:Hp) (v:V) (x:P3):Prop
 | mk (t:_) (q0:v=.ref t) (q1:H t=some (.tup [.str x.1,.str x.2.1,.int x.2.2])):I_PartH H v x
def PartH (H:Hp) (v:V) (x:P3):Prop:=I_PartH H v x
theorem PartH.real {pins:List (Addr×Obj)}{σ:St}{H:Hp}{s:Shared}{v:V}{u:Value}{x:P3} (I:Inv X pins σ H s) (h:PartH H v x) (r:RelV v u):PartT s.heap u x:=by
 obtain ⟨t,rfl,ht⟩:=h
 cases r
 obtain ⟨_,its,rv,hT⟩:ObjOk X.prog X.w H s.heap t (.tup [.str x.1,.str x.2.1,.int x.2.2]):=I.hok _ _ ht
 cases rv with
 | cons r1 rv=>
  cases rv with
  | cons r2 rv=>
   cases rv with
   | cons r3 rv=>
    cases rv
    obtain ⟨u1,e1⟩:=r1
    obtain ⟨u2,e2⟩:=r2
    obtain ⟨u3,e3⟩:=r3
    subst e1 e2 e3
    exact ⟨t,u1,u2,u3,rfl,hT⟩
theorem vals_pick {vs:List V}{its:List Value} (r:Vals vs its):∀ (q:List Nat),(∀ i∈q,i < vs.length)→Vals (q.map fun i=>vs.getD i .non) (q.map fun i=>its.getD i .none)
 | [],_=>.nil
 | i :: q,h=>by
  have hi:=h i (by simp)
  obtain ⟨u,hu,ru⟩:=r.get (List.getElem?_eq_getElem hi)
  refine .cons ?_ (vals_pick r q fun j hj=>h j (by simp[hj]))
  show RelV (vs.getD i .non) (its.getD i .none)
  rw[List.getD_eq_getElem?_getD,List.getD_eq_getElem?_getD,List.getElem?_eq_getElem hi,hu]
  exact ru
inductive I_r_call_sortedP (xs:List V) (H:Hp) (Q:VK):Prop
 | mk (p:Addr) (vs:List V) (ps:List P3) (q0:xs=[.ref p]) (q1:H p=some (.tup vs)) (q2:vs.length=ps.length) (q3:2≤vs.length) (q4:vs.length < 64) (q5:(∀ i,i < vs.length→PartH H (vs.getD i .non) (ps.getD i ("","",0)))) (q6:∀ (l:Addr),H l=none→Q (.ref l) (upd H l (.lst ((kord ps).map fun i=>vs.getD i .non)))):I_r_call_sortedP xs H Q
def r_call_sortedP:List V→Hp→VK→Prop:=fun xs H Q=>I_r_call_sortedP xs H Q
theorem call_sortedP:CallR X (.builtin "sorted") r_call_sortedP:=by
 intro pins s σ H xs us Q I r h
 obtain ⟨p,vs,ps,rfl,hx,hl,h2,h64,hk,q⟩:=h
 obtain ⟨u,rfl,ru⟩:=vals1 r
 cases ru
 obtain ⟨its,rv,ht,_⟩:=I.tuple (SqT.of hx)
 have hlen:=rv.length
 refine sorted_tup ht (by omega) fun h1 hkk hg=>?_
 have hoL:(h1.push (seqObj "list" its.toArray 0)).get? h1.objs.size=some (seqObj "list" its.toArray 0):=Heap.get?_push_size _ rfl
 have old:∀ b u,s.heap.get? b=some u→(h1.push (seqObj "list" its.toArray 0)).get? b=some u:=fun b u e=>Heap.get?_push_of_some _ (hkk b u e)
 have hpr:=kord_perm ps (by omega)
 have hkl:(kord ps).length=ps.length:=by rw[hpr.length_eq,List.length_range]
 refine list_sortP (ps:=ps) hoL (by omega) (by omega) (by omega) (fun i hi=>?_) fun h' e hk' he=>⟨rfl,?_⟩
 ·have hi':i < vs.length:=by omega
  obtain ⟨u,hu,ru⟩:=rv.get (List.getElem?_eq_getElem hi')
  have:=hk i hi'
  rw[List.getD_eq_getElem?_getD,List.getElem?_eq_getElem hi'] at this
  rw[List.getD_eq_getElem?_getD,hu]
  exact (PartH.real I this ru).keep fun b o eb _=>old b o eb
 ·refine ⟨.ref h1.objs.size,_,I.laid (t':=s.toks) (o:=.lst ((kord ps).map fun i=>vs.getD i .non)) (fun b u eb=>hk' b u (Nat.ne_of_lt (Heap.lt_size (hkk b u eb))) (old b u eb)) hg ⟨sizeLine_big (by rw[List.length_map];omega),(kord ps).map fun i=>its.getD i .none,e,vals_pick rv _ (fun i hi=>?_),he⟩,rfl,q _ (I.hok.fresh hg)⟩
  have:=hpr.mem_iff.mp hi
  rw[List.mem_range] at this
  omega
end
end L2
namespace L2
open PySem PySem.Spec PyProof.Rows PySem.W
def RiseP (R:List P3):Prop:=R.Pairwise fun a b=>a.1.cps.toList < b.1.cps.toList
theorem rise_nodup {R:List P3} (h:RiseP R):R.Nodup:=h.imp fun {a b} z e=>by
 subst e
 exact List.lt_irrefl _ z
theorem lexP_of {R:List P3} (h:RiseP R) {a b:P3} (ha:a∈R) (hb:b∈R):lexP a b=decide (R.idxOf a < R.idxOf b):=by
 have ia:=List.idxOf_lt_length_of_mem ha
 have ib:=List.idxOf_lt_length_of_mem hb
 have ea:R[R.idxOf a]=a:=List.getElem_idxOf ia
 have eb:R[R.idxOf b]=b:=List.getElem_idxOf ib
 have hP:=List.pairwise_iff_getElem.mp h
 rcases Nat.lt_trichotomy (R.idxOf a) (R.idxOf b) with z | z | z
 ·have hl:=hP _ _ ia ib z
  rw[ea,eb] at hl
  have hne:(a.1 == b.1)=false:=by
   rw[beq_eq_false_iff_ne]
   intro e
   rw[e] at hl
   exact List.lt_irrefl _ hl
  unfold lexP
  rw[hne,decide_eq_true z]
  exact decide_eq_true hl
 ·have e:a=b:=by rw[← ea,← eb];simp[z]
  subst e
  unfold lexP
  simp
 ·have hl:=hP _ _ ib ia z
  rw[ea,eb] at hl
  have hne:(a.1 == b.1)=false:=by
   rw[beq_eq_false_iff_ne]
   intro e
   rw[e] at hl
   exact List.lt_irrefl _ hl
  unfold lexP
  rw[hne,decide_eq_false (show ¬ (R.idxOf a < R.idxOf b) by omega)]
  exact decide_eq_false fun y=>List.lt_irrefl _ (List.lt_trans hl y)
theorem sorts_all {n:Nat} (h2:2≤n) (h6:n≤6):sortsAll n=true:=by
 have:n=2∨n=3∨n=4∨n=5∨n=6:=by omega
 rcases this with rfl | rfl | rfl | rfl | rfl
 ·exact sorts2
 ·exact sorts3
 ·exact sorts4
 ·exact sorts5
 ·exact sorts6
theorem idx_range {R:List P3} (h:R.Nodup):R.map (fun x=>R.idxOf x)=List.range R.length:=by
 apply List.ext_getElem
 ·simp
 ·intro i h1 h2
  have h1':i < R.length:=by simpa using h1
  simp only [List.getElem_map,List.getElem_range]
  exact h.idxOf_getElem i h1'
theorem kord_sorted {T R:List P3} (hp:T.Perm R) (hR:RiseP R) (h2:2≤T.length) (h6:T.length≤6) (d:P3):(kord T).map (fun i=>T.getD i d)=R:=by
 have hl:=hp.length_eq
 have hn:=rise_nodup hR
 obtain ⟨π,hπ⟩:∃ π,π=T.map (fun x=>R.idxOf x):=⟨_,rfl⟩
 have hpm:π.Perm (List.range T.length):=by
  rw[hπ,hl,← idx_range hn]
  exact hp.map _
 have hπl:π.length=T.length:=by rw[hπ,List.length_map]
 have hmem:π∈lperms T.length (List.range T.length):=by
  have:=mem_lperms π _ hpm
  rw[hπl] at this
  exact this
 have hat:∀ i,i < T.length→π.getD i 0=R.idxOf (T.getD i ("","",0)):=fun i hi=>by
  rw[hπ,List.getD_eq_getElem?_getD,List.getD_eq_getElem?_getD,List.getElem?_map,List.getElem?_eq_getElem hi]
  rfl
 have hTm:∀ i,i < T.length→T.getD i ("","",0)∈R:=fun i hi=>by
  rw[List.getD_eq_getElem?_getD,List.getElem?_eq_getElem hi]
  exact hp.mem_iff.mp (List.getElem_mem hi)
 have hk:kord T=(krun (fun i j=>decide (π.getD i 0 < π.getD j 0)) (kas_sort T.length)).toList:=by
  unfold kord
  congr 1
  refine krun_congr (n:=T.length) (P:=Pm T.length) (fun i j hi hj=>?_) (kall_sort (by omega))
  rw[hat i hi,hat j hj]
  exact lexP_of hR (hTm i hi) (hTm j hj)
 have hs:=List.all_eq_true.mp (sorts_all h2 h6) π hmem
 have hs':=eq_of_beq hs
 rw[← hk] at hs'
 have hkl:(kord T).length=T.length:=by rw[(kord_perm T (by omega)).length_eq,List.length_range]
 apply List.ext_getElem
 ·rw[List.length_map,hkl,hl]
 ·intro j h1 h2'
  have hj:j < (kord T).length:=by simpa using h1
  have e:((kord T).map (fun i=>π.getD i 0))[j]?=(List.range T.length)[j]?:=by rw[hs']
  rw[List.getElem?_map,List.getElem?_eq_getElem hj,List.getElem?_range (by omega)] at e
  have e':π.getD (kord T)[j] 0=j:=by simpa using e
  have hlt:(kord T)[j] < T.length:=by
   have:=(kord_perm T (by omega)).mem_iff.mp (List.getElem_mem hj)
   rwa [List.mem_range] at this
  rw[hat _ hlt] at e'
  rw[List.getElem_map]
  have hm:=hTm _ hlt
  have hd:T.getD (kord T)[j] d=T.getD (kord T)[j] ("","",0):=by
   rw[List.getD_eq_getElem?_getD,List.getD_eq_getElem?_getD,List.getElem?_eq_getElem hlt]
   rfl
  rw[hd]
  have:=List.getElem_idxOf (List.idxOf_lt_length_of_mem hm)
  rw[← this]
  congr 1
end L2
namespace L2
open PySem PySem.Spec PyProof.Rows PySem.W
section
variable {n:Nat}{π:Nat→Nat}
abbrev Kp (π:Nat→Nat) (p:Array Nat) (j:Nat):Nat:=π (p.getD j 0)
abbrev ord (π:Nat→Nat):Nat→Nat→Bool:=fun i j=>decide (π i < π j)
def KS (π:Nat→Nat) (p:Array Nat) (k:Nat):Prop:=∀ i j,i < j→j < k→Kp π p i < Kp π p j
theorem krun_bind {α β:Type} (o:Nat→Nat→Bool) (f:α→KasT β):∀ t:KasT α,krun o (t.bind f)=krun o (f (krun o t))
 | .ret a=>by rw[KasT.bind.eq_1];rfl
 | .ask i j k=>by
  rw[KasT.bind.eq_2]
  show krun o ((k (o i j)).bind f)=_
  rw[krun_bind o f (k (o i j))]
  rfl
theorem krun_ask {α:Type} (o:Nat→Nat→Bool) (i j:Nat) (k:Bool→KasT α):krun o (.ask i j k)=krun o (k (o i j)):=rfl
theorem getD_get {p:Array Nat}{j v:Nat} (h:p[j]?=some v):p.getD j 0=v:=by rw[Array.getD_eq_getD_getElem?,h];rfl
theorem Pm.size {p:Array Nat} (h:Pm n p):p.size=n:=by rw[h.size_eq];simp
theorem Pm.ne {p:Array Nat} (h:Pm n p) {i j:Nat} (hi:i < n) (hj:j < n) (hij:i≠j):p.getD i 0≠p.getD j 0:=by
 have hz:=h.size
 have hnd:p.toList.Nodup:=(Array.perm_iff_toList_perm.mp h).nodup_iff.mpr (by simpa using List.nodup_range)
 rw[getD_get (Array.getElem?_eq_getElem (by omega)),getD_get (Array.getElem?_eq_getElem (by omega))]
 intro e
 have e':p.toList[i]'(by simpa using (by omega:i < p.size))=p.toList[j]'(by simpa using (by omega:j < p.size)):=by simpa using e
 exact hij ((List.getElem_inj hnd).mp e')
variable (hn:0 < n) (hπ:∀ i j,i < n→j < n→π i=π j→i=j)
include hn hπ
theorem kp_ne {p:Array Nat} (h:Pm n p) {i j:Nat} (hi:i < n) (hj:j < n) (hij:i≠j):Kp π p i≠Kp π p j:=fun e=>h.ne hi hj hij (hπ _ _ (h.lt hn i) (h.lt hn j) e)
theorem ks_step {p:Array Nat} (h:Pm n p) {k:Nat} (hk:1≤k) (hkn:k < n) (hs:KS π p k) (hl:¬ Kp π p k < Kp π p (k - 1)):KS π p (k + 1):=by
 intro i j hij hj
 by_cases e:j=k
 ·subst e
  have h1:Kp π p (j - 1) < Kp π p j:=by
   have:=kp_ne hn hπ h (i:=j - 1) (j:=j) (by omega) hkn (by omega)
   omega
  by_cases e2:i=j - 1
  ·rw[e2];exact h1
  ·exact Nat.lt_trans (hs i (j - 1) (by omega) (by omega)) h1
 ·exact hs i j hij (by omega)
theorem run_asc {p:Array Nat} (h:Pm n p):∀ (f x:Nat),1≤x→x + f≤n→KS π p x→x≤krun (ord π) (kas_asc p f x)∧krun (ord π) (kas_asc p f x)≤x + f∧KS π p (krun (ord π) (kas_asc p f x))
 | 0,x,h1,h2,hs=>by
  rw[kas_asc.eq_1]
  exact ⟨Nat.le_refl _,by show x≤x + 0;omega,hs⟩
 | f + 1,x,h1,h2,hs=>by
  rw[kas_asc.eq_2,krun_ask]
  by_cases hl:Kp π p x < Kp π p (x - 1)
  ·rw[show ord π (p.getD x 0) (p.getD (x - 1) 0)=true from decide_eq_true hl]
   show x≤krun (ord π) (.ret x)∧_
   exact ⟨Nat.le_refl _,by show x≤x + (f + 1);omega,hs⟩
  ·rw[show ord π (p.getD x 0) (p.getD (x - 1) 0)=false from decide_eq_false hl]
   have ih:=run_asc h f (x + 1) (by omega) (by omega) (ks_step hn hπ h h1 (by omega) hs hl)
   show x≤krun (ord π) (kas_asc p f (x + 1))∧krun (ord π) (kas_asc p f (x + 1))≤x + (f + 1)∧KS π p (krun (ord π) (kas_asc p f (x + 1)))
   exact ⟨by omega,by omega,ih.2.2⟩
def KF (π:Nat→Nat) (p:Array Nat) (k:Nat):Prop:=∀ j,1≤j→j < k→Kp π p j < Kp π p (j - 1)
omit hn hπ in
theorem kf_all {p:Array Nat}{k:Nat} (h:KF π p k):∀ (d i:Nat),i + d + 1 < k→Kp π p (i + d + 1) < Kp π p i
 | 0,i,hk=>h (i + 0 + 1) (by omega) hk
 | d + 1,i,hk=>by
  have h1:=kf_all h d i (by omega)
  have h2:=h (i + (d + 1) + 1) (by omega) hk
  have e:i + (d + 1) + 1 - 1=i + d + 1:=by omega
  rw[e] at h2
  exact Nat.lt_trans h2 h1
theorem run_desc {p:Array Nat} (h:Pm n p):∀ (f x:Nat),1≤x→x + f≤n→KF π p x→∃ m,krun (ord π) (kas_desc f p x 0)=(p,m,0)∧x≤m∧m≤x + f∧KF π p m
 | 0,x,h1,h2,hs=>by
  rw[kas_desc.eq_1]
  exact ⟨x,rfl,Nat.le_refl _,by omega,hs⟩
 | f + 1,x,h1,h2,hs=>by
  rw[kas_desc.eq_2,krun_ask]
  by_cases hl:Kp π p x < Kp π p (x - 1)
  ·rw[show ord π (p.getD x 0) (p.getD (x - 1) 0)=true from decide_eq_true hl]
   have hs':KF π p (x + 1):=fun j a b=>by
    by_cases e:j=x
    ·rw[e];exact hl
    ·exact hs j a (by omega)
   obtain ⟨m,e,a,b,c⟩:=run_desc h f (x + 1) (by omega) (by omega) hs'
   refine ⟨m,?_,by omega,by omega,c⟩
   exact e
  ·rw[show ord π (p.getD x 0) (p.getD (x - 1) 0)=false from decide_eq_false hl]
   refine ⟨x,?_,Nat.le_refl _,by omega,hs⟩
   show krun (ord π) (.ask (p.getD (x - 1) 0) (p.getD x 0) _)=_
   rw[krun_ask]
   have hg:Kp π p (x - 1) < Kp π p x:=by
    have:=kp_ne hn hπ h (i:=x - 1) (j:=x) (by omega) (by omega) (by omega)
    omega
   rw[show ord π (p.getD (x - 1) 0) (p.getD x 0)=true from decide_eq_true hg]
   rfl
omit hn hπ in
theorem rev_at {p:Array Nat}{m k:Nat} (hm:m≤p.size) (hk:k < m):(kas_rev p 0 m).getD k 0=p.getD (m - 1 - k) 0:=by
 unfold kas_rev
 rw[Array.getD_eq_getD_getElem?,getElem?_mirror_all hm,if_pos ⟨Nat.zero_le _,hk⟩,Array.getD_eq_getD_getElem?]
 congr 2
 omega
theorem run_tail3 {p:Array Nat} (h:Pm n p) {m:Nat} (h1:1≤m) (hm:m≤n) (hf:KF π p m):∃ r,krun (ord π) (kas_tail3 m n p)=r∧1≤r.1∧r.1≤n∧Pm n r.2∧KS π r.2 r.1:=by
 have hz:=h.size
 have hr:Pm n (kas_rev p 0 m):=h.rev 0 m
 have hs:KS π (kas_rev p 0 m) m:=fun i j hij hj=>by
  show π _ < π _
  rw[rev_at (by omega) (by omega),rev_at (by omega) hj]
  have:=kf_all hf (j - i - 1) (m - 1 - j) (by omega)
  have e:m - 1 - j + (j - i - 1) + 1=m - 1 - i:=by omega
  rw[e] at this
  exact this
 have ha:=run_asc hn hπ hr (n - m) m h1 (by omega) hs
 refine ⟨_,rfl,?_⟩
 unfold kas_tail3
 rw[krun_bind]
 exact ⟨by show 1≤krun (ord π) _;omega,by show krun (ord π) _≤n;omega,hr,ha.2.2⟩
theorem run_count {p:Array Nat} (h:Pm n p):∃ r,krun (ord π) (kas_count n p)=r∧1≤r.1∧r.1≤n∧Pm n r.2∧KS π r.2 r.1:=by
 unfold kas_count
 rw[krun_bind]
 have h0:KS π p 1:=fun i j hij hj=>by omega
 have ha:=run_asc hn hπ h (n - 1) 1 (Nat.le_refl _) (by omega) h0
 generalize hm:krun (ord π) (kas_asc p (n - 1) 1)=m at ha ⊢
 by_cases e:m=n
 ·rw[if_pos (by rw[e];simp)]
  exact ⟨(m,p),rfl,by show 1≤m;omega,by show m≤n;omega,h,ha.2.2⟩
 ·rw[if_neg (by simpa using e)]
  by_cases hm1:m > 1
  ·rw[if_pos hm1,krun_ask]
   have hl:Kp π p 0 < Kp π p (m - 1):=ha.2.2 0 (m - 1) (by omega) (by omega)
   rw[show ord π (p.getD 0 0) (p.getD (m - 1) 0)=true from decide_eq_true hl]
   exact ⟨(m,p),rfl,by show 1≤m;omega,by show m≤n;omega,h,ha.2.2⟩
  ·rw[if_neg hm1]
   have em:m=1:=by omega
   subst em
   unfold kas_descPart
   rw[krun_bind]
   have hlt:Kp π p 1 < Kp π p 0:=by
    by_cases hc:Kp π p 1 < Kp π p 0
    ·exact hc
    ·exfalso
     obtain ⟨g,hg⟩:∃ g,n - 1=g + 1:=⟨n - 2,by omega⟩
     rw[hg,kas_asc.eq_2,krun_ask,show ord π (p.getD 1 0) (p.getD (1 - 1) 0)=false from decide_eq_false hc] at hm
     have:=(run_asc hn hπ h g 2 (by omega) (by omega) (ks_step hn hπ h (Nat.le_refl _) (by omega) h0 hc)).1
     have hm':krun (ord π) (kas_asc p g 2)=1:=hm
     omega
   have hf2:KF π p 2:=fun j a b=>by
    have:j=1:=by omega
    subst this
    exact hlt
   obtain ⟨m2,e2,a2,b2,c2⟩:=run_desc hn hπ h (n - 2) 2 (by omega) (by omega) hf2
   rw[show n - (1 + 1)=n - 2 from rfl,e2]
   dsimp only
   rw[if_neg (by omega)]
   exact run_tail3 hn hπ h (by omega) (by omega) c2
theorem run_place {p:Array Nat} (h:Pm n p) {k:Nat} (hk:k < n) (hs:KS π p k):∀ (f l r:Nat),l≤r→r≤k→r - l≤f→(∀ j,j < l→Kp π p j < Kp π p k)→(∀ j,r≤j→j < k→Kp π p k < Kp π p j)→
  ∃ m,krun (ord π) (kas_place p k f l r)=m∧m≤k∧(∀ j,j < m→Kp π p j < Kp π p k)∧∀ j,m≤j→j < k→Kp π p k < Kp π p j
 | 0,l,r,h1,h2,h3,h4,h5=>by
  rw[kas_place.eq_1]
  have:l=r:=by omega
  subst this
  exact ⟨l,rfl,h2,h4,h5⟩
 | f + 1,l,r,h1,h2,h3,h4,h5=>by
  rw[kas_place.eq_2]
  by_cases hge:l ≥ r
  ·rw[if_pos hge]
   have:l=r:=by omega
   subst this
   exact ⟨l,rfl,h2,h4,h5⟩
  ·rw[if_neg hge,krun_ask]
   have hmid:(l + r) / 2 < r∧l≤(l + r) / 2:=by omega
   by_cases hc:Kp π p k < Kp π p ((l + r) / 2)
   ·rw[show ord π (p.getD k 0) (p.getD ((l + r) / 2) 0)=true from decide_eq_true hc]
    show ∃ m,krun (ord π) (kas_place p k f l ((l + r) / 2))=m∧_
    refine run_place h hk hs f l ((l + r) / 2) (by omega) (by omega) (by omega) h4 fun j a b=>?_
    by_cases e:j=(l + r) / 2
    ·rw[e];exact hc
    ·exact Nat.lt_trans hc (hs _ _ (by omega) b)
   ·rw[show ord π (p.getD k 0) (p.getD ((l + r) / 2) 0)=false from decide_eq_false hc]
    show ∃ m,krun (ord π) (kas_place p k f ((l + r) / 2 + 1) r)=m∧_
    have hg:Kp π p ((l + r) / 2) < Kp π p k:=by
     have:=kp_ne hn hπ h (i:=(l + r) / 2) (j:=k) (by omega) hk (by omega)
     omega
    refine run_place h hk hs f ((l + r) / 2 + 1) r (by omega) h2 (by omega) (fun j a=>?_) h5
    by_cases e:j=(l + r) / 2
    ·rw[e];exact hg
    ·exact Nat.lt_trans (hs _ _ (by omega) (by omega)) hg
theorem run_bin:∀ (f:Nat) {p:Array Nat} (k:Nat),Pm n p→k + f=n→KS π p k→Pm n (krun (ord π) (kas_bin f p k))∧KS π (krun (ord π) (kas_bin f p k)) n
 | 0,p,k,h,hk,hs=>by
  rw[kas_bin.eq_1]
  have:k=n:=by omega
  subst this
  exact ⟨h,hs⟩
 | f + 1,p,k,h,hk,hs=>by
  rw[kas_bin.eq_2,krun_bind]
  obtain ⟨m,e,a,b,c⟩:=run_place hn hπ h (by omega) hs k 0 k (by omega) (Nat.le_refl _) (by omega) (fun j z=>by omega) (fun j z y=>by omega)
  rw[e]
  refine run_bin f (k + 1) (h.bub _ _) (by omega) fun i j hij hj=>?_
  have hz:=h.size
  have at':∀ x,Kp π (bubble p k (k - m)) x=if x=m then Kp π p k else if m < x∧x≤k then Kp π p (x - 1) else Kp π p x:=fun x=>by
   show π _=_
   rw[Array.getD_eq_getD_getElem?,getElem?_bubble (by omega) (k - m) (by omega)]
   have em:k - (k - m)=m:=by omega
   rw[em]
   repeat' split
   all_goals (rw[← Array.getD_eq_getD_getElem?])
  rw[at' i,at' j]
  have hss:∀ x y,x≤y→y < k→Kp π p x≤Kp π p y:=fun x y h1 h2=>by
   rcases Nat.lt_or_ge x y with z | z
   ·exact Nat.le_of_lt (hs x y z h2)
   ·have:x=y:=by omega
    rw[this]
    exact Nat.le_refl _
  by_cases i1:i=m
  ·rw[if_pos i1,if_neg (by omega),if_pos (by omega)]
   exact c _ (by omega) (by omega)
  ·rw[if_neg i1]
   by_cases i2:m < i∧i≤k
   ·rw[if_pos i2,if_neg (by omega),if_pos (by omega)]
    exact hs _ _ (by omega) (by omega)
   ·rw[if_neg i2]
    by_cases j1:j=m
    ·rw[if_pos j1]
     exact b _ (by omega)
    ·rw[if_neg j1]
     by_cases j2:m < j∧j≤k
     ·rw[if_pos j2]
      have hi:i < m:=by omega
      rcases Nat.lt_or_ge i (j - 1) with z | z
      ·exact hs _ _ z (by omega)
      ·omega
     ·rw[if_neg j2]
      exact hs _ _ hij (by omega)
theorem run_sort:Pm n (krun (ord π) (kas_sort n))∧KS π (krun (ord π) (kas_sort n)) n:=by
 unfold kas_sort
 rw[krun_bind]
 obtain ⟨r,e,a,b,c,d⟩:=run_count hn hπ (p:=(List.range n).toArray) (Array.Perm.refl _)
 rw[e]
 by_cases hlt:r.1 < n
 ·rw[if_pos hlt]
  have em:max r.1 1=r.1:=by omega
  rw[em]
  exact run_bin hn hπ _ _ c (by omega) d
 ·rw[if_neg hlt]
  have:r.1=n:=by omega
  rw[this] at d
  exact ⟨c,d⟩
end
end L2
namespace L2
open PySem PySem.Spec PyProof.Rows PySem.W
theorem countP_lt {α:Type}{p q:α→Bool}:∀ {l:List α},(∀ x∈l,p x=true→q x=true)→(∃ x∈l,q x=true∧p x=false)→l.countP p < l.countP q
 | [],_,h=>by obtain ⟨x,hx,_⟩:=h;simp at hx
 | a :: l,h1,h2=>by
  have le:l.countP p≤l.countP q:=List.countP_mono_left fun x hx=>h1 x (List.mem_cons_of_mem _ hx)
  rw[List.countP_cons,List.countP_cons]
  obtain ⟨x,hx,hq,hp⟩:=h2
  rcases List.mem_cons.mp hx with rfl | hx
  ·rw[if_pos hq,if_neg (by rw[hp];simp)]
   omega
  ·have ih:=countP_lt (fun x hx=>h1 x (List.mem_cons_of_mem _ hx)) ⟨x,hx,hq,hp⟩
   by_cases ha:p a=true
   ·rw[if_pos ha,if_pos (h1 a List.mem_cons_self ha)]
    omega
   ·rw[if_neg ha]
    omega
theorem rank_of {n:Nat}{o:Nat→Nat→Bool} (ir:∀ i,o i i=false) (tr:∀ i j k,o i j=true→o j k=true→o i k=true) (to:∀ i j,i < n→j < n→i≠j→o i j=true∨o j i=true):
  ∃ π:Nat→Nat,(∀ i j,i < n→j < n→o i j=ord π i j)∧∀ i j,i < n→j < n→π i=π j→i=j:=by
 let π:Nat→Nat:=fun i=>(List.range n).countP fun k=>o k i
 have up:∀ i j,i < n→j < n→o i j=true→π i < π j:=fun i j hi hj h=>countP_lt (fun x _ hx=>tr x i j hx h) ⟨i,List.mem_range.mpr hi,h,ir i⟩
 refine ⟨π,fun i j hi hj=>?_,fun i j hi hj e=>?_⟩
 ·cases hb:o i j with
  | true=>exact (decide_eq_true (up i j hi hj hb)).symm
  | false=>
   refine (decide_eq_false fun z=>?_).symm
   by_cases e:i=j
   ·rw[e] at z;exact Nat.lt_irrefl _ z
   ·rcases to i j hi hj e with y | y
    ·rw[hb] at y;cases y
    ·exact Nat.lt_irrefl _ (Nat.lt_trans z (up j i hj hi y))
 ·by_cases hne:i=j
  ·exact hne
  ·rcases to i j hi hj hne with y | y
   ·have:=up i j hi hj y;omega
   ·have:=up j i hj hi y;omega
abbrev K3:=Int×Int×Str
def lexK (x y:K3):Bool:=if x.1 == y.1 then (if x.2.1 == y.2.1 then (if x.2.2 == y.2.2 then false else decide (x.2.2.cps.toList < y.2.2.cps.toList)) else decide (x.2.1 < y.2.1)) else decide (x.1 < y.1)
theorem lexK_irr (x:K3):lexK x x=false:=by unfold lexK;simp
theorem lexK_iff (x y:K3):lexK x y=true↔x.1 < y.1∨x.1=y.1∧(x.2.1 < y.2.1∨x.2.1=y.2.1∧x.2.2.cps.toList < y.2.2.cps.toList):=by
 unfold lexK
 by_cases h1:x.1=y.1
 ·rw[if_pos (by simpa using h1)]
  by_cases h2:x.2.1=y.2.1
  ·rw[if_pos (by simpa using h2)]
   by_cases h3:x.2.2=y.2.2
   ·rw[if_pos (by simpa using h3),h3]
    constructor
    ·intro z;cases z
    ·rintro (z | ⟨_,z | ⟨_,z⟩⟩)
     ·omega
     ·omega
     ·exact absurd z (List.lt_irrefl _)
   ·rw[if_neg (by simpa using h3),decide_eq_true_iff]
    constructor
    ·intro z;exact .inr ⟨h1,.inr ⟨h2,z⟩⟩
    ·rintro (z | ⟨_,z | ⟨_,z⟩⟩)
     ·omega
     ·omega
     ·exact z
  ·rw[if_neg (by simpa using h2),decide_eq_true_iff]
   constructor
   ·intro z;exact .inr ⟨h1,.inl z⟩
   ·rintro (z | ⟨_,z | ⟨z,_⟩⟩)
    ·omega
    ·exact z
    ·exact absurd z h2
 ·rw[if_neg (by simpa using h1),decide_eq_true_iff]
  constructor
  ·intro z;exact .inl z
  ·rintro (z | ⟨z,_⟩)
   ·exact z
   ·exact absurd z h1
theorem lexK_trans {x y z:K3} (h1:lexK x y=true) (h2:lexK y z=true):lexK x z=true:=by
 rw[lexK_iff] at h1 h2 ⊢
 rcases h1 with a | ⟨a,b | ⟨b,c⟩⟩ <;> rcases h2 with a' | ⟨a',b' | ⟨b',c'⟩⟩
 ·exact .inl (by omega)
 ·exact .inl (by omega)
 ·exact .inl (by omega)
 ·exact .inl (by omega)
 ·exact .inr ⟨by omega,.inl (by omega)⟩
 ·exact .inr ⟨by omega,.inl (by omega)⟩
 ·exact .inl (by omega)
 ·exact .inr ⟨by omega,.inl (by omega)⟩
 ·exact .inr ⟨by omega,.inr ⟨by omega,List.lt_trans c c'⟩⟩
theorem lexK_total {x y:K3} (h:x≠y):lexK x y=true∨lexK y x=true:=by
 rw[lexK_iff,lexK_iff]
 by_cases h1:x.1=y.1
 ·by_cases h2:x.2.1=y.2.1
  ·have h3:x.2.2≠y.2.2:=fun z=>h (Prod.ext h1 (Prod.ext h2 z))
   rcases Decidable.em (x.2.2.cps.toList < y.2.2.cps.toList) with z | z
   ·exact .inl (.inr ⟨h1,.inr ⟨h2,z⟩⟩)
   ·rcases Decidable.em (y.2.2.cps.toList < x.2.2.cps.toList) with z' | z'
    ·exact .inr (.inr ⟨h1.symm,.inr ⟨h2.symm,z'⟩⟩)
    ·exact absurd (cps_inj (List.le_antisymm (List.not_lt.mp z') (List.not_lt.mp z))) h3
  ·rcases Int.lt_or_gt_of_ne h2 with z | z
   ·exact .inl (.inr ⟨h1,.inl z⟩)
   ·exact .inr (.inr ⟨h1.symm,.inl z⟩)
 ·rcases Int.lt_or_gt_of_ne h1 with z | z
  ·exact .inl (.inl z)
  ·exact .inr (.inl z)
abbrev k0:K3:=(0,0,"")
def OutX (kk:List K3) (p:List Nat):Prop:=p.Perm (List.range kk.length)∧(kk.Nodup→(p.map fun i=>kk.getD i k0).Pairwise fun a b=>lexK a b=true)
theorem outX_run {kk:List K3} (h:0 < kk.length):OutX kk (krun (fun i j=>lexK (kk.getD i k0) (kk.getD j k0)) (kas_sort kk.length)).toList:=by
 refine ⟨Array.perm_iff_toList_perm.mp (KAll.run _ (kall_sort h)),fun hn=>?_⟩
 have ne:∀ i j,i < kk.length→j < kk.length→i≠j→kk.getD i k0≠kk.getD j k0:=fun i j hi hj hij e=>by
  rw[List.getD_eq_getElem?_getD,List.getD_eq_getElem?_getD,List.getElem?_eq_getElem hi,List.getElem?_eq_getElem hj] at e
  exact hij ((List.getElem_inj hn).mp e)
 obtain ⟨π,h1,h2⟩:=rank_of (n:=kk.length) (o:=fun i j=>lexK (kk.getD i k0) (kk.getD j k0)) (fun i=>lexK_irr _) (fun i j k=>lexK_trans) (fun i j hi hj hij=>lexK_total (ne i j hi hj hij))
 have e:krun (fun i j=>lexK (kk.getD i k0) (kk.getD j k0)) (kas_sort kk.length)=krun (ord π) (kas_sort kk.length):=krun_congr (n:=kk.length) (P:=Pm kk.length) h1 (kall_sort h)
 rw[e]
 obtain ⟨hP,hS⟩:=run_sort h h2
 have hz:=hP.size
 rw[List.pairwise_iff_getElem]
 intro i j hi hj hij
 have hi':i < kk.length:=by simpa [hz] using hi
 have hj':j < kk.length:=by simpa [hz] using hj
 have:=hS i j hij hj'
 have ei:(krun (ord π) (kas_sort kk.length)).getD i 0=(krun (ord π) (kas_sort kk.length)).toList[i]'(by simpa using (by omega:i < (krun (ord π) (kas_sort kk.length)).size)):=by rw[getD_get (Array.getElem?_eq_getElem (by omega))];simp
 have ej:(krun (ord π) (kas_sort kk.length)).getD j 0=(krun (ord π) (kas_sort kk.length)).toList[j]'(by simpa using (by omega:j < (krun (ord π) (kas_sort kk.length)).size)):=by rw[getD_get (Array.getElem?_eq_getElem (by omega))];simp
 rw[List.getElem_map,List.getElem_map,← ei,← ej]
 rw[h1 _ _ (hP.lt h i) (hP.lt h j)]
 exact decide_eq_true this
inductive I_KeyX (h:Heap) (v:Value) (k:K3):Prop
 | mk (t:_) (u1:_) (u2:_) (u3:_) (q0:v=.ref t) (q1:IsTup h t #[.int k.1 u1,.int k.2.1 u2,.str k.2.2 u3]):I_KeyX h v k
def KeyX (h:Heap) (v:Value) (k:K3):Prop:=I_KeyX h v k
theorem KeyX.weak {h:Heap}{v:Value}{k:K3} (x:KeyX h v k):KeyT h v:=by
 obtain ⟨t,u1,u2,u3,e,ht⟩:=x
 exact ⟨t,k.1,k.2.1,k.2.2,u1,u2,u3,e,ht⟩
section
variable {prog:Program}{w:World}{A:Around}{E:Value→Shared→Prop}{s:Shared}
theorem ltKX {fb:Bool}{v1 v2:Value}{x y:K3}{C:Bool→Shared→Prop} (hx:KeyX s.heap v1 x) (hy:KeyX s.heap v2 y) (h:C (lexK x y) s):wpAny (model prog w) A (keyLt' (tuples' fb) v1 v2) C E s:=by
 obtain ⟨a1,b1,c1⟩:=x
 obtain ⟨a2,b2,c2⟩:=y
 obtain ⟨p1,t1,t2,t3,rfl,hx⟩:=hx
 obtain ⟨p2,u1,u2,u3,rfl,hy⟩:=hy
 dsimp only at hx hy
 unfold lexK at h
 dsimp only at h
 show wpAny _ _ (Builtin.List.listItems (.ref p1) >>= _) _ _ _
 refine wpAny_bind (items_tup hx ?_)
 refine wpAny_bind (items_tup hy ?_)
 dsimp only [List.zip_cons_cons,List.zipIdx_cons,List.zip_nil_left]
 rw[List.zipIdx_nil]
 have e1:∀ {Q:Bool→Shared→Prop} {a b:Int} {t u:Tok},Q (a == b) s→wpAny (model prog w) A (eqBool (.int a t) (.int b u)) Q E s:=fun {Q a b t u} q=>eqAt_V (y:=.int a) (x:=.int b) ⟨t,rfl⟩ ⟨u,rfl⟩ rfl rfl prog w _ _ q
 have e2:∀ {Q:Bool→Shared→Prop} {a b:Str} {t u:Tok},Q (a == b) s→wpAny (model prog w) A (eqBool (.str a t) (.str b u)) Q E s:=fun {Q a b t u} q=>SeqAt.EqAt.str_str a t b u prog w _ _ q
 refine wpAny_bind ?_
 rw[List.forIn_cons]
 refine wpAny_bind (wpAny_bind (e1 ?_))
 cases hz:(a1 == a2) with
 | false=>
  rw[hz] at h
  refine wpAny_ite_true (by decide) ?_
  refine wpAny_bind ?_
  show wpAny _ _ (oneLt' (fb && 0 == 0) (Value.int a1 t1) (Value.int a2 u1)) _ _ _
  cases fb
  ·exact ltX_int (wpAny_pure (wpAny_pure (wpAny_pure h)))
  ·exact oneLt_int (wpAny_pure (wpAny_pure (wpAny_pure h)))
 | true=>
  rw[hz,if_pos rfl] at h
  refine wpAny_ite_false (by decide) (wpAny_pure ?_)
  dsimp only
  rw[List.forIn_cons]
  refine wpAny_bind (wpAny_bind (e1 ?_))
  cases hz2:(b1 == b2) with
  | false=>
   rw[hz2] at h
   refine wpAny_ite_true (by decide) ?_
   refine wpAny_bind ?_
   have ez:(fb && ((0 + 1:Nat) == 0))=false:=by cases fb <;> rfl
   show wpAny _ _ (oneLt' (fb && (0 + 1 == 0)) (Value.int b1 t2) (Value.int b2 u2)) _ _ _
   rw[ez]
   exact ltX_int (wpAny_pure (wpAny_pure (wpAny_pure h)))
  | true=>
   rw[hz2,if_pos rfl] at h
   refine wpAny_ite_false (by decide) (wpAny_pure ?_)
   dsimp only
   rw[List.forIn_cons]
   refine wpAny_bind (wpAny_bind (e2 ?_))
   cases hz3:(c1 == c2) with
   | false=>
    rw[hz3] at h
    refine wpAny_ite_true (by decide) ?_
    refine wpAny_bind ?_
    have ez:(fb && ((0 + 1 + 1:Nat) == 0))=false:=by cases fb <;> rfl
    show wpAny _ _ (oneLt' (fb && (0 + 1 + 1 == 0)) (Value.str c1 t3) (Value.str c2 u3)) _ _ _
    rw[ez]
    exact ltX_str (wpAny_pure (wpAny_pure (wpAny_pure h)))
   | true=>
    rw[hz3,if_pos rfl] at h
    refine wpAny_ite_false (by decide) (wpAny_pure ?_)
    dsimp only
    rw[List.forIn_nil]
    exact wpAny_pure (wpAny_pure h)
theorem item_zip {ks its:List Value} (hl:ks.length=its.length) (i:Nat):kas_item (ks.toArray.zip its.toArray) i=(ks.getD i .none,its.getD i .none):=by
 unfold kas_item
 by_cases h:i < ks.length
 ·have hz:i < (ks.toArray.zip its.toArray).size:=by simp[hl];omega
  rw[Array.getD_eq_getD_getElem?,Array.getElem?_eq_getElem hz,List.getD_eq_getElem?_getD,List.getD_eq_getElem?_getD,List.getElem?_eq_getElem h,List.getElem?_eq_getElem (by omega)]
  simp
 ·have hz:¬ i < (ks.toArray.zip its.toArray).size:=by simp[hl];omega
  rw[Array.getD_eq_getD_getElem?,Array.getElem?_eq_none (by omega),List.getD_eq_getElem?_getD,List.getD_eq_getElem?_getD,List.getElem?_eq_none (by omega),List.getElem?_eq_none (by omega)]
  rfl
theorem runsX {b:Bool}{ks its:List Value}{kk:List K3}{Q:Unit×SortSt→Shared→Prop} (hl:ks.length=its.length) (hkl:kk.length=its.length) (h2:2≤its.length) (h64:its.length < 64) (hk:∀ i,i < its.length→KeyX s.heap (ks.getD i .none) (kk.getD i k0))
  (h:∀ (st:SortSt) (p:List Nat),OutX kk p→(arrOf st).map (·.2)=(p.map fun i=>its.getD i .none).toArray→failedOf st=none→Q ((),st) s):wpAny (model prog w) A (sortRuns'.run (SortSt.mk' (tuples' b) (ks.toArray.zip its.toArray) #[] 7 none)) Q E s:=by
 have hz:(ks.toArray.zip its.toArray).size=its.length:=by simp[hl]
 have main:=kas_runs (prog:=prog) (w:=w) (A:=A) (E:=E) (κ:=tuples' b) (it:=ks.toArray.zip its.toArray) (n:=its.length) (s:=s) (Q:=fun u st s'=>s'=s∧Q (u,st) s) (G:=fun p s'=>p=krun (fun i j=>lexK (kk.getD i k0) (kk.getD j k0)) (kas_sort its.length)∧s'=s) h2 h64 (fun p' st' s' hsz ha hf hG=>?_)
  (KAll.wpO (n:=its.length) (P:=Pm its.length) (o:=fun i j=>lexK (kk.getD i k0) (kk.getD j k0)) (fun i j C hi hj hC=>?_) (kall_sort (by omega)) ⟨rfl,rfl⟩)
 ·have e1:kas_st (tuples' b) (ks.toArray.zip its.toArray) (List.range its.length).toArray=SortSt.mk' (tuples' b) (ks.toArray.zip its.toArray) #[] 7 none:=by
   unfold kas_st
   have:=kas_range (ks.toArray.zip its.toArray)
   rw[hz] at this
   rw[this]
  rw[e1] at main
  exact wpAny_mono main (fun r s' z=>by
   obtain ⟨rfl,q⟩:=z
   exact q) fun e s' z=>z
 ·obtain ⟨rfl,rfl⟩:=hG
  have ho:=outX_run (kk:=kk) (by omega)
  rw[hkl] at ho
  refine ⟨rfl,h st' _ ho ?_ hf⟩
  rw[ha]
  apply Array.toList_inj.mp
  rw[Array.map_map,Array.toList_map]
  show _=List.map _ _
  refine List.map_congr_left fun i _=>?_
  show (kas_item (ks.toArray.zip its.toArray) i).2=_
  rw[item_zip hl]
 ·unfold kas_cmp
  rw[item_zip hl,item_zip hl]
  exact ltKX (hk i hi) (hk j hj) hC
end
end L2
namespace L2
open PySem PySem.Spec PyProof.Rows PySem.W
section
variable {prog:Program}{w:World}{A:Around}{E:Value→Shared→Prop}{s:Shared}
theorem endX {a kS:Addr}{ks its:List Value}{kk:List K3}{e e1:Nat}{P:PySem.Fin→Shared→Prop} (ha:s.heap.get? a=some (seqObj "list" #[] e1)) (hk:s.heap.get? kS=some (seqObj "list" ks.toArray e)) (hne:a≠kS) (hl:ks.length=its.length) (h64:its.length < 64) (hkl:kk.length=its.length) (hK:∀ i,i < its.length→KeyX s.heap (ks.getD i .none) (kk.getD i k0))
  (h:∀ p:List Nat,OutX kk p→P (Fin.done (Flow.ret Value.none)) { s with heap:=(s.heap.update kS (Obj.mapSeq fun _=>#[])).update a (Obj.mapSeq fun _=>(p.map fun i=>its.getD i .none).toArray) }):wpAny (model prog w) A (ksk_end a false its.toArray e1 (.ref kS) ks.toArray) P E s:=by
 have z:∀ n:Nat,n < 64→n≤sizeLine:=fun n hn=>sizeLine_big (by omega)
 have zip_size:(ks.toArray.zip its.toArray).size=its.length:=by simp[hl]
 have fin:∀ (st:SortSt) (p:List Nat),OutX kk p→(arrOf st).map (·.2)=(p.map fun i=>its.getD i .none).toArray→failedOf st=none→wpAny (model prog w) A (ksk_tail a false e1 (.ref kS) st) P E s:=fun st p ho hst hf=>by
  have hpl:=ho.1.length_eq
  rw[List.length_range] at hpl
  have hsz:(arrOf st).size=its.length:=by
   have h1:((arrOf st).map (·.2)).size=(arrOf st).size:=Array.size_map ..
   have h2:(p.map fun i=>its.getD i Value.none).toArray.size=p.length:=by simp
   rw[hst] at h1
   omega
  refine tailT ha hk hne (by rw[List.size_toArray];exact z _ (by omega)) (by rw[hsz];exact z _ h64) hf ?_
  rw[hst]
  exact h p ho
 unfold ksk_end
 dsimp only
 by_cases h2:its.length < 2
 ·have h2':its.toArray.size < 2:=by simpa using h2
  rw[if_neg Bool.false_ne_true,if_pos h2']
  refine wpAny_bind (wpAny_pure ?_)
  rw[if_pos h2',if_neg Bool.false_ne_true]
  refine wpAny_bind (wpAny_pure ?_)
  refine fin _ (List.range its.length) ⟨by rw[hkl],fun _=>?_⟩ ?_ rfl
  ·rw[List.pairwise_iff_getElem]
   intro i j hi hj hij
   simp at hi hj
   omega
  ·show (ks.toArray.zip its.toArray).map (·.2)=_
   apply Array.toList_inj.mp
   rw[Array.toList_map,Array.toList_zip]
   show List.map Prod.snd (ks.zip its)=_
   rw[List.map_snd_zip (by omega)]
   apply List.ext_getElem?
   intro j
   rw[List.getElem?_map]
   by_cases hj:j < its.length
   ·rw[List.getElem?_range hj,List.getElem?_eq_getElem hj]
    simp[hj]
   ·rw[List.getElem?_eq_none (by omega),List.getElem?_eq_none (by simpa using hj)]
    rfl
 ·have h2':¬ its.toArray.size < 2:=by simpa using h2
  rw[if_neg Bool.false_ne_true,if_neg h2']
  refine wpAny_bind (kindT (fun v hv=>?_) fun b=>?_)
  ·obtain ⟨i,hi,rfl⟩:=List.mem_iff_getElem.mp hv
   have:=(hK i (by omega)).weak
   rw[List.getD_eq_getElem?_getD,List.getElem?_eq_getElem hi] at this
   exact this
  rw[if_neg h2',if_neg Bool.false_ne_true]
  exact wpAny_bind (runsX hl hkl (by omega) h64 hK fun st p ho hst hf=>fin st p ho hst hf)
end
section
variable {X:Cx}{pins:List (Addr×Obj)}{σ:St}
inductive I_KeyHX (H:Hp) (v:Value) (k:K3):Prop
 | mk (t:_) (q0:v=.ref t) (q1:H t=some (.tup [.int k.1,.int k.2.1,.str k.2.2])):I_KeyHX H v k
def KeyHX (H:Hp) (v:Value) (k:K3):Prop:=I_KeyHX H v k
theorem KeyHX.real {H:Hp}{s:Shared}{v:Value}{k:K3} (I:Inv X pins σ H s) (h:KeyHX H v k):KeyX s.heap v k:=by
 obtain ⟨t,rfl,ht⟩:=h
 obtain ⟨_,its,rv,hT⟩:ObjOk X.prog X.w H s.heap t (.tup [.int k.1,.int k.2.1,.str k.2.2]):=I.hok _ _ ht
 cases rv with
 | cons r1 rv=>
  cases rv with
  | cons r2 rv=>
   cases rv with
   | cons r3 rv=>
    cases rv
    obtain ⟨u1,e1⟩:=r1
    obtain ⟨u2,e2⟩:=r2
    obtain ⟨u3,e3⟩:=r3
    subst e1 e2 e3
    exact ⟨t,u1,u2,u3,rfl,hT⟩
structure KsX (KR:V→K3→Prop) (H:Hp) (xd:List V) (ks:List Value) (kk:List K3):Prop where
 len:ks.length=xd.length∧kk.length=xd.length
 key:∀ i,i < xd.length→KeyHX H (ks.getD i .none) (kk.getD i k0)
 kr:∀ i,i < xd.length→KR (xd.getD i .non) (kk.getD i k0)
theorem KsX.nil {KR:V→K3→Prop}{H:Hp}:KsX KR H [] [] []:=⟨⟨rfl,rfl⟩,fun i hi=>by simp at hi,fun i hi=>by simp at hi⟩
theorem KsX.same {KR:V→K3→Prop}{H H':Hp}{xd:List V}{ks:List Value}{kk:List K3} (h:KsX KR H xd ks kk) (s:Same H H'):KsX KR H' xd ks kk:=
 ⟨h.len,fun i hi=>by obtain ⟨t,e,ht⟩:=h.key i hi;exact ⟨t,e,s _ _ ht⟩,h.kr⟩
theorem getD_snoc {α:Type} (l:List α) (x d:α) (i:Nat):(l ++ [x]).getD i d=if i < l.length then l.getD i d else if i=l.length then x else d:=by
 rw[List.getD_eq_getElem?_getD,List.getD_eq_getElem?_getD]
 by_cases h:i < l.length
 ·rw[if_pos h,List.getElem?_append_left h]
 ·rw[if_neg h,List.getElem?_append_right (by omega)]
  by_cases h2:i=l.length
  ·rw[if_pos h2,h2];simp
  ·rw[if_neg h2,List.getElem?_eq_none (by simp;omega)]
   rfl
theorem KsX.snoc {KR:V→K3→Prop}{H:Hp}{xd:List V}{ks:List Value}{kk:List K3}{y:V}{a b:Int}{c:Str}{t:Addr} (h:KsX KR H xd ks kk) (hk:KR y (a,b,c)) (ht:H t=some (.tup [.int a,.int b,.str c])):KsX KR H (xd ++ [y]) (ks ++ [Value.ref t]) (kk ++ [(a,b,c)]):=by
 obtain ⟨l1,l2⟩:=h.len
 refine ⟨⟨by simp[l1],by simp[l2]⟩,fun i hi=>?_,fun i hi=>?_⟩
 ·rw[getD_snoc,getD_snoc,l1,l2]
  by_cases h1:i < xd.length
  ·rw[if_pos h1,if_pos h1]
   exact h.key i h1
  ·have:i=xd.length:=by simp at hi;omega
   rw[if_neg h1,if_neg h1,if_pos this,if_pos this]
   exact ⟨t,rfl,ht⟩
 ·rw[getD_snoc,getD_snoc,l2]
  by_cases h1:i < xd.length
  ·rw[if_pos h1,if_pos h1]
   exact h.kr i h1
  ·have:i=xd.length:=by simp at hi;omega
   rw[if_neg h1,if_neg h1,if_pos this,if_pos this]
   exact hk
theorem key_loopX {k:Nat}{f:Addr}{fd:FuncData}{x:Str}{sp:Sp}{A':Around}{E:Value→Shared→Prop} (F:FnOk X.prog X.w X.K X.mg X.base CX0 k f fd [x] sp) (hr:Room k A') (hA:A'.frames=some X.stack) (hb:Binds X.K fd [x] [])
  {D kS:Addr} {H0:Hp} {e1:Nat} {xs:List V} {KR:V→K3→Prop} (fD:∀ H',H' D=none→FpOk X pins H' D) (fK:∀ H',H' kS=none→FpOk X pins H' kS) (hne:D≠kS)
  (hkey:∀ y∈xs,∀ (H':Hp) (Q:VK),Same H0 H'→(∀ t a b c H'',Same H' H''→H'' t=some (.tup [.int a,.int b,.str c])→KR y (a,b,c)→Q (.ref t) H'')→sp [y] H' Q E0) {er:Value→Value→Sem (ForInStep PUnit)} {Q:Shared→Prop}
  {body:Value→PUnit→Sem (ForInStep PUnit)} (hbody:∀ v u,body v u=(do
   let r ← (call (.ref f) [v]).attempt
   match r with
   | Except.ok k=>do
    Builtin.List.listUpdate (.ref kS) fun x=>x.push k
    pure (ForInStep.yield PUnit.unit)
   | Except.error e=>er v e)):
  ∀ (rest:List Value) (xr:List V) (s:Shared) (H:Hp) (ks:List Value) (kk:List K3) (xd:List V) (e:Nat),Vals xr rest→(∀ y∈xr,y∈xs)→Inv X pins σ H s→Same H0 H→H D=none→H kS=none→s.heap.get? D=some (seqObj "list" #[] e1)→s.heap.get? kS=some (seqObj "list" ks.toArray e)→KsX KR H xd ks kk→ks.length + rest.length < 64→
   (∀ (s':Shared) (H':Hp) (ks':List Value) (kk':List K3) (e':Nat),Inv X pins σ H' s'→Same H0 H'→H' D=none→H' kS=none→s'.heap.get? D=some (seqObj "list" #[] e1)→s'.heap.get? kS=some (seqObj "list" ks'.toArray e')→KsX KR H' (xd ++ xr) ks' kk'→ks'.length=ks.length + rest.length→Q s')→
   wpAny (model X.prog X.w) A' (forIn rest PUnit.unit body) (fun _ s'=>Q s') E s:=by
 intro rest
 induction rest with
 | nil=>
  intro xr s H ks kk xd e r hsub I S hD hK gD gK hk h64 q
  rw[List.forIn_nil]
  cases r
  exact wpAny_pure (q s H ks kk e I S hD hK gD gK (by rw[List.append_nil];exact hk) rfl)
 | cons v rest ih=>
  intro xr s H ks kk xd e r hsub I S hD hK gD gK hk h64 q
  rw[List.length_cons] at h64
  cases r with
  | @cons y _ xr' _ r1 r2=>
  rw[List.forIn_cons,hbody]
  refine wpAny_bind (wpAny_bind (wpAny_attempt ?_))
  have I3:Inv X ((D,seqObj "list" #[] e1) :: (kS,seqObj "list" ks.toArray e) :: pins) σ H s:=I.pins_of fun p hp=>by
   rcases List.mem_cons.mp hp with z | hp
   ·subst z
    exact ⟨gD,hD,(fD H hD).2.1,(fD H hD).2.2.1,fun v z=>by cases z⟩
   ·rcases List.mem_cons.mp hp with z | hp
    ·subst z
     exact ⟨gK,hK,(fK H hK).2.1,(fK H hK).2.2.1,fun v z=>by cases z⟩
    ·exact I.pin p (List.mem_append_right _ hp)
  have e0:Env0 X.prog X.w X.K X.mg X.base A' X.stack s H:=⟨hA,I.env0.mod,I.env0.bs,I.env0.bsz,I.env0.funs,I.env0.frf,I.env0.hok,I.env0.bare⟩
  refine wpAny_call (codeAny_mono (F.run A' X.stack s H ⟨[v],[]⟩ [v] [y] (fun u H''=>∃ t a b c,u=.ref t∧H'' t=some (.tup [.int a,.int b,.str c])∧Same H H''∧KR y (a,b,c)) E0 hr e0 (hb s [v] I.kIn rfl) (.cons r1 .nil)
   (hkey y (hsub y List.mem_cons_self) H _ S fun t a b c H'' s2 h2 hkr=>⟨t,a,b,c,rfl,h2,s2,hkr⟩)) fun r s' hq=>?_)
  cases r with
  | error e=>exact False.elim hq
  | ok fl=>
   cases fl with
   | next=>exact False.elim hq
   | brk=>exact False.elim hq
   | cont=>exact False.elim hq
   | ret u=>
    obtain ⟨vv,H',I',r',t,a,b,c,rfl,ht,S',hkr⟩:=I3.after hq
    cases r'
    obtain ⟨gD',hD',_⟩:=I'.pin (D,seqObj "list" #[] e1) (List.mem_append_right _ List.mem_cons_self)
    obtain ⟨gK',hK',_⟩:=I'.pin (kS,seqObj "list" ks.toArray e) (List.mem_append_right _ (List.mem_cons_of_mem _ List.mem_cons_self))
    have I4:Inv X pins σ H' s':=I'.pins_of fun p hp=>I'.pin p (List.mem_append_right _ (List.mem_cons_of_mem _ (List.mem_cons_of_mem _ hp)))
    refine wpAny_bind (listUpdate_at gK' rfl ?_ (sizeLine_big (by rw[List.size_toArray];omega)) (by rw[Array.size_push,List.size_toArray];exact Nat.le_succ_of_le (sizeLine_big (by omega))))
    refine wpAny_pure ?_
    have gK2:=get?_update_seq gK' (fun x=>x.push (.ref t))
    have ep:(ks.toArray.push (.ref t))=(ks ++ [Value.ref t]).toArray:=by simp
    rw[ep] at gK2
    have I5:Inv X pins σ H' { s' with heap:=s'.heap.update kS (Obj.mapSeq fun x=>x.push (.ref t)) }:=I4.turnedL (t':=s'.toks) (fp:=[kS]) (fun b o hb e=>by
     rw[Heap.get?_update_ne _ _ _ _ (fun z=>hb (by simp[z]))]
     exact e) fun b hb=>by
      rw[List.mem_singleton.mp hb]
      exact fK H' hK'
    refine ih xr' _ H' (ks ++ [Value.ref t]) (kk ++ [(a,b,c)]) (xd ++ [y]) _ r2 (fun y hy=>hsub y (List.mem_cons_of_mem _ hy)) I5 (S.trans S') hD' hK' ?_ gK2 ((hk.same S').snoc hkr ht) (by rw[List.length_append,List.length_singleton];omega) fun s'' H'' ks'' kk'' e'' a1 a2 a3 a4 a5 a6 a7 a8=>?_
    ·show (s'.heap.update kS _).get? D=_
     rw[Heap.get?_update_ne _ _ _ _ hne]
     exact gD'
    ·refine q s'' H'' ks'' kk'' e'' a1 a2 a3 a4 a5 a6 ?_ (by rw[a8,List.length_append,List.length_singleton,List.length_cons];omega)
     rw[List.append_assoc] at a7
     exact a7
end
section
variable {X:Cx}{pins:List (Addr×Obj)}{σ:St}{H:Hp}{s:Shared}
theorem sortedKX {k:Nat}{f l:Addr}{fd:FuncData}{x:Str}{sp:Sp}{xs:List V}{its:List Value}{KR:V→K3→Prop}{Q:VK}{E:Value→Shared→Prop} (F:FnOk X.prog X.w X.K X.mg X.base CX0 k f fd [x] sp) (hr:Room (k + 2) X.A) (hb:Binds X.K fd [x] [])
  (I:Inv X pins σ H s) (rv:Vals xs its) (hcol:∀ (B:Around) (Q':List Value→Shared→Prop) (E':Value→Shared→Prop),B.handled=none→(∀ (h1:Heap) (tk:Nat),(∀ b u,s.heap.get? b=some u→h1.get? b=some u)→s.heap.objs.size≤h1.objs.size→Q' its { s with heap:=h1,toks:=tk })→wpAny (model X.prog X.w) B (collect (.ref l)) Q' E' s) (h64:xs.length < 64)
  (hkey:∀ y∈xs,∀ (H':Hp) (Q:VK),Same H H'→(∀ t a b c H'',Same H' H''→H'' t=some (.tup [.int a,.int b,.str c])→KR y (a,b,c)→Q (.ref t) H'')→sp [y] H' Q E0)
  (q:∀ D (kk:List K3) (p:List Nat) H',Same H H'→H D=none→kk.length=xs.length→(∀ i,i < xs.length→KR (xs.getD i .non) (kk.getD i k0))→OutX kk p→H' D=some (.lst (p.map fun i=>xs.getD i .non))→Q (.ref D) H'):
  wpAny (model X.prog X.w) X.A (call (.builtin "sorted") [.ref l] [(Str.ofString "key",.ref f)]) (EP X pins σ Q) E s:=by
 have hlen:=rv.length
 have zz:its.length≤sizeLine:=sizeLine_big (by omega)
 refine call_function_entry_kw kind_sorted plain_sorted entry_sorted (ksk_s1 _ _) ?_
 refine wpAny_bind (wpAny_pure ?_)
 refine wpAny_bind (hcol _ _ _ hr.hd fun h1 tk old1 hsz1=>?_)
 refine wpAny_bind (wpAny_newList ?_ zz)
 dsimp only
 obtain ⟨D,hD⟩:∃ D,D=h1.objs.size:=⟨_,rfl⟩
 have gD0:(h1.push (seqObj "list" its.toArray 0)).get? D=some (seqObj "list" its.toArray 0):=by
  rw[hD]
  exact Heap.get?_push_size _ rfl
 have old2:∀ b o,s.heap.get? b=some o→(h1.push (seqObj "list" its.toArray 0)).get? b=some o:=fun b o e=>Heap.get?_push_of_some _ (old1 b o e)
 have hsz2:(h1.push (seqObj "list" its.toArray 0)).objs.size=D + 1:=by rw[size_push',hD]
 change wpAny _ _ (do let _ ← holding [Value.ref h1.objs.size] (call (.builtin "list.sort") [Value.ref h1.objs.size] [(Str.ofString "key",.ref f)]);ret (Value.ref h1.objs.size)) _ _ { s with heap:=h1.push (seqObj "list" its.toArray 0),toks:=tk }
 rw[← hD]
 generalize h1.push (seqObj "list" its.toArray 0)=h2 at gD0 old2 hsz2 ⊢
 have hDs:s.heap.objs.size≤D:=by rw[hD];exact hsz1
 refine wpAny_bind (wpAny_holding (wpAny_call_entry_kw slot_list_sort ⟨_,gD0,rfl⟩ entry_list_sort ?_ (ksk_l1 _ _)))
 rw[ksk_t1]
 unfold ksk_tree
 refine wpAny_bind (listItems_at gD0 rfl ?_)
 refine wpAny_bind (listUpdate_at gD0 rfl ?_ (by rw[List.size_toArray];exact zz) (Nat.zero_le _))
 have gD1:=get?_update_seq gD0 (fun _=>#[])
 generalize (if ((#[]:Array Value).size == its.toArray.size)=true then 0 else 0 + 1)=e1 at gD1
 have old3:∀ b o,s.heap.get? b=some o→(h2.update D (Obj.mapSeq fun _=>#[])).get? b=some o:=fun b o e=>by
  rw[Heap.get?_update_ne _ _ _ _ (Nat.ne_of_lt (Nat.lt_of_lt_of_le (Heap.lt_size e) hDs))]
  exact old2 b o e
 have hsz3:(h2.update D (Obj.mapSeq fun _=>#[])).objs.size=D + 1:=by rw[Heap.size_update,hsz2]
 dsimp only
 generalize h2.update D (Obj.mapSeq fun _=>#[])=h3 at gD1 old3 hsz3 ⊢
 refine wpAny_bind (seqEpoch_at gD1 rfl ?_)
 refine wpAny_bind (wpAny_newTuple ?_ (by simpa using zz))
 refine wpAny_bind (wpAny_newList ?_ (Nat.zero_le _))
 dsimp only
 refine wpAny_holding ?_
 obtain ⟨kS,hkS⟩:∃ kS,kS=(h3.push { cls:=Value.type "tuple",data:=Data.seq its.toArray.toList.toArray }).objs.size:=⟨_,rfl⟩
 have gK4:((h3.push { cls:=Value.type "tuple",data:=Data.seq its.toArray.toList.toArray }).push { cls:=Value.type "list",data:=Data.seq ([]:List Value).toArray }).get? kS=some (seqObj "list" ([]:List Value).toArray 0):=by
  rw[hkS]
  exact Heap.get?_push_size _ rfl
 have gD4:((h3.push { cls:=Value.type "tuple",data:=Data.seq its.toArray.toList.toArray }).push { cls:=Value.type "list",data:=Data.seq ([]:List Value).toArray }).get? D=some (seqObj "list" #[] e1):=Heap.get?_push_of_some _ (Heap.get?_push_of_some _ gD1)
 have old4:∀ b o,s.heap.get? b=some o→((h3.push { cls:=Value.type "tuple",data:=Data.seq its.toArray.toList.toArray }).push { cls:=Value.type "list",data:=Data.seq ([]:List Value).toArray }).get? b=some o:=fun b o e=>Heap.get?_push_of_some _ (Heap.get?_push_of_some _ (old3 b o e))
 have hkSs:kS=D + 2:=by rw[hkS,Heap.size_push,hsz3]
 rw[← hkS]
 generalize (h3.push { cls:=Value.type "tuple",data:=Data.seq its.toArray.toList.toArray }).push { cls:=Value.type "list",data:=Data.seq ([]:List Value).toArray }=h4 at gK4 gD4 old4 ⊢
 have hne:D≠kS:=Nat.ne_of_lt (by rw[hkSs];exact Nat.lt_succ_of_lt (Nat.lt_succ_self _))
 have I4:Inv X pins σ H { s with heap:=h4,toks:=tk }:=I.kept (t':=tk) old4
 have lD:s.heap.objs.size≤D:=hDs
 have lK:s.heap.objs.size≤kS:=by rw[hkSs];exact Nat.le_trans hDs (Nat.le_add_right _ _)
 have nD:H D=none:=I.hok.fresh lD
 have nK:H kS=none:=I.hok.fresh lK
 have fD:∀ H',H' D=none→FpOk X pins H' D:=fun H' hn=>I.fpOk lD hn
 have fK:∀ H',H' kS=none→FpOk X pins H' kS:=fun H' hn=>I.fpOk lK hn
 unfold ksk_rest
 refine wpAny_bind (wpAny_rule ?_)
 refine wpAny_bind ?_
 rw[← Array.forIn_toList]
 have hrk:Room k X.A.in1.in1:=(hr.in1).in1
 refine key_loopX (KR:=KR) (X:=X) (pins:=pins) (σ:=σ) (A':=X.A.in1.in1) F hrk I.ok.frames hb (D:=D) (kS:=kS) (H0:=H) (e1:=e1) (xs:=xs) fD fK hne hkey (er:=fun v e=>do
     rule "list.sort.key-raised"
     let made ← Builtin.List.listItems (.ref kS)
     Builtin.List.listUpdate (.ref kS) fun x=>#[]
     letGo made.toList.reverse [e]
     Builtin.List.listUpdate (Value.ref D) fun x=>its.toArray
     throw e
     pure (ForInStep.yield PUnit.unit)) (fun v u=>by congr 1) its xs _ H [] [] [] 0 rv (fun y hy=>hy) I4 (Same.refl H) nD nK gD4 gK4 KsX.nil (by simp;omega) ?_
 intro s' H' ks kk e' I' S hD' hK' gD' gK' hks hkl
 rw[List.nil_append] at hks
 obtain ⟨z1,z2⟩:=hks.len
 refine wpAny_bind (listItems_at gK' rfl ?_)
 refine endX (kk:=kk) gD' gK' hne (by omega) (by omega) (by omega) (fun i hi=>(hks.key i (by omega)).real I') fun p ho=>?_
 refine ⟨_,rfl,wpAny_pure ⟨_,rfl,?_⟩⟩
 have hpm:∀ i∈p,i < xs.length:=fun i hi=>by
  have:=ho.1.mem_iff.mp hi
  rw[List.mem_range] at this
  omega
 have rys:=vals_pick rv p hpm
 have I6:Inv X pins σ H' { s' with heap:=(s'.heap.update kS (Obj.mapSeq fun _=>#[])).update D (Obj.mapSeq fun _=>(p.map fun i=>its.getD i .none).toArray) }:=I'.turnedL (t':=s'.toks) (fp:=[kS,D]) (fun b o hb e=>by
  rw[Heap.get?_update_ne _ _ _ _ (fun z=>hb (by simp[z])),Heap.get?_update_ne _ _ _ _ (fun z=>hb (by simp[z]))]
  exact e) fun b hb=>by
   simp only [List.mem_cons,List.not_mem_nil,or_false] at hb
   rcases hb with rfl | rfl
   ·exact fK H' hK'
   ·exact fD H' hD'
 have gD6:((s'.heap.update kS (Obj.mapSeq fun _=>#[])).update D (Obj.mapSeq fun _=>(p.map fun i=>its.getD i .none).toArray)).get? D=_:=get?_update_seq (c:="list") (xs:=#[]) (n:=e1) (by
  rw[Heap.get?_update_ne _ _ _ _ hne]
  exact gD') fun _=>(p.map fun i=>its.getD i .none).toArray
 have hpl:=ho.1.length_eq
 rw[List.length_range] at hpl
 have hyl:(p.map fun i=>xs.getD i V.non).length≤sizeLine:=sizeLine_big (by rw[List.length_map];omega)
 exact ⟨.ref D,_,I6.track (ob:=.lst (p.map fun i=>xs.getD i .non)) (fD H' hD') ⟨hyl,_,_,rys,gD6⟩,rfl,q D kk p _ (S.trans (Same.new hD')) nD (by omega) (fun i hi=>hks.kr i hi) ho upd_same⟩
end
end L2
namespace L2
open PySem PySem.Spec PyProof.Rows PySem.W
section
variable {X:Cx}{pins:List (Addr×Obj)}{σ:St}{H:Hp}{s:Shared}{a:Addr}{kvs:List (Key×V)}{k:Key}{u r:Value}{A:Around}{E:Value→Shared→Prop}
theorem d_sd {z:V}{Q:Value→Shared→Prop} (I:Inv X pins σ H s) (e:H a=some (.dK kvs)) (hl:kvs.length < 1000) (ry:RelV (kV k) u) (rz:RelV z r)
  (h1:∀ v w' s',valV kvs k=some v→Inv X pins σ H s'→RelV v w'→Q w' s') (h2:∀ s',valV kvs k=none→Inv X pins σ (upd H a (.dK (putK kvs k z))) s'→Q r s'):wpAny (model X.prog X.w) A (call (.builtin "dict.setdefault") [.ref a,u,r]) Q E s:=by
 obtain ⟨zz,hd,vs,rel,dd⟩:=dk_of I.hok e
 refine call_meetsIn PySem.F.slot_dict_setdefault dd.typeIs PySem.F.entry_dict_setdefault (PySem.F.args_dict_setdefault_3 _ _ _) (kt_meets_setdefault (mixKind X.prog X.w) a (kV_is ry) hd r) ⟨vs,dd,by rw[← rel.length];exact zz,fun w' hw=>?_,fun hn h' dd' hs=>?_⟩
 ·have hr:=rel.val k
  rw[hw] at hr
  cases hv:valV kvs k with
  | none=>rw[hv] at hr;cases hr
  | some v=>
   rw[hv] at hr
   obtain ⟨w2,e2,r2⟩:=RelO.some_of (v:=v) (o:=some w') hr
   cases e2
   exact h1 v _ _ hv (I.tok _) r2
 ·have hv:valV kvs k=none:=by
   have hr:=rel.val k
   rw[hn] at hr
   cases hv:valV kvs k with
   | none=>rfl
   | some v=>
    rw[hv] at hr
    obtain ⟨w2,e2,_⟩:=RelO.some_of (v:=v) (o:=none) hr
    cases e2
  have he:∃ q,h'.get? a=some q:=let ⟨q,_,_,hq,_⟩:=dd';⟨q,hq⟩
  have hlp:=length_putK kvs k z
  exact h2 _ hv (d_write I (by rw[e];exact True.intro) hs he (dk_new (sizeLine_big (by omega)) hd (rel.put k rz) dd'))
end
def tDSd (td ty tx:TE):TE:=fun σ H Q=>td σ H fun x H1=>∃ a,x=.ref a∧IsD H1 a∧ty σ H1 fun y H2=>tx σ H2 fun z H3=>∃ kvs k,H3 a=some (.dK kvs)∧kvs.length < 1000∧y=kV k∧
 (∀ v,valV kvs k=some v→Q v H3)∧(valV kvs k=none→Q z (upd H3 a (.dK (putK kvs k z))))
section
variable {X:Cx}{o e f:Expr}{apos cpos:Pos}{td ty tx:TE}
theorem pe_dsd (ho:PE X o td) (he:PE X e ty) (hf:PE X f tx) (m:M2 X o "setdefault" apos e f cpos):PE X (.Call (.Attribute o "setdefault" apos) [e,f] [] cpos) (tDSd td ty tx):=by
 constructor
 intro pins s σ H Q I h
 refine wpAny_Call_method m.base m.few m.line PySem.F.plainAttrs_dict PySem.F.slot_dict_setdefault PySem.F.type_dict_setdefault (thn (ho pins s σ H _ I h) fun u s1 ⟨x,H1,I1,rx,a,ex,d,q1⟩=>?_)
 subst ex
 obtain rfl:u=Value.ref a:=rx
 obtain ⟨t1,t2,_⟩:=isD_at I1 d
 refine ⟨t1,t2,?_⟩
 rw[m.trees]
 refine Calls.callWith_builtin rfl (Calls.evalArgs_plain (Calls.spliced_cons (thn (he pins s1 σ H1 _ I1 q1) fun iv s2 ⟨y,H2,I2,ry,q2⟩=>
  Calls.spliced_cons (thn (hf pins s2 σ H2 _ I2 q2) fun fv s3 ⟨z,H3,I3,rz,kvs,k,ea,hl,ey,q3,q4⟩=>Calls.spliced_nil ?_))))
 subst ey
 exact d_sd I3 ea hl ry rz (fun v w' s4 hv I4 r4=>⟨v,H3,I4,r4,q3 v hv⟩) fun s4 hn I4=>⟨z,_,I4,rz,q4 hn⟩
end
def viewV (v d:Addr):HO:=.ext fun h=>h.IsValuesView v d
def tVals (td:TE):TE:=fun σ H Q=>td σ H fun x H1=>∃ d kvs,x=.ref d∧H1 d=some (.dK kvs)∧∀ v,H1 v=none→Q (.ref v) (upd H1 v (viewV v d))
section
variable {X:Cx}{o:Expr}{apos cpos:Pos}{td:TE}
theorem pe_values (ho:PE X o td) (hbase:attributeBase o "values" X.env (eval o X.env)=eval o X.env:=by rfl) (hline:(apos.endLine == cpos.line)=true:=by rfl):PE X (.Call (.Attribute o "values" apos) [] [] cpos) (tVals td):=by
 constructor
 intro pins s σ H Q I h
 refine wpAny_Call_method0_late hbase hline (thn (ho pins s σ H _ I h) fun v s1 ⟨x,H1,I1,r1,d,kvs,ex,hd,q1⟩=>?_)
 subst ex
 obtain rfl:v=Value.ref d:=r1
 obtain ⟨t1,t2,_⟩:=isD_at I1 (.inl ⟨kvs,.inl hd⟩)
 obtain ⟨zz,hds,vs,rel,dd⟩:=dk_of I1.hok hd
 refine ⟨"dict","dict.values",PySem.F.plainAttrs_dict,PySem.F.slot_dict_values,PySem.F.type_dict_values,t1,t2,Calls.callWith_builtin rfl (PySem.evalArgs_none ?_)⟩
 refine call_meetsIn PySem.F.slot_dict_values dd.typeIs PySem.F.entry_dict_values (PySem.F.args_dict_values_1 _) (meets_dict_values (mixKind X.prog X.w) d hds) ⟨⟨vs,dd⟩,?_⟩
 have hn:=I1.hok.fresh (Nat.le_refl s1.heap.objs.size)
 have hview:Heap.IsValuesView (s1.heap.push { cls:=.type "dict_values",data:=.fields #[.ref d] }) s1.heap.objs.size d:=⟨_,Heap.get?_push_size _ rfl,rfl,rfl⟩
 refine ⟨.ref s1.heap.objs.size,_,I1.laid (t':=s1.toks) (o:=viewV s1.heap.objs.size d) (fun b u e=>Heap.get?_push_of_some _ e) (Nat.le_refl _) ⟨hview,⟨_,Heap.get?_push_size _ rfl⟩,fun h1 h2 f g=>?_⟩,rfl,q1 _ hn⟩
 obtain ⟨ob,hob,r⟩:=f
 exact ⟨ob,g ob hob,r⟩
end
section
variable {prog:Program}{w:World}{A:Around}{v d:Addr}{vs:List (Key×Value)}
theorem collect_values (hh:A.handled=none) {E:Value→Shared→Prop}{s:Shared}{Q:List Value→Shared→Prop} (hv:s.heap.IsValuesView v d) (hm:s.heap.DictOf (mixKind prog w) d vs) (hz:vs.length≤1000)
  (h:∀ (h':Heap) (tk:Nat),(∀ b u,s.heap.get? b=some u→h'.get? b=some u)→s.heap.objs.size≤h'.objs.size→Q (vs.map (·.2)) { s with heap:=h',toks:=tk }):wpAny (model prog w) A (collect (.ref v)) Q E s:=by
 obtain ⟨ov,hov,hcv,hdv⟩:=id hv
 obtain ⟨od,es,ep,hod,hrest⟩:=id hm
 have hvl:=Heap.lt_size hov
 have hdl:=Heap.lt_size hod
 unfold collect
 apply wpAny_bind
 apply wpAny_runValue
 apply codeAny_builtin F.entry_proto_collect
 rw[Around.under_plainId F.plain_proto_collect]
 show wpAny _ A.in1 (newList [] >>= fun l=>again (.builtin "list.__iadd__" ⟨[l,.ref v],[]⟩)) _ _ s
 apply wpAny_bind
 refine wpAny_newObj_type (wpAny_pure ⟨plainId_quiet F.plain_list_iadd _,codeAny_builtin F.entry_list_iadd ?_⟩)
 rw[Around.under_plainId F.plain_list_iadd]
 have hv1:(s.heap.push { cls:=.type "list",data:=.seq ([]:List Value).toArray }).get? v=some ov:=Heap.get?_push_of_some _ hov
 have hd1:(s.heap.push { cls:=.type "list",data:=.seq ([]:List Value).toArray }).get? d=some od:=Heap.get?_push_of_some _ hod
 have hL1:(s.heap.push { cls:=.type "list",data:=.seq ([]:List Value).toArray }).get? s.heap.objs.size=some { cls:=.type "list",data:=.seq ([]:List Value).toArray }:=Heap.get?_push_size _ rfl
 have e1:Builtin.List.listSameRef (.ref s.heap.objs.size) (.ref v)=false:=by
  show (s.heap.objs.size == v)=false
  simpa using Nat.ne_of_gt hvl
 show wpAny _ A.in1 (Builtin.List.listExtendWith (.ref s.heap.objs.size) (.ref v) (.ref s.heap.objs.size)) _ _ _
 unfold Builtin.List.listExtendWith
 refine wpAny_bind (wpAny_typeOf (T:="dict_values") ⟨ov,hv1,hcv⟩ ?_)
 rw[if_neg (by rw[e1];decide)]
 refine wpAny_bind (wpAny_pyIter_values (kvs:=vs) (ep:=ep) (knd:=mixKind prog w) ⟨ov,hv1,hcv,hdv⟩ ⟨od,es,hd1,hrest⟩ ?_)
 have esz:(s.heap.push { cls:=.type "list",data:=.seq ([]:List Value).toArray }).objs.size=s.heap.objs.size + 1:=Heap.size_push _ _
 obtain ⟨I,hI⟩:∃ I,I=(s.heap.push { cls:=.type "list",data:=.seq ([]:List Value).toArray }).objs.size:=⟨_,rfl⟩
 dsimp only
 have gI:((s.heap.push { cls:=.type "list",data:=.seq ([]:List Value).toArray }).push { cls:=.type "dict_valueiterator",data:=.fields #[.ref d,.int 0 0,.int vs.length 0,.int ep 0] }).get? I=some { cls:=.type "dict_valueiterator",data:=.fields #[.ref d,.int 0 0,.int vs.length 0,.int ep 0] }:=by
  rw[hI]
  exact Heap.get?_push_size _ rfl
 have old:∀ b u,(s.heap.push { cls:=.type "list",data:=.seq ([]:List Value).toArray }).get? b=some u→((s.heap.push { cls:=.type "list",data:=.seq ([]:List Value).toArray }).push { cls:=.type "dict_valueiterator",data:=.fields #[.ref d,.int 0 0,.int vs.length 0,.int ep 0] }).get? b=some u:=fun b u e=>Heap.get?_push_of_some _ e
 rw[← hI]
 generalize (s.heap.push { cls:=.type "list",data:=.seq ([]:List Value).toArray }).push { cls:=.type "dict_valueiterator",data:=.fields #[.ref d,.int 0 0,.int vs.length 0,.int ep 0] }=h2 at gI old ⊢
 have hv2:=old _ _ hv1
 have hd2:=old _ _ hd1
 have hL2:=old _ _ hL1
 have hIs:I=s.heap.objs.size + 1:=by rw[hI,esz]
 refine wpAny_bind (wpAny_holding ?_)
 unfold Builtin.List.listLengthHint
 refine wpAny_bind (wpAny_specialOf (T:="dict_values") ⟨ov,hv2,hcv⟩ F.slot_dict_values_len.lookup ?_)
 generalize hid:("dict_values.__len__":String)=id0
 wp_delta
 rw[show splitId id0=some ("dict_values","__len__") from by subst hid;decide]
 subst hid
 refine wpAny_bind (wpAny_isInstance (b:=true) (T:="dict_values") ⟨ov,hv2,hcv⟩ (by rw[isSubtype_type];kernel_rfl) ?_)
 refine wpAny_ite_false (by rfl) ?_
 refine wpAny_ite_true (by decide) ?_
 refine wpAny_bind (wpAny_typeOf (T:="dict_values") ⟨ov,hv2,hcv⟩ ?_)
 refine wpAny_pure ?_
 refine wpAny_ite_true (by decide) ?_
 refine wpAny_bind (wpAny_rule ?_)
 have ndI:d≠I:=by rw[hIs];exact Nat.ne_of_lt (Nat.lt_succ_of_lt hdl)
 have hLf:s.heap.objs.size ∉ [I,d]:=by
  rw[hIs]
  simp only [List.mem_cons,List.not_mem_nil,or_false,not_or]
  exact ⟨Nat.ne_of_lt (Nat.lt_succ_self _),Nat.ne_of_gt hdl⟩
 apply wpAny_bind
 show wpAny _ A.in1 (updateSeq s.heap.objs.size (·.push .none) >>= fun _=>updateSeq s.heap.objs.size (·.pop)) _ _ _
 apply wpAny_bind
 refine wpAny_updateSeq hL2 rfl ?_
 have hL3:=Heap.get?_update_self (Obj.mapSeq (·.push Value.none)) hL2 rfl
 refine wpAny_updateSeq hL3 rfl ?_
 have hL4:=Heap.get?_update_self (Obj.mapSeq (·.pop)) hL3 rfl
 have oth:∀ b u,b≠s.heap.objs.size→h2.get? b=some u→((h2.update s.heap.objs.size (Obj.mapSeq (·.push Value.none))).update s.heap.objs.size (Obj.mapSeq (·.pop))).get? b=some u:=
  fun b u nb e=>(Heap.get?_update_other _ _ (Ne.symm nb)).trans ((Heap.get?_update_other _ _ (Ne.symm nb)).trans e)
 have W:=Walks.dictValues (prog:=prog) (w:=w) (knd:=mixKind prog w) (A:=A.in1) hh I d ndI vs ep
 have nIL:I≠s.heap.objs.size:=by rw[hIs];exact Nat.ne_of_gt (Nat.lt_succ_self _)
 refine wpAny_pure ⟨plainId_quiet F.plain_extend_loop _,codeAny_extend_loopS (Walks.toS W) (sizeLine_big (by omega)) s.heap.objs.size hLf _ _ 0 _ _ _ rfl (Nat.zero_le _) ⟨⟨_,oth _ _ nIL gI,rfl,rfl⟩,⟨od,es,oth _ _ (Nat.ne_of_lt hdl) hd2,hrest⟩⟩ hL4 (ItemsOf.nil _) fun s' acc' c' hm' hS' hacc=>?_⟩
 show wpAny _ A (load s.heap.objs.size >>= _) _ _ s'
 apply wpAny_bind
 refine wpAny_load hS' (wpAny_pure ?_)
 obtain ⟨h',g',d',tk',os'⟩:=s'
 have g1:=hm'.gens
 have g2:=hm'.os
 have g3:=hm'.drawn
 dsimp only at g1 g2 g3
 subst g1 g2 g3
 have eacc:acc'.toList=vs.map (·.2):=by
  apply List.ext_getElem?
  intro j
  by_cases hj:j < acc'.size
  ·obtain ⟨k,hk⟩:=hacc.2 j acc'[j] (by simp[hj])
   rw[List.getElem?_map,hk]
   simp[hj]
  ·have:=hacc.1
   rw[List.getElem?_eq_none (by simpa using hj),List.getElem?_eq_none (by rw[List.length_map];omega)]
 rw[eacc]
 refine h h' tk' (fun b u e=>?_) (Nat.le_of_lt (Heap.lt_size hS'))
 have hbl:=Heap.lt_size e
 have nb:b≠s.heap.objs.size:=Nat.ne_of_lt hbl
 have nI:b≠I:=by rw[hIs];exact Nat.ne_of_lt (Nat.lt_succ_of_lt hbl)
 exact hm'.heap b u (by simp[nb,nI]) (oth b u nb (old b u (Heap.get?_push_of_some _ e)))
end
end L2
namespace L2
open PySem PySem.Spec PyProof.Rows PySem.W
def tSKX (K:PySem.W.Frag) (sp:Sp) (ta:TA):TE:=fun σ H Q=>ta σ H fun vs H1=>∃ (l:Addr) (xs:List V) (KR:V→K3→Prop),vs=[V.ref l]∧(SqL K H1 l xs∨∃ d kvs,H1 l=some (viewV l d)∧H1 d=some (.dK kvs)∧xs=kvs.map (·.2))∧xs.length < 64∧
 (∀ y∈xs,∀ (H':Hp) (Q:VK),Same H1 H'→(∀ t a b c H'',Same H' H''→H'' t=some (.tup [.int a,.int b,.str c])→KR y (a,b,c)→Q (.ref t) H'')→sp [y] H' Q E0)∧
 ∀ D (kk:List K3) (p:List Nat) H',Same H1 H'→H1 D=none→kk.length=xs.length→(∀ i,i < xs.length→KR (xs.getD i .non) (kk.getD i k0))→OutX kk p→H' D=some (.lst (p.map fun i=>xs.getD i .non))→Q (.ref D) H'
theorem kv_vals {kvs:List (Key×V)}{vs:List (Key×Value)} (r:KV kvs vs):Vals (kvs.map (·.2)) (vs.map (·.2)):=by
 induction r with
 | nil=>exact .nil
 | cons h _ ih=>exact .cons h.2 ih
section
variable {X:Cx}{e:Expr}{ta:TA}
theorem pe_sortedX {k:Nat}{f:Addr}{fd:FuncData}{x g:Str}{sp:Sp}{p pk kp pos:Pos} (F:FnOk X.prog X.w X.K X.mg X.base CX0 k f fd [x] sp) (hr:Room (k + 2) X.A) (hb:Binds X.K fd [x] []) (hg:Gl X "sorted") (hm:X.mg "sorted"=none) (hgk:Gl X g) (hmk:X.mg g=some (.ref f)) (ha:PA X [e] ta)
  (hd:(g == ("__debug__":Str))=false:=by decide) (he:starEach [e] X.env=[(false,eval e X.env)]:=by rfl):
  PE X (.Call (.Name "sorted" p) [e] [⟨some "key",.Name g pk,kp⟩] pos) (tSKX X.K sp ta):=by
 constructor
 intro pins s σ H Q I h
 refine wpAny_Call_Name_kw (ld_blt I hg hm boot_sorted ?_ (by decide) (by decide))
 refine callWith_builtin_kwB (by rw[he];rfl) (by rfl) ?_
 have hrun:=ha pos pins s σ H _ I h
 ·rw[he] at hrun ⊢
  refine evalArgs_kwB (by rfl) (thn hrun fun us s1 ⟨vs,H1,I1,r,q1⟩=>?_)
  obtain ⟨l,xs,KR,rfl,hl,h64,hkey,q⟩:=q1
  have hkw:PK X [⟨some "key",.Name g pk,kp⟩] (tCons (tC (.ref f)) tNil):=pk_cons (pe_glob hgk hmk rfl hd) pk_nil
  refine thn (hkw pos pins s1 σ H1 (fun zs H2=>zs=[V.ref f]∧H2=H1) I1 ⟨rfl,rfl⟩) fun ws s2 ⟨zs,H2,I2,rz,ez,eH⟩=>?_
  subst ez eH
  cases rz with
  | cons r1 r2=>
   cases r1
   cases r2
   cases r with
   | cons r3 r4=>
    cases r3
    cases r4
    rcases hl with hl | ⟨d,kvs,hl,hdk,rfl⟩
    ·obtain ⟨its,rv,pl,_⟩:=I2.list hl
     have hlen:=rv.length
     refine sortedKX (KR:=KR) F hr hb I2 rv (fun B Q' E' hB hq=>?_) h64 hkey q
     refine collect_list pl.isList (hq _ s2.toks (fun b u e=>?_) ?_) (sizeLine_big (by omega))
     ·rw[Heap.get?_update_ne _ _ _ _ (Nat.ne_of_lt (Heap.lt_size e))]
      exact Heap.get?_push_of_some _ e
     ·rw[Heap.size_update,Heap.size_push]
      exact Nat.le_succ _
    ·obtain ⟨hv,_,_⟩:ObjOk X.prog X.w H2 s2.heap l (viewV l d):=I2.hok l _ hl
     obtain ⟨_,_,vs,rel,dd⟩:=dk_of I2.hok hdk
     have hlen:=rel.length
     rw[List.length_map] at h64
     refine sortedKX (KR:=KR) F hr hb I2 (kv_vals rel) (fun B Q' E' hB hq=>?_) (by rw[List.length_map];exact h64) hkey q
     exact collect_values hB hv dd (by omega) fun h' tk k1 k2=>hq h' tk k1 k2
end
theorem ps_tryN {X:Cx}{body:List Stmt}{h₀:ExceptHandler}{hs:List ExceptHandler}{pos:Pos}{t:TS} (hx:∀ e s,X.xe e s→False) (h:PSs X body t):PS X (.Try body (h₀ :: hs) [] [] pos) t:=by
 constructor
 intro pins s σ H D I q
 refine wpAny_Try_except (wpAny_mono (h pins s σ H D I q) (fun f s1 r=>?_) fun e s1 z=>(hx e s1 z).elim)
 cases f with
 | next=>exact wpAny_execs_nil r
 | _=>exact r
def DepP:Nat→PyData→Prop
 | 0,d=>∀ ds,d≠.tuple ds∧d≠.list ds
 | n + 1,d=>(∀ ds,d≠.tuple ds∧d≠.list ds)∨∃ ds,d=.tuple ds∧∀ e∈ds,DepP n e
theorem nodict_mem:∀ {ds:List PyData}{d:PyData},PyData.hasDictAll ds=false→d∈ds→d.hasDict=false
 | [],_,_,h=>by simp at h
 | e :: ds,d,h,hm=>by
  have h':(e.hasDict || PyData.hasDictAll ds)=false:=h
  rw[Bool.or_eq_false_iff] at h'
  rcases List.mem_cons.mp hm with rfl | hm
  ·exact h'.1
  ·exact nodict_mem h'.2 hm
theorem eq_read {X:Cx}{pins:List (Addr×Obj)}{σ:St}{H:Hp}{s:Shared} (I:Inv X pins σ H s):∀ (n:Nat) {A:Around}{d:PyData}{x y:V}{u v:Value},DepP n d→d.hasDict=false→A.units + 4 * n + 4 < cLine→RdV false H x d→RdV false H y d→RelV x u→RelV y v→SeqAt.EqAt A s u v true:=by
 have leaf:∀ {A:Around} {d:PyData} {x y:V} {u v:Value},(∀ ds,d≠.tuple ds∧d≠.list ds)→d.hasDict=false→RdV false H x d→RdV false H y d→RelV x u→RelV y v→SeqAt.EqAt A s u v true:=by
  intro A d x y u v hl hd rx ry ru rv
  cases rx with
  | non=>cases ry;cases ru;cases rv;exact SeqAt.EqAt.same _
  | bl b=>cases ry;cases ru;cases rv;exact SeqAt.EqAt.same _
  | int i=>
   cases ry
   have:=eqAt_V (A:=A) (s:=s) ru rv rfl rfl
   simpa [eqV] using this
  | str z hz=>
   cases ry
   have:=eqAt_V (A:=A) (s:=s) ru rv rfl rfl
   simpa [eqV] using this
  | lst hm e hz r=>cases hm
  | tup e hz r=>exact absurd rfl (hl _).1
  | dct hm e=>simp[PyData.hasDict] at hd
 intro n
 induction n with
 | zero=>intro A d x y u v hp hd hu rx ry ru rv;exact leaf hp hd rx ry ru rv
 | succ n ih=>
  intro A d x y u v hp hd hu rx ry ru rv
  rcases hp with hp | ⟨ds,rfl,hp⟩
  ·exact leaf hp hd rx ry ru rv
  ·cases rx with
   | @tup a xs _ ea hxl r1=>
   cases ry with
   | @tup b ys _ eb hyl r2=>
   cases ru
   cases rv
   by_cases hab:a=b
   ·subst hab
    exact SeqAt.EqAt.same _
   ·obtain ⟨its,q1,t1,_⟩:=I.tuple (SqT.of ea)
    obtain ⟨its2,q2,t2,_⟩:=I.tuple (SqT.of eb)
    have l1:=q1.length
    have l2:=q2.length
    have m1:=r1.len
    have m2:=r2.len
    have key:=SeqAt.RcAt.tuples (A:=A) (e:=fun _=>true) t1 t2 (by omega) (fun j h1 h2=>?_)
    ·have e1:((List.range (min its.toArray.size its2.toArray.size)).all (fun _=>true) && its.toArray.size == its2.toArray.size)=true:=by
      simp
      omega
     rw[e1] at key
     exact SeqAt.EqAt.of_refs hab key
    ·have j1:j < xs.length:=by simpa [l1] using h1
     have j2:j < ys.length:=by simpa [l2] using h2
     obtain ⟨d1,hd1,rd1⟩:=r1.at (List.getElem?_eq_getElem j1)
     obtain ⟨d2,hd2,rd2⟩:=r2.at (List.getElem?_eq_getElem j2)
     rw[hd1] at hd2
     cases hd2
     obtain ⟨u1,eu1,ru1⟩:=q1.get (List.getElem?_eq_getElem j1)
     obtain ⟨u2,eu2,ru2⟩:=q2.get (List.getElem?_eq_getElem j2)
     have g1:its.toArray[j]=u1:=by
      rw[List.getElem?_eq_getElem (by simpa using h1)] at eu1
      simpa using eu1
     have g2:its2.toArray[j]=u2:=by
      rw[List.getElem?_eq_getElem (by simpa using h2)] at eu2
      simpa using eu2
     rw[g1,g2]
     have hmem:=List.mem_of_getElem? hd1
     have hdd:d1.hasDict=false:=nodict_mem (show PyData.hasDictAll ds=false from hd) hmem
     exact ih (hp d1 hmem) hdd (by show A.units + 1 + 4 * n + 4 < _;omega) rd1 rd2 ru1 ru2
theorem op_neSame {X:Cx}{n:Nat} (hu:X.A.units + 4 * n + 8 < cLine):OpR X (compareOp .NotEq) (fun x y H Q=>∃ a b ds,x=.ref a∧y=.ref b∧RdV false H x (.tuple ds)∧RdV false H y (.tuple ds)∧(∀ e∈ds,DepP n e)∧PyData.hasDictAll ds=false∧Q (.bl false) H):=by
 intro pins s σ H x y v u Q I rx ry h
 obtain ⟨a,b,ds,rfl,rfl,h1,h2,hp,hd,q⟩:=h
 cases rx
 cases ry
 cases h1 with
 | @tup _ xs _ ea hxl r1=>
 cases h2 with
 | @tup _ ys _ eb hyl r2=>
 obtain ⟨its,q1,t1,_⟩:=I.tuple (SqT.of ea)
 obtain ⟨its2,q2,t2,_⟩:=I.tuple (SqT.of eb)
 have l1:=q1.length
 have l2:=q2.length
 have m1:=r1.len
 have m2:=r2.len
 refine SeqAt.RcNeAt.tuples (A:=X.A) (e:=fun _=>true) t1 t2 (by omega) (fun j h1 h2=>?_) X.prog X.w _ _ ?_
 ·have j1:j < xs.length:=by simpa [l1] using h1
  have j2:j < ys.length:=by simpa [l2] using h2
  obtain ⟨d1,hd1,rd1⟩:=r1.at (List.getElem?_eq_getElem j1)
  obtain ⟨d2,hd2,rd2⟩:=r2.at (List.getElem?_eq_getElem j2)
  rw[hd1] at hd2
  cases hd2
  obtain ⟨u1,eu1,ru1⟩:=q1.get (List.getElem?_eq_getElem j1)
  obtain ⟨u2,eu2,ru2⟩:=q2.get (List.getElem?_eq_getElem j2)
  have g1:its.toArray[j]=u1:=by
   rw[List.getElem?_eq_getElem (by simpa using h1)] at eu1
   simpa using eu1
  have g2:its2.toArray[j]=u2:=by
   rw[List.getElem?_eq_getElem (by simpa using h2)] at eu2
   simpa using eu2
  rw[g1,g2]
  have hmem:=List.mem_of_getElem? hd1
  exact eq_read I n (hp d1 hmem) (nodict_mem hd hmem) (by show X.A.units + 1 + 4 * n + 4 < _;omega) rd1 rd2 ru1 ru2
 ·have e1:(!((List.range (min its.toArray.size its2.toArray.size)).all (fun _=>true) && its.toArray.size == its2.toArray.size))=false:=by
   simp
   omega
  rw[e1]
  exact ⟨.bl false,H,I,rfl,q⟩
end L2
namespace K5
open PySem L2
def top (i:Nat):Stmt:=PySem.Challenge.pw_dykelengths_k05_rolls_made.main.body.getD i (.Pass ⟨0,0,0,0⟩)
abbrev sIsName:Stmt:=top 6
abbrev sIsNumber:Stmt:=top 19
abbrev sIsWhole:Stmt:=top 20
abbrev sRising:Stmt:=top 21
abbrev sIsField:Stmt:=top 22
abbrev sIsLaying:Stmt:=top 23
abbrev sIsPart:Stmt:=top 24
abbrev sAllParts:Stmt:=top 25
abbrev sAllNames:Stmt:=top 26
abbrev sAreParts:Stmt:=top 27
abbrev sAreLands:Stmt:=top 28
abbrev sIsInch:Stmt:=top 29
abbrev sFPart:Stmt:=top 30
abbrev sFJoin:Stmt:=top 31
abbrev sFForfeit:Stmt:=top 32
abbrev sFMeasure:Stmt:=top 33
abbrev sFMend:Stmt:=top 34
abbrev sFAlone:Stmt:=top 35
abbrev sFBreach:Stmt:=top 36
abbrev sFView:Stmt:=top 37
abbrev sIsRow:Stmt:=top 39
abbrev sAsTup:Stmt:=top 40
abbrev sInOrder:Stmt:=top 41
abbrev sRowOfP:Stmt:=top 42
abbrev sFieldOf:Stmt:=top 43
abbrev sOrder:Stmt:=top 44
abbrev sLayingOf:Stmt:=top 48
abbrev sRowFor:Stmt:=top 49
abbrev sRowForRoll:Stmt:=top 50
abbrev sByNames:Stmt:=top 51
abbrev sRollOf:Stmt:=top 52
abbrev sPen:Stmt:=top 54
abbrev sTake:Stmt:=top 55
abbrev sNames:Stmt:=top 56
abbrev sSorts:Stmt:=top 57
abbrev sDays:Stmt:=top 58
abbrev sNumber:Stmt:=top 59
abbrev sLayOf:Stmt:=top 60
abbrev sSome:Stmt:=top 61
abbrev sRowOf:Stmt:=top 62
abbrev sRow:Stmt:=top 63
abbrev sTurned:Stmt:=top 64
abbrev sListed:Stmt:=top 65
abbrev sPlace:Stmt:=top 66
abbrev sMixed:Stmt:=top 67
abbrev sRight:Stmt:=top 68
abbrev sAsHanded:Stmt:=top 69
abbrev sLaw:Stmt:=top 70
def nameB (z:Str):Bool:=decide (1≤z.length∧z.length≤8) && z.cps.toList.all fun c=>decide (97≤c∧c≤122)
def isL (c:Nat):Bool:=decide (97≤c∧c≤122)
def lt26 (i:Nat):Nat:=97 + i % 26
theorem isL_lt (i:Nat):isL (lt26 i)=true:=by
 unfold isL lt26
 exact decide_eq_true (by omega)
abbrev abc:Str:=Str.ofString "abcdefghijklmnopqrstuvwxyz"
theorem abc_list:abc.cps.toList=List.range' 97 26:=by decide
theorem abc_at {i:Int} (h0:0≤i) (h1:i < 26):atI abc.cps.toList i=some (lt26 i.toNat):=by
 obtain ⟨j,rfl⟩:∃ j:Nat,i=j:=⟨i.toNat,by omega⟩
 unfold atI ixN
 rw[abc_list,if_pos h0,if_pos (by simpa using h1)]
 simp only [Int.toNat_natCast,Option.bind_some]
 rw[List.getElem?_range' (by omega)]
 unfold lt26
 congr 1
 omega
theorem abc_len:abc.length=26:=by decide
def mk (l:List Nat):Str:=⟨l.toArray⟩
theorem mk_inj {a b:List Nat} (h:mk a=mk b):a=b:=by
 have:=congrArg (fun z:Str=>z.cps.toList) h
 simpa [mk] using this
theorem mk_len (l:List Nat):(mk l).length=l.length:=by
 show l.toArray.size=_
 simp
theorem mk_app (a b:List Nat):mk a ++ mk b=mk (a ++ b):=by
 show (⟨a.toArray ++ b.toArray⟩:Str)=_
 simp[mk]
def pair (t k:Nat):List Nat:=[lt26 (t + 7 * k),lt26 (t + k / 26)]
def bij:Nat→Nat→List Nat
 | 0,_=>[]
 | f + 1,n=>if n=0 then [] else bij f ((n - 1) / 2) ++ [n % 2]
def bin (t n:Nat):List Nat:=(bij 6 n).map fun d=>lt26 (t + 9 * d)
theorem pair_nd:∀ t < 26,((List.range 44).map (pair t)).Nodup:=by decide
theorem bin_nd:∀ t < 26,((List.range 44).map fun k=>bin t (k + 1)).Nodup:=by decide
theorem bin_len:∀ k < 44,1≤(bij 6 (k + 1)).length∧(bij 6 (k + 1)).length≤8:=by decide
def word (one:Bool) (b:List Nat) (sp t k:Nat):List Nat:=if one then bin t (k + 1) else b.take sp ++ pair t k ++ b.drop sp
theorem nd_sub {α:Type}{f:Nat→α}{n m:Nat} (h:((List.range n).map f).Nodup) (hm:m≤n):((List.range m).map f).Nodup:=by
 obtain ⟨d,rfl⟩:∃ d,n=m + d:=⟨n - m,by omega⟩
 rw[List.range_add,List.map_append] at h
 exact (List.nodup_append.mp h).1
theorem nd_inj {α β:Type}{f:α→β} (hf:∀ a b,f a=f b→a=b) {l:List α} (h:l.Nodup):(l.map f).Nodup:=by
 rw[List.nodup_iff_pairwise_ne] at h ⊢
 exact List.pairwise_map.mpr (h.imp fun hne e=>hne (hf _ _ e))
theorem word_nd {one:Bool}{b:List Nat}{sp t m:Nat} (ht:t < 26) (hm:m≤44):((List.range m).map fun k=>mk (word one b sp t k)).Nodup:=by
 refine nd_sub (n:=44) ?_ hm
 have e:((List.range 44).map fun k=>mk (word one b sp t k))=((List.range 44).map (word one b sp t)).map mk:=by rw[List.map_map];rfl
 rw[e]
 refine nd_inj (fun _ _ h=>mk_inj h) ?_
 cases one with
 | true=>exact bin_nd t ht
 | false=>
  have e2:(List.range 44).map (word false b sp t)=((List.range 44).map (pair t)).map fun q=>b.take sp ++ q ++ b.drop sp:=by rw[List.map_map];rfl
  rw[e2]
  refine nd_inj (fun x y h=>?_) (pair_nd t ht)
  exact List.append_cancel_left (List.append_cancel_right h)
theorem nameB_mk {l:List Nat} (h1:1≤l.length) (h8:l.length≤8) (ha:∀ c∈l,isL c=true):nameB (mk l)=true:=by
 unfold nameB
 rw[mk_len,decide_eq_true ⟨h1,h8⟩,Bool.true_and]
 have e:(mk l).cps.toList=l:=by simp[mk]
 rw[e,List.all_eq_true]
 exact ha
theorem nameB_len {z:Str} (h:nameB z=true):1≤z.length∧z.length≤8:=by
 unfold nameB at h
 rw[Bool.and_eq_true] at h
 exact of_decide_eq_true h.1
theorem word_name {one:Bool}{b:List Nat}{sp t k:Nat} (hk:k < 44) (hb:b.length≤6) (ha:∀ c∈b,isL c=true):nameB (mk (word one b sp t k))=true:=by
 cases one with
 | true=>
  have h:=bin_len k hk
  refine nameB_mk (by show 1≤(bin t (k + 1)).length;unfold bin;rw[List.length_map];omega) (by show (bin t (k + 1)).length≤8;unfold bin;rw[List.length_map];omega) (fun c hc=>?_)
  have hc':c∈bin t (k + 1):=hc
  unfold bin at hc'
  obtain ⟨d,_,rfl⟩:=List.mem_map.mp hc'
  exact isL_lt _
 | false=>
  have hl:(word false b sp t k).length=b.length + 2:=by
   show (b.take sp ++ pair t k ++ b.drop sp).length=_
   rw[List.length_append,List.length_append,List.length_take,List.length_drop]
   show min sp b.length + 2 + (b.length - sp)=_
   omega
  refine nameB_mk (by omega) (by omega) (fun c hc=>?_)
  have hc':c∈b.take sp ++ pair t k ++ b.drop sp:=hc
  rcases List.mem_append.mp hc' with h | h
  ·rcases List.mem_append.mp h with h | h
   ·exact ha c (List.mem_of_mem_take h)
   ·unfold pair at h
    simp only [List.mem_cons,List.not_mem_nil,or_false] at h
    rcases h with rfl | rfl
    ·exact isL_lt _
    ·exact isL_lt _
  ·exact ha c (List.mem_of_mem_drop h)
theorem nd_set {α:Type}{x:α}:∀ {l:List α}{j:Nat},l.Nodup→x ∉ l→(l.set j x).Nodup
 | [],_,_,_=>by simp
 | y :: r,0,h,hx=>by
  rw[List.set_cons_zero,List.nodup_cons] at *
  exact ⟨fun z=>hx (List.mem_cons_of_mem _ z),h.2⟩
 | y :: r,j + 1,h,hx=>by
  rw[List.set_cons_succ]
  rw[List.nodup_cons] at *
  refine ⟨fun z=>?_,nd_set h.2 fun z=>hx (List.mem_cons_of_mem _ z)⟩
  rcases List.mem_or_eq_of_mem_set z with z | z
  ·exact h.1 z
  ·exact hx (z ▸ List.mem_cons_self)
def terms:List Str:=["as","with","part","field","none","done","write","back","join"]
theorem terms_name:∀ z∈terms,nameB z=true:=by decide
theorem flat_strs:∀ ns:List Str,(ns.map V.str).all flatV=true
 | []=>rfl
 | _ :: r=>by simpa [flatV] using flat_strs r
theorem in_strs (z:Str):∀ ns:List Str,inV (.str z) (ns.map V.str)=decide (z∈ns):=by
 intro ns
 unfold inV
 rw[List.any_map]
 rw[Bool.eq_iff_iff,List.any_eq_true,decide_eq_true_iff]
 constructor
 ·rintro ⟨y,hy,e⟩
  have:y=z:=by simpa [eqV] using e
  exact this ▸ hy
 ·intro h
  exact ⟨z,h,by simp[eqV]⟩
end K5
namespace K5
open PySem L2
abbrev kCells:Key:=Sum.inr ("cells":Str)
abbrev kAt:Key:=Sum.inr ("at":Str)
abbrev kLeft:Key:=Sum.inr ("left":Str)
def penD (c:Addr) (a l:Int):List (Key×V):=[(kCells,.ref c),(kAt,.int a),(kLeft,.int l)]
theorem k_ca:¬ (kCells=kAt):=by decide
theorem k_cl:¬ (kCells=kLeft):=by decide
theorem k_al:¬ (kAt=kLeft):=by decide
theorem k_la:¬ (kLeft=kAt):=fun e=>k_al e.symm
theorem val_cells (c:Addr) (a l:Int):valV (penD c a l) kCells=some (.ref c):=by
 unfold penD
 rw[valV_pos rfl]
theorem val_at (c:Addr) (a l:Int):valV (penD c a l) kAt=some (.int a):=by
 unfold penD
 rw[valV_neg k_ca,valV_pos rfl]
theorem val_left (c:Addr) (a l:Int):valV (penD c a l) kLeft=some (.int l):=by
 unfold penD
 rw[valV_neg k_cl,valV_neg k_al,valV_pos rfl]
theorem put_at (c:Addr) (a l a':Int):putK (penD c a l) kAt (.int a')=penD c a' l:=by
 unfold putK penD
 rw[if_pos (by rw[List.any_eq_true];exact ⟨(kAt,.int a),by simp,decide_eq_true rfl⟩)]
 simp only [List.map_cons,List.map_nil,if_neg k_ca,if_neg k_la,if_pos]
theorem put_left (c:Addr) (a l l':Int):putK (penD c a l) kLeft (.int l')=penD c a l':=by
 unfold putK penD
 rw[if_pos (by rw[List.any_eq_true];exact ⟨(kLeft,.int l),by simp,decide_eq_true rfl⟩)]
 simp only [List.map_cons,List.map_nil,if_neg k_cl,if_neg k_al,if_pos]
theorem getL {H:Hp}{p c:Addr}{a l:Int} (h:H p=some (.dK (penD c a l))):DGet H p (.str "left") (some (.int l)):=by
 have:=DGet.k (k:=kLeft) h
 rw[val_left] at this
 exact this
theorem getA {H:Hp}{p c:Addr}{a l:Int} (h:H p=some (.dK (penD c a l))):DGet H p (.str "at") (some (.int a)):=by
 have:=DGet.k (k:=kAt) h
 rw[val_at] at this
 exact this
theorem getC {H:Hp}{p c:Addr}{a l:Int} (h:H p=some (.dK (penD c a l))):DGet H p (.str "cells") (some (.ref c)):=by
 have:=DGet.k (k:=kCells) h
 rw[val_cells] at this
 exact this
theorem putL {H:Hp}{p c:Addr}{a l:Int} (l':Int) (h:H p=some (.dK (penD c a l))):DPut H p (.str "left") (.int l') (upd H p (.dK (penD c a l'))):=by
 have:=DPut.k (k:=kLeft) (v:=.int l') h (small1000 (by show 3≤1000;decide))
 rw[put_left] at this
 exact this
theorem putA {H:Hp}{p c:Addr}{a l:Int} (a':Int) (h:H p=some (.dK (penD c a l))):DPut H p (.str "at") (.int a') (upd H p (.dK (penD c a' l))):=by
 have:=DPut.k (k:=kAt) (v:=.int a') h (small1000 (by show 3≤1000;decide))
 rw[put_at] at this
 exact this
structure PenAt (H:Hp) (p c:Addr) (ns:List Int) (a:Int):Prop where
 ob:∃ l,0≤l∧H p=some (.dK (penD c a l))
 ce:H c=some (.lst (ns.map V.int))
 ge:0≤a
 sm:ns.length≤63
theorem PenAt.same {H H':Hp}{p c:Addr}{ns:List Int}{a:Int} (x:PenAt H p c ns a) (h:Same H H'):PenAt H' p c ns a:=by
 obtain ⟨⟨l,hl,e⟩,ce,ge,sm⟩:=x
 exact ⟨⟨l,hl,h _ _ e⟩,h _ _ ce,ge,sm⟩
theorem PenAt.ne {H:Hp}{p c:Addr}{ns:List Int}{a:Int} (x:PenAt H p c ns a):c≠p:=by
 obtain ⟨⟨l,hl,e⟩,ce,_,_⟩:=x
 exact ne_of ce e (by intro z;cases z)
inductive I_spPen (K:W.Frag) (vs:List V) (H:Hp) (Q:VK) (u3_:XK):Prop
 | mk (a:Addr) (ns:List Int) (q0:vs=[.ref a]) (q1:SqL K H a (ns.map V.int)) (q2:ns.length≤63) (q3:∀ p c H',PenAt H' p c ns 0→Same H H'→H p=none→Q (.ref p) H'):I_spPen K vs H Q u3_
def spPen (K:W.Frag):Sp:=fun vs H Q u3_=>I_spPen K vs H Q u3_
inductive I_spTake (vs:List V) (H:Hp) (Q:VK) (u3_:XK):Prop
 | mk (p c:Addr) (ns:List Int) (a m:Int) (q0:vs=[.ref p,.int m]) (q1:PenAt H p c ns a) (q2:a≤1000000) (q3:0 < m) (q4:m < 2 ^ 512) (q5:∀ r a' H',0≤r→r < m→a≤a'→a'≤a + 1→PenAt H' p c ns a'→KeepBut p H H'→Q (.int r) H'):I_spTake vs H Q u3_
def spTake:Sp:=fun vs H Q u3_=>I_spTake vs H Q u3_
section
variable {P:Program}{w:World}{K:W.Frag}{mg:Str→Option Value}{base:Heap}
theorem scPen:FnScope ["_law_script"] ["_law_script"] (defScope sPen):=⟨rfl,rfl,rfl,by decide,rfl,by decide,by decide⟩
theorem cut63 (ns:List Int) (h:ns.length≤63):cutV (ns.map V.int) none (some 63)=ns.map V.int:=by
 have e:HT.sIx (ns.map V.int).length (ns.map V.int).length (some 63)=(ns.map V.int).length:=by
  have:=HT.sIx_nat (ns.map V.int).length (ns.map V.int).length 63
  rw[List.length_map] at this ⊢
  refine Eq.trans this ?_
  omega
 unfold cutV
 rw[e,HT.sIx_none,List.drop_zero,Nat.sub_zero,List.take_length]
theorem ok_pen {f:Addr}{fd:FuncData} (F:Fun K "_law_pen" "_law_pen" sPen f fd) (hlist:mg "list"=none):FnOk P w K mg base CX0 1 f fd ["_law_script"] (spPen K):=by
 refine F.ok scPen (fun vs H Q E h=>?_) (fun cdv A outer s H vs Q E hr h=>?_)
 ·obtain ⟨a,ns,rfl,_⟩:=h
  rfl
 ·obtain ⟨a,ns,rfl,hS,hn,k⟩:=h
  refine ⟨_,pss_one (ps_ret (pe_disp (pps_cons pe_str (pe_callTy call_list_of (by rfl) hlist (by kernel_rfl) (pa_cons (pe_slice sl_list (pv 0) po_none (po_some pe_int)) pa_nil)) (pps_cons pe_str pe_int (pps_cons pe_str pe_int pps_nil))) rfl rfl (by simp) (by decide))),?_⟩
  intro p hp
  refine ⟨_,rfl,_,rfl,_,_,rfl,(Same.new hp).seq hS,fun q hq=>?_⟩
  rw[cut63 ns hn]
  refine ⟨q,_,rfl,.inl (SqL.of upd_same),fun c hc=>?_⟩
  have nqp:q≠p:=(ne_of_none upd_same hq).symm
  have ncp:c≠p:=(ne_of_none (show upd (upd H p (HO.dK [])) q (.lst (ns.map V.int)) p=some (HO.dK []) by rw[upd_ne nqp.symm,upd_same]) hc).symm
  refine ⟨by rw[upd_ne ncp.symm,upd_ne nqp.symm,upd_same],[(kCells,.ref c),(kAt,.int 0),(kLeft,.int 0)],rfl,by show 3≤15;decide,?_⟩
  have em:mergeK [] [(kCells,V.ref c),(kAt,.int 0),(kLeft,.int 0)]=penD c 0 0:=by
   have e1:putK ([]:List (Key×V)) kCells (.ref c)=[(kCells,.ref c)]:=by rw[putK_new _ valV_nil];rfl
   have e2:putK [(kCells,V.ref c)] kAt (.int 0)=[(kCells,.ref c),(kAt,.int 0)]:=by rw[putK_new _ (by rw[valV_neg k_ca,valV_nil])];rfl
   have e3:putK [(kCells,V.ref c),(kAt,.int 0)] kLeft (.int 0)=[(kCells,.ref c),(kAt,.int 0),(kLeft,.int 0)]:=by rw[putK_new _ (by rw[valV_neg k_cl,valV_neg k_al,valV_nil])];rfl
   show putK (putK (putK [] kCells (.ref c)) kAt (.int 0)) kLeft (.int 0)=_
   rw[e1,e2,e3]
   rfl
  rw[em]
  refine k p c _ ⟨⟨0,Int.le_refl _,upd_same⟩,by rw[upd_ne ncp,upd_same],Int.le_refl _,hn⟩ (fun b o e=>?_) hp
  have nbp:b≠p:=ne_of_none e hp
  have nbq:b≠q:=ne_of_none (show upd H p (HO.dK []) b=some o by rw[upd_ne nbp];exact e) hq
  have nbc:b≠c:=ne_of_none (show upd (upd H p (HO.dK [])) q (.lst (ns.map V.int)) b=some o by rw[upd_ne nbq,upd_ne nbp];exact e) hc
  rw[upd_ne nbp,upd_ne nbc,upd_ne nbq,upd_ne nbp]
  exact e
theorem scTake:FnScope ["_law_pen_here","_law_many","_law_found","_law_at","_law_cells","_law_cell","_law_one","_law_two"] ["_law_pen_here","_law_many"] (defScope sTake):=⟨rfl,rfl,rfl,by decide,rfl,by decide,by decide⟩
theorem sq_le {c a b:Int} (hc:0≤c) (h:0≤a) (h2:a≤b):0≤c * a * a∧c * a * a≤c * b * b:=by
 have h1:0≤c * a:=Int.mul_nonneg hc h
 have h3:c * a≤c * b:=Int.mul_le_mul_of_nonneg_left h2 hc
 exact ⟨Int.mul_nonneg h1 h,Int.mul_le_mul h3 h2 h (Int.mul_nonneg hc (Int.le_trans h h2))⟩
theorem bnd2 (x:Int) {a:Int} (h:0≤a) (h2:a≤1000000):Int.natAbs (x % (2147483629:Int) + (1213:Int) * a * a + (3:Int)) < 2 ^ 64:=by
 obtain ⟨b1,b2⟩:=sq_le (c:=(1213:Int)) (a:=a) (b:=1000000) (by decide) h h2
 have e1:=Int.emod_nonneg x (show (2147483629:Int)≠0 by decide)
 have e2:=Int.emod_lt_of_pos x (show 0 < (2147483629:Int) by decide)
 omega
theorem bnd3 {x:Int}:-(2 ^ 64) < x % (2147483543:Int)∧x % (2147483543:Int) < 2 ^ 64:=by
 have e1:=Int.emod_nonneg x (show (2147483543:Int)≠0 by decide)
 have e2:=Int.emod_lt_of_pos x (show 0 < (2147483543:Int) by decide)
 omega
theorem ok_take {f:Addr}{fd:FuncData} (F:Fun K "_law_take" "_law_take" sTake f fd) (hlen:mg "len"=none) (habs:mg "abs"=none):FnOk P w K mg base CX0 1 f fd ["_law_pen_here","_law_many"] spTake:=by
 refine F.ok scTake (fun vs H Q E h=>?_) (fun cdv A outer s H vs Q E hr h=>?_)
 ·obtain ⟨p,c,ns,a,m,rfl,_⟩:=h
  rfl
 ·obtain ⟨p,c,ns,a,m,rfl,hp,ha,hm,hm2,k⟩:=h
  have hu:=hu_of hr
  have hu':(A.deeper (PyProof.Rows.envOfC "_law_take" (defScope sTake) s.heap.objs.size f cdv)).units < cLine:=by omega
  refine ⟨_,pss_cons (ps_if (pt_cmpR op_gt (pe_dget hu (pv 0) pe_str (fun _ _=>rfl)) pe_int (nomark _))
    (pss_cons (ps_set (i:=2) scTake.nd rfl (Or.inl rfl) (pe_op op_mod (pe_dget hu (pv 0) pe_str (fun _ _=>rfl)) (pv 1)))
    (pss_cons (ps_dput hu (pv 0) pe_str (pe_op op_fdivL (pe_dget hu (pv 0) pe_str (fun _ _=>rfl)) (pv 1)) rfl)
    (pss_one (ps_ret (pv 2))))) pss_nil)
   (pss_cons (ps_set (i:=3) scTake.nd rfl (Or.inl rfl) (pe_dget hu (pv 0) pe_str (fun _ _=>rfl)))
   (pss_cons (ps_dput hu (pv 0) pe_str (pe_op op_add (pv 3) pe_int) rfl)
   (pss_cons (ps_set (i:=4) scTake.nd rfl (Or.inl rfl) (pe_dget hu (pv 0) pe_str (fun _ _=>rfl)))
   (pss_cons (ps_set (i:=5) scTake.nd rfl (Or.inl rfl) (pe_op op_add (pe_op op_add (pe_op op_mul (pe_op op_mul pe_int (pv 3)) (pv 3)) (pe_op op_mul pe_int (pv 3))) pe_int))
   (pss_cons (ps_mid <| ps_if (pt_cmpR (op_neL hu') (pv 4) (pe_lst pa_nil) (nomark _))
    (pss_one (ps_set (i:=5) scTake.nd rfl (Or.inl rfl) (pe_ix ix_list (pv 4) (pe_op op_mod (pv 3) (pe_callB call_len_seq (by rfl) hlen PySem.boot_len (pa_cons (pv 4) pa_nil))) (fun _ _=>rfl)))) pss_nil)
   (pss_cons (ps_mid <| ps_if (pw_and (pt_cmpR op_lt (pv 3) (pe_callB call_len_seq (by rfl) hlen PySem.boot_len (pa_cons (pv 4) pa_nil)) (nomark _))
     (pw_and1 (pt_cmpR op_ge (pe_callB call_abs (by rfl) habs (by kernel_rfl) (pa_cons (pv 5) pa_nil)) (pe_op op_pow pe_int pe_int) (nomark _)))).pt
    (pss_cons (ps_dput hu (pv 0) pe_str (pe_op op_fdivL (pe_callB call_abs (by rfl) habs (by kernel_rfl) (pa_cons (pv 5) pa_nil)) (pv 1)) rfl)
    (pss_one (ps_ret (pe_op op_mod (pe_callB call_abs (by rfl) habs (by kernel_rfl) (pa_cons (pv 5) pa_nil)) (pv 1))))) pss_nil)
   (pss_cons (ps_set (i:=6) scTake.nd rfl (Or.inl rfl) (pe_op op_mod (pe_op op_pow (pe_op op_add (pe_op op_add (pe_op op_mod (pv 5) pe_int) (pe_op op_mul pe_int (pv 3))) pe_int) pe_int) pe_int))
   (pss_cons (ps_set (i:=7) scTake.nd rfl (Or.inl rfl) (pe_op op_mod (pe_op op_pow (pe_op op_add (pe_op op_add (pv 6) (pe_op op_mul (pe_op op_mul pe_int (pv 3)) (pv 3))) pe_int) pe_int) pe_int))
   (pss_one (ps_ret (pe_op op_mod (pe_op op_fdivL (pe_op op_mod (pe_op op_mul (pv 7) (pe_op op_add (pe_op op_mod (pv 6) pe_int) pe_int)) pe_int) pe_int) (pv 1)))))))))))),?_⟩
  obtain ⟨⟨l,hl0,hob⟩,hce,hge,hsm⟩:=id hp
  have ncp:=hp.ne
  refine ⟨_,rfl,p,_,rfl,getL hob,_,_,rfl,rfl,_,rfl,?_⟩
  refine ite2 (fun h0=>?_) (fun h0=>?_)
  ·refine ⟨_,rfl,p,_,rfl,getL hob,_,rfl,_,_,rfl,rfl,hm,?_⟩
   refine ⟨_,rfl,p,_,rfl,getL hob,_,rfl,_,_,rfl,rfl,CDivL.of hm hm2,_,rfl,p,_,rfl,putL _ hob,?_⟩
   refine ⟨_,rfl,?_⟩
   exact k (l % m) a _ (Int.emod_nonneg _ (by omega)) (Int.emod_lt_of_pos _ hm) (Int.le_refl _) (by omega) ⟨⟨l / m,Int.ediv_nonneg hl0 (by omega),upd_same⟩,by rw[upd_ne ncp];exact hce,hge,hsm⟩ (KeepBut.refl p H).upd
  ·refine ⟨_,rfl,p,_,rfl,getA hob,?_⟩
   refine ⟨_,rfl,_,_,rfl,rfl,_,rfl,p,_,rfl,putA _ hob,?_⟩
   refine ⟨_,rfl,p,_,rfl,getC upd_same,?_⟩
   refine ⟨_,rfl,_,_,rfl,rfl,.inl (by decide),_,rfl,_,_,rfl,rfl,.inr (by omega),_,rfl,_,_,rfl,rfl,.inl (by decide),_,_,rfl,rfl,_,_,rfl,rfl,?_⟩
   have keep1:KeepBut p H (upd H p (.dK (penD c (a + 1) l))):=(KeepBut.refl p H).upd
   have hc1:(upd H p (.dK (penD c (a + 1) l))) c=some (.lst (ns.map V.int)):=by rw[upd_ne ncp];exact hce
   refine ⟨fun σ' H'=>∃ cv:Int,σ'=[some (.ref p),some (.int m),none,some (.int a),some (.ref c),some (.int cv),none,none]∧KeepBut p H H'∧H' p=some (.dK (penD c (a + 1) l))∧H' c=some (.lst (ns.map V.int)),?_,?_⟩
   ·refine ⟨_,rfl,Nat.zero_le _,fun q hq=>?_⟩
    have s2:=Same.new (o:=.lst []) hq
    refine ⟨c,q,ns.map V.int,[],rfl,rfl,SqL.of (s2 _ _ hc1),SqL.of upd_same,flat_ints ns,rfl,_,rfl,?_⟩
    refine ite2 (fun hne=>?_) (fun hne=>?_)
    ·have hpos:0 < ns.length:=by
      cases ns with
      | nil=>exact absurd hne (by simp[eqVs])
      | cons x r=>simp
     have hlt:(a % (ns.length:Int)).toNat < ns.length:=by
      have h1:=Int.emod_lt_of_pos a (show (0:Int) < ns.length by omega)
      have h2:=Int.emod_nonneg a (show (ns.length:Int)≠0 by omega)
      omega
     have hat:atI (ns.map V.int) (a % (ns.length:Int))=some (.int (ns[(a % (ns.length:Int)).toNat])):=by
      have h2:=Int.emod_nonneg a (show (ns.length:Int)≠0 by omega)
      have e:=atI_nat (xs:=ns.map V.int) (j:=(a % (ns.length:Int)).toNat) (v:=.int (ns[(a % (ns.length:Int)).toNat])) (by rw[List.getElem?_map,List.getElem?_eq_getElem hlt];rfl)
      rw[Int.toNat_of_nonneg h2] at e
      exact e
     have hat':atI (ns.map V.int) (a % ((ns.map V.int).length:Int))=some (.int (ns[(a % (ns.length:Int)).toNat])):=by
      rw[List.length_map];exact hat
     refine ⟨_,rfl,_,rfl,_,rfl,c,_,rfl,.inl (SqL.of (s2 _ _ hc1)),_,_,rfl,rfl,(by rw[List.length_map];omega),c,_,_,_,rfl,rfl,SqL.of (s2 _ _ hc1),hat',?_⟩
     exact ⟨_,rfl,keep1.same s2,s2 _ _ upd_same,s2 _ _ hc1⟩
    ·exact ⟨_,rfl,keep1.same s2,s2 _ _ upd_same,s2 _ _ hc1⟩
   ·rintro σ' H' ⟨cv,rfl,kp,hpp,hcc⟩
    refine ⟨fun σ' H'=>∃ cv:Int,σ'=[some (.ref p),some (.int m),none,some (.int a),some (.ref c),some (.int cv),none,none]∧KeepBut p H H'∧H' p=some (.dK (penD c (a + 1) l))∧H' c=some (.lst (ns.map V.int)),?_,?_⟩
    ·refine ⟨_,rfl,_,rfl,c,_,rfl,.inl (SqL.of hcc),_,_,rfl,rfl,_,rfl,?_⟩
     refine ite2 (fun h1=>?_) (fun h1=>?_)
     ·refine ⟨_,rfl,_,rfl,_,_,rfl,rfl,⟨by decide,by decide,by decide⟩,_,_,rfl,rfl,_,rfl,?_⟩
      refine ite2 (fun h2=>?_) (fun h2=>?_)
      ·refine ⟨_,rfl,_,rfl,_,rfl,_,_,rfl,rfl,CDivL.of hm hm2,_,rfl,p,_,rfl,putL _ hpp,?_⟩
       refine ⟨_,rfl,_,rfl,_,rfl,_,_,rfl,rfl,hm,?_⟩
       have habs0:0≤(if cv < 0 then -cv else cv):=by split <;> omega
       exact k _ (a + 1) _ (Int.emod_nonneg _ (by omega)) (Int.emod_lt_of_pos _ hm) (by omega) (Int.le_refl _) ⟨⟨_,Int.ediv_nonneg habs0 (by omega),upd_same⟩,by rw[upd_ne ncp];exact hcc,by omega,hsm⟩ kp.upd
      ·exact ⟨cv,rfl,kp,hpp,hcc⟩
     ·exact iteF ⟨cv,rfl,kp,hpp,hcc⟩
    ·rintro σ' H' ⟨cv,rfl,kp,hpp,hcc⟩
     refine ⟨_,rfl,_,_,rfl,rfl,(by show (0:Int) < _;decide),_,rfl,_,_,rfl,rfl,.inl (by decide),_,_,rfl,rfl,_,_,rfl,rfl,_,_,rfl,rfl,⟨by decide,by decide,?_⟩,_,_,rfl,rfl,(by show (0:Int) < _;decide),?_⟩
     ·have e1:=Int.emod_nonneg cv (show (2147483587:Int)≠0 by decide)
      have e2:=Int.emod_lt_of_pos cv (show 0 < (2147483587:Int) by decide)
      show Int.natAbs (cv % (2147483587:Int) + (45007:Int) * a + (11:Int)) < 2 ^ 64
      omega
     ·refine ⟨_,rfl,_,rfl,_,_,rfl,rfl,.inl (by decide),_,rfl,_,_,rfl,rfl,.inr (by omega),_,_,rfl,rfl,_,_,rfl,rfl,_,_,rfl,rfl,⟨by decide,by decide,bnd2 _ hge ha⟩,_,_,rfl,rfl,(by show (0:Int) < _;decide),?_⟩
      refine ⟨_,rfl,_,rfl,_,_,rfl,rfl,(by show (0:Int) < _;decide),_,_,rfl,rfl,_,_,rfl,rfl,.inl bnd3,_,_,rfl,rfl,(by show (0:Int) < _;decide),_,_,rfl,rfl,CDivL.of (by decide) (by decide),_,rfl,_,_,rfl,rfl,hm,?_⟩
      exact k _ (a + 1) _ (Int.emod_nonneg _ (by omega)) (Int.emod_lt_of_pos _ hm) (by omega) (Int.le_refl _) ⟨⟨l,hl0,hpp⟩,hcc,by omega,hsm⟩ kp
end
end K5
namespace K5
open PySem L2
structure Nms (ws:List Str):Prop where
 nd:ws.Nodup
 ok:∀ w∈ws,nameB w=true
theorem Nms.take {ws:List Str} (h:Nms ws) (n:Nat):Nms (ws.take n):=⟨h.nd.sublist (List.take_sublist n ws),fun w hw=>h.ok w (List.mem_of_mem_take hw)⟩
inductive I_spNames (vs:List V) (H:Hp) (Q:VK) (u3_:XK):Prop
 | mk (p c:Addr) (ns:List Int) (a:Int) (m:Nat) (q0:vs=[.ref p,.int m]) (q1:PenAt H p c ns a) (q2:a≤900000) (q3:m≤44) (q4:∀ l ws a' H',H l=none→H' l=some (.lst (ws.map V.str))→ws.length=m→Nms ws→a≤a'→a'≤a + 30→PenAt H' p c ns a'→KeepBut p H H'→Q (.ref l) H'):I_spNames vs H Q u3_
def spNames:Sp:=fun vs H Q u3_=>I_spNames vs H Q u3_
theorem pick_range (l:List Nat):∀ (m s:Nat),(List.range' s m).filterMap (fun j=>l.toArray[j]?)=(l.drop s).take m
 | 0,s=>by simp
 | m + 1,s=>by
  rw[List.range'_succ,List.filterMap_cons]
  have ih:=pick_range l m (s + 1)
  by_cases h:s < l.length
  ·have e:l.toArray[s]?=some l[s]:=by simp[h]
   rw[e]
   dsimp only
   rw[ih,List.drop_eq_getElem_cons h,List.take_succ_cons]
  ·have e:l.toArray[s]?=none:=by simp;omega
   rw[e]
   dsimp only
   rw[ih,List.drop_eq_nil_of_le (by omega),List.drop_eq_nil_of_le (by omega)]
   simp
theorem idx_to':∀ n:Nat,n < 7→∀ s:Nat,s < 7→s≤n→Builtin.Str.strSliceIndices none (some (s:Int)) 1 n=List.range' 0 s:=by decide
theorem idx_from':∀ n:Nat,n < 7→∀ s:Nat,s < 7→s≤n→Builtin.Str.strSliceIndices (some (s:Int)) none 1 n=List.range' s (n - s):=by decide
theorem sl_to {b:List Nat}{s:Nat} (hb:b.length≤6) (hs:s≤b.length):Txt.slice (mk b) none (some (s:Int))=mk (b.take s):=by
 unfold Txt.slice
 rw[mk_len,idx_to' _ (by omega) _ (by omega) hs]
 split
 ·next h=>
  simp at h
  rw[h,List.take_length]
 ·have e:=pick_range b s 0
  rw[List.drop_zero] at e
  exact congrArg mk e
theorem sl_from {b:List Nat}{s:Nat} (hb:b.length≤6) (hs:s≤b.length):Txt.slice (mk b) (some (s:Int)) none=mk (b.drop s):=by
 unfold Txt.slice
 rw[mk_len,idx_from' _ (by omega) _ (by omega) hs]
 split
 ·next h=>
  simp at h
  have:s=0∨b.length=0:=by omega
  rcases this with rfl | h0
  ·rfl
  ·rw[List.length_eq_zero_iff.mp h0];simp
 ·have e:=pick_range b (b.length - s) s
  rw[show (b.drop s).take (b.length - s)=b.drop s from List.take_of_length_le (by rw[List.length_drop];exact Nat.le_refl _)] at e
  exact congrArg mk e
theorem glue_fold (bs:List Nat):∀ acc:Array Nat,(bs.map fun c=>mk [c]).foldl (fun (acc:Array Nat) (p:Str)=>acc ++ (Str.ofString "").cps ++ p.cps) acc=acc ++ bs.toArray:=by
 have e0:(Str.ofString "").cps=#[]:=by decide
 induction bs with
 | nil=>intro acc;simp
 | cons x r ih=>
  intro acc
  rw[List.map_cons,List.foldl_cons,ih,e0]
  simp[mk]
theorem join_mk (bs:List Nat):Txt.join "" (bs.map fun c=>mk [c])=mk bs:=by
 show Builtin.Str.glued _ _=_
 unfold Builtin.Str.glued
 cases bs with
 | nil=>rfl
 | cons x r=>
  have:=glue_fold r #[x]
  simp only [List.map_cons,List.headD_cons,List.drop_succ_cons,List.drop_zero]
  show (⟨List.foldl _ _ _⟩:Str)=_
  rw[show (mk [x]).cps=#[x] from rfl]
  rw[this]
  simp[mk]
theorem abc_atM (x:Nat) {j:Int} (hj:j=(x:Int) % 26):atI abc.cps.toList j=some (lt26 x):=by
 have h0:0≤j:=by omega
 have h1:j < 26:=by omega
 rw[abc_at h0 h1]
 unfold lt26
 congr 1
 omega
theorem bij_step (f n:Nat) (h:n≠0):bij (f + 1) n=bij f ((n - 1) / 2) ++ [n % 2]:=by
 show (if n=0 then [] else _)=_
 rw[if_neg h]
section
variable {P:Program}{w:World}{K:W.Frag}{mg:Str→Option Value}{base:Heap}
theorem scNames:FnScope ["_law_pen_here","_law_many","_law_letters","_law_way","_law_turn","_law_k","_law_base","_law_spot","_law_found","_law_word","_law_rest","_law_terms"] ["_law_pen_here","_law_many"] (defScope sNames):=⟨rfl,rfl,rfl,by decide,rfl,by decide,by decide⟩
theorem sum_len {ws:List Str} (h:∀ w∈ws,w.length=1):(ws.map (·.length)).sum=ws.length:=by
 induction ws with
 | nil=>rfl
 | cons x r ih=>
  rw[List.map_cons,List.sum_cons,ih fun w hw=>h w (List.mem_cons_of_mem _ hw),h x List.mem_cons_self,List.length_cons]
  omega
theorem ok_names {f fT:Addr}{fd fdT:FuncData} (F:Fun K "_law_names" "_law_names" sNames f fd) (hlen:mg "len"=none) (hrng:mg "range"=none) (hmin:mg "min"=none)
  (GT:FnOk P w K mg base CX0 1 fT fdT ["_law_pen_here","_law_many"] spTake) (mT:mg "_law_take"=some (.ref fT)) (kT:W.keepIn K (.ref fT)=true) (bT:Binds K fdT ["_law_pen_here","_law_many"] []):
  FnOk P w K mg base CX0 2 f fd ["_law_pen_here","_law_many"] spNames:=by
 refine F.ok scNames (fun vs H Q E h=>?_) (fun cdv A outer s H vs Q E hr h=>?_)
 ·obtain ⟨p,c,ns,a,m,rfl,_⟩:=h
  rfl
 ·obtain ⟨p,c,ns,a,m,rfl,hp,ha,hm,k⟩:=h
  refine ⟨_,pss_cons (ps_set (i:=2) scNames.nd rfl (Or.inr rfl) pe_str)
   (pss_cons (ps_set (i:=3) scNames.nd rfl (Or.inl rfl) (pe_call GT hr rfl mT kT bT .nil pass0 (pa_c (pv 0) (pa_c pe_int pa_nil))))
   (pss_cons (ps_set (i:=4) scNames.nd rfl (Or.inl rfl) (pe_call GT hr rfl mT kT bT .nil pass0 (pa_c (pv 0) (pa_c pe_int pa_nil))))
   (pss_cons (ps_set (i:=6) scNames.nd rfl (Or.inl rfl) (pe_bm PySem.F.plainAttrs_str PySem.F.slot_str_join PySem.F.type_str_join mt_join pe_str (pa_c (pe_comp (N:=["_law_k","_law_letters","_law_pen_here"]) (src:=[none,some 2,some 0]) (osc:=defScope sNames) (oN:=["_law_pen_here","_law_many","_law_letters","_law_way","_law_turn","_law_k","_law_base","_law_spot","_law_found","_law_word","_law_rest","_law_terms"]) ⟨by rfl,by decide,by decide,by decide,rfl,by rfl⟩
      (pi_range1 rfl hrng (pa_c (pe_ix ix_list (pe_lst (pa_c (pe_call GT hr rfl mT kT bT .nil pass0 (pa_c (pv 0) (pa_c pe_int pa_nil))) (pa_c pe_int (pa_c pe_int pa_nil)))) (pv 3) (fun _ _=>rfl)) pa_nil))
      fun cl s H fp pins C=>⟨pg_name (i:=0) (show (["_law_k","_law_letters","_law_pen_here"]:List Str).Nodup by decide) rfl (Or.inl rfl),pts_nil,pe_ix ix_str (pv 1) (pe_call GT hr rfl mT kT bT .nil pass0 (pa_c (pv 2) (pa_c pe_int pa_nil))) (fun _ _=>rfl)⟩) pa_nil)))
   (pss_cons (ps_set (i:=7) scNames.nd rfl (Or.inl rfl) (pe_call GT hr rfl mT kT bT .nil pass0 (pa_c (pv 0) (pa_c (pe_op op_add (pe_callB call_len_str (by rfl) hlen PySem.boot_len (pa_c (pv 6) pa_nil)) pe_int) pa_nil))))
   (pss_cons (ps_set (i:=8) scNames.nd rfl (Or.inl rfl) (pe_lst pa_nil))
   (pss_cons (ps_for PassesOwn.never rfl (pi_range1 rfl hrng (pa_c (pv 1) pa_nil)) (pg_name (i:=5) scNames.nd rfl (Or.inl rfl))
    (pss_cons (ps_set (i:=9) scNames.nd rfl (Or.inl rfl) (pe_op op_add_str (pe_ix ix_str (pv 2) (pe_op op_mod (pe_op op_add (pv 4) (pe_op op_mul pe_int (pv 5))) pe_int) (fun _ _=>rfl)) (pe_ix ix_str (pv 2) (pe_op op_mod (pe_op op_add (pv 4) (pe_op op_fdiv (pv 5) pe_int)) pe_int) (fun _ _=>rfl))))
    (pss_cons (ps_set (i:=9) scNames.nd rfl (Or.inl rfl) (pe_op op_add_str (pe_op op_add_str (pe_slice sl_str (pv 6) po_none (po_some (pv 7))) (pv 9)) (pe_slice sl_str (pv 6) (po_some (pv 7)) po_none)))
    (pss_cons (ps_mid <| ps_if (pt_cmpR op_eq (pv 3) pe_int (nomark _))
     (pss_cons (ps_set (i:=9) scNames.nd rfl (Or.inl rfl) pe_str)
     (pss_cons (ps_set (i:=10) scNames.nd rfl (Or.inl rfl) (pe_op op_add (pv 5) pe_int))
     (pss_one (ps_while PassesOwn.never (pt_cmpR op_gt (pv 10) pe_int (nomark _))
      (pss_cons (ps_set (i:=9) scNames.nd rfl (Or.inl rfl) (pe_op op_add_str (pe_ix ix_str (pv 2) (pe_op op_mod (pe_op op_add (pv 4) (pe_op op_mul pe_int (pe_op op_mod (pv 10) pe_int))) pe_int) (fun _ _=>rfl)) (pv 9)))
      (pss_one (ps_set (i:=10) scNames.nd rfl (Or.inl rfl) (pe_op op_fdiv (pe_op op_sub (pv 10) pe_int) pe_int)))))))) pss_nil)
    (pss_one (ps_expr (pe_bm PySem.F.plainAttrs_list PySem.F.slot_list_append PySem.F.type_list_append mt_append (pv 8) (pa_c (pv 9) pa_nil))))))))
   (pss_cons (ps_set (i:=11) scNames.nd rfl (Or.inl rfl) (pe_lst (pa_c pe_str (pa_c pe_str (pa_c pe_str (pa_c pe_str (pa_c pe_str (pa_c pe_str (pa_c pe_str (pa_c pe_str (pa_c pe_str pa_nil)))))))))))
   (pss_cons (ps_mid <| ps_if (pt_cmpR op_eq (pe_call GT hr rfl mT kT bT .nil pass0 (pa_c (pv 0) (pa_c pe_int pa_nil))) pe_int (nomark _))
    (pss_one (ps_for PassesOwn.never rfl (pi_range1 rfl hrng (pa_c (pe_callB (call_min2 rfl) (by rfl) hmin (by kernel_rfl) (pa_c (pv 1) (pa_c pe_int pa_nil))) pa_nil)) (pg_name (i:=5) scNames.nd rfl (Or.inl rfl))
     (pss_one (ps_if (PW.pt (pw_and (pt_cmpR op_eq (pe_call GT hr rfl mT kT bT .nil pass0 (pa_c (pv 0) (pa_c pe_int pa_nil))) pe_int (nomark _)) (pw_and1 (pt_cmpR op_notIn_seq (pe_ix ix_list (pv 11) (pv 5) (fun _ _=>rfl)) (pv 8) (by with_unfolding_all rfl)))))
      (pss_one (ps_asg (pe_ix ix_list (pv 11) (pv 5) (fun _ _=>rfl)) (pg_sub (pv 8) (pv 5) set_list))) pss_nil)))) pss_nil)
   (pss_one (ps_ret (pv 8))))))))))),?_⟩
  have e0:(Str.ofString "").length=0:=by decide
  have zA:abc.length≤sizeLine:=sizeLine_big (by rw[abc_len];decide)
  refine ⟨_,rfl,p,c,ns,a,_,rfl,hp,by omega,by decide,by decide,fun wy a1 H1 w0 w1 l1 u1 hp1 kp1=>?_⟩
  refine ⟨_,rfl,p,c,ns,a1,_,rfl,hp1,by omega,by decide,by decide,fun tt a2 H2 t0 t1 l2 u2 hp2 kp2=>?_⟩
  obtain ⟨t,rfl⟩:∃ t:Nat,tt=t:=⟨tt.toNat,by omega⟩
  refine ⟨rfl,_,rfl,p,c,ns,a2,_,rfl,hp2,by omega,by decide,by decide,fun r3 a3 H3 r30 r31 l3 u3 hp3 kp3=>?_⟩
  refine ⟨sizeLine_big (by show 3≤1000000;decide),fun q hq=>?_⟩
  have sq:=Same.new (o:=.lst [V.int r3,.int 0,.int 6]) hq
  obtain ⟨v,hv,hat⟩:=atI_in (xs:=[V.int r3,.int 0,.int 6]) (i:=wy) w0 (by show wy < 3;omega)
  obtain ⟨n,rfl,hn0,hn6⟩:∃ n:Int,v=.int n∧0≤n∧n≤6:=by
   simp only [List.mem_cons,List.not_mem_nil,or_false] at hv
   rcases hv with rfl | rfl | rfl
   ·exact ⟨_,rfl,by omega,by omega⟩
   ·exact ⟨_,rfl,by omega,by omega⟩
   ·exact ⟨_,rfl,by omega,by omega⟩
  refine ⟨_,rfl,q,_,wy,_,rfl,rfl,SqL.of upd_same,hat,?_⟩
  refine ⟨n,rfl,by omega,by omega,?_⟩
  have kq:KeepBut p H (upd H3 q (.lst [V.int r3,.int 0,.int 6])):=((kp1.trans kp2).trans kp3).same sq
  have hpq:=hp3.same sq
  generalize upd H3 q (.lst [V.int r3,.int 0,.int 6])=H4 at kq hpq ⊢
  refine comp_range (fun i ys σ' H'=>Ex3 fun (a':Int) (bs:List Nat) (o:Option V)=>Aw8 (σ'=[o,some (.str abc),some (.ref p)]) (PenAt H' p c ns a') (KeepBut p H H') (a3≤a') (a'≤a3 + i) (ys=(bs.map fun c=>mk [c]).map V.str) (bs.length=i) ((∀ c∈bs,isL c=true)))
   ⟨a3,[],none,rfl,hpq,kq,by omega,by omega,rfl,rfl,fun w hw=>by simp at hw⟩ (sizeLine_big (by omega)) (fun i ys σ H p=>by obtain ⟨_,bs,_,_,_,_,_,_,rfl,e,_⟩:=p;rw[List.length_map,List.length_map,e];exact Nat.le_refl _) ?_ ?_
  ·rintro i' ys σ' H5 hi' ⟨a',bs,o,rfl,hp5,kp5,la',ha',rfl,hl,hb⟩
   dsimp only [gName]
   refine iteT ?_
   refine ⟨_,rfl,_,rfl,p,c,ns,a',_,rfl,hp5,by omega,by decide,by decide,fun r6 a6 H6 r60 r61 l6 u6 hp6 kp6=>?_⟩
   refine ⟨_,r6,lt26 r6.toNat,rfl,rfl,zA,abc_at r60 r61,?_⟩
   refine ⟨a6,bs ++ [lt26 r6.toNat],_,rfl,hp6,kp5.trans kp6,by omega,by omega,by rw[List.map_append,List.map_append];rfl,by rw[List.length_append,hl];rfl,fun c hc=>?_⟩
   rcases List.mem_append.mp hc with z | z
   ·exact hb c z
   ·rw[List.mem_singleton.mp z];exact isL_lt _
  ·rintro ys σ' H5 ⟨a4,b,o,rfl,hp5,kp5,l4,u4,rfl,hbl,hb⟩ D hD
   have hb6:b.length≤6:=by omega
   refine ⟨_,D,b.map (fun c=>mk [c]),rfl,rfl,SqL.of upd_same,by
    rw[sum_len (fun w hw=>by obtain ⟨x,_,rfl⟩:=List.mem_map.mp hw;rfl),List.length_map,e0];omega,?_⟩
   rw[join_mk]
   have hp6:=hp5.same (Same.new (o:=.lst ((b.map fun c=>mk [c]).map V.str)) hD)
   have kp6:KeepBut p H _:=kp5.same (Same.new (o:=.lst ((b.map fun c=>mk [c]).map V.str)) hD)
   generalize upd H5 D (.lst ((b.map fun c=>mk [c]).map V.str))=H6 at hp6 kp6 ⊢
   refine ⟨_,rfl,_,rfl,mk b,rfl,sizeLine_big (by rw[mk_len];omega),_,_,rfl,rfl,p,c,ns,a4,_,rfl,hp6,by omega,by omega,by rw[mk_len];omega,fun ss a5 H7 s0 s1 l5 u5 hp7 kp7=>?_⟩
   rw[mk_len] at s1
   obtain ⟨sp,rfl⟩:∃ sp:Nat,ss=sp:=⟨ss.toNat,by omega⟩
   refine ⟨Nat.zero_le _,fun L hL=>?_⟩
   have kp8:=kp6.trans kp7
   have nLp:L≠p:=by
    obtain ⟨l,_,z⟩:=hp7.ob
    exact (ne_of_none z hL).symm
   have nLc:L≠c:=(ne_of_none hp7.ce hL).symm
   have hHL:H L=none:=by
    cases e:H L with
    | none=>rfl
    | some x=>exact absurd (kp8 L x e nLp) (by rw[hL];simp)
   refine ⟨_,rfl,m,rfl,by omega,by omega,for_range (n:=(m:Int).toNat) (fun i σ H'=>Ex3 fun o5 o9 o10=>Aw2 (σ=[some (.ref p),some (.int m),some (.str abc),some (.int wy),some (.int t),o5,some (.str (mk b)),some (.int sp),some (.ref L),o9,o10,none]) (H'=upd H7 L (.lst (((List.range i).map fun k=>mk (word (decide (wy=1)) b sp t k)).map V.str)))) ⟨_,_,_,rfl,rfl⟩ ?_ ?_⟩
   ·rintro i σ H' hi ⟨o5,o9,o10,rfl,rfl⟩
    dsimp only [gName]
    have hi44:i < 44:=by omega
    refine ⟨_,rfl,_,rfl,_,rfl,_,_,rfl,rfl,.inl ⟨by decide,by decide⟩,_,_,rfl,rfl,_,_,rfl,rfl,(by show (0:Int) < 26;decide),_,_,lt26 (t + 7 * i),rfl,rfl,zA,abc_atM _ (by omega),?_⟩
    refine ⟨_,rfl,_,rfl,_,rfl,_,_,rfl,rfl,⟨by decide,by decide⟩,_,_,rfl,rfl,_,_,rfl,rfl,(by show (0:Int) < 26;decide),_,_,lt26 (t + i / 26),rfl,rfl,zA,abc_atM _ (by omega),?_⟩
    refine ⟨_,_,rfl,rfl,sizeLine_big (by show 1 + 1≤1000000;decide),?_⟩
    have zB:(mk b).length≤sizeLine:=sizeLine_big (by rw[mk_len];omega)
    have hs6:∀ {x y},(Txt.slice (mk b) x y).length≤6:=fun {x y}=>Nat.le_trans (Txt.slice_le _ x y) (by rw[mk_len];omega)
    have h2:((⟨#[lt26 (t + 7 * i)]⟩:Str) ++ ⟨#[lt26 (t + i / 26)]⟩).length=2:=rfl
    refine ⟨_,rfl,_,rfl,_,rfl,mk b,rfl,zB,_,rfl,_,_,rfl,rfl,sizeLine_big (by have:=hs6 (x:=none) (y:=some (sp:Int));omega),_,rfl,_,rfl,_,rfl,mk b,rfl,zB,_,_,rfl,rfl,sizeLine_big (by have:=hs6 (x:=none) (y:=some (sp:Int));have:=hs6 (x:=some (sp:Int)) (y:=none);rw[Str.length_append];omega),?_⟩
    have ew:(Txt.slice (mk b) none (some (sp:Int)) ++ ((⟨#[lt26 (t + 7 * i)]⟩:Str) ++ ⟨#[lt26 (t + i / 26)]⟩)) ++ Txt.slice (mk b) (some (sp:Int)) none=mk (b.take sp ++ pair t i ++ b.drop sp):=by
     rw[sl_to hb6 (by omega),sl_from hb6 (by omega)]
     rw[show ((⟨#[lt26 (t + 7 * i)]⟩:Str) ++ ⟨#[lt26 (t + i / 26)]⟩)=mk (pair t i) from rfl,mk_app,mk_app]
    rw[ew]
    refine ⟨fun σ' H'=>∃ o10,σ'=[some (.ref p),some (.int m),some (.str abc),some (.int wy),some (.int t),some (.int (0 + i)),some (.str (mk b)),some (.int sp),some (.ref L),some (.str (mk (word (decide (wy=1)) b sp t i))),o10,none]∧H'=upd H7 L (.lst (((List.range i).map fun k=>mk (word (decide (wy=1)) b sp t k)).map V.str)),?_,?_⟩
    ·refine ⟨_,rfl,rfl,_,rfl,?_⟩
     refine ite2 (fun g=>?_) (fun g=>?_)
     ·have g':wy=1:=V.int.inj (of_decide_eq_true g)
      subst g'
      refine ⟨_,rfl,_,_,rfl,rfl,?_⟩
      refine ⟨fun mm σ' H'=>∃ (r f:Nat) (suf:List Nat) (rv:Int) (wv:Str),mm=r∧rv=(r:Int)∧wv=mk (suf.map fun d=>lt26 (t + 9 * d))∧σ'=[some (.ref p),some (.int m),some (.str abc),some (.int 1),some (.int t),some (.int (0 + i)),some (.str (mk b)),some (.int sp),some (.ref L),some (.str wv),some (.int rv),none]∧H'=upd H7 L (.lst (((List.range i).map fun k=>mk (word (decide ((1:Int)=1)) b sp t k)).map V.str))∧bij f r ++ suf=bij 6 (i + 1)∧r < 2 ^ f∧suf.length + f≤6,⟨i + 1,i + 1,6,[],_,_,rfl,(by show 0 + (i:Int) + 1=((i + 1:Nat):Int);omega),(by show Str.ofString ""=mk [];decide),rfl,rfl,by simp,by omega,by simp⟩,?_⟩
      rintro mm σ' H' ⟨r,f,suf,rv,wv,rfl,rfl,rfl,rfl,rfl,hbij,hrf,hsl⟩
      refine ⟨_,rfl,_,_,rfl,rfl,_,rfl,?_⟩
      refine ite2 (fun g2=>?_) (fun g2=>?_)
      ·have g2':(0:Int) < mm:=of_decide_eq_true g2
       refine ⟨_,fun σ'' H'' h=>h,?_⟩
       obtain ⟨f',rfl⟩:∃ f',f=f' + 1:=by
        cases f with
        | zero=>exact absurd hrf (by omega)
        | succ x=>exact ⟨x,rfl⟩
       have e2:mk [lt26 (t + 9 * (mm % 2))] ++ mk (suf.map fun d=>lt26 (t + 9 * d))=mk (((mm % 2) :: suf).map fun d=>lt26 (t + 9 * d)):=by rw[mk_app];rfl
       refine ⟨_,rfl,_,rfl,_,rfl,_,_,rfl,rfl,(by show (0:Int) < 2;decide),_,_,rfl,rfl,.inl ⟨by decide,by decide⟩,_,_,rfl,rfl,_,_,rfl,rfl,(by show (0:Int) < 26;decide),_,_,lt26 (t + 9 * (mm % 2)),rfl,rfl,zA,abc_atM _ (by omega),?_⟩
       refine ⟨_,rfl,_,_,rfl,rfl,sizeLine_big (by rw[mk_len,List.length_map];show 1 + _≤_;omega),?_⟩
       refine ⟨_,rfl,_,_,rfl,rfl,_,_,rfl,rfl,⟨by decide,by decide⟩,?_⟩
       refine ⟨(mm - 1) / 2,by omega,(mm - 1) / 2,f',(mm % 2) :: suf,_,_,rfl,?_,e2,rfl,rfl,?_,?_,?_⟩
       ·show ((mm:Int) - 1) / 2=_
        omega
       ·rw[← hbij,bij_step f' mm (by omega)]
        simp
       ·rw[Nat.pow_succ] at hrf
        omega
       ·rw[List.length_cons];omega
      ·have g2':¬ (0:Int) < mm:=fun z=>g2 (decide_eq_true z)
       have hz:mm=0:=by omega
       subst hz
       have e3:bij f 0=[]:=by cases f <;> rfl
       rw[e3,List.nil_append] at hbij
       have e4:word (decide ((1:Int)=1)) b sp t i=suf.map fun d=>lt26 (t + 9 * d):=by
        rw[hbij];rfl
       exact ⟨some (V.int ((0:Nat):Int)),by rw[e4],rfl⟩
     ·have g':¬ wy=1:=fun z=>g (decide_eq_true (by rw[z]))
      rw[decide_eq_false g']
      exact ⟨_,rfl,rfl⟩
    ·rintro σ' H' ⟨o10,rfl,rfl⟩
     refine ⟨_,rfl,.inl ⟨rfl,_,SqL.of upd_same⟩,_,rfl,L,_,_,rfl,rfl,upd_same,by rw[List.length_map,List.length_map,List.length_range];exact small1000 (by omega),?_⟩
     refine ⟨_,_,_,rfl,?_⟩
     rw[upd_upd,List.range_succ,List.map_append,List.map_append]
     rfl
   ·rintro σ H' ⟨o5,o9,o10,rfl,rfl⟩
    have S8:=Same.new (o:=.lst (((List.range (m:Int).toNat).map fun k=>mk (word (decide (wy=1)) b sp t k)).map V.str)) hL
    have hp8:=hp7.same S8
    have kp9:=kp8.same S8
    have hL8:upd H7 L (.lst (((List.range (m:Int).toNat).map fun k=>mk (word (decide (wy=1)) b sp t k)).map V.str)) L=_:=upd_same
    have hN:Nms ((List.range (m:Int).toNat).map fun k=>mk (word (decide (wy=1)) b sp t k)):=by
     refine ⟨word_nd (by omega) (by omega),fun w hw=>?_⟩
     obtain ⟨k',hk',rfl⟩:=List.mem_map.mp hw
     have:=List.mem_range.mp hk'
     exact word_name (by omega) hb6 hb
    have hwl:((List.range (m:Int).toNat).map fun k=>mk (word (decide (wy=1)) b sp t k)).length=m:=by rw[List.length_map,List.length_range];omega
    generalize ((List.range (m:Int).toNat).map fun k=>mk (word (decide (wy=1)) b sp t k))=ws at hp8 kp9 hL8 hN hwl ⊢
    generalize upd H7 L (.lst (ws.map V.str))=H8 at hp8 kp9 hL8 ⊢
    refine ⟨sizeLine_big (by show 9≤1000000;decide),fun T hT=>?_⟩
    have S9:=Same.new (o:=.lst (terms.map V.str)) hT
    have hT9:upd H8 T (.lst (terms.map V.str)) T=some (.lst (terms.map V.str)):=upd_same
    have hp9:=hp8.same S9
    have kp10:=kp9.same S9
    have hL9:=S9 _ _ hL8
    have nTL:T≠L:=(ne_of_none hL8 hT).symm
    have nTp:T≠p:=by
     obtain ⟨l,_,z⟩:=hp8.ob
     exact (ne_of_none z hT).symm
    have eT:upd H8 T (.lst [V.str "as",.str "with",.str "part",.str "field",.str "none",.str "done",.str "write",.str "back",.str "join"])=upd H8 T (.lst (terms.map V.str)):=rfl
    rw[eT]
    generalize upd H8 T (.lst (terms.map V.str))=H9 at hp9 kp10 hL9 hT9 ⊢
    refine ⟨fun σ' H'=>∃ (o5:Option V) (vs:List Str) (a6:Int),σ'=[some (.ref p),some (.int m),some (.str abc),some (.int wy),some (.int t),o5,some (.str (mk b)),some (.int sp),some (.ref L),o9,o10,some (.ref T)]∧H' L=some (.lst (vs.map V.str))∧vs.length=m∧Nms vs∧PenAt H' p c ns a6∧a≤a6∧a6≤a + 30∧KeepBut p H H',?_,?_⟩
    ·refine ⟨_,rfl,p,c,ns,a5,_,rfl,hp9,by omega,by decide,by decide,fun r6 a6 H10 r60 r61 l6 u6 hp10 kp11=>?_⟩
     have hL10:=kp11 _ _ hL9 nLp
     have hT10:=kp11 _ _ hT9 nTp
     have kp12:=kp10.trans kp11
     refine ⟨rfl,_,rfl,?_⟩
     refine ite2 (fun g=>?_) (fun g=>?_)
     ·refine ⟨_,rfl,_,_,rfl,?_⟩
      obtain ⟨n9,hn9,n90,n91,n92⟩:∃ n9:Int,(if (9:Int) < m then (9:Int) else m)=n9∧0≤n9∧n9≤9∧n9≤m:=by
       refine ⟨_,rfl,?_⟩
       split <;> omega
      rw[hn9]
      refine ⟨n9,rfl,by omega,by omega,for_range (n:=n9.toNat) (fun i σ H'=>Ex3 fun (o5:Option V) (vs:List Str) (a7:Int)=>Aw9 (σ=[some (.ref p),some (.int m),some (.str abc),some (.int wy),some (.int t),o5,some (.str (mk b)),some (.int sp),some (.ref L),o9,o10,some (.ref T)]) (H' L=some (.lst (vs.map V.str))) (H' T=some (.lst (terms.map V.str))) (vs.length=m) (Nms vs) (PenAt H' p c ns a7) (a6≤a7) (a7≤a6 + i) (KeepBut p H H')) ⟨_,ws,a6,rfl,hL10,hT10,hwl,hN,hp10,by omega,by simp,kp12⟩ ?_ ?_⟩
      ·rintro i σ H' hi ⟨o5',vs,a7,rfl,hLv,hTv,hvl,hvN,hpv,la7,ua7,kv⟩
       dsimp only [gName]
       refine ⟨_,rfl,p,c,ns,a7,_,rfl,hpv,by omega,by decide,by decide,fun r8 a8 H11 r80 r81 l8 u8 hp11 kp13=>?_⟩
       have hL11:=kp13 _ _ hLv nLp
       have hT11:=kp13 _ _ hTv nTp
       have k11:=kv.trans kp13
       refine ⟨rfl,_,rfl,?_⟩
       refine ite2 (fun g2=>?_) (fun g2=>?_)
       ·obtain ⟨term,hterm⟩:∃ x,terms[i]?=some x:=⟨_,List.getElem?_eq_getElem (show i < 9 by omega)⟩
        have hix:ixN (terms.map V.str).length (0 + (i:Int))=some i:=by
         unfold ixN
         rw[List.length_map,if_pos (by omega),if_pos (by show 0 + (i:Int) < 9;omega)]
         congr 1
         omega
        have hat:atI (terms.map V.str) (0 + (i:Int))=some (V.str term):=by
         unfold atI
         rw[hix]
         simp[hterm]
        have hix2:ixN (vs.map V.str).length (0 + (i:Int))=some i:=by
         unfold ixN
         rw[List.length_map,if_pos (by omega),if_pos (by omega)]
         congr 1
         omega
        refine ⟨_,rfl,_,rfl,T,_,_,_,rfl,rfl,SqL.of hT11,hat,_,rfl,L,_,rfl,.inl (SqL.of hL11),rfl,flat_strs vs,_,rfl,?_⟩
        rw[if_pos rfl,in_strs]
        refine ite2 (fun g3=>?_) (fun g3=>?_)
        ·have g3':term ∉ vs:=by simpa using g3
         refine ⟨_,rfl,_,rfl,T,_,_,_,rfl,rfl,SqL.of hT11,hat,?_⟩
         refine ⟨_,rfl,_,rfl,L,_,_,i,rfl,rfl,hL11,hix2,?_⟩
         refine ⟨_,vs.set i term,a8,rfl,by rw[upd_same,← List.map_set],by rw[upd_ne nTL];exact hT11,by rw[List.length_set,hvl],⟨nd_set hvN.nd g3',fun w hw=>?_⟩,?_,by omega,by omega,?_⟩
         ·rcases List.mem_or_eq_of_mem_set hw with z | z
          ·exact hvN.ok w z
          ·rw[z];exact terms_name term (List.mem_of_getElem? hterm)
         ·obtain ⟨⟨l,hl,e⟩,ce,ge,sm⟩:=hp11
          exact ⟨⟨l,hl,by rw[upd_ne nLp.symm];exact e⟩,by rw[upd_ne nLc.symm];exact ce,ge,sm⟩
         ·intro x o e ne
          have nx:x≠L:=ne_of_none e hHL
          rw[upd_ne nx]
          exact k11 x o e ne
        ·exact ⟨_,vs,a8,rfl,hL11,hT11,hvl,hvN,hp11,by omega,by omega,k11⟩
       ·exact ⟨_,vs,a8,rfl,hL11,hT11,hvl,hvN,hp11,by omega,by omega,k11⟩
      ·rintro σ H' ⟨o5',vs,a7,rfl,hLv,hTv,hvl,hvN,hpv,la7,ua7,kv⟩
       exact ⟨_,vs,a7,rfl,hLv,hvl,hvN,hpv,by omega,by omega,kv⟩
     ·exact ⟨_,ws,a6,rfl,hL10,hwl,hN,hp10,by omega,by omega,kp12⟩
    ·rintro σ' H' ⟨o5',vs,a6,rfl,hLv,hvl,hvN,hpv,la6,ua6,kv⟩
     exact ⟨_,rfl,k L vs a6 H' hHL hLv hvl hvN la6 ua6 hpv kv⟩
end
end K5
namespace K5
open PySem L2
structure OkD (b k:Nat) (d:PyData):Prop where
 sh:d.showable=true
 dp:d.depth≤k
 len:d.shown.length≤b
theorem OkD.mono {b b' k k':Nat}{d:PyData} (h:OkD b k d) (hb:b≤b') (hk:k≤k'):OkD b' k' d:=⟨h.sh,Nat.le_trans h.dp hk,Nat.le_trans h.len hb⟩
theorem okAll {b k:Nat}:∀ {ds:List PyData},(∀ d∈ds,OkD b k d)→PyData.showableAll ds=true∧PyData.depthAll ds≤k∧((ds.map PyData.shown).map (·.length)).sum≤ds.length * b
 | [],_=>⟨rfl,Nat.zero_le _,by simp⟩
 | d :: r,h=>by
  obtain ⟨h1,h2,h3⟩:=okAll (ds:=r) fun x hx=>h x (List.mem_cons_of_mem _ hx)
  obtain ⟨g1,g2,g3⟩:=h d List.mem_cons_self
  refine ⟨?_,?_,?_⟩
  ·unfold PyData.showableAll
   rw[g1,h1]
   rfl
  ·unfold PyData.depthAll
   exact Nat.max_le.mpr ⟨g2,h2⟩
  ·rw[List.map_cons,List.map_cons,List.sum_cons,List.length_cons,Nat.succ_mul]
   omega
theorem OkD.tuple {b k n:Nat}{ds:List PyData} (h:∀ d∈ds,OkD b k d) (hn:ds.length≤n):OkD (n * (b + 2) + 3) (k + 1) (.tuple ds):=by
 obtain ⟨h1,h2,h3⟩:=okAll h
 refine ⟨?_,?_,?_⟩
 ·unfold PyData.showable;exact h1
 ·unfold PyData.depth;omega
 ·unfold PyData.shown
  rw[PyProof.Rows.shownAll_eq_map]
  unfold tupleText
  have hj:=StrLaws.join_length_le (Str.ofString ", ") (ds.map PyData.shown)
  have e1:(Str.ofString ", ").length=2:=by decide
  have e2:(Str.ofString "(").length=1:=by decide
  have e3:∀ c:Bool,(Str.ofString (if c=true then ",)" else ")")).length≤2:=by decide
  have e4:=e3 ((ds.map PyData.shown).length == 1)
  rw[e1,List.length_map] at hj
  rw[Str.length_append,Str.length_append,e2]
  have:ds.length * b + ds.length * 2≤n * (b + 2):=by
   rw[← Nat.mul_add]
   exact Nat.mul_le_mul_right _ hn
  omega
theorem OkD.list {b k n:Nat}{ds:List PyData} (h:∀ d∈ds,OkD b k d) (hn:ds.length≤n):OkD (n * (b + 2) + 3) (k + 1) (.list ds):=by
 obtain ⟨h1,h2,h3⟩:=okAll h
 refine ⟨?_,?_,?_⟩
 ·unfold PyData.showable;exact h1
 ·unfold PyData.depth;omega
 ·unfold PyData.shown
  rw[PyProof.Rows.shownAll_eq_map,listText_eq_join]
  have hj:=StrLaws.join_length_le (Str.ofString ", ") (ds.map PyData.shown)
  have e1:(Str.ofString ", ").length=2:=by decide
  have e2:(Str.ofString "[").length=1:=by decide
  have e3:(Str.ofString "]").length=1:=by decide
  rw[e1,List.length_map] at hj
  rw[Str.length_append,Str.length_append,e2,e3]
  have:ds.length * b + ds.length * 2≤n * (b + 2):=by
   rw[← Nat.mul_add]
   exact Nat.mul_le_mul_right _ hn
  omega
theorem OkD.str {z:Str} (h:PyData.strOk z=true) (hl:z.length≤10):OkD 102 0 (.str z):=by
 refine ⟨by unfold PyData.showable;rfl,by unfold PyData.depth;exact Nat.le_refl _,?_⟩
 have hz:z.cps.size≤10:=hl
 have hlay:(PyData.str z).layable0=true:=by
  unfold PyData.layable0 PyData.canLay0 PyData.depth PyData.weight
  rw[h,decide_eq_true (show (0:Nat)≤64 by decide),decide_eq_true (show z.cps.size≤2 ^ 20 by omega)]
  rfl
 have:=PyProof.Rows.len_repr_of_layable hlay
 unfold PyData.shown
 omega
theorem int_len {i:Int} (h0:0≤i) (h1:i < 10 ^ 60):(Str.ofString (toString i)).length≤60:=by
 obtain ⟨n,rfl⟩:∃ n:Nat,i=n:=⟨i.toNat,by omega⟩
 rw[PySem.ofString_length]
 show (Int.repr (n:Int)).length≤60
 have e:Int.repr (n:Int)=Nat.repr n:=rfl
 rw[e]
 exact (Nat.length_repr_le_iff (by decide)).mpr (by omega)
theorem OkD.int {i:Int} (h0:0≤i) (h1:i < 10 ^ 60):OkD 102 0 (.int i):=by
 refine ⟨?_,by unfold PyData.depth;exact Nat.le_refl _,?_⟩
 ·unfold PyData.showable
  refine decide_eq_true ?_
  have h2:i.natAbs < 2 ^ 200:=by
   have:(10:Int) ^ 60 < ((2 ^ 200:Nat):Int):=by decide
   omega
  by_cases hz:i.natAbs=0
  ·rw[hz];decide
  ·have:=(Nat.log2_lt hz).mpr h2
   omega
 ·unfold PyData.shown
  have:=int_len h0 h1
  omega
theorem strOk_mk {z:Str} (h:nameB z=true):PyData.strOk z=true:=by
 unfold nameB at h
 rw[Bool.and_eq_true,List.all_eq_true] at h
 unfold PyData.strOk
 rw[Array.all_eq_true_iff_forall_mem]
 intro c hc
 have:=of_decide_eq_true (h.2 c (by simpa using hc))
 exact decide_eq_true (by omega)
theorem OkD.name {z:Str} (h:nameB z=true):OkD 102 0 (.str z):=OkD.str (strOk_mk h) (by have:=nameB_len h;omega)
end K5
namespace K5
open PySem L2
def tyN:PyData→String
 | .none=>"NoneType"
 | .bool _=>"bool"
 | .int _=>"int"
 | .str _=>"str"
 | .list _=>"list"
 | .tuple _=>"tuple"
 | .dict _=>"dict"
def isStr:PyData→Bool | .str _=>true | _=>false
def isTup:PyData→Bool | .tuple _=>true | _=>false
def isInt:PyData→Bool | .int _=>true | .bool _=>true | _=>false
def isBl:PyData→Bool | .bool _=>true | _=>false
def nameD:PyData→Bool | .str z=>nameB z | _=>false
def wholeD (lo hi:Int):PyData→Bool | .int i=>decide (lo≤i∧i≤hi) | _=>false
def partD:PyData→Bool
 | .tuple [l,h,a]=>nameD l && nameD h && wholeD 1 10000000 a
 | _=>false
theorem kit_str {K:W.Frag} (d:PyData):PySem.W.kitOne K (.type (tyN d)) (.type "str")=some (isStr d):=by
 cases d <;> dsimp only [tyN,isStr] <;> first | exact kit_same | exact kit_of (by decide) (by decide) (by decide)
theorem kit_tup {K:W.Frag} (d:PyData):PySem.W.kitOne K (.type (tyN d)) (.type "tuple")=some (isTup d):=by
 cases d <;> dsimp only [tyN,isTup] <;> first | exact kit_same | exact kit_of (by decide) (by decide) (by decide)
theorem kit_int {K:W.Frag} (d:PyData):PySem.W.kitOne K (.type (tyN d)) (.type "int")=some (isInt d):=by
 cases d <;> dsimp only [tyN,isInt] <;> first | exact kit_same | exact kit_of (by decide) (by decide) (by decide)
theorem kit_bl {K:W.Frag} (d:PyData):PySem.W.kitOne K (.type (tyN d)) (.type "bool")=some (isBl d):=by
 cases d <;> dsimp only [tyN,isBl] <;> first | exact kit_same | exact kit_of (by decide) (by decide) (by decide)
theorem ty_of {K:W.Frag}{m:Bool}{H:Hp}{x:V}{d:PyData} (h:RdV m H x d):TyOf K H x (.type (tyN d)):=by
 cases h with
 | non=>exact .non
 | bl b=>exact .bl b
 | int i=>exact .int i
 | str z _=>exact .str z
 | lst _ e _ _=>exact .lst e
 | tup e _ _=>exact .tup e
 | dct _ e=>exact .dK e
inductive I_spIsName (K:W.Frag) (vs:List V) (H:Hp) (Q:VK) (u3_:XK):Prop
 | mk (x:_) (q0:vs=[x]) (q1:((∃ z,x=V.str z∧z.length≤1000000∧∀ H',Same H H'→Q (.bl (nameB z)) H')∨(∃ t,TyOf K H x t∧PySem.W.kitOne K t (.type "str")=some false∧Q (.bl false) H))):I_spIsName K vs H Q u3_
def spIsName (K:W.Frag):Sp:=fun vs H Q u3_=>I_spIsName K vs H Q u3_
inductive I_spName (vs:List V) (H:Hp) (Q:VK) (u3_:XK):Prop
 | mk (m:Bool) (x:V) (d:PyData) (q0:vs=[x]) (q1:RdV m H x d) (q2:∀ H',Same H H'→Q (.bl (nameD d)) H'):I_spName vs H Q u3_
def spName:Sp:=fun vs H Q u3_=>I_spName vs H Q u3_
inductive I_spNumb (vs:List V) (H:Hp) (Q:VK) (u3_:XK):Prop
 | mk (m:Bool) (x:V) (d:PyData) (q0:vs=[x]) (q1:RdV m H x d) (q2:Q (.bl (isInt d && !isBl d)) H):I_spNumb vs H Q u3_
def spNumb:Sp:=fun vs H Q u3_=>I_spNumb vs H Q u3_
inductive I_spWhole (vs:List V) (H:Hp) (Q:VK) (u3_:XK):Prop
 | mk (m:Bool) (x:V) (d:PyData) (lo hi:Int) (q0:vs=[x,.int lo,.int hi]) (q1:RdV m H x d) (q2:Q (.bl (wholeD lo hi d)) H):I_spWhole vs H Q u3_
def spWhole:Sp:=fun vs H Q u3_=>I_spWhole vs H Q u3_
inductive I_spPart (vs:List V) (H:Hp) (Q:VK) (u3_:XK):Prop
 | mk (m:Bool) (x:V) (d:PyData) (q0:vs=[x]) (q1:RdV m H x d) (q2:∀ H',Same H H'→Q (.bl (partD d)) H'):I_spPart vs H Q u3_
def spPart:Sp:=fun vs H Q u3_=>I_spPart vs H Q u3_
structure Txt (K:W.Frag) (mg:Str→Option Value):Prop where
 isi:mg "isinstance"=none
 str:mg "str"=none
 len:mg "len"=none
 al:mg "all"=none
 int:mg "int"=none
 bool:mg "bool"=none
 tuple:mg "tuple"=none
 set:mg "set"=none
 mostFields:∃ t,mg "MOST_FIELDS"=some (.int 8 t)
 fieldAcres:∃ t,mg "MOST_FIELD_ACRES"=some (.int 1000000 t)
 longest:∃ t,mg "LONGEST"=some (.int 8 t)
 lastDay:∃ t,mg "LAST_DAY"=some (.int 9999 t)
 fewest:∃ t,mg "FEWEST_LANDS"=some (.int 2 t)
 most:∃ t,mg "MOST_LANDS"=some (.int 6 t)
 acres:∃ t,mg "MOST_PART_ACRES"=some (.int 10000000 t)
 inches:∃ t,mg "MOST_INCHES"=some (.int 10000000 t)
 pence:∃ t,mg "MOST_PENCE"=some (.int 1000000000 t)
 spades:∃ t,mg "MOST_SPADES"=some (.int 1000000 t)
section
variable {P:Program}{w:World}{K:W.Frag}{mg:Str→Option Value}{base:Heap}
theorem kitStr (K:W.Frag):PySem.W.kitOne K (.type "str") (.type "str")=some true:=by
 unfold PySem.W.kitOne
 rw[if_pos (by rfl)]
theorem scN:FnScope ["thing"] ["thing"] (defScope sIsName):=⟨rfl,rfl,rfl,by decide,rfl,by decide,by decide⟩
theorem le_one (a b:Nat):(!decide (([b]:List Nat) < [a]))=decide (a≤b):=by
 have:([b]:List Nat) < [a]↔b < a:=by
  constructor
  ·intro h
   cases h with
   | rel h=>exact h
   | cons h=>cases h
  ·intro h
   exact List.Lex.rel h
 by_cases h:b < a
 ·rw[decide_eq_true (this.mpr h),decide_eq_false (by omega)];rfl
 ·rw[decide_eq_false (fun z=>h (this.mp z)),decide_eq_true (by omega)];rfl
theorem ok_isName {f:Addr}{fd:FuncData} (F:Fun K "is_name" "is_name" sIsName f fd) (T:Txt K mg):FnOk P w K mg base CX0 1 f fd ["thing"] (spIsName K):=by
 refine F.ok scN (fun vs H Q E h=>?_) (fun cdv A outer s H vs Q E hr h=>?_)
 ·obtain ⟨x,rfl,_⟩:=h
  rfl
 ·obtain ⟨x,rfl,hx⟩:=h
  obtain ⟨tl,hlong⟩:=T.longest
  refine ⟨_,pss_cons (ps_if (pw_or (pt_not (pt_val (pe_callB call_isinst (by rfl) T.isi (by kernel_rfl) (pa_cons (pv 0) (pa_cons (pe_bltn (v:=.ty "str") (by rfl) T.str (by kernel_rfl) rfl) pa_nil)))))
    (pw_or1 (pt_not (pt_chain op_le op_le pe_int (pe_callB call_len_str (by rfl) T.len PySem.boot_len (pa_cons (pv 0) pa_nil)) (pe_glob (v:=.int 8) (by rfl) hlong ⟨_,rfl⟩))))).pt (pss_one (ps_ret pe_bl)) pss_nil)
   (pss_one (ps_ret (pe_callB (call_all rfl) (by rfl) T.al (by kernel_rfl) (pa_cons (pe_comp (N:=["sign"]) (src:=[none]) (osc:=defScope sIsName) (oN:=["thing"]) ⟨by rfl,by decide,by decide,by decide,rfl,by rfl⟩ (pi_str (pv 0))
    fun cl s H fp pins C=>⟨pg_name (i:=0) (show (["sign"]:List Str).Nodup by decide) rfl (Or.inl rfl),pts_nil,pe_chain op_le_str op_le_str pe_str (pv 0) pe_str⟩) pa_nil)))),?_⟩
  rcases hx with ⟨z,rfl,hz,k⟩ | ⟨t,ty,e,k⟩
  ·refine ⟨_,rfl,_,"str",_,true,rfl,TyOf.str z,kitStr K,true,rfl,?_⟩
   refine iteF ?_
   refine ⟨_,rfl,z,rfl,sizeLine_big hz,_,_,rfl,rfl,_,rfl,?_⟩
   have bad:¬ (1≤z.length∧z.length≤8)→Q (.bl false) H:=fun h=>by
    have:=k H (Same.refl H)
    unfold nameB at this
    rw[decide_eq_false h] at this
    exact this
   refine ite2 (fun h1=>?_) (fun h1=>?_)
   ·have h1':=of_decide_eq_true h1
    refine ⟨_,_,rfl,rfl,_,rfl,?_⟩
    by_cases h8:(z.length:Int)≤8
    ·rw[decide_eq_true h8]
     refine iteF ?_
     refine ⟨_,rfl,z,rfl,?_⟩
     refine comp_str (fun i ys σ H'=>H'=H∧ys=((z.cps.toList.take i).map fun c=>V.bl (decide (97≤c∧c≤122)))∧σ.length=1) ⟨rfl,rfl,rfl⟩ (sizeLine_big hz) (fun i ys σ H' p=>by rw[p.2.1,List.length_map,List.length_take];omega) ?_ ?_
     ·rintro i c ys σ H' hc ⟨rfl,rfl,hσ⟩
      obtain ⟨o,rfl⟩:∃ o,σ=[o]:=by
       match σ,hσ with
       | [o],_=>exact ⟨o,rfl⟩
      dsimp only [gName]
      refine iteT ?_
      refine ⟨_,rfl,_,_,rfl,rfl,_,rfl,?_⟩
      have hend:∀ b:Bool,b=decide (97≤c∧c≤122)→(H'=H'∧(List.map (fun c=>V.bl (decide (97≤c∧c≤122))) (List.take i z.cps.toList)) ++ [V.bl b]=(z.cps.toList.take (i + 1)).map (fun c=>V.bl (decide (97≤c∧c≤122)))∧([o].set 0 (some (V.str ⟨#[c]⟩))).length=1):=fun b hb=>by
       refine ⟨rfl,?_,rfl⟩
       rw[List.take_add_one,List.map_append,hb]
       have:z.cps.toList[i]?=some c:=by simpa using hc
       rw[this]
       rfl
      have e1:(!decide ((⟨#[c]⟩:Str).cps.toList < ("a":Str).cps.toList))=decide (97≤c):=le_one 97 c
      have e2:(!decide (("z":Str).cps.toList < (⟨#[c]⟩:Str).cps.toList))=decide (c≤122):=le_one c 122
      rw[e1]
      refine ite2 (fun g1=>?_) (fun g1=>?_)
      ·have g1':=of_decide_eq_true g1
       refine ⟨_,_,rfl,rfl,?_⟩
       rw[e2]
       refine hend _ ?_
       rw[decide_eq_decide]
       omega
      ·have g1':¬ 97≤c:=fun z=>g1 (decide_eq_true z)
       refine hend false ?_
       rw[decide_eq_false (by omega)]
     ·rintro ys σ H' ⟨rfl,rfl,hσ⟩ D hD
      have etk:List.take z.cps.size z.cps.toList=z.cps.toList:=by rw[← Array.length_toList];exact List.take_length
      rw[etk]
      refine ⟨D,z.cps.toList.map fun c=>decide (97≤c∧c≤122),rfl,SqL.of (by rw[upd_same,List.map_map];rfl),?_⟩
      have:=k _ (Same.new (o:=.lst (List.map (fun c=>V.bl (decide (97≤c∧c≤122))) z.cps.toList)) hD)
      unfold nameB at this
      rw[decide_eq_true (by omega),Bool.true_and] at this
      rw[List.all_map]
      exact this
    ·rw[decide_eq_false h8]
     exact iteT (bad (by omega))
   ·have h1':¬ (1:Int)≤z.length:=fun z=>h1 (decide_eq_true z)
    refine ⟨false,rfl,?_⟩
    exact iteT (bad (by omega))
  ·refine ⟨_,rfl,_,"str",t,false,rfl,ty,e,false,rfl,?_⟩
   refine iteT ?_
   refine iteT ?_
   exact k
theorem fn_weak {f:Addr}{fd:FuncData}{k:Nat}{ps:List Str}{sp sp':Sp} (G:FnOk P w K mg base CX0 k f fd ps sp) (h:∀ vs H Q E,sp' vs H Q E→sp vs H Q E):FnOk P w K mg base CX0 k f fd ps sp':=
 ⟨fun vs H Q E z=>G.len vs H Q E (h vs H Q E z),fun A outer s H args us vs Q E hr e0 hb r z=>G.run A outer s H args us vs Q E hr e0 hb r (h vs H Q E z)⟩
theorem name_weak (vs:List V) (H:Hp) (Q:VK) (E:XK) (h:spName vs H Q E):spIsName K vs H Q E:=by
 obtain ⟨m,x,d,rfl,hx,k⟩:=h
 refine ⟨x,rfl,?_⟩
 have ty:=ty_of (K:=K) hx
 have kt:=kit_str (K:=K) d
 cases hx with
 | str z hz=>exact .inl ⟨z,rfl,by omega,k⟩
 | non=>exact .inr ⟨_,ty,kt,k H (Same.refl H)⟩
 | bl b=>exact .inr ⟨_,ty,kt,k H (Same.refl H)⟩
 | int i=>exact .inr ⟨_,ty,kt,k H (Same.refl H)⟩
 | lst _ _ _ _=>exact .inr ⟨_,ty,kt,k H (Same.refl H)⟩
 | tup _ _ _=>exact .inr ⟨_,ty,kt,k H (Same.refl H)⟩
 | dct _ _=>exact .inr ⟨_,ty,kt,k H (Same.refl H)⟩
theorem scNumb:FnScope ["thing"] ["thing"] (defScope sIsNumber):=⟨rfl,rfl,rfl,by decide,rfl,by decide,by decide⟩
theorem ok_numb {f:Addr}{fd:FuncData} (F:Fun K "is_number" "is_number" sIsNumber f fd) (T:Txt K mg):FnOk P w K mg base CX0 1 f fd ["thing"] spNumb:=by
 refine F.ok scNumb (fun vs H Q E h=>?_) (fun cdv A outer s H vs Q E hr h=>?_)
 ·obtain ⟨m,x,d,rfl,_⟩:=h
  rfl
 ·obtain ⟨m,x,d,rfl,hx,k⟩:=h
  refine ⟨_,pss_one (ps_ret (pe_and (pe_callB call_isinst (by rfl) T.isi (by kernel_rfl) (pa_c (pv 0) (pa_c (pe_bltn (v:=.ty "int") (by rfl) T.int (by kernel_rfl) rfl) pa_nil)))
   (pe_one (pe_not (pe_callB call_isinst (by rfl) T.isi (by kernel_rfl) (pa_c (pv 0) (pa_c (pe_bltn (v:=.ty "bool") (by rfl) T.bool (by kernel_rfl) rfl) pa_nil))))))),?_⟩
  refine ⟨_,rfl,_,"int",_,_,rfl,ty_of hx,kit_int d,_,rfl,?_⟩
  refine ite2 (fun g=>?_) (fun g=>?_)
  ·rw[g,Bool.true_and] at k
   exact ⟨_,rfl,_,"bool",_,_,rfl,ty_of hx,kit_bl d,_,rfl,k⟩
  ·have g':isInt d=false:=by simpa using g
   rw[g'] at k
   exact k
theorem scIsWhole:FnScope ["thing","least","most"] ["thing","least","most"] (defScope sIsWhole):=⟨rfl,rfl,rfl,by decide,rfl,by decide,by decide⟩
theorem ok_isWhole {f fN:Addr}{fd fdN:FuncData} (F:Fun K "is_whole" "is_whole" sIsWhole f fd) (GN:FnOk P w K mg base CX0 1 fN fdN ["thing"] spNumb) (mN:mg "is_number"=some (.ref fN)) (kN:W.keepIn K (.ref fN)=true) (bN:Binds K fdN ["thing"] []):FnOk P w K mg base CX0 2 f fd ["thing","least","most"] spWhole:=by
 refine F.ok scIsWhole (fun vs H Q E h=>?_) (fun cdv A outer s H vs Q E hr h=>?_)
 ·obtain ⟨m,x,d,lo,hi,rfl,_⟩:=h
  rfl
 ·obtain ⟨m,x,d,lo,hi,rfl,hx,k⟩:=h
  refine ⟨_,pss_one (ps_ret (pe_and (pe_call GN hr rfl mN kN bN .nil pass0 (pa_c (pv 0) pa_nil)) (pe_one (pe_chain op_le op_le (pv 1) (pv 0) (pv 2))))),?_⟩
  refine ⟨_,rfl,m,x,d,rfl,hx,_,rfl,?_⟩
  refine ite2 (fun g=>?_) (fun g=>?_)
  ·obtain ⟨i,rfl⟩:∃ i,d=.int i:=by
    cases d with
    | int i=>exact ⟨i,rfl⟩
    | _=>simp[isInt,isBl] at g
   cases hx
   refine ⟨_,rfl,_,rfl,_,_,rfl,rfl,?_⟩
   have k':Q (.bl (decide (lo≤i∧i≤hi))) H:=k
   refine ⟨_,rfl,?_⟩
   refine ite2 (fun g1=>?_) (fun g1=>?_)
   ·have g1':lo≤i:=of_decide_eq_true g1
    refine ⟨_,rfl,_,_,rfl,rfl,?_⟩
    show Q (.bl (decide (i≤hi))) H
    rw[decide_eq_decide.mpr (show i≤hi↔lo≤i∧i≤hi from ⟨fun z=>⟨g1',z⟩,fun z=>z.2⟩)]
    exact k'
   ·have g1':¬ lo≤i:=fun z=>g1 (decide_eq_true z)
    rw[decide_eq_false (fun z=>g1' z.1)] at k'
    exact k'
  ·have g':(isInt d && !isBl d)=false:=by simpa using g
   have e:wholeD lo hi d=false:=by
    cases d with
    | int i=>simp[isInt,isBl] at g'
    | _=>rfl
   rw[e] at k
   exact k
end
end K5
namespace K5
open PySem L2
inductive I_spInch (vs:List V) (H:Hp) (Q:VK) (u3_:XK):Prop
 | mk (m:Bool) (x:V) (d:PyData) (q0:vs=[x]) (q1:RdV m H x d) (q2:Q (.bl (wholeD 0 9999999 d)) H):I_spInch vs H Q u3_
def spInch:Sp:=fun vs H Q u3_=>I_spInch vs H Q u3_
section
variable {P:Program}{w:World}{K:W.Frag}{mg:Str→Option Value}{base:Heap}
theorem scPart:FnScope ["thing","land","house","acres"] ["thing"] (defScope sIsPart):=⟨rfl,rfl,rfl,by decide,rfl,by decide,by decide⟩
theorem rds1 {m:Bool}{H:Hp}{x1:V}{ds:List PyData} (h:RdVs m H [x1] ds):∃ d1,ds=[d1]∧RdV m H x1 d1:=by
 cases h with
 | cons r1 h=>
 cases h
 exact ⟨_,rfl,r1⟩
theorem rds2 {m:Bool}{H:Hp}{x1 x2:V}{ds:List PyData} (h:RdVs m H [x1,x2] ds):∃ d1 d2,ds=[d1,d2]∧RdV m H x1 d1∧RdV m H x2 d2:=by
 cases h with
 | cons r1 h=>
 cases h with
 | cons r2 h=>
 cases h
 exact ⟨_,_,rfl,r1,r2⟩
theorem rds3 {m:Bool}{H:Hp}{x1 x2 x3:V}{ds:List PyData} (h:RdVs m H [x1,x2,x3] ds):∃ d1 d2 d3,ds=[d1,d2,d3]∧RdV m H x1 d1∧RdV m H x2 d2∧RdV m H x3 d3:=by
 cases h with
 | cons r1 h=>
 cases h with
 | cons r2 h=>
 cases h with
 | cons r3 h=>
 cases h
 exact ⟨_,_,_,rfl,r1,r2,r3⟩
theorem rds4 {m:Bool}{H:Hp}{x1 x2 x3 x4:V}{ds:List PyData} (h:RdVs m H [x1,x2,x3,x4] ds):∃ d1 d2 d3 d4,ds=[d1,d2,d3,d4]∧RdV m H x1 d1∧RdV m H x2 d2∧RdV m H x3 d3∧RdV m H x4 d4:=by
 cases h with
 | cons r1 h=>
 cases h with
 | cons r2 h=>
 cases h with
 | cons r3 h=>
 cases h with
 | cons r4 h=>
 cases h
 exact ⟨_,_,_,_,rfl,r1,r2,r3,r4⟩
theorem ok_part {f fN fW:Addr}{fd fdN fdW:FuncData} (F:Fun K "is_part" "is_part" sIsPart f fd) (T:Txt K mg)
  (GN:FnOk P w K mg base CX0 1 fN fdN ["thing"] spName) (mN:mg "is_name"=some (.ref fN)) (kN:W.keepIn K (.ref fN)=true) (bN:Binds K fdN ["thing"] [])
  (GW:FnOk P w K mg base CX0 2 fW fdW ["thing","least","most"] spWhole) (mW:mg "is_whole"=some (.ref fW)) (kW:W.keepIn K (.ref fW)=true) (bW:Binds K fdW ["thing","least","most"] []):
  FnOk P w K mg base CX0 3 f fd ["thing"] spPart:=by
 refine F.ok scPart (fun vs H Q E h=>?_) (fun cdv A outer s H vs Q E hr h=>?_)
 ·obtain ⟨m,x,d,rfl,_⟩:=h
  rfl
 ·obtain ⟨m,x,d,rfl,hx,k⟩:=h
  have hr1:Room 1 _:=hr.mono (by decide)
  obtain ⟨ta,hacres⟩:=T.acres
  refine ⟨_,pss_cons (ps_if (PW.pt (pw_or (pt_not (pt_val (pe_callB call_isinst (by rfl) T.isi (by kernel_rfl) (pa_c (pv 0) (pa_c (pe_bltn (v:=.ty "tuple") (by rfl) T.tuple (by kernel_rfl) rfl) pa_nil)))))
    (pw_or1 (pt_cmpR op_ne (pe_callB call_len_seq (by rfl) T.len PySem.boot_len (pa_c (pv 0) pa_nil)) pe_int (nomark _))))) (pss_one (ps_ret pe_bl)) pss_nil)
   (pss_cons (ps_asg (pv 0) (pg_tup rfl (pgs_cons (pg_name (i:=1) scPart.nd rfl (Or.inl rfl)) (pgs_cons (pg_name (i:=2) scPart.nd rfl (Or.inl rfl)) (pgs_cons (pg_name (i:=3) scPart.nd rfl (Or.inl rfl)) pgs_nil)))))
   (pss_one (ps_ret (pe_and (pe_call GN hr1 rfl mN kN bN .nil pass0 (pa_c (pv 1) pa_nil)) (pe_and (pe_call GN hr1 rfl mN kN bN .nil pass0 (pa_c (pv 2) pa_nil)) (pe_one (pe_call GW hr rfl mW kW bW .nil pass0 (pa_c (pv 3) (pa_c pe_int (pa_c (pe_glob (v:=.int 10000000) (by rfl) hacres ⟨_,rfl⟩) pa_nil)))))))))),?_⟩
  refine ⟨_,rfl,_,"tuple",_,_,rfl,ty_of hx,kit_tup d,_,rfl,?_⟩
  cases hd:isTup d with
  | false=>
   have e:partD d=false:=by
    cases d with
    | tuple ds=>simp[isTup] at hd
    | _=>rfl
   rw[e] at k
   exact k H (Same.refl H)
  | true=>
   obtain ⟨ds,rfl⟩:∃ ds,d=.tuple ds:=by
    cases d with
    | tuple z=>exact ⟨z,rfl⟩
    | _=>simp[isTup] at hd
   cases hx with
   | @tup a xs _ e hl r=>
    have hlen:=r.len
    refine iteF ?_
    refine ⟨_,rfl,a,xs,rfl,.inr (SqT.of e),rfl,_,rfl,?_⟩
    by_cases h3:xs.length=3
    ·rw[decide_eq_true (show V.int (xs.length:Int)=V.int 3 by rw[h3];rfl)]
     refine iteF ?_
     obtain ⟨x1,x2,x3,rfl⟩:=len3 h3
     obtain ⟨d1,d2,d3,rfl,r1,r2,r3⟩:=rds3 r
     refine ⟨_,rfl,a,_,rfl,SqT.of e,rfl,_,_,rfl,_,_,rfl,_,_,rfl,rfl,?_⟩
     have k':∀ H',Same H H'→Q (.bl (nameD d1 && nameD d2 && wholeD 1 10000000 d3)) H':=k
     refine ⟨_,rfl,m,x1,d1,rfl,r1,fun H1 s1=>⟨_,rfl,?_⟩⟩
     have k1:=k' H1 s1
     refine ite2 (fun g=>?_) (fun g=>?_)
     ·refine ⟨_,rfl,m,x2,d2,rfl,r2.same s1,fun H2 s2=>⟨_,rfl,?_⟩⟩
      have k2:=k' H2 (s1.trans s2)
      rw[g,Bool.true_and] at k2
      refine ite2 (fun g2=>?_) (fun g2=>?_)
      ·rw[g2,Bool.true_and] at k2
       exact ⟨_,rfl,m,x3,d3,1,10000000,rfl,(r3.same s1).same s2,k2⟩
      ·rw[(by simpa using g2:nameD d2=false)] at k2
       exact k2
     ·rw[(by simpa using g:nameD d1=false)] at k1
      exact k1
    ·rw[decide_eq_false (show ¬ V.int (xs.length:Int)=V.int 3 from fun z=>h3 (by injection z with z;omega))]
     refine iteT ?_
     have e2:partD (.tuple ds)=false:=by
      match ds,(show ds.length≠3 by omega) with
      | [],_=>rfl
      | [_],_=>rfl
      | [_,_],_=>rfl
      | [_,_,_],z=>exact absurd rfl z
      | _ :: _ :: _ :: _ :: _,_=>rfl
     rw[e2] at k
     exact k H (Same.refl H)
theorem scInch:FnScope ["thing"] ["thing"] (defScope sIsInch):=⟨rfl,rfl,rfl,by decide,rfl,by decide,by decide⟩
theorem ok_inch {f fW:Addr}{fd fdW:FuncData} (F:Fun K "is_inch" "is_inch" sIsInch f fd) (T:Txt K mg)
  (GW:FnOk P w K mg base CX0 2 fW fdW ["thing","least","most"] spWhole) (mW:mg "is_whole"=some (.ref fW)) (kW:W.keepIn K (.ref fW)=true) (bW:Binds K fdW ["thing","least","most"] []):
  FnOk P w K mg base CX0 3 f fd ["thing"] spInch:=by
 refine F.ok scInch (fun vs H Q E h=>?_) (fun cdv A outer s H vs Q E hr h=>?_)
 ·obtain ⟨m,x,d,rfl,_⟩:=h
  rfl
 ·obtain ⟨m,x,d,rfl,hx,k⟩:=h
  obtain ⟨ti,hin⟩:=T.inches
  refine ⟨_,pss_one (ps_ret (pe_call GW hr rfl mW kW bW .nil pass0 (pa_c (pv 0) (pa_c pe_int (pa_c (pe_op op_sub (pe_glob (v:=.int 10000000) (by rfl) hin ⟨_,rfl⟩) pe_int) pa_nil))))),?_⟩
  exact ⟨_,rfl,_,_,rfl,rfl,m,x,d,0,9999999,rfl,hx,k⟩
end
end K5
namespace K5
open PySem L2
def namesD:PyData→Bool
 | .tuple ds=>ds.all nameD
 | _=>false
def partsD:PyData→Bool
 | .tuple ds=>ds.all partD
 | _=>false
inductive I_spAllN (vs:List V) (H:Hp) (Q:VK) (u3_:XK):Prop
 | mk (m:Bool) (x:V) (d:PyData) (q0:vs=[x]) (q1:RdV m H x d) (q2:∀ H',Same H H'→Q (.bl (namesD d)) H'):I_spAllN vs H Q u3_
def spAllN:Sp:=fun vs H Q u3_=>I_spAllN vs H Q u3_
inductive I_spAllP (vs:List V) (H:Hp) (Q:VK) (u3_:XK):Prop
 | mk (m:Bool) (x:V) (d:PyData) (q0:vs=[x]) (q1:RdV m H x d) (q2:∀ H',Same H H'→Q (.bl (partsD d)) H'):I_spAllP vs H Q u3_
def spAllP:Sp:=fun vs H Q u3_=>I_spAllP vs H Q u3_
section
variable {P:Program}{w:World}{K:W.Frag}{mg:Str→Option Value}{base:Heap}
theorem scAllN:FnScope ["thing"] ["thing"] (defScope sAllNames):=⟨rfl,rfl,rfl,by decide,rfl,by decide,by decide⟩
theorem ok_allN {f fN:Addr}{fd fdN:FuncData} (F:Fun K "all_names" "all_names" sAllNames f fd) (T:Txt K mg)
  (GN:FnOk P w K mg base CX0 1 fN fdN ["thing"] spName) (mN:mg "is_name"=some (.ref fN)) (kN:W.keepIn K (.ref fN)=true) (bN:Binds K fdN ["thing"] []):
  FnOk P w K mg base CX0 2 f fd ["thing"] spAllN:=by
 refine F.ok scAllN (fun vs H Q E h=>?_) (fun cdv A outer s H vs Q E hr h=>?_)
 ·obtain ⟨m,x,d,rfl,_⟩:=h
  rfl
 ·obtain ⟨m,x,d,rfl,hx,k⟩:=h
  refine ⟨_,pss_one (ps_ret (pe_and (pe_callB call_isinst (by rfl) T.isi (by kernel_rfl) (pa_c (pv 0) (pa_c (pe_bltn (v:=.ty "tuple") (by rfl) T.tuple (by kernel_rfl) rfl) pa_nil)))
   (pe_one (pe_callB (call_all rfl) (by rfl) T.al (by kernel_rfl) (pa_c (pe_comp (N:=["name"]) (src:=[none]) (osc:=defScope sAllNames) (oN:=["thing"]) ⟨by rfl,by decide,by decide,by decide,rfl,by rfl⟩ (pi_tup (pv 0))
     fun cl s H fp pins C=>⟨pg_name (i:=0) (show (["name"]:List Str).Nodup by decide) rfl (Or.inl rfl),pts_nil,pe_call GN hr rfl mN kN bN .nil pass0 (pa_c (pv 0) pa_nil)⟩) pa_nil))))),?_⟩
  refine ⟨_,rfl,_,"tuple",_,_,rfl,ty_of hx,kit_tup d,_,rfl,?_⟩
  cases hd:isTup d with
  | false=>
   have e:namesD d=false:=by
    cases d with
    | tuple ds=>simp[isTup] at hd
    | _=>rfl
   rw[e] at k
   exact k H (Same.refl H)
  | true=>
   obtain ⟨ds,rfl⟩:∃ ds,d=.tuple ds:=by
    cases d with
    | tuple z=>exact ⟨z,rfl⟩
    | _=>simp[isTup] at hd
   cases hx with
   | @tup a xs _ e hl r=>
    have hlen:=r.len
    have k':∀ H',Same H H'→Q (.bl (ds.all nameD)) H':=k
    refine iteT ?_
    refine ⟨_,rfl,a,rfl,⟨xs,SqT.of e⟩,?_⟩
    refine comp_tup (xs:=xs) (fun i ys σ H'=>Same H H'∧ys=((ds.take i).map fun d=>V.bl (nameD d))∧∃ o,σ=[o]) ⟨Same.refl H,rfl,none,rfl⟩ (sizeLine_big (by omega)) (fun i ys σ H' p=>by rw[p.2.1,List.length_map,List.length_take];omega) (fun i ys σ H' p=>SqT.of (p.1 _ _ e)) ?_ ?_
    ·rintro i y ys σ H' hy ⟨S,rfl,o,rfl⟩
     dsimp only [gName]
     obtain ⟨d',hd',r'⟩:=r.at hy
     refine iteT ?_
     refine ⟨_,rfl,m,y,d',rfl,r'.same S,fun H2 s2=>⟨S.trans s2,?_,_,rfl⟩⟩
     rw[List.take_add_one,hd',List.map_append]
     rfl
    ·rintro ys σ H1 ⟨S,rfl,o,rfl⟩ D hD
     have etk:List.take xs.length ds=ds:=List.take_of_length_le (by omega)
     rw[etk]
     have S1:=S.trans (Same.new (o:=.lst (ds.map fun d=>V.bl (nameD d))) hD)
     refine ⟨D,ds.map nameD,rfl,SqL.of (by rw[upd_same,List.map_map];rfl),?_⟩
     rw[List.all_map]
     exact k' _ S1
theorem scAllP:FnScope ["thing"] ["thing"] (defScope sAllParts):=⟨rfl,rfl,rfl,by decide,rfl,by decide,by decide⟩
theorem ok_allP {f fN:Addr}{fd fdN:FuncData} (F:Fun K "all_parts" "all_parts" sAllParts f fd) (T:Txt K mg)
  (GN:FnOk P w K mg base CX0 3 fN fdN ["thing"] spPart) (mN:mg "is_part"=some (.ref fN)) (kN:W.keepIn K (.ref fN)=true) (bN:Binds K fdN ["thing"] []):
  FnOk P w K mg base CX0 4 f fd ["thing"] spAllP:=by
 refine F.ok scAllP (fun vs H Q E h=>?_) (fun cdv A outer s H vs Q E hr h=>?_)
 ·obtain ⟨m,x,d,rfl,_⟩:=h
  rfl
 ·obtain ⟨m,x,d,rfl,hx,k⟩:=h
  refine ⟨_,pss_one (ps_ret (pe_and (pe_callB call_isinst (by rfl) T.isi (by kernel_rfl) (pa_c (pv 0) (pa_c (pe_bltn (v:=.ty "tuple") (by rfl) T.tuple (by kernel_rfl) rfl) pa_nil)))
   (pe_one (pe_callB (call_all rfl) (by rfl) T.al (by kernel_rfl) (pa_c (pe_comp (N:=["part"]) (src:=[none]) (osc:=defScope sAllParts) (oN:=["thing"]) ⟨by rfl,by decide,by decide,by decide,rfl,by rfl⟩ (pi_tup (pv 0))
     fun cl s H fp pins C=>⟨pg_name (i:=0) (show (["part"]:List Str).Nodup by decide) rfl (Or.inl rfl),pts_nil,pe_call GN hr rfl mN kN bN .nil pass0 (pa_c (pv 0) pa_nil)⟩) pa_nil))))),?_⟩
  refine ⟨_,rfl,_,"tuple",_,_,rfl,ty_of hx,kit_tup d,_,rfl,?_⟩
  cases hd:isTup d with
  | false=>
   have e:partsD d=false:=by
    cases d with
    | tuple ds=>simp[isTup] at hd
    | _=>rfl
   rw[e] at k
   exact k H (Same.refl H)
  | true=>
   obtain ⟨ds,rfl⟩:∃ ds,d=.tuple ds:=by
    cases d with
    | tuple z=>exact ⟨z,rfl⟩
    | _=>simp[isTup] at hd
   cases hx with
   | @tup a xs _ e hl r=>
    have hlen:=r.len
    have k':∀ H',Same H H'→Q (.bl (ds.all partD)) H':=k
    refine iteT ?_
    refine ⟨_,rfl,a,rfl,⟨xs,SqT.of e⟩,?_⟩
    refine comp_tup (xs:=xs) (fun i ys σ H'=>Same H H'∧ys=((ds.take i).map fun d=>V.bl (partD d))∧∃ o,σ=[o]) ⟨Same.refl H,rfl,none,rfl⟩ (sizeLine_big (by omega)) (fun i ys σ H' p=>by rw[p.2.1,List.length_map,List.length_take];omega) (fun i ys σ H' p=>SqT.of (p.1 _ _ e)) ?_ ?_
    ·rintro i y ys σ H' hy ⟨S,rfl,o,rfl⟩
     dsimp only [gName]
     obtain ⟨d',hd',r'⟩:=r.at hy
     refine iteT ?_
     refine ⟨_,rfl,m,y,d',rfl,r'.same S,fun H2 s2=>⟨S.trans s2,?_,_,rfl⟩⟩
     rw[List.take_add_one,hd',List.map_append]
     rfl
    ·rintro ys σ H1 ⟨S,rfl,o,rfl⟩ D hD
     have etk:List.take xs.length ds=ds:=List.take_of_length_le (by omega)
     rw[etk]
     have S1:=S.trans (Same.new (o:=.lst (ds.map fun d=>V.bl (partD d))) hD)
     refine ⟨D,ds.map partD,rfl,SqL.of (by rw[upd_same,List.map_map];rfl),?_⟩
     rw[List.all_map]
     exact k' _ S1
end
end K5
namespace K5
open PySem L2
inductive I_spFits (D:List PyData→Bool) (vs:List V) (H:Hp) (Q:VK) (u3_:XK):Prop
 | mk (m:Bool) (x:V) (ds:List PyData) (q0:vs=[x]) (q1:RdV m H x (.tuple ds)) (q2:∀ H',Same H H'→Q (.bl (D ds)) H'):I_spFits D vs H Q u3_
def spFits (D:List PyData→Bool):Sp:=fun vs H Q u3_=>I_spFits D vs H Q u3_
def fMeasure:List PyData→Bool
 | [d1,d2]=>nameD d1 && wholeD 0 10000000 d2
 | _=>false
theorem fMeasure_no {ds:List PyData} (h:ds.length≠2):fMeasure ds=false:=by
 match ds,h with
 | [],_=>rfl
 | [_],_=>rfl
 | [_,_],z=>exact absurd rfl z
 | _ :: _ :: _ :: _,_=>rfl
def fView:List PyData→Bool
 | [d1,d2,d3]=>nameD d1 && wholeD 0 9999999 d2 && nameD d3
 | _=>false
theorem fView_no {ds:List PyData} (h:ds.length≠3):fView ds=false:=by
 match ds,h with
 | [],_=>rfl
 | [_],_=>rfl
 | [_,_],_=>rfl
 | [_,_,_],z=>exact absurd rfl z
 | _ :: _ :: _ :: _ :: _,_=>rfl
def fAlone:List PyData→Bool
 | [d1]=>nameD d1
 | _=>false
theorem fAlone_no {ds:List PyData} (h:ds.length≠1):fAlone ds=false:=by
 match ds,h with
 | [],_=>rfl
 | [_],z=>exact absurd rfl z
 | _ :: _ :: _,_=>rfl
def fBreach:List PyData→Bool
 | [d1,d2,d3,d4]=>nameD d1 && wholeD 0 9999999 d2 && wholeD 0 1000000000 d3 && wholeD 0 1000000 d4
 | _=>false
theorem fBreach_no {ds:List PyData} (h:ds.length≠4):fBreach ds=false:=by
 match ds,h with
 | [],_=>rfl
 | [_],_=>rfl
 | [_,_],_=>rfl
 | [_,_,_],_=>rfl
 | [_,_,_,_],z=>exact absurd rfl z
 | _ :: _ :: _ :: _ :: _ :: _,_=>rfl
section
variable {P:Program}{w:World}{K:W.Frag}{mg:Str→Option Value}{base:Heap}
theorem scfMeasure:FnScope ["rest"] ["rest"] (defScope sFMeasure):=⟨rfl,rfl,rfl,by decide,rfl,by decide,by decide⟩
theorem ok_fMeasure {f fN fW:Addr}{fd fdN fdW:FuncData} (F:Fun K "fits_measure" "fits_measure" sFMeasure f fd) (T:Txt K mg)
  (GN:FnOk P w K mg base CX0 1 fN fdN ["thing"] spName) (mN:mg "is_name"=some (.ref fN)) (kN:W.keepIn K (.ref fN)=true) (bN:Binds K fdN ["thing"] [])
  (GW:FnOk P w K mg base CX0 2 fW fdW ["thing","least","most"] spWhole) (mW:mg "is_whole"=some (.ref fW)) (kW:W.keepIn K (.ref fW)=true) (bW:Binds K fdW ["thing","least","most"] []):
  FnOk P w K mg base CX0 6 f fd ["rest"] (spFits fMeasure):=by
 refine F.ok scfMeasure (fun vs H Q E h=>?_) (fun cdv A outer s H vs Q E hr h=>?_)
 ·obtain ⟨m,x,d,rfl,_⟩:=h
  rfl
 ·obtain ⟨m,x,ds,rfl,hx,k⟩:=h
  have hr1:Room 1 _:=hr.mono (by decide)
  have hr2:Room 2 _:=hr.mono (by decide)
  have hr3:Room 3 _:=hr.mono (by decide)
  obtain ⟨tinches,hinches⟩:=T.inches
  refine ⟨_,pss_one (ps_ret (pe_and (pe_cmpR op_eq (pe_callB call_len_seq (by rfl) T.len PySem.boot_len (pa_c (pv 0) pa_nil)) pe_int (nomark _)) (pe_and (pe_call GN hr1 rfl mN kN bN .nil pass0 (pa_c (pe_ix ix_tup (pv 0) pe_int (fun _ _=>rfl)) pa_nil)) (pe_one (pe_call GW hr2 rfl mW kW bW .nil pass0 (pa_c (pe_ix ix_tup (pv 0) pe_int (fun _ _=>rfl)) (pa_c pe_int (pa_c (pe_glob (v:=.int 10000000) (by rfl) hinches ⟨_,rfl⟩) pa_nil)))))))),?_⟩
  cases hx with
  | @tup a xs _ e hl r=>
   have hlen:=r.len
   refine ⟨_,rfl,a,xs,rfl,.inr (SqT.of e),rfl,_,rfl,?_⟩
   by_cases hn:xs.length=2
   ·rw[decide_eq_true (show V.int (xs.length:Int)=V.int 2 by rw[hn];rfl)]
    refine iteT ?_
    obtain ⟨x1,x2,rfl⟩:=len2 hn
    obtain ⟨d1,d2,rfl,r1,r2⟩:=rds2 r
    have k':∀ H',Same H H'→Q (.bl (nameD d1 && wholeD 0 10000000 d2)) H':=k
    have s0:=Same.refl H
    refine ⟨_,rfl,a,_,0,_,rfl,rfl,SqT.of (s0 _ _ e),rfl,m,x1,d1,rfl,(r1.same s0),fun H1 z1=>⟨_,rfl,?_⟩⟩
    have s1:=s0.trans z1
    cases g0:(nameD d1) with
    | false=>
     have q:=k' H1 s1
     rw[g0] at q
     simp only [Bool.false_and] at q
     refine iteF ?_
     exact q
    | true=>
     refine iteT ?_
     have q:=k' H1 s1
     rw[g0,Bool.true_and] at q
     exact ⟨_,rfl,a,_,1,_,rfl,rfl,SqT.of (s1 _ _ e),rfl,m,x2,d2,0,10000000,rfl,(r2.same s1),q⟩
   ·rw[decide_eq_false (show ¬ V.int (xs.length:Int)=V.int 2 from fun z=>hn (by injection z with z;omega))]
    refine iteF ?_
    rw[fMeasure_no (by omega)] at k
    exact k H (Same.refl H)
theorem scfView:FnScope ["rest"] ["rest"] (defScope sFView):=⟨rfl,rfl,rfl,by decide,rfl,by decide,by decide⟩
theorem ok_fView {f fN fI:Addr}{fd fdN fdI:FuncData} (F:Fun K "fits_view" "fits_view" sFView f fd) (T:Txt K mg)
  (GN:FnOk P w K mg base CX0 1 fN fdN ["thing"] spName) (mN:mg "is_name"=some (.ref fN)) (kN:W.keepIn K (.ref fN)=true) (bN:Binds K fdN ["thing"] [])
  (GI:FnOk P w K mg base CX0 3 fI fdI ["thing"] spInch) (mI:mg "is_inch"=some (.ref fI)) (kI:W.keepIn K (.ref fI)=true) (bI:Binds K fdI ["thing"] []):
  FnOk P w K mg base CX0 6 f fd ["rest"] (spFits fView):=by
 refine F.ok scfView (fun vs H Q E h=>?_) (fun cdv A outer s H vs Q E hr h=>?_)
 ·obtain ⟨m,x,d,rfl,_⟩:=h
  rfl
 ·obtain ⟨m,x,ds,rfl,hx,k⟩:=h
  have hr1:Room 1 _:=hr.mono (by decide)
  have hr2:Room 2 _:=hr.mono (by decide)
  have hr3:Room 3 _:=hr.mono (by decide)
  refine ⟨_,pss_one (ps_ret (pe_and (pe_cmpR op_eq (pe_callB call_len_seq (by rfl) T.len PySem.boot_len (pa_c (pv 0) pa_nil)) pe_int (nomark _)) (pe_and (pe_call GN hr1 rfl mN kN bN .nil pass0 (pa_c (pe_ix ix_tup (pv 0) pe_int (fun _ _=>rfl)) pa_nil)) (pe_and (pe_call GI hr3 rfl mI kI bI .nil pass0 (pa_c (pe_ix ix_tup (pv 0) pe_int (fun _ _=>rfl)) pa_nil)) (pe_one (pe_call GN hr1 rfl mN kN bN .nil pass0 (pa_c (pe_ix ix_tup (pv 0) pe_int (fun _ _=>rfl)) pa_nil))))))),?_⟩
  cases hx with
  | @tup a xs _ e hl r=>
   have hlen:=r.len
   refine ⟨_,rfl,a,xs,rfl,.inr (SqT.of e),rfl,_,rfl,?_⟩
   by_cases hn:xs.length=3
   ·rw[decide_eq_true (show V.int (xs.length:Int)=V.int 3 by rw[hn];rfl)]
    refine iteT ?_
    obtain ⟨x1,x2,x3,rfl⟩:=len3 hn
    obtain ⟨d1,d2,d3,rfl,r1,r2,r3⟩:=rds3 r
    have k':∀ H',Same H H'→Q (.bl (nameD d1 && wholeD 0 9999999 d2 && nameD d3)) H':=k
    have s0:=Same.refl H
    refine ⟨_,rfl,a,_,0,_,rfl,rfl,SqT.of (s0 _ _ e),rfl,m,x1,d1,rfl,(r1.same s0),fun H1 z1=>⟨_,rfl,?_⟩⟩
    have s1:=s0.trans z1
    cases g0:(nameD d1) with
    | false=>
     have q:=k' H1 s1
     rw[g0] at q
     simp only [Bool.false_and] at q
     refine iteF ?_
     exact q
    | true=>
     refine iteT ?_
     refine ⟨_,rfl,a,_,1,_,rfl,rfl,SqT.of (s1 _ _ e),rfl,m,x2,d2,rfl,(r2.same s1),_,rfl,?_⟩
     cases g1:(wholeD 0 9999999 d2) with
     | false=>
      have q:=k' H1 s1
      rw[g0,Bool.true_and,g1] at q
      simp only [Bool.false_and] at q
      refine iteF ?_
      exact q
     | true=>
      refine iteT ?_
      refine ⟨_,rfl,a,_,2,_,rfl,rfl,SqT.of (s1 _ _ e),rfl,m,x3,d3,rfl,(r3.same s1),fun H3 z3=>?_⟩
      have q:=k' H3 (s1.trans z3)
      rw[g0,Bool.true_and,g1,Bool.true_and] at q
      exact q
   ·rw[decide_eq_false (show ¬ V.int (xs.length:Int)=V.int 3 from fun z=>hn (by injection z with z;omega))]
    refine iteF ?_
    rw[fView_no (by omega)] at k
    exact k H (Same.refl H)
theorem scfAlone:FnScope ["rest"] ["rest"] (defScope sFAlone):=⟨rfl,rfl,rfl,by decide,rfl,by decide,by decide⟩
theorem ok_fAlone {f fN:Addr}{fd fdN:FuncData} (F:Fun K "fits_alone" "fits_alone" sFAlone f fd) (T:Txt K mg)
  (GN:FnOk P w K mg base CX0 1 fN fdN ["thing"] spName) (mN:mg "is_name"=some (.ref fN)) (kN:W.keepIn K (.ref fN)=true) (bN:Binds K fdN ["thing"] []):
  FnOk P w K mg base CX0 6 f fd ["rest"] (spFits fAlone):=by
 refine F.ok scfAlone (fun vs H Q E h=>?_) (fun cdv A outer s H vs Q E hr h=>?_)
 ·obtain ⟨m,x,d,rfl,_⟩:=h
  rfl
 ·obtain ⟨m,x,ds,rfl,hx,k⟩:=h
  have hr1:Room 1 _:=hr.mono (by decide)
  have hr2:Room 2 _:=hr.mono (by decide)
  have hr3:Room 3 _:=hr.mono (by decide)
  refine ⟨_,pss_one (ps_ret (pe_and (pe_cmpR op_eq (pe_callB call_len_seq (by rfl) T.len PySem.boot_len (pa_c (pv 0) pa_nil)) pe_int (nomark _)) (pe_one (pe_call GN hr1 rfl mN kN bN .nil pass0 (pa_c (pe_ix ix_tup (pv 0) pe_int (fun _ _=>rfl)) pa_nil))))),?_⟩
  cases hx with
  | @tup a xs _ e hl r=>
   have hlen:=r.len
   refine ⟨_,rfl,a,xs,rfl,.inr (SqT.of e),rfl,_,rfl,?_⟩
   by_cases hn:xs.length=1
   ·rw[decide_eq_true (show V.int (xs.length:Int)=V.int 1 by rw[hn];rfl)]
    refine iteT ?_
    obtain ⟨x1,rfl⟩:=len1 hn
    obtain ⟨d1,rfl,r1⟩:=rds1 r
    have k':∀ H',Same H H'→Q (.bl (nameD d1)) H':=k
    have s0:=Same.refl H
    refine ⟨_,rfl,a,_,0,_,rfl,rfl,SqT.of (s0 _ _ e),rfl,m,x1,d1,rfl,(r1.same s0),fun H1 z1=>?_⟩
    have q:=k' H1 (s0.trans z1)
    exact q
   ·rw[decide_eq_false (show ¬ V.int (xs.length:Int)=V.int 1 from fun z=>hn (by injection z with z;omega))]
    refine iteF ?_
    rw[fAlone_no (by omega)] at k
    exact k H (Same.refl H)
theorem scfBreach:FnScope ["rest"] ["rest"] (defScope sFBreach):=⟨rfl,rfl,rfl,by decide,rfl,by decide,by decide⟩
theorem ok_fBreach {f fN fW fI:Addr}{fd fdN fdW fdI:FuncData} (F:Fun K "fits_breach" "fits_breach" sFBreach f fd) (T:Txt K mg)
  (GN:FnOk P w K mg base CX0 1 fN fdN ["thing"] spName) (mN:mg "is_name"=some (.ref fN)) (kN:W.keepIn K (.ref fN)=true) (bN:Binds K fdN ["thing"] [])
  (GW:FnOk P w K mg base CX0 2 fW fdW ["thing","least","most"] spWhole) (mW:mg "is_whole"=some (.ref fW)) (kW:W.keepIn K (.ref fW)=true) (bW:Binds K fdW ["thing","least","most"] [])
  (GI:FnOk P w K mg base CX0 3 fI fdI ["thing"] spInch) (mI:mg "is_inch"=some (.ref fI)) (kI:W.keepIn K (.ref fI)=true) (bI:Binds K fdI ["thing"] []):
  FnOk P w K mg base CX0 6 f fd ["rest"] (spFits fBreach):=by
 refine F.ok scfBreach (fun vs H Q E h=>?_) (fun cdv A outer s H vs Q E hr h=>?_)
 ·obtain ⟨m,x,d,rfl,_⟩:=h
  rfl
 ·obtain ⟨m,x,ds,rfl,hx,k⟩:=h
  have hr1:Room 1 _:=hr.mono (by decide)
  have hr2:Room 2 _:=hr.mono (by decide)
  have hr3:Room 3 _:=hr.mono (by decide)
  obtain ⟨tpence,hpence⟩:=T.pence
  obtain ⟨tspades,hspades⟩:=T.spades
  refine ⟨_,pss_cons (ps_if (PW.pt (pw_or (pt_cmpR op_ne (pe_callB call_len_seq (by rfl) T.len PySem.boot_len (pa_c (pv 0) pa_nil)) pe_int (nomark _)) (pw_or (pt_not (pt_val (pe_call GN hr1 rfl mN kN bN .nil pass0 (pa_c (pe_ix ix_tup (pv 0) pe_int (fun _ _=>rfl)) pa_nil)))) (pw_or1 (pt_not (pt_val (pe_call GI hr3 rfl mI kI bI .nil pass0 (pa_c (pe_ix ix_tup (pv 0) pe_int (fun _ _=>rfl)) pa_nil)))))))) (pss_one (ps_ret pe_bl)) pss_nil) (pss_one (ps_ret (pe_and (pe_call GW hr2 rfl mW kW bW .nil pass0 (pa_c (pe_ix ix_tup (pv 0) pe_int (fun _ _=>rfl)) (pa_c pe_int (pa_c (pe_glob (v:=.int 1000000000) (by rfl) hpence ⟨_,rfl⟩) pa_nil)))) (pe_one (pe_call GW hr2 rfl mW kW bW .nil pass0 (pa_c (pe_ix ix_tup (pv 0) pe_int (fun _ _=>rfl)) (pa_c pe_int (pa_c (pe_glob (v:=.int 1000000) (by rfl) hspades ⟨_,rfl⟩) pa_nil)))))))),?_⟩
  cases hx with
  | @tup a xs _ e hl r=>
   have hlen:=r.len
   refine ⟨_,rfl,a,xs,rfl,.inr (SqT.of e),rfl,_,rfl,?_⟩
   by_cases hn:xs.length=4
   ·rw[decide_eq_true (show V.int (xs.length:Int)=V.int 4 by rw[hn];rfl)]
    refine iteF ?_
    obtain ⟨x1,x2,x3,x4,rfl⟩:=len4 hn
    obtain ⟨d1,d2,d3,d4,rfl,r1,r2,r3,r4⟩:=rds4 r
    have k':∀ H',Same H H'→Q (.bl (nameD d1 && wholeD 0 9999999 d2 && wholeD 0 1000000000 d3 && wholeD 0 1000000 d4)) H':=k
    have s0:=Same.refl H
    refine ⟨_,rfl,a,_,0,_,rfl,rfl,SqT.of (s0 _ _ e),rfl,m,x1,d1,rfl,(r1.same s0),fun H1 z1=>⟨_,rfl,?_⟩⟩
    have s1:=s0.trans z1
    cases g0:(nameD d1) with
    | false=>
     have q:=k' H1 s1
     rw[g0] at q
     simp only [Bool.false_and] at q
     refine iteT ?_
     exact q
    | true=>
     refine iteF ?_
     refine ⟨_,rfl,a,_,1,_,rfl,rfl,SqT.of (s1 _ _ e),rfl,m,x2,d2,rfl,(r2.same s1),_,rfl,?_⟩
     cases g1:(wholeD 0 9999999 d2) with
     | false=>
      have q:=k' H1 s1
      rw[g0,Bool.true_and,g1] at q
      simp only [Bool.false_and] at q
      refine iteT ?_
      exact q
     | true=>
      refine iteF ?_
      refine ⟨_,rfl,a,_,2,_,rfl,rfl,SqT.of (s1 _ _ e),rfl,m,x3,d3,0,1000000000,rfl,(r3.same s1),_,rfl,?_⟩
      cases g2:(wholeD 0 1000000000 d3) with
      | false=>
       have q:=k' H1 s1
       rw[g0,Bool.true_and,g1,Bool.true_and,g2] at q
       simp only [Bool.false_and] at q
       refine iteF ?_
       exact q
      | true=>
       refine iteT ?_
       have q:=k' H1 s1
       rw[g0,Bool.true_and,g1,Bool.true_and,g2,Bool.true_and] at q
       exact ⟨_,rfl,a,_,3,_,rfl,rfl,SqT.of (s1 _ _ e),rfl,m,x4,d4,0,1000000,rfl,(r4.same s1),q⟩
   ·rw[decide_eq_false (show ¬ V.int (xs.length:Int)=V.int 4 from fun z=>hn (by injection z with z;omega))]
    refine iteT ?_
    rw[fBreach_no (by omega)] at k
    exact k H (Same.refl H)
end
end K5
namespace K5
open PySem L2
def fForfeit (ds:List PyData):Bool:=decide (ds.length=2) && ds.all nameD
def fMend:List PyData→Bool
 | [.str a,.str b]=>nameB a && nameB b && !decide (a=b)
 | _=>false
theorem fMend_no {ds:List PyData} (h:¬ (ds.length=2∧ds.all nameD=true)):fMend ds=false:=by
 unfold fMend
 split
 ·rename_i a b
  have:¬ (nameB a=true∧nameB b=true):=fun z=>h ⟨rfl,by simp[nameD,z.1,z.2]⟩
  cases ha:nameB a <;> cases hb:nameB b <;> simp_all
 ·rfl
theorem names2 {ds:List PyData} (h:ds.length=2) (g:ds.all nameD=true):∃ a b,ds=[.str a,.str b]∧nameB a=true∧nameB b=true:=by
 match ds,h with
 | [d1,d2],_=>
  simp only [List.all_cons,List.all_nil,Bool.and_true,Bool.and_eq_true] at g
  obtain ⟨g1,g2⟩:=g
  obtain ⟨a,rfl,ha⟩:∃ a,d1=.str a∧nameB a=true:=by
   cases d1 with
   | str a=>exact ⟨a,rfl,g1⟩
   | _=>simp[nameD] at g1
  obtain ⟨b,rfl,hb⟩:∃ b,d2=.str b∧nameB b=true:=by
   cases d2 with
   | str a=>exact ⟨a,rfl,g2⟩
   | _=>simp[nameD] at g2
  exact ⟨a,b,rfl,ha,hb⟩
section
variable {P:Program}{w:World}{K:W.Frag}{mg:Str→Option Value}{base:Heap}
theorem scfForfeit:FnScope ["rest"] ["rest"] (defScope sFForfeit):=⟨rfl,rfl,rfl,by decide,rfl,by decide,by decide⟩
theorem ok_fForfeit {f fA:Addr}{fd fdA:FuncData} (F:Fun K "fits_forfeit" "fits_forfeit" sFForfeit f fd) (T:Txt K mg)
  (GA:FnOk P w K mg base CX0 2 fA fdA ["thing"] spAllN) (mA:mg "all_names"=some (.ref fA)) (kA:W.keepIn K (.ref fA)=true) (bA:Binds K fdA ["thing"] []):
  FnOk P w K mg base CX0 6 f fd ["rest"] (spFits fForfeit):=by
 refine F.ok scfForfeit (fun vs H Q E h=>?_) (fun cdv A outer s H vs Q E hr h=>?_)
 ·obtain ⟨m,x,d,rfl,_⟩:=h
  rfl
 ·obtain ⟨m,x,ds,rfl,hx,k⟩:=h
  have hr2:Room 2 _:=hr.mono (by decide)
  refine ⟨_,pss_one (ps_ret (pe_and (pe_cmpR op_eq (pe_callB call_len_seq (by rfl) T.len PySem.boot_len (pa_c (pv 0) pa_nil)) pe_int (nomark _)) (pe_one (pe_call GA hr2 rfl mA kA bA .nil pass0 (pa_c (pv 0) pa_nil))))),?_⟩
  have hx':=hx
  cases hx with
  | @tup a xs _ e hl r=>
   have hlen:=r.len
   refine ⟨_,rfl,a,xs,rfl,.inr (SqT.of e),rfl,_,rfl,?_⟩
   unfold fForfeit at k
   by_cases hn:xs.length=2
   ·rw[decide_eq_true (show V.int (xs.length:Int)=V.int 2 by rw[hn];rfl)]
    refine iteT ?_
    rw[decide_eq_true (show ds.length=2 by omega),Bool.true_and] at k
    exact ⟨_,rfl,m,_,_,rfl,hx',k⟩
   ·rw[decide_eq_false (show ¬ V.int (xs.length:Int)=V.int 2 from fun z=>hn (by injection z with z;omega))]
    refine iteF ?_
    rw[decide_eq_false (show ¬ ds.length=2 by omega)] at k
    exact k H (Same.refl H)
theorem scfMend:FnScope ["rest"] ["rest"] (defScope sFMend):=⟨rfl,rfl,rfl,by decide,rfl,by decide,by decide⟩
theorem ok_fMend {f fA:Addr}{fd fdA:FuncData} (F:Fun K "fits_mend" "fits_mend" sFMend f fd) (T:Txt K mg)
  (GA:FnOk P w K mg base CX0 2 fA fdA ["thing"] spAllN) (mA:mg "all_names"=some (.ref fA)) (kA:W.keepIn K (.ref fA)=true) (bA:Binds K fdA ["thing"] []):
  FnOk P w K mg base CX0 6 f fd ["rest"] (spFits fMend):=by
 refine F.ok scfMend (fun vs H Q E h=>?_) (fun cdv A outer s H vs Q E hr h=>?_)
 ·obtain ⟨m,x,d,rfl,_⟩:=h
  rfl
 ·obtain ⟨m,x,ds,rfl,hx,k⟩:=h
  have hr2:Room 2 _:=hr.mono (by decide)
  refine ⟨_,pss_one (ps_ret (pe_and (pe_cmpR op_eq (pe_callB call_len_seq (by rfl) T.len PySem.boot_len (pa_c (pv 0) pa_nil)) pe_int (nomark _)) (pe_and (pe_call GA hr2 rfl mA kA bA .nil pass0 (pa_c (pv 0) pa_nil)) (pe_one (pe_cmpR op_ne (pe_ix ix_tup (pv 0) pe_int (fun _ _=>rfl)) (pe_ix ix_tup (pv 0) pe_int (fun _ _=>rfl)) (nomark _)))))),?_⟩
  have hx':=hx
  cases hx with
  | @tup a xs _ e hl r=>
   have hlen:=r.len
   refine ⟨_,rfl,a,xs,rfl,.inr (SqT.of e),rfl,_,rfl,?_⟩
   by_cases hn:xs.length=2
   ·rw[decide_eq_true (show V.int (xs.length:Int)=V.int 2 by rw[hn];rfl)]
    refine iteT ?_
    refine ⟨_,rfl,m,_,_,rfl,hx',fun H1 s1=>⟨_,rfl,?_⟩⟩
    show if ds.all nameD=true then _ else _
    refine ite2 (fun g=>?_) (fun g=>?_)
    ·obtain ⟨z1,z2,rfl,h1,h2⟩:=names2 (by omega) g
     cases r with
     | cons r1 r=>
      cases r with
      | cons r2 r=>
       cases r
       cases r1
       cases r2
       refine ⟨_,rfl,a,_,0,_,rfl,rfl,SqT.of (s1 _ _ e),rfl,_,rfl,a,_,1,_,rfl,rfl,SqT.of (s1 _ _ e),rfl,rfl,?_⟩
       have q:=k H1 s1
       have ef:fMend [.str z1,.str z2]=!decide (V.str z1=V.str z2):=by
        show (nameB z1 && nameB z2 && !decide (z1=z2))=_
        rw[h1,h2]
        by_cases hz:z1=z2
        ·subst hz;simp
        ·rw[decide_eq_false hz,decide_eq_false (fun e=>hz (by injection e))];rfl
       rw[ef] at q
       exact q
    ·rw[fMend_no fun z=>g z.2] at k
     exact k H1 s1
   ·rw[decide_eq_false (show ¬ V.int (xs.length:Int)=V.int 2 from fun z=>hn (by injection z with z;omega))]
    refine iteF ?_
    rw[fMend_no fun z=>hn (by omega)] at k
    exact k H (Same.refl H)
end
end K5
namespace K5
open PySem L2
def risingB (ss:List Str):Bool:=decide (ss.Pairwise fun a b=>a.cps.toList < b.cps.toList)
def strD:PyData→Str | .str z=>z | _=>Str.ofString ""
def headS:PyData→Str
 | .tuple (.str z :: _)=>z
 | _=>Str.ofString ""
def arePD:PyData→Bool
 | .tuple ds=>ds.all partD && decide (2≤ds.length∧ds.length≤6) && risingB (ds.map headS)
 | _=>false
def areLD:PyData→Bool
 | .tuple ds=>ds.all nameD && decide (2≤ds.length∧ds.length≤6) && risingB (ds.map strD)
 | _=>false
inductive I_spRising (vs:List V) (H:Hp) (Q:VK) (u3_:XK):Prop
 | mk (a:Addr) (ss:List Str) (q0:vs=[.ref a]) (q1:(H a=some (.lst (ss.map V.str))∨H a=some (.tup (ss.map V.str)))) (q2:ss.length≤6) (q3:∀ H',Same H H'→Q (.bl (risingB ss)) H'):I_spRising vs H Q u3_
def spRising:Sp:=fun vs H Q u3_=>I_spRising vs H Q u3_
inductive I_spAreP (vs:List V) (H:Hp) (Q:VK) (u3_:XK):Prop
 | mk (m:Bool) (x:V) (d:PyData) (q0:vs=[x]) (q1:RdV m H x d) (q2:∀ H',Same H H'→Q (.bl (arePD d)) H'):I_spAreP vs H Q u3_
def spAreP:Sp:=fun vs H Q u3_=>I_spAreP vs H Q u3_
inductive I_spAreL (vs:List V) (H:Hp) (Q:VK) (u3_:XK):Prop
 | mk (m:Bool) (x:V) (d:PyData) (q0:vs=[x]) (q1:RdV m H x d) (q2:∀ H',Same H H'→Q (.bl (areLD d)) H'):I_spAreL vs H Q u3_
def spAreL:Sp:=fun vs H Q u3_=>I_spAreL vs H Q u3_
theorem names_read {m:Bool}{H:Hp}:∀ {xs:List V}{ds:List PyData},RdVs m H xs ds→ds.all nameD=true→xs=(ds.map strD).map V.str
 | _,_,.nil,_=>rfl
 | _,_,.cons (d:=d) r rs,h=>by
  rw[List.all_cons,Bool.and_eq_true] at h
  have ih:=names_read rs h.2
  cases d with
  | str z=>
   cases r
   rw[ih]
   rfl
  | _=>simp[nameD] at h
section
variable {P:Program}{w:World}{K:W.Frag}{mg:Str→Option Value}{base:Heap}
theorem scAreL:FnScope ["thing"] ["thing"] (defScope sAreLands):=⟨rfl,rfl,rfl,by decide,rfl,by decide,by decide⟩
theorem ok_areL {f fA fR:Addr}{fd fdA fdR:FuncData} (F:Fun K "are_lands" "are_lands" sAreLands f fd) (T:Txt K mg)
  (GA:FnOk P w K mg base CX0 2 fA fdA ["thing"] spAllN) (mA:mg "all_names"=some (.ref fA)) (kA:W.keepIn K (.ref fA)=true) (bA:Binds K fdA ["thing"] [])
  (GR:FnOk P w K mg base CX0 1 fR fdR ["things"] spRising) (mR:mg "is_rising"=some (.ref fR)) (kR:W.keepIn K (.ref fR)=true) (bR:Binds K fdR ["things"] []):
  FnOk P w K mg base CX0 5 f fd ["thing"] spAreL:=by
 refine F.ok scAreL (fun vs H Q E h=>?_) (fun cdv A outer s H vs Q E hr h=>?_)
 ·obtain ⟨m,x,d,rfl,_⟩:=h
  rfl
 ·obtain ⟨m,x,d,rfl,hx,k⟩:=h
  have hr1:Room 1 _:=hr.mono (by decide)
  have hr2:Room 2 _:=hr.mono (by decide)
  obtain ⟨tf,hfew⟩:=T.fewest
  obtain ⟨tm,hmost⟩:=T.most
  refine ⟨_,pss_one (ps_ret (pe_and (pe_call GA hr2 rfl mA kA bA .nil pass0 (pa_c (pv 0) pa_nil)) (pe_and (pe_chain op_le op_le (pe_glob (v:=.int 2) (by rfl) hfew ⟨_,rfl⟩) (pe_callB call_len_seq (by rfl) T.len PySem.boot_len (pa_c (pv 0) pa_nil)) (pe_glob (v:=.int 6) (by rfl) hmost ⟨_,rfl⟩)) (pe_one (pe_call GR hr1 rfl mR kR bR .nil pass0 (pa_c (pv 0) pa_nil)))))),?_⟩
  refine ⟨_,rfl,m,x,d,rfl,hx,fun H1 s1=>⟨_,rfl,?_⟩⟩
  refine ite2 (fun g=>?_) (fun g=>?_)
  ·obtain ⟨ds,rfl⟩:∃ ds,d=.tuple ds:=by
    cases d with
    | tuple z=>exact ⟨z,rfl⟩
    | _=>simp[namesD] at g
   have g':ds.all nameD=true:=g
   cases hx with
   | @tup a xs _ e hl r=>
    have hlen:=r.len
    have k':∀ H',Same H H'→Q (.bl (decide (2≤ds.length∧ds.length≤6) && risingB (ds.map strD))) H':=fun H' s'=>by
     have q:Q (.bl (ds.all nameD && decide (2≤ds.length∧ds.length≤6) && risingB (ds.map strD))) H':=k H' s'
     rw[g',Bool.true_and] at q
     exact q
    have bad:¬ (2≤ds.length∧ds.length≤6)→Q (.bl false) H1:=fun h=>by
     have q:=k' H1 s1
     rw[decide_eq_false h] at q
     exact q
    refine ⟨_,rfl,a,xs,rfl,.inr (SqT.of (s1 _ _ e)),_,_,rfl,rfl,_,rfl,?_⟩
    refine ite2 (fun g1=>?_) (fun g1=>?_)
    ·have g1':(2:Int)≤xs.length:=of_decide_eq_true g1
     refine ⟨_,_,rfl,rfl,_,rfl,?_⟩
     refine ite2 (fun g2=>?_) (fun g2=>?_)
     ·have g2':(xs.length:Int)≤6:=of_decide_eq_true g2
      refine ⟨_,rfl,a,ds.map strD,rfl,.inr ?_,by rw[List.length_map];omega,fun H2 s2=>?_⟩
      ·rw[← names_read r g']
       exact s1 _ _ e
      ·have q:=k' H2 (s1.trans s2)
       rw[decide_eq_true (by omega),Bool.true_and] at q
       exact q
     ·have g2':¬ (xs.length:Int)≤6:=fun z=>g2 (decide_eq_true z)
      exact bad (by omega)
    ·have g1':¬ (2:Int)≤xs.length:=fun z=>g1 (decide_eq_true z)
     refine ⟨_,rfl,?_⟩
     refine iteF ?_
     exact bad (by omega)
  ·have g':namesD d=false:=by simpa using g
   have e:areLD d=false:=by
    cases d with
    | tuple ds=>
     have z:ds.all nameD=false:=g'
     show (ds.all nameD && decide (2≤ds.length∧ds.length≤6) && risingB (ds.map strD))=false
     rw[z]
     rfl
    | _=>rfl
   rw[e] at k
   exact k H1 s1
theorem scAreP:FnScope ["thing"] ["thing"] (defScope sAreParts):=⟨rfl,rfl,rfl,by decide,rfl,by decide,by decide⟩
theorem part_head {m:Bool}{H:Hp}{x:V}{d:PyData} (r:RdV m H x d) (h:partD d=true):∃ a xs,x=.ref a∧H a=some (.tup xs)∧atI xs 0=some (V.str (headS d)):=by
 cases d with
 | tuple ds=>
  cases r with
  | @tup a xs _ e _ r=>
   cases r with
   | nil=>simp[partD] at h
   | @cons x1 d1 _ _ r1 rs=>
    have hn:nameD d1=true:=by
     unfold partD at h
     split at h
     ·rename_i e1
      cases e1
      simp only [Bool.and_eq_true] at h
      exact h.1.1
     ·cases h
    cases d1 with
    | str z=>
     cases r1
     refine ⟨a,_,rfl,e,?_⟩
     unfold atI ixN
     rw[if_pos (by decide),if_pos (by rw[List.length_cons];omega)]
     rfl
    | _=>simp[nameD] at hn
 | _=>simp[partD] at h
theorem ok_areP {f fA fR:Addr}{fd fdA fdR:FuncData} (F:Fun K "are_parts" "are_parts" sAreParts f fd) (T:Txt K mg)
  (GA:FnOk P w K mg base CX0 4 fA fdA ["thing"] spAllP) (mA:mg "all_parts"=some (.ref fA)) (kA:W.keepIn K (.ref fA)=true) (bA:Binds K fdA ["thing"] [])
  (GR:FnOk P w K mg base CX0 1 fR fdR ["things"] spRising) (mR:mg "is_rising"=some (.ref fR)) (kR:W.keepIn K (.ref fR)=true) (bR:Binds K fdR ["things"] []):
  FnOk P w K mg base CX0 5 f fd ["thing"] spAreP:=by
 refine F.ok scAreP (fun vs H Q E h=>?_) (fun cdv A outer s H vs Q E hr h=>?_)
 ·obtain ⟨m,x,d,rfl,_⟩:=h
  rfl
 ·obtain ⟨m,x,d,rfl,hx,k⟩:=h
  have hr1:Room 1 _:=hr.mono (by decide)
  obtain ⟨tf,hfew⟩:=T.fewest
  obtain ⟨tm,hmost⟩:=T.most
  refine ⟨_,pss_cons (ps_if (PW.pt (pw_or (pt_not (pt_val (pe_call GA hr rfl mA kA bA .nil pass0 (pa_c (pv 0) pa_nil)))) (pw_or1 (pt_not (pt_chain op_le op_le (pe_glob (v:=.int 2) (by rfl) hfew ⟨_,rfl⟩) (pe_callB call_len_seq (by rfl) T.len PySem.boot_len (pa_c (pv 0) pa_nil)) (pe_glob (v:=.int 6) (by rfl) hmost ⟨_,rfl⟩)))))) (pss_one (ps_ret pe_bl)) pss_nil)
   (pss_one (ps_ret (pe_call GR hr1 rfl mR kR bR .nil pass0 (pa_c (pe_comp (N:=["part"]) (src:=[none]) (osc:=defScope sAreParts) (oN:=["thing"]) ⟨by rfl,by decide,by decide,by decide,rfl,by rfl⟩ (pi_tup (pv 0))
     fun cl s H fp pins C=>⟨pg_name (i:=0) (show (["part"]:List Str).Nodup by decide) rfl (Or.inl rfl),pts_nil,pe_ix (r:=rIxT K) ix_tup (pv 0) pe_int (fun _ _=>rfl)⟩) pa_nil)))),?_⟩
  refine ⟨_,rfl,m,x,d,rfl,hx,fun H1 s1=>⟨_,rfl,?_⟩⟩
  cases g:partsD d with
  | false=>
   refine iteT ?_
   have e:arePD d=false:=by
    cases d with
    | tuple ds=>
     have z:ds.all partD=false:=g
     show (ds.all partD && decide (2≤ds.length∧ds.length≤6) && risingB (ds.map headS))=false
     rw[z]
     rfl
    | _=>rfl
   rw[e] at k
   exact k H1 s1
  | true=>
   refine iteF ?_
   obtain ⟨ds,rfl⟩:∃ ds,d=.tuple ds:=by
    cases d with
    | tuple z=>exact ⟨z,rfl⟩
    | _=>simp[partsD] at g
   have g':ds.all partD=true:=g
   cases hx with
   | @tup a xs _ e hl r=>
    have hlen:=r.len
    have k':∀ H',Same H H'→Q (.bl (decide (2≤ds.length∧ds.length≤6) && risingB (ds.map headS))) H':=fun H' s'=>by
     have q:Q (.bl (ds.all partD && decide (2≤ds.length∧ds.length≤6) && risingB (ds.map headS))) H':=k H' s'
     rw[g',Bool.true_and] at q
     exact q
    have bad:¬ (2≤ds.length∧ds.length≤6)→Q (.bl false) H1:=fun h=>by
     have q:=k' H1 s1
     rw[decide_eq_false h] at q
     exact q
    refine ⟨_,rfl,a,xs,rfl,.inr (SqT.of (s1 _ _ e)),_,_,rfl,rfl,_,rfl,?_⟩
    refine ite2 (fun g1=>?_) (fun g1=>?_)
    ·have g1':(2:Int)≤xs.length:=of_decide_eq_true g1
     refine ⟨_,_,rfl,rfl,_,rfl,?_⟩
     by_cases g2:(xs.length:Int)≤6
     ·rw[decide_eq_true g2]
      refine iteF ?_
      refine ⟨_,rfl,a,rfl,⟨xs,SqT.of (s1 _ _ e)⟩,?_⟩
      refine comp_tup (xs:=xs) (fun i ys σ H'=>Same H1 H'∧ys=((ds.take i).map fun d=>V.str (headS d))∧∃ o,σ=[o]) ⟨Same.refl H1,rfl,none,rfl⟩ (sizeLine_big (by omega)) (fun i ys σ H' p=>by rw[p.2.1,List.length_map,List.length_take];omega) (fun i ys σ H' p=>SqT.of (p.1 _ _ (s1 _ _ e))) ?_ ?_
      ·rintro i y ys σ H' hy ⟨S,rfl,o,rfl⟩
       dsimp only [gName]
       obtain ⟨d',hd',r'⟩:=r.at hy
       obtain ⟨b,zs,rfl,hb,hat⟩:=part_head ((r'.same s1).same S) (List.all_eq_true.mp g' d' (List.mem_of_getElem? hd'))
       refine iteT ?_
       refine ⟨_,rfl,b,zs,0,_,rfl,rfl,SqT.of hb,hat,S,?_,_,rfl⟩
       rw[List.take_add_one,hd',List.map_append]
       rfl
      ·rintro ys σ H2 ⟨S,rfl,o,rfl⟩ D hD
       have etk:List.take xs.length ds=ds:=List.take_of_length_le (by omega)
       rw[etk]
       have S1:=S.trans (Same.new (o:=.lst (ds.map fun d=>V.str (headS d))) hD)
       refine ⟨D,ds.map headS,rfl,.inl (by rw[upd_same,List.map_map];rfl),by rw[List.length_map];omega,fun H3 s3=>?_⟩
       have q:=k' H3 ((s1.trans S1).trans s3)
       rw[decide_eq_true (by omega),Bool.true_and] at q
       exact q
     ·rw[decide_eq_false g2]
      refine iteT ?_
      exact bad (by omega)
    ·have g1':¬ (2:Int)≤xs.length:=fun z=>g1 (decide_eq_true z)
     refine ⟨_,rfl,?_⟩
     refine iteT ?_
     exact bad (by omega)
end
end K5
namespace K5
open PySem L2
def fPart:List PyData→Bool
 | [d1,d2]=>nameD d1 && arePD d2
 | _=>false
def fJoin:List PyData→Bool
 | [d1,d2]=>areLD d1 && nameD d2
 | _=>false
theorem fPart_no {ds:List PyData} (h:ds.length≠2):fPart ds=false:=by
 match ds,h with
 | [],_=>rfl
 | [_],_=>rfl
 | [_,_],z=>exact absurd rfl z
 | _ :: _ :: _ :: _,_=>rfl
theorem fJoin_no {ds:List PyData} (h:ds.length≠2):fJoin ds=false:=by
 match ds,h with
 | [],_=>rfl
 | [_],_=>rfl
 | [_,_],z=>exact absurd rfl z
 | _ :: _ :: _ :: _,_=>rfl
section
variable {P:Program}{w:World}{K:W.Frag}{mg:Str→Option Value}{base:Heap}
theorem scfPart:FnScope ["rest"] ["rest"] (defScope sFPart):=⟨rfl,rfl,rfl,by decide,rfl,by decide,by decide⟩
theorem ok_fPart {f fN fA:Addr}{fd fdN fdA:FuncData} (F:Fun K "fits_part" "fits_part" sFPart f fd) (T:Txt K mg)
  (GN:FnOk P w K mg base CX0 1 fN fdN ["thing"] spName) (mN:mg "is_name"=some (.ref fN)) (kN:W.keepIn K (.ref fN)=true) (bN:Binds K fdN ["thing"] [])
  (GA:FnOk P w K mg base CX0 5 fA fdA ["thing"] spAreP) (mA:mg "are_parts"=some (.ref fA)) (kA:W.keepIn K (.ref fA)=true) (bA:Binds K fdA ["thing"] []):
  FnOk P w K mg base CX0 6 f fd ["rest"] (spFits fPart):=by
 refine F.ok scfPart (fun vs H Q E h=>?_) (fun cdv A outer s H vs Q E hr h=>?_)
 ·obtain ⟨m,x,d,rfl,_⟩:=h
  rfl
 ·obtain ⟨m,x,ds,rfl,hx,k⟩:=h
  have hr1:Room 1 _:=hr.mono (by decide)
  refine ⟨_,pss_one (ps_ret (pe_and (pe_cmpR op_eq (pe_callB call_len_seq (by rfl) T.len PySem.boot_len (pa_c (pv 0) pa_nil)) pe_int (nomark _)) (pe_and (pe_call GN hr1 rfl mN kN bN .nil pass0 (pa_c (pe_ix ix_tup (pv 0) pe_int (fun _ _=>rfl)) pa_nil)) (pe_one (pe_call GA hr rfl mA kA bA .nil pass0 (pa_c (pe_ix ix_tup (pv 0) pe_int (fun _ _=>rfl)) pa_nil)))))),?_⟩
  cases hx with
  | @tup a xs _ e hl r=>
   have hlen:=r.len
   refine ⟨_,rfl,a,xs,rfl,.inr (SqT.of e),rfl,_,rfl,?_⟩
   by_cases hn:xs.length=2
   ·rw[decide_eq_true (show V.int (xs.length:Int)=V.int 2 by rw[hn];rfl)]
    refine iteT ?_
    obtain ⟨x1,x2,rfl⟩:=len2 hn
    obtain ⟨d1,d2,rfl,r1,r2⟩:=rds2 r
    have k':∀ H',Same H H'→Q (.bl (nameD d1 && arePD d2)) H':=k
    refine ⟨_,rfl,a,_,0,_,rfl,rfl,SqT.of e,rfl,m,x1,d1,rfl,r1,fun H1 s1=>⟨_,rfl,?_⟩⟩
    refine ite2 (fun g=>?_) (fun g=>?_)
    ·refine ⟨_,rfl,a,_,1,_,rfl,rfl,SqT.of (s1 _ _ e),rfl,m,x2,d2,rfl,r2.same s1,fun H2 s2=>?_⟩
     have q:=k' H2 (s1.trans s2)
     rw[g,Bool.true_and] at q
     exact q
    ·have q:=k' H1 s1
     rw[(by simpa using g:nameD d1=false)] at q
     exact q
   ·rw[decide_eq_false (show ¬ V.int (xs.length:Int)=V.int 2 from fun z=>hn (by injection z with z;omega))]
    refine iteF ?_
    rw[fPart_no (by omega)] at k
    exact k H (Same.refl H)
theorem scfJoin:FnScope ["rest"] ["rest"] (defScope sFJoin):=⟨rfl,rfl,rfl,by decide,rfl,by decide,by decide⟩
theorem ok_fJoin {f fN fA:Addr}{fd fdN fdA:FuncData} (F:Fun K "fits_join" "fits_join" sFJoin f fd) (T:Txt K mg)
  (GN:FnOk P w K mg base CX0 1 fN fdN ["thing"] spName) (mN:mg "is_name"=some (.ref fN)) (kN:W.keepIn K (.ref fN)=true) (bN:Binds K fdN ["thing"] [])
  (GA:FnOk P w K mg base CX0 5 fA fdA ["thing"] spAreL) (mA:mg "are_lands"=some (.ref fA)) (kA:W.keepIn K (.ref fA)=true) (bA:Binds K fdA ["thing"] []):
  FnOk P w K mg base CX0 6 f fd ["rest"] (spFits fJoin):=by
 refine F.ok scfJoin (fun vs H Q E h=>?_) (fun cdv A outer s H vs Q E hr h=>?_)
 ·obtain ⟨m,x,d,rfl,_⟩:=h
  rfl
 ·obtain ⟨m,x,ds,rfl,hx,k⟩:=h
  have hr1:Room 1 _:=hr.mono (by decide)
  refine ⟨_,pss_one (ps_ret (pe_and (pe_cmpR op_eq (pe_callB call_len_seq (by rfl) T.len PySem.boot_len (pa_c (pv 0) pa_nil)) pe_int (nomark _)) (pe_and (pe_call GA hr rfl mA kA bA .nil pass0 (pa_c (pe_ix ix_tup (pv 0) pe_int (fun _ _=>rfl)) pa_nil)) (pe_one (pe_call GN hr1 rfl mN kN bN .nil pass0 (pa_c (pe_ix ix_tup (pv 0) pe_int (fun _ _=>rfl)) pa_nil)))))),?_⟩
  cases hx with
  | @tup a xs _ e hl r=>
   have hlen:=r.len
   refine ⟨_,rfl,a,xs,rfl,.inr (SqT.of e),rfl,_,rfl,?_⟩
   by_cases hn:xs.length=2
   ·rw[decide_eq_true (show V.int (xs.length:Int)=V.int 2 by rw[hn];rfl)]
    refine iteT ?_
    obtain ⟨x1,x2,rfl⟩:=len2 hn
    obtain ⟨d1,d2,rfl,r1,r2⟩:=rds2 r
    have k':∀ H',Same H H'→Q (.bl (areLD d1 && nameD d2)) H':=k
    refine ⟨_,rfl,a,_,0,_,rfl,rfl,SqT.of e,rfl,m,x1,d1,rfl,r1,fun H1 s1=>⟨_,rfl,?_⟩⟩
    refine ite2 (fun g=>?_) (fun g=>?_)
    ·refine ⟨_,rfl,a,_,1,_,rfl,rfl,SqT.of (s1 _ _ e),rfl,m,x2,d2,rfl,r2.same s1,fun H2 s2=>?_⟩
     have q:=k' H2 (s1.trans s2)
     rw[g,Bool.true_and] at q
     exact q
    ·have q:=k' H1 s1
     rw[(by simpa using g:areLD d1=false)] at q
     exact q
   ·rw[decide_eq_false (show ¬ V.int (xs.length:Int)=V.int 2 from fun z=>hn (by injection z with z;omega))]
    refine iteF ?_
    rw[fJoin_no (by omega)] at k
    exact k H (Same.refl H)
end
end K5
namespace K5
open PySem L2
def words8:List Str:=["part","join","forfeit","measure","mend","alone","breach","view"]
def fitD (kind:Str) (ds:List PyData):Bool:=
 if kind="part" then fPart ds else if kind="join" then fJoin ds else if kind="forfeit" then fForfeit ds else if kind="measure" then fMeasure ds else if kind="mend" then fMend ds else if kind="alone" then fAlone ds else if kind="breach" then fBreach ds else fView ds
def rowD:PyData→Bool
 | .tuple (.str kind :: name :: day :: rest)=>decide (kind∈words8) && (nameD name && (wholeD 0 9999 day && fitD kind rest))
 | _=>false
inductive I_spIsRow (vs:List V) (H:Hp) (Q:VK) (u3_:XK):Prop
 | mk (m:Bool) (x:V) (d:PyData) (q0:vs=[x]) (q1:RdV m H x d) (q2:∀ H',Same H H'→Q (.bl (rowD d)) H'):I_spIsRow vs H Q u3_
def spIsRow:Sp:=fun vs H Q u3_=>I_spIsRow vs H Q u3_
theorem rowD_short {ds:List PyData} (h:ds.length < 3):rowD (.tuple ds)=false:=by
 match ds,h with
 | [],_=>rfl
 | [d],_=>cases d <;> rfl
 | [d,_],_=>cases d <;> rfl
theorem rowD_kind {d1 d2 d3:PyData}{ds:List PyData} (h:isStr d1=false):rowD (.tuple (d1 :: d2 :: d3 :: ds))=false:=by
 cases d1 with
 | str z=>simp[isStr] at h
 | _=>rfl
section
variable {P:Program}{w:World}{K:W.Frag}{mg:Str→Option Value}{base:Heap}
theorem scIsRow:FnScope ["thing","kind","name","day","fits"] ["thing"] (defScope sIsRow):=⟨rfl,rfl,rfl,by decide,rfl,by decide,by decide⟩
theorem ok_isRow {f fN fW ra:Addr}{fd fdN fdW:FuncData}{rvs:List (Key×Value)}{kvs:List (Key×V)} (F:Fun K "is_row" "is_row" sIsRow f fd) (T:Txt K mg)
  (hdF:∀ h:Heap,K.In h→h.DictOf (mixKind P w) ra rvs) (rel:KV kvs rvs) (hz:(ra == sysModules)=false) (mF:mg "FORMS"=some (.ref ra))
  (hin:∀ kind:Str,(valV kvs (Sum.inr kind)).isSome=decide (kind∈words8))
  (hfn:∀ (kind:Str) (v:V),valV kvs (Sum.inr kind)=some v→∃ (a:Addr) (fd:FuncData),v=.ref a∧FnOk P w K mg base CX0 6 a fd ["rest"] (spFits (fitD kind))∧W.keepIn K (.ref a)=true∧Binds K fd ["rest"] [])
  (GN:FnOk P w K mg base CX0 1 fN fdN ["thing"] spName) (mN:mg "is_name"=some (.ref fN)) (kN:W.keepIn K (.ref fN)=true) (bN:Binds K fdN ["thing"] [])
  (GW:FnOk P w K mg base CX0 2 fW fdW ["thing","least","most"] spWhole) (mW:mg "is_whole"=some (.ref fW)) (kW:W.keepIn K (.ref fW)=true) (bW:Binds K fdW ["thing","least","most"] []):
  FnOk P w K mg base CX0 7 f fd ["thing"] spIsRow:=by
 refine F.ok scIsRow (fun vs H Q E h=>?_) (fun cdv A outer s H vs Q E hr h=>?_)
 ·obtain ⟨m,x,d,rfl,_⟩:=h
  rfl
 ·obtain ⟨m,x,d,rfl,hx,k⟩:=h
  have hr1:Room 1 _:=hr.mono (by decide)
  have hr2:Room 2 _:=hr.mono (by decide)
  obtain ⟨tl,hlast⟩:=T.lastDay
  refine ⟨_,pss_cons (ps_if (PW.pt (pw_or (pt_not (pt_val (pe_callB call_isinst (by rfl) T.isi (by kernel_rfl) (pa_c (pv 0) (pa_c (pe_bltn (v:=.ty "tuple") (by rfl) T.tuple (by kernel_rfl) rfl) pa_nil)))))
    (pw_or1 (pt_cmpR op_lt (pe_callB call_len_seq (by rfl) T.len PySem.boot_len (pa_c (pv 0) pa_nil)) pe_int (nomark _))))) (pss_one (ps_ret pe_bl)) pss_nil)
   (pss_cons (ps_asg (pe_slice sl_tupA (pv 0) po_none (po_some pe_int)) (pg_tup rfl (pgs_cons (pg_name (i:=1) scIsRow.nd rfl (Or.inl rfl)) (pgs_cons (pg_name (i:=2) scIsRow.nd rfl (Or.inl rfl)) (pgs_cons (pg_name (i:=3) scIsRow.nd rfl (Or.inl rfl)) pgs_nil)))))
   (pss_cons (ps_if (PW.pt (pw_or (pt_not (pt_val (pe_callB call_isinst (by rfl) T.isi (by kernel_rfl) (pa_c (pv 1) (pa_c (pe_bltn (v:=.ty "str") (by rfl) T.str (by kernel_rfl) rfl) pa_nil)))))
    (pw_or1 (pt_cmpR (op_notInK hdF rel hz) (pv 1) (pe_glob (v:=.ref ra) (by rfl) mF rfl) (by with_unfolding_all rfl))))) (pss_one (ps_ret pe_bl)) pss_nil)
   (pss_cons (ps_if (PW.pt (pw_or (pt_not (pt_val (pe_call GN hr1 rfl mN kN bN .nil pass0 (pa_c (pv 2) pa_nil)))) (pw_or1 (pt_not (pt_val (pe_call GW hr2 rfl mW kW bW .nil pass0 (pa_c (pv 3) (pa_c pe_int (pa_c (pe_glob (v:=.int 9999) (by rfl) hlast ⟨_,rfl⟩) pa_nil))))))))) (pss_one (ps_ret pe_bl)) pss_nil)
   (pss_cons (ps_set (i:=4) scIsRow.nd rfl (Or.inl rfl) (pe_kget hdF rel (by rfl) mF (pv 1) (fun _ _=>rfl)))
   (pss_one (ps_ret (pe_callV (k:=6) (ps:=["rest"]) (pv 4) hr (pa_c (pe_slice sl_tupA (pv 0) (po_some pe_int) po_none) pa_nil)))))))),?_⟩
  refine ⟨_,rfl,_,"tuple",_,_,rfl,ty_of hx,kit_tup d,_,rfl,?_⟩
  cases hd:isTup d with
  | false=>
   have e:rowD d=false:=by
    cases d with
    | tuple ds=>simp[isTup] at hd
    | _=>rfl
   rw[e] at k
   exact k H (Same.refl H)
  | true=>
   obtain ⟨ds,rfl⟩:∃ ds,d=.tuple ds:=by
    cases d with
    | tuple z=>exact ⟨z,rfl⟩
    | _=>simp[isTup] at hd
   cases hx with
   | @tup a xs _ e hl r=>
    have hlen:=r.len
    refine iteF ?_
    refine ⟨_,rfl,a,xs,rfl,.inr (SqT.of e),_,_,rfl,rfl,_,rfl,?_⟩
    by_cases hn:(xs.length:Int) < 3
    ·rw[decide_eq_true hn]
     refine iteT ?_
     rw[rowD_short (by omega)] at k
     exact k H (Same.refl H)
    ·rw[decide_eq_false hn]
     refine iteF ?_
     obtain ⟨x1,x2,x3,xs',rfl⟩:∃ x1 x2 x3 xs',xs=x1 :: x2 :: x3 :: xs':=by
      match xs,hn with
      | [],z=>exact absurd (by decide) z
      | [_],z=>exact absurd (show (1:Int) < 3 by decide) z
      | [_,_],z=>exact absurd (show (2:Int) < 3 by decide) z
      | a :: b :: c :: r,_=>exact ⟨a,b,c,r,rfl⟩
     cases r with
     | @cons _ d1 _ _ r1 r=>
     cases r with
     | @cons _ d2 _ _ r2 r=>
     cases r with
     | @cons _ d3 _ ds rr3 rr=>
     refine ⟨_,rfl,_,rfl,a,_,rfl,e,fun t H1 s1 ht=>?_⟩
     have ec:cutV (x1 :: x2 :: x3 :: xs') none (some 3)=[x1,x2,x3]:=cut_to (α:=Nat) (x1 :: x2 :: x3 :: xs') 3
     rw[ec] at ht
     refine ⟨t,_,rfl,SqT.of ht,rfl,_,_,rfl,_,_,rfl,_,_,rfl,rfl,?_⟩
     refine ⟨_,rfl,_,"str",_,_,rfl,ty_of (r1.same s1),kit_str d1,_,rfl,?_⟩
     cases hk:isStr d1 with
     | false=>
      rw[rowD_kind hk] at k
      exact k H1 s1
     | true=>
      obtain ⟨kind,rfl⟩:∃ z,d1=.str z:=by
       cases d1 with
       | str z=>exact ⟨z,rfl⟩
       | _=>simp[isStr] at hk
      cases r1
      refine iteF ?_
      refine ⟨_,rfl,Sum.inr kind,rfl,rfl,_,rfl,?_⟩
      rw[hin kind]
      have k':∀ H',Same H H'→Q (.bl (decide (kind∈words8) && (nameD d2 && (wholeD 0 9999 d3 && fitD kind ds)))) H':=k
      by_cases hw:kind∈words8
      ·rw[decide_eq_true hw]
       refine iteF ?_
       rw[decide_eq_true hw,Bool.true_and] at k'
       refine ⟨_,rfl,m,x2,d2,rfl,r2.same s1,fun H2 s2=>⟨_,rfl,?_⟩⟩
       have s12:=s1.trans s2
       cases g:nameD d2 with
       | false=>
        refine iteT ?_
        have q:=k' H2 s12
        rw[g] at q
        exact q
       | true=>
        refine iteF ?_
        refine ⟨_,rfl,m,x3,d3,0,9999,rfl,rr3.same s12,_,rfl,?_⟩
        cases g2:wholeD 0 9999 d3 with
        | false=>
         refine iteT ?_
         have q:=k' H2 s12
         rw[g,g2] at q
         exact q
        | true=>
         refine iteF ?_
         have hs:=hin kind
         rw[decide_eq_true hw] at hs
         obtain ⟨v,hv⟩:=Option.isSome_iff_exists.mp hs
         obtain ⟨fa,fda,rfl,FG,fk,fb⟩:=hfn kind v hv
         refine ⟨_,rfl,Sum.inr kind,_,rfl,hv,?_⟩
         refine ⟨_,rfl,fa,spFits (fitD kind),rfl,⟨fda,FG,fk,fb⟩,?_⟩
         refine ⟨_,rfl,_,rfl,a,_,rfl,s12 _ _ e,fun t2 H3 s3 ht2=>?_⟩
         have ed:cutV (V.str kind :: x2 :: x3 :: xs') (some 3) none=xs':=cut_from (α:=Nat) (V.str kind :: x2 :: x3 :: xs') 3
         rw[ed] at ht2
         refine ⟨m,_,ds,rfl,.tup ht2 (by simp only [List.length_cons] at hl;omega) ((rr.same s12).same s3),fun H4 s4=>?_⟩
         have q:=k' H4 ((s12.trans s3).trans s4)
         rw[g,g2,Bool.true_and,Bool.true_and] at q
         exact q
      ·rw[decide_eq_false hw]
       refine iteT ?_
       have q:=k' H1 s1
       rw[decide_eq_false hw] at q
       exact q
end
end K5
namespace K5
open PySem L2
inductive I_spFieldOf (vs:List V) (H:Hp) (Q:VK) (u3_:XK):Prop
 | mk (t:Addr) (word:Str) (x1 x2 x3:V) (rest:List V) (q0:vs=[.ref t]) (q1:H t=some (.tup (.str word :: x1 :: x2 :: x3 :: rest))) (q2:∀ H',Same H H'→Q (if inV (.str word) [V.str "measure",.str "breach",.str "view"]=true then x3 else .non) H'):I_spFieldOf vs H Q u3_
def spFieldOf:Sp:=fun vs H Q u3_=>I_spFieldOf vs H Q u3_
section
variable {P:Program}{w:World}{K:W.Frag}{mg:Str→Option Value}{base:Heap}
theorem scFieldOf:FnScope ["row"] ["row"] (defScope sFieldOf):=⟨rfl,rfl,rfl,by decide,rfl,by decide,by decide⟩
theorem ok_fieldOf {f:Addr}{fd:FuncData} (F:Fun K "field_of" "field_of" sFieldOf f fd):FnOk P w K mg base CX0 1 f fd ["row"] spFieldOf:=by
 refine F.ok scFieldOf (fun vs H Q E h=>?_) (fun cdv A outer s H vs Q E hr h=>?_)
 ·obtain ⟨t,word,x1,x2,x3,rest,rfl,_⟩:=h
  rfl
 ·obtain ⟨t,word,x1,x2,x3,rest,rfl,ht,k⟩:=h
  refine ⟨_,pss_cons (ps_if (pt_cmpR op_in_seq (pe_ix ix_tup (pv 0) pe_int (fun _ _=>rfl)) (pe_tup (pa_c pe_str (pa_c pe_str (pa_c pe_str pa_nil)))) (by with_unfolding_all rfl)) (pss_one (ps_ret (pe_ix ix_tup (pv 0) pe_int (fun _ _=>rfl)))) pss_nil)
   (pss_one (ps_ret pe_non)),?_⟩
  have hl:(V.str word :: x1 :: x2 :: x3 :: rest).length=rest.length + 4:=rfl
  have a0:atI (V.str word :: x1 :: x2 :: x3 :: rest) 0=some (.str word):=atI_nat (j:=0) rfl
  have a3:atI (V.str word :: x1 :: x2 :: x3 :: rest) 3=some x3:=atI_nat (j:=3) rfl
  refine ⟨_,rfl,t,_,0,_,rfl,rfl,SqT.of ht,a0,sizeLine_big (by show 3≤1000000;decide),fun q hq=>?_⟩
  have sq:=Same.new (o:=.tup [V.str "measure",.str "breach",.str "view"]) hq
  refine ⟨q,_,rfl,.inr (SqT.of upd_same),rfl,rfl,_,rfl,?_⟩
  have k1:=k _ sq
  rw[if_neg Bool.false_ne_true]
  refine ite2 (fun g=>?_) (fun g=>?_)
  ·rw[if_pos g] at k1
   exact ⟨_,rfl,t,_,3,_,rfl,rfl,SqT.of (sq _ _ ht),a3,k1⟩
  ·rw[if_neg g] at k1
   exact k1
end
end K5
namespace K5
open PySem L2
def isLst:PyData→Bool | .list _=>true | _=>false
def isSeq:PyData→Bool | .list _=>true | .tuple _=>true | _=>false
theorem kit_lst {K:W.Frag} (d:PyData):PySem.W.kitOne K (.type (tyN d)) (.type "list")=some (isLst d):=by
 cases d <;> dsimp only [tyN,isLst] <;> first | exact kit_same | exact kit_of (by decide) (by decide) (by decide)
theorem kit_seq {K:W.Frag} (d:PyData):PySem.W.kitAny K (.type (tyN d)) [.type "list",.type "tuple"]=some (isSeq d):=by
 simp only [PySem.W.kitAny,kit_lst,kit_tup]
 cases d <;> rfl
def tupD:Nat→PyData→PyData
 | 0,d=>d
 | n + 1,.list ds=>.tuple (ds.map (tupD n))
 | n + 1,.tuple ds=>.tuple (ds.map (tupD n))
 | _ + 1,d=>d
inductive I_spAs (n:Nat) (vs:List V) (H:Hp) (Q:VK) (u3_:XK):Prop
 | mk (m:Bool) (x:V) (d:PyData) (q0:vs=[x,.int n]) (q1:RdV m H x d) (q2:∀ y H',Same H H'→RdV m H' y (tupD n d)→Q y H'):I_spAs n vs H Q u3_
def spAs (n:Nat):Sp:=fun vs H Q u3_=>I_spAs n vs H Q u3_
section
variable {P:Program}{w:World}{K:W.Frag}{mg:Str→Option Value}{base:Heap}
theorem fn_never {f:Addr}{fd:FuncData}{k:Nat}{ps:List Str}:FnOk P w K mg base CX0 k f fd ps (fun _ _ _ _=>False):=by
 constructor
 ·intro _ _ _ _ h;exact h.elim
 ·intros;contradiction
theorem scAs:FnScope ["thing","deep"] ["thing","deep"] (defScope sAsTup):=⟨rfl,rfl,rfl,by decide,rfl,by decide,by decide⟩
theorem ok_as0 {f:Addr}{fd:FuncData} (F:Fun K "as_tuples" "as_tuples" sAsTup f fd) (T:Txt K mg) (hlist:mg "list"=none) (mA:mg "as_tuples"=some (.ref f)) (kA:W.keepIn K (.ref f)=true) (bA:Binds K fd ["thing","deep"] []):
  FnOk P w K mg base CX0 1 f fd ["thing","deep"] (spAs 0):=by
 refine F.ok scAs (fun vs H Q E h=>?_) (fun cdv A outer s H vs Q E hr h=>?_)
 ·obtain ⟨m,x,d,rfl,_⟩:=h
  rfl
 ·obtain ⟨m,x,d,rfl,hx,k⟩:=h
  have G:FnOk P w K mg base CX0 0 f fd ["thing","deep"] (fun _ _ _ _=>False):=fn_never
  refine ⟨_,pss_cons (ps_if (PW.pt (pw_or (pt_cmpR op_eq (pv 1) pe_int (nomark _)) (pw_or1 (pt_not (pt_val (pe_callB call_isinstT (by rfl) T.isi (by kernel_rfl) (pa_c (pv 0) (pa_c (pe_tup (pa_c (pe_bltn (v:=.ty "list") (by rfl) hlist (by kernel_rfl) rfl) (pa_c (pe_bltn (v:=.ty "tuple") (by rfl) T.tuple (by kernel_rfl) rfl) pa_nil))) pa_nil)))))))) (pss_one (ps_ret (pv 0))) pss_nil)
   (pss_one (ps_ret (pe_callTy call_tuple_of (by rfl) T.tuple (by kernel_rfl) (pa_c (pe_comp (N:=["inner","deep"]) (src:=[none,some 1]) (osc:=defScope sAsTup) (oN:=["thing","deep"]) ⟨by rfl,by decide,by decide,by decide,rfl,by rfl⟩ (pi_tup (pv 0))
     fun cl s H fp pins C=>⟨pg_name (i:=0) (show (["inner","deep"]:List Str).Nodup by decide) rfl (Or.inl rfl),pts_nil,pe_call G hr rfl mA kA bA .nil pass0 (pa_c (pv 0) (pa_c (pe_op op_sub (pv 1) pe_int) pa_nil))⟩) pa_nil)))),?_⟩
  refine ⟨_,rfl,rfl,_,rfl,?_⟩
  rw[decide_eq_true (show V.int ((0:Nat):Int)=V.int 0 from rfl)]
  refine iteT ?_
  exact ⟨_,rfl,k _ _ (Same.refl H) hx⟩
theorem ok_asS {f:Addr}{fd:FuncData} (F:Fun K "as_tuples" "as_tuples" sAsTup f fd) (T:Txt K mg) (hlist:mg "list"=none) (mA:mg "as_tuples"=some (.ref f)) (kA:W.keepIn K (.ref f)=true) (bA:Binds K fd ["thing","deep"] []) {n:Nat}
  (G:FnOk P w K mg base CX0 (n + 1) f fd ["thing","deep"] (spAs n)):FnOk P w K mg base CX0 (n + 2) f fd ["thing","deep"] (spAs (n + 1)):=by
 refine F.ok scAs (fun vs H Q E h=>?_) (fun cdv A outer s H vs Q E hr h=>?_)
 ·obtain ⟨m,x,d,rfl,_⟩:=h
  rfl
 ·obtain ⟨m,x,d,rfl,hx,k⟩:=h
  by_cases hs:isSeq d=true
  ·cases d with
   | list ds=>
    cases hx with
    | @lst a xs _ hm e hl r=>
     have hlen:=r.len
     refine ⟨_,pss_cons (ps_if (PW.pt (pw_or (pt_cmpR op_eq (pv 1) pe_int (nomark _)) (pw_or1 (pt_not (pt_val (pe_callB call_isinstT (by rfl) T.isi (by kernel_rfl) (pa_c (pv 0) (pa_c (pe_tup (pa_c (pe_bltn (v:=.ty "list") (by rfl) hlist (by kernel_rfl) rfl) (pa_c (pe_bltn (v:=.ty "tuple") (by rfl) T.tuple (by kernel_rfl) rfl) pa_nil))) pa_nil)))))))) (pss_one (ps_ret (pv 0))) pss_nil)
    (pss_one (ps_ret (pe_callTy call_tuple_of (by rfl) T.tuple (by kernel_rfl) (pa_c (pe_comp (N:=["inner","deep"]) (src:=[none,some 1]) (osc:=defScope sAsTup) (oN:=["thing","deep"]) ⟨by rfl,by decide,by decide,by decide,rfl,by rfl⟩ (pi_list (pv 0))
      fun cl s H fp pins C=>⟨pg_name (i:=0) (show (["inner","deep"]:List Str).Nodup by decide) rfl (Or.inl rfl),pts_nil,pe_call G hr rfl mA kA bA .nil pass0 (pa_c (pv 0) (pa_c (pe_op op_sub (pv 1) pe_int) pa_nil))⟩) pa_nil)))),?_⟩
     refine ⟨_,rfl,rfl,_,rfl,?_⟩
     rw[decide_eq_false (show ¬ V.int ((n + 1:Nat):Int)=V.int 0 from fun z=>by injection z with z;omega)]
     refine iteF ?_
     refine ⟨_,rfl,sizeLine_big (by show 2≤1000000;decide),fun q hq=>?_⟩
     have sq:=Same.new (o:=.tup [V.ty "list",.ty "tuple"]) hq
     refine ⟨_,q,"list","tuple",_,_,rfl,upd_same,TyOf.lst (sq _ _ e),kit_seq (.list ds),_,rfl,?_⟩
     refine iteF ?_
     generalize upd H q (.tup [V.ty "list",.ty "tuple"])=H1 at sq ⊢
     refine ⟨_,rfl,a,rfl,⟨xs,SqL.of (sq _ _ e)⟩,?_⟩
     refine comp_list (xs:=xs) (fun i ys σ H'=>Same H H'∧RdVs m H' ys ((ds.take i).map (tupD n))∧∃ o,σ=[o,some (.int ((n + 1:Nat):Int))]) ⟨sq,by rw[List.take_zero];exact .nil,none,rfl⟩ (sizeLine_big (by omega)) (fun i ys σ H' p=>by have:=p.2.1.len;rw[List.length_map,List.length_take] at this;omega) (fun i ys σ H' p=>SqL.of (p.1 _ _ e)) ?_ ?_
     ·rintro i y ys σ H' hy ⟨S,rd,o,rfl⟩
      dsimp only [gName]
      obtain ⟨d',hd',r'⟩:=r.at hy
      refine iteT ?_
      refine ⟨_,rfl,_,rfl,_,_,rfl,rfl,m,y,d',(by show [y,V.int (((n + 1:Nat):Int) - 1)] ++ []=_;rw[show (((n + 1:Nat):Int) - 1)=(n:Int) by omega];rfl),r'.same S,fun y2 H2 s2 r2=>⟨S.trans s2,?_,_,rfl⟩⟩
      rw[List.take_add_one,hd',List.map_append]
      exact RdVs.app (rd.same s2) (.cons r2 .nil)
     ·rintro ys σ H2 ⟨S,rd,o,rfl⟩ D hD
      have etk:List.take xs.length ds=ds:=List.take_of_length_le (by omega)
      rw[etk] at rd
      have sD:=Same.new (o:=.lst ys) hD
      refine ⟨D,ys,rfl,.inl ⟨SqL.of upd_same,fun t ht=>?_⟩⟩
      have sT:=Same.new (o:=.tup ys) ht
      have hyl:=rd.len
      rw[List.length_map] at hyl
      exact k _ _ ((S.trans sD).trans sT) (.tup upd_same (by omega) ((rd.same sD).same sT))
   | tuple ds=>
    cases hx with
    | @tup a xs _ e hl r=>
     have hlen:=r.len
     refine ⟨_,pss_cons (ps_if (PW.pt (pw_or (pt_cmpR op_eq (pv 1) pe_int (nomark _)) (pw_or1 (pt_not (pt_val (pe_callB call_isinstT (by rfl) T.isi (by kernel_rfl) (pa_c (pv 0) (pa_c (pe_tup (pa_c (pe_bltn (v:=.ty "list") (by rfl) hlist (by kernel_rfl) rfl) (pa_c (pe_bltn (v:=.ty "tuple") (by rfl) T.tuple (by kernel_rfl) rfl) pa_nil))) pa_nil)))))))) (pss_one (ps_ret (pv 0))) pss_nil)
    (pss_one (ps_ret (pe_callTy call_tuple_of (by rfl) T.tuple (by kernel_rfl) (pa_c (pe_comp (N:=["inner","deep"]) (src:=[none,some 1]) (osc:=defScope sAsTup) (oN:=["thing","deep"]) ⟨by rfl,by decide,by decide,by decide,rfl,by rfl⟩ (pi_tup (pv 0))
      fun cl s H fp pins C=>⟨pg_name (i:=0) (show (["inner","deep"]:List Str).Nodup by decide) rfl (Or.inl rfl),pts_nil,pe_call G hr rfl mA kA bA .nil pass0 (pa_c (pv 0) (pa_c (pe_op op_sub (pv 1) pe_int) pa_nil))⟩) pa_nil)))),?_⟩
     refine ⟨_,rfl,rfl,_,rfl,?_⟩
     rw[decide_eq_false (show ¬ V.int ((n + 1:Nat):Int)=V.int 0 from fun z=>by injection z with z;omega)]
     refine iteF ?_
     refine ⟨_,rfl,sizeLine_big (by show 2≤1000000;decide),fun q hq=>?_⟩
     have sq:=Same.new (o:=.tup [V.ty "list",.ty "tuple"]) hq
     refine ⟨_,q,"list","tuple",_,_,rfl,upd_same,TyOf.tup (sq _ _ e),kit_seq (.tuple ds),_,rfl,?_⟩
     refine iteF ?_
     generalize upd H q (.tup [V.ty "list",.ty "tuple"])=H1 at sq ⊢
     refine ⟨_,rfl,a,rfl,⟨xs,SqT.of (sq _ _ e)⟩,?_⟩
     refine comp_tup (xs:=xs) (fun i ys σ H'=>Same H H'∧RdVs m H' ys ((ds.take i).map (tupD n))∧∃ o,σ=[o,some (.int ((n + 1:Nat):Int))]) ⟨sq,by rw[List.take_zero];exact .nil,none,rfl⟩ (sizeLine_big (by omega)) (fun i ys σ H' p=>by have:=p.2.1.len;rw[List.length_map,List.length_take] at this;omega) (fun i ys σ H' p=>SqT.of (p.1 _ _ e)) ?_ ?_
     ·rintro i y ys σ H' hy ⟨S,rd,o,rfl⟩
      dsimp only [gName]
      obtain ⟨d',hd',r'⟩:=r.at hy
      refine iteT ?_
      refine ⟨_,rfl,_,rfl,_,_,rfl,rfl,m,y,d',(by show [y,V.int (((n + 1:Nat):Int) - 1)] ++ []=_;rw[show (((n + 1:Nat):Int) - 1)=(n:Int) by omega];rfl),r'.same S,fun y2 H2 s2 r2=>⟨S.trans s2,?_,_,rfl⟩⟩
      rw[List.take_add_one,hd',List.map_append]
      exact RdVs.app (rd.same s2) (.cons r2 .nil)
     ·rintro ys σ H2 ⟨S,rd,o,rfl⟩ D hD
      have etk:List.take xs.length ds=ds:=List.take_of_length_le (by omega)
      rw[etk] at rd
      have sD:=Same.new (o:=.lst ys) hD
      refine ⟨D,ys,rfl,.inl ⟨SqL.of upd_same,fun t ht=>?_⟩⟩
      have sT:=Same.new (o:=.tup ys) ht
      have hyl:=rd.len
      rw[List.length_map] at hyl
      exact k _ _ ((S.trans sD).trans sT) (.tup upd_same (by omega) ((rd.same sD).same sT))
   | _=>simp[isSeq] at hs
  ·have hs':isSeq d=false:=by simpa using hs
   have et:tupD (n + 1) d=d:=by
    cases d with
    | list ds=>simp[isSeq] at hs'
    | tuple ds=>simp[isSeq] at hs'
    | _=>rfl
   rw[et] at k
   refine ⟨_,pss_cons (ps_if (PW.pt (pw_or (pt_cmpR op_eq (pv 1) pe_int (nomark _)) (pw_or1 (pt_not (pt_val (pe_callB call_isinstT (by rfl) T.isi (by kernel_rfl) (pa_c (pv 0) (pa_c (pe_tup (pa_c (pe_bltn (v:=.ty "list") (by rfl) hlist (by kernel_rfl) rfl) (pa_c (pe_bltn (v:=.ty "tuple") (by rfl) T.tuple (by kernel_rfl) rfl) pa_nil))) pa_nil)))))))) (pss_one (ps_ret (pv 0))) pss_nil)
   (pss_one (ps_ret (pe_callTy call_tuple_of (by rfl) T.tuple (by kernel_rfl) (pa_c (pe_comp (N:=["inner","deep"]) (src:=[none,some 1]) (osc:=defScope sAsTup) (oN:=["thing","deep"]) ⟨by rfl,by decide,by decide,by decide,rfl,by rfl⟩ (pi_tup (pv 0))
     fun cl s H fp pins C=>⟨pg_name (i:=0) (show (["inner","deep"]:List Str).Nodup by decide) rfl (Or.inl rfl),pts_nil,pe_call G hr rfl mA kA bA .nil pass0 (pa_c (pv 0) (pa_c (pe_op op_sub (pv 1) pe_int) pa_nil))⟩) pa_nil)))),?_⟩
   refine ⟨_,rfl,rfl,_,rfl,?_⟩
   rw[decide_eq_false (show ¬ V.int ((n + 1:Nat):Int)=V.int 0 from fun z=>by injection z with z;omega)]
   refine iteF ?_
   refine ⟨_,rfl,sizeLine_big (by show 2≤1000000;decide),fun q hq=>?_⟩
   have sq:=Same.new (o:=.tup [V.ty "list",.ty "tuple"]) hq
   refine ⟨_,q,"list","tuple",_,_,rfl,upd_same,ty_of (hx.same sq),kit_seq d,_,rfl,?_⟩
   rw[hs']
   refine iteT ?_
   exact ⟨_,rfl,k _ _ sq (hx.same sq)⟩
end
end K5
namespace K5
open PySem L2
theorem pen_ne {H:Hp}{p c a:Addr}{ns:List Int}{t:Int}{o:HO} (hp:PenAt H p c ns t) (e:H a=some o) (h:∀ kv r,o≠.dK (kv :: r)):a≠p:=by
 obtain ⟨l,_,e2⟩:=hp.ob
 exact ne_of e e2 (h _ _)
theorem rd_but {m:Bool}{H H':Hp}{p c:Addr}{ns:List Int}{t:Int}{x:V}{d:PyData} (r:RdV m H x d) (hp:PenAt H p c ns t) (k:KeepBut p H H'):RdV m H' x d:=r.keep fun a o e h=>k a o e (pen_ne hp e h)
theorem rds_but {m:Bool}{H H':Hp}{p c:Addr}{ns:List Int}{t:Int}{x:List V}{d:List PyData} (r:RdVs m H x d) (hp:PenAt H p c ns t) (k:KeepBut p H H'):RdVs m H' x d:=r.keep fun a o e h=>k a o e (pen_ne hp e h)
theorem lst_but {H H':Hp}{p c a:Addr}{ns:List Int}{t:Int}{xs:List V} (e:H a=some (.lst xs)) (hp:PenAt H p c ns t) (k:KeepBut p H H'):H' a=some (.lst xs):=k a _ e (pen_ne hp e (fun _ _ z=>nomatch z))
theorem tup_but {H H':Hp}{p c a:Addr}{ns:List Int}{t:Int}{xs:List V} (e:H a=some (.tup xs)) (hp:PenAt H p c ns t) (k:KeepBut p H H'):H' a=some (.tup xs):=k a _ e (pen_ne hp e (fun _ _ z=>nomatch z))
inductive I_spNum (vs:List V) (H:Hp) (Q:VK) (u3_:XK):Prop
 | mk (p c:Addr) (ns:List Int) (a lo hi:Int) (q0:vs=[.ref p,.int lo,.int hi]) (q1:PenAt H p c ns a) (q2:a≤900000) (q3:0≤lo) (q4:lo≤hi) (q5:hi≤10 ^ 9) (q6:∀ n a' H',lo≤n→n≤hi→a≤a'→a'≤a + 3→PenAt H' p c ns a'→KeepBut p H H'→Q (.int n) H'):I_spNum vs H Q u3_
def spNum:Sp:=fun vs H Q u3_=>I_spNum vs H Q u3_
section
variable {P:Program}{w:World}{K:W.Frag}{mg:Str→Option Value}{base:Heap}
theorem scNum:FnScope ["_law_pen_here","_law_bottom","_law_most","_law_way","_law_near"] ["_law_pen_here","_law_bottom","_law_most"] (defScope sNumber):=⟨rfl,rfl,rfl,by decide,rfl,by decide,by decide⟩
theorem ok_num {f fT:Addr}{fd fdT:FuncData} (F:Fun K "_law_number" "_law_number" sNumber f fd) (hmin:mg "min"=none) (GT:FnOk P w K mg base CX0 1 fT fdT ["_law_pen_here","_law_many"] spTake) (mT:mg "_law_take"=some (.ref fT)) (kT:W.keepIn K (.ref fT)=true) (bT:Binds K fdT ["_law_pen_here","_law_many"] []):
  FnOk P w K mg base CX0 2 f fd ["_law_pen_here","_law_bottom","_law_most"] spNum:=by
 refine F.ok scNum (fun vs H Q E h=>?_) (fun cdv A outer s H vs Q E hr h=>?_)
 ·obtain ⟨p,c,ns,a,lo,hi,rfl,_⟩:=h
  rfl
 ·obtain ⟨p,c,ns,a,lo,hi,rfl,hp,ha,h0,h1,h2,k⟩:=h
  refine ⟨_,pss_cons (ps_set (i:=3) scNum.nd rfl (Or.inl rfl) (pe_call GT hr rfl mT kT bT .nil pass0 (pa_c (pv 0) (pa_c pe_int pa_nil))))
   (pss_cons (ps_set (i:=4) scNum.nd rfl (Or.inl rfl) (pe_op op_add (pv 1) (pe_call GT hr rfl mT kT bT .nil pass0 (pa_c (pv 0) (pa_c (pe_callB (call_min2 rfl) (by rfl) hmin (by kernel_rfl) (pa_c pe_int (pa_c (pe_op op_add (pe_op op_sub (pv 2) (pv 1)) pe_int) pa_nil))) pa_nil)))))
   (pss_one (ps_ret (pe_ix ix_list (pe_lst (pa_c (pv 1) (pa_c (pv 2) (pa_c (pv 4) (pa_c (pe_op op_add (pv 1) (pe_call GT hr rfl mT kT bT .nil pass0 (pa_c (pv 0) (pa_c (pe_op op_add (pe_op op_sub (pv 2) (pv 1)) pe_int) pa_nil)))) pa_nil))))) (pv 3) (fun _ _=>rfl))))),?_⟩
  have b9:(10:Int) ^ 9 + 1 < 2 ^ 512:=by decide
  have e9:(10:Int) ^ 9=1000000000:=by decide
  refine ⟨_,rfl,p,c,ns,a,_,rfl,hp,by omega,by decide,by decide,fun r1 a1 H1 r10 r11 l1 u1 hp1 kp1=>?_⟩
  refine ⟨_,rfl,_,rfl,_,rfl,_,rfl,_,_,rfl,rfl,_,_,rfl,rfl,_,_,rfl,?_⟩
  obtain ⟨mm,hmm,m0,m1⟩:∃ mm:Int,(if hi - lo + 1 < 12 then hi - lo + 1 else 12)=mm∧0 < mm∧mm≤hi - lo + 1:=by
   refine ⟨_,rfl,?_⟩
   split <;> omega
  rw[hmm]
  refine ⟨p,c,ns,a1,_,rfl,hp1,by omega,m0,by omega,fun r2 a2 H2 r20 r21 l2 u2 hp2 kp2=>?_⟩
  refine ⟨_,_,rfl,rfl,?_⟩
  refine ⟨_,rfl,_,rfl,_,rfl,_,rfl,_,rfl,_,rfl,_,rfl,_,_,rfl,rfl,_,_,rfl,rfl,p,c,ns,a2,_,rfl,hp2,by omega,by omega,by omega,fun r3 a3 H3 r30 r31 l3 u3 hp3 kp3=>?_⟩
  refine ⟨_,_,rfl,rfl,sizeLine_big (by show 4≤1000000;decide),fun q hq=>?_⟩
  have sq:=Same.new (o:=.lst [V.int lo,.int hi,.int (lo + r2),.int (lo + r3)]) hq
  obtain ⟨v,hv,hat⟩:=atI_in (xs:=[V.int lo,.int hi,.int (lo + r2),.int (lo + r3)]) (i:=r1) r10 (by show r1 < 4;omega)
  obtain ⟨n,rfl,hn0,hn1⟩:∃ n:Int,v=.int n∧lo≤n∧n≤hi:=by
   simp only [List.mem_cons,List.not_mem_nil,or_false] at hv
   rcases hv with rfl | rfl | rfl | rfl
   ·exact ⟨_,rfl,by omega,by omega⟩
   ·exact ⟨_,rfl,by omega,by omega⟩
   ·exact ⟨_,rfl,by omega,by omega⟩
   ·exact ⟨_,rfl,by omega,by omega⟩
  refine ⟨_,rfl,q,_,r1,_,rfl,rfl,SqL.of upd_same,hat,?_⟩
  exact k n a3 _ hn0 hn1 (by omega) (by omega) (hp3.same sq) (((kp1.trans kp2).trans kp3).same sq)
end
end K5
namespace K5
open PySem L2 PyProof.Rows
theorem erase_perm {α:Type}:∀ (l:List α) (j:Nat) (y:α),l[j]?=some y→(y :: l.eraseIdx j).Perm l
 | [],j,y,h=>by simp at h
 | x :: r,0,y,h=>by
  simp at h
  subst h
  simp
 | x :: r,j + 1,y,h=>by
  simp at h
  have ih:=erase_perm r j y h
  rw[List.eraseIdx_cons_succ]
  exact (List.Perm.swap x y _).trans (ih.cons x)
theorem erase_map {α β:Type} (f:α→β):∀ (l:List α) (j:Nat),(l.map f).eraseIdx j=(l.eraseIdx j).map f
 | [],j=>by simp
 | x :: r,0=>by simp
 | x :: r,j + 1=>by simp[erase_map f r j]
inductive I_spSorts (vs:List V) (H:Hp) (Q:VK) (u3_:XK):Prop
 | mk (p c:Addr) (ns:List Int) (a:Int) (nf nr:Nat) (q0:vs=[.ref p,.int nf,.int nr]) (q1:PenAt H p c ns a) (q2:a≤800000) (q3:nf≤44) (q4:nr≤44) (q5:∀ (t l1 l2 l3 l4:Addr) (ws ps hs rs:List Str) (a':Int) (H':Hp),H' t=some (.tup [.ref l1,.ref l2,.ref l3,.ref l4])→H' l1=some (.lst (ws.map V.str))→ws.length=nf→Nms ws→H' l2=some (.lst (ps.map V.str))→ps.length=10→Nms ps→H' l3=some (.lst (hs.map V.str))→hs.length=5→Nms hs→H' l4=some (.lst (rs.map V.str))→rs.length=nr→Nms rs→a≤a'→a'≤a + 200→PenAt H' p c ns a'→KeepBut p H H'→Q (.ref t) H'):I_spSorts vs H Q u3_
def spSorts:Sp:=fun vs H Q u3_=>I_spSorts vs H Q u3_
inductive I_spDays (vs:List V) (H:Hp) (Q:VK) (u3_:XK):Prop
 | mk (p c:Addr) (ns:List Int) (a:Int) (m:Nat) (q0:vs=[.ref p,.int m]) (q1:PenAt H p c ns a) (q2:a≤800000) (q3:m≤44) (q4:∀ (l:Addr) (ds:List Int) (a':Int) (H':Hp),H' l=some (.lst (ds.map V.int))→ds.length=m→(∀ d∈ds,0≤d∧d≤9999)→a≤a'→a'≤a + 200→PenAt H' p c ns a'→KeepBut p H H'→Q (.ref l) H'):I_spDays vs H Q u3_
def spDays:Sp:=fun vs H Q u3_=>I_spDays vs H Q u3_
inductive I_spSome (vs:List V) (H:Hp) (Q:VK) (u3_:XK):Prop
 | mk (p c:Addr) (ns:List Int) (a:Int) (l:Addr) (ws:List Str) (m:Nat) (q0:vs=[.ref p,.ref l,.int m]) (q1:PenAt H p c ns a) (q2:a≤800000) (q3:H l=some (.lst (ws.map V.str))) (q4:ws.length=10) (q5:m≤6) (q6:∀ (q:Addr) (ms:List Str) (a':Int) (H':Hp),H' q=some (.lst (ms.map V.str))→ms.length=m→sortedS ms=true→(∃ us vs:List Str,ms.Perm us∧(us ++ vs).Perm ws)→a≤a'→a'≤a + 10→PenAt H' p c ns a'→KeepBut p H H'→Q (.ref q) H'):I_spSome vs H Q u3_
def spSome:Sp:=fun vs H Q u3_=>I_spSome vs H Q u3_
section
variable {P:Program}{w:World}{K:W.Frag}{mg:Str→Option Value}{base:Heap}
theorem scSorts:FnScope ["_law_pen_here","_law_fields","_law_rows","_law_some_here","_law_plots","_law_houses"] ["_law_pen_here","_law_fields","_law_rows"] (defScope sSorts):=⟨rfl,rfl,rfl,by decide,rfl,by decide,by decide⟩
theorem ok_sorts {f fT fN:Addr}{fd fdT fdN:FuncData} (F:Fun K "_law_sorts" "_law_sorts" sSorts f fd)
  (GT:FnOk P w K mg base CX0 1 fT fdT ["_law_pen_here","_law_many"] spTake) (mT:mg "_law_take"=some (.ref fT)) (kT:W.keepIn K (.ref fT)=true) (bT:Binds K fdT ["_law_pen_here","_law_many"] [])
  (GN:FnOk P w K mg base CX0 2 fN fdN ["_law_pen_here","_law_many"] spNames) (mN:mg "_law_names"=some (.ref fN)) (kN:W.keepIn K (.ref fN)=true) (bN:Binds K fdN ["_law_pen_here","_law_many"] []):
  FnOk P w K mg base CX0 3 f fd ["_law_pen_here","_law_fields","_law_rows"] spSorts:=by
 refine F.ok scSorts (fun vs H Q E h=>?_) (fun cdv A outer s H vs Q E hr h=>?_)
 ·obtain ⟨p,c,ns,a,nf,nr,rfl,_⟩:=h
  rfl
 ·obtain ⟨p,c,ns,a,nf,nr,rfl,hp,ha,hf,hrr,k⟩:=h
  have hr1:Room 1 _:=hr.mono (by decide)
  refine ⟨_,pss_cons (ps_if (pt_cmpR op_eq (pe_call GT hr1 rfl mT kT bT .nil pass0 (pa_c (pv 0) (pa_c pe_int pa_nil))) pe_int (nomark _))
    (pss_cons (ps_set (i:=3) scSorts.nd rfl (Or.inl rfl) (pe_call GN hr rfl mN kN bN .nil pass0 (pa_c (pv 0) (pa_c pe_int pa_nil))))
    (pss_one (ps_ret (pe_tup (pa_c (pe_slice sl_list (pv 3) po_none (po_some (pv 1))) (pa_c (pe_slice sl_list (pv 3) po_none (po_some pe_int)) (pa_c (pe_slice sl_list (pv 3) po_none (po_some pe_int)) (pa_c (pe_slice sl_list (pv 3) po_none (po_some (pv 2))) pa_nil)))))))) pss_nil)
   (pss_cons (ps_set (i:=4) scSorts.nd rfl (Or.inl rfl) (pe_call GN hr rfl mN kN bN .nil pass0 (pa_c (pv 0) (pa_c pe_int pa_nil))))
   (pss_cons (ps_set (i:=5) scSorts.nd rfl (Or.inl rfl) (pe_call GN hr rfl mN kN bN .nil pass0 (pa_c (pv 0) (pa_c pe_int pa_nil))))
   (pss_one (ps_ret (pe_tup (pa_c (pe_call GN hr rfl mN kN bN .nil pass0 (pa_c (pv 0) (pa_c (pv 1) pa_nil))) (pa_c (pv 4) (pa_c (pv 5) (pa_c (pe_call GN hr rfl mN kN bN .nil pass0 (pa_c (pv 0) (pa_c (pv 2) pa_nil))) pa_nil))))))))),?_⟩
  refine ⟨_,rfl,p,c,ns,a,_,rfl,hp,by omega,by decide,by decide,fun r1 a1 H1 r10 r11 l1 u1 hp1 kp1=>?_⟩
  refine ⟨rfl,_,rfl,?_⟩
  have z4:(4:Nat)≤sizeLine:=sizeLine_big (by decide)
  refine ite2 (fun g=>?_) (fun g=>?_)
  ·refine ⟨_,rfl,p,c,ns,a1,44,rfl,hp1,by omega,by omega,fun L ws a2 H2 nL hL hwl hN l2 u2 hp2 kp2=>?_⟩
   have ec:∀ n:Nat,cutV (ws.map V.str) none (some (n:Int))=(ws.take n).map V.str:=fun n=>by rw[cut_to (α:=Nat),List.map_take]
   have ec10:cutV (ws.map V.str) none (some 10)=(ws.take 10).map V.str:=ec 10
   have ec5:cutV (ws.map V.str) none (some 5)=(ws.take 5).map V.str:=ec 5
   refine ⟨_,rfl,_,rfl,_,rfl,L,_,rfl,SqL.of hL,fun q1 hq1=>?_⟩
   rw[ec nf]
   have s1:=Same.new (o:=.lst ((ws.take nf).map V.str)) hq1
   refine ⟨_,rfl,_,rfl,L,_,rfl,SqL.of (s1 _ _ hL),fun q2 hq2=>?_⟩
   rw[ec10]
   have s2n:=Same.new (o:=.lst ((ws.take 10).map V.str)) hq2
   have s2:=s1.trans s2n
   refine ⟨_,rfl,_,rfl,L,_,rfl,SqL.of (s2 _ _ hL),fun q3 hq3=>?_⟩
   rw[ec5]
   have s3n:=Same.new (o:=.lst ((ws.take 5).map V.str)) hq3
   have s3:=s2.trans s3n
   refine ⟨_,rfl,_,rfl,_,rfl,L,_,rfl,SqL.of (s3 _ _ hL),fun q4 hq4=>?_⟩
   rw[ec nr]
   have s4n:=Same.new (o:=.lst ((ws.take nr).map V.str)) hq4
   have s4:=s3.trans s4n
   refine ⟨z4,fun t ht=>?_⟩
   have s5n:=Same.new (o:=.tup [V.ref q1,.ref q2,.ref q3,.ref q4]) ht
   have s5:=s4.trans s5n
   refine k t q1 q2 q3 q4 (ws.take nf) (ws.take 10) (ws.take 5) (ws.take nr) a2 _ upd_same (s5n _ _ (s4n _ _ (s3n _ _ (s2n _ _ upd_same)))) (by rw[List.length_take];omega) (hN.take nf) (s5n _ _ (s4n _ _ (s3n _ _ upd_same))) (by rw[List.length_take];omega) (hN.take 10) (s5n _ _ (s4n _ _ upd_same)) (by rw[List.length_take];omega) (hN.take 5) (s5n _ _ upd_same) (by rw[List.length_take];omega) (hN.take nr) (by omega) (by omega) (hp2.same s5) ((kp1.trans kp2).same s5)
  ·refine ⟨_,rfl,p,c,ns,a1,10,rfl,hp1,by omega,by omega,fun L1 ws1 a2 H2 nL1 hL1 hwl1 hN1 l2 u2 hp2 kp2=>?_⟩
   refine ⟨_,rfl,p,c,ns,a2,5,rfl,hp2,by omega,by omega,fun L2 ws2 a3 H3 nL2 hL2 hwl2 hN2 l3 u3 hp3 kp3=>?_⟩
   refine ⟨_,rfl,_,rfl,p,c,ns,a3,nf,rfl,hp3,by omega,by omega,fun L3 ws3 a4 H4 nL3 hL3 hwl3 hN3 l4 u4 hp4 kp4=>?_⟩
   refine ⟨_,rfl,_,rfl,_,rfl,_,rfl,p,c,ns,a4,nr,rfl,hp4,by omega,by omega,fun L4 ws4 a5 H5 nL4 hL4 hwl4 hN4 l5 u5 hp5 kp5=>?_⟩
   refine ⟨z4,fun t ht=>?_⟩
   have s5n:=Same.new (o:=.tup [V.ref L3,.ref L1,.ref L2,.ref L4]) ht
   exact k t L3 L1 L2 L4 ws3 ws1 ws2 ws4 a5 _ upd_same (s5n _ _ (lst_but hL3 hp4 kp5)) hwl3 hN3 (s5n _ _ (lst_but (lst_but (lst_but hL1 hp2 kp3) hp3 kp4) hp4 kp5)) hwl1 hN1 (s5n _ _ (lst_but (lst_but hL2 hp3 kp4) hp4 kp5)) hwl2 hN2 (s5n _ _ hL4) hwl4 hN4 (by omega) (by omega) (hp5.same s5n) (((((kp1.trans kp2).trans kp3).trans kp4).trans kp5).same s5n)
theorem scSome:FnScope ["_law_pen_here","_law_names_here","_law_many","_law_left","_law_found"] ["_law_pen_here","_law_names_here","_law_many"] (defScope sSome):=⟨rfl,rfl,rfl,by decide,rfl,by decide,by decide⟩
theorem ok_some {f fT:Addr}{fd fdT:FuncData} (F:Fun K "_law_some" "_law_some" sSome f fd) (hlist:mg "list"=none) (hrng:mg "range"=none) (hsor:mg "sorted"=none) (hlen:mg "len"=none)
  (GT:FnOk P w K mg base CX0 1 fT fdT ["_law_pen_here","_law_many"] spTake) (mT:mg "_law_take"=some (.ref fT)) (kT:W.keepIn K (.ref fT)=true) (bT:Binds K fdT ["_law_pen_here","_law_many"] []):
  FnOk P w K mg base CX0 2 f fd ["_law_pen_here","_law_names_here","_law_many"] spSome:=by
 refine F.ok scSome (fun vs H Q E h=>?_) (fun cdv A outer s H vs Q E hr h=>?_)
 ·obtain ⟨p,c,ns,a,l,ws,m,rfl,_⟩:=h
  rfl
 ·obtain ⟨p,c,ns,a,l,ws,m,rfl,hp,ha,hl,hwl,hm,k⟩:=h
  refine ⟨_,pss_cons (ps_set (i:=3) scSome.nd rfl (Or.inr rfl) (pe_callTy call_list_of (by rfl) hlist (by kernel_rfl) (pa_c (pv 1) pa_nil)))
   (pss_cons (ps_setComp (i:=4) (N:=["_law_k","_law_left","_law_pen_here"]) (src:=[none,some 3,some 0]) (osc:=defScope sSome) (oN:=["_law_pen_here","_law_names_here","_law_many","_law_left","_law_found"]) ⟨by rfl,by decide,by decide,by decide,rfl,by rfl⟩ scSome.nd rfl
     (pi_range1 rfl hrng (pa_c (pv 2) pa_nil))
     fun cl s H fp pins C=>⟨pg_name (i:=0) (show (["_law_k","_law_left","_law_pen_here"]:List Str).Nodup by decide) rfl (Or.inl rfl),pts_nil,pe_bmK (K:=K) PySem.F.plainAttrs_list PySem.F.slot_list_pop PySem.F.type_list_pop mt_popAt (pv 1) (pa_c (pe_call GT hr rfl mT kT bT .nil pass0 (pa_c (pv 2) (pa_c (pe_callB (r:=r_call_len_seq K) call_len_seq (by rfl) hlen PySem.boot_len (pa_c (pv 1) pa_nil)) pa_nil))) pa_nil)⟩)
   (pss_one (ps_ret (pe_callB call_sortedS (by rfl) hsor (by kernel_rfl) (pa_c (pv 4) pa_nil))))),?_⟩
  refine ⟨_,rfl,l,_,rfl,.inl (SqL.of hl),fun L hL=>?_⟩
  have s0:=Same.new (o:=.lst (ws.map V.str)) hL
  have nLp:L≠p:=by
   obtain ⟨z,_,e⟩:=hp.ob
   exact (ne_of_none e hL).symm
  have nLc:L≠c:=(ne_of_none hp.ce hL).symm
  refine ⟨_,rfl,m,rfl,by omega,by omega,?_⟩
  refine comp_range (fun i ys σ' H'=>Ex4 fun (a':Int) (us vs:List Str) (o:Option V)=>Aw10 (σ'=[o,some (.ref L),some (.ref p)]) (PenAt H' p c ns a') (KeepBut p H H') (a≤a') (a'≤a + i) (ys=us.map V.str) (us.length=i) (H' L=some (.lst (vs.map V.str))) (vs.length + i=10) ((us ++ vs).Perm ws))
   ⟨a,[],ws,none,rfl,hp.same s0,Same.but s0,by omega,by omega,rfl,rfl,upd_same,by omega,List.Perm.refl _⟩ (sizeLine_big (by omega)) (fun i ys σ H p=>by obtain ⟨_,us,_,_,_,_,_,_,_,rfl,e,_⟩:=p;rw[List.length_map,e];exact Nat.le_refl _) ?_ ?_
  ·rintro i ys σ' H1 hi ⟨a1,us,vs,o,rfl,hp1,kp1,la1,ua1,rfl,hul,hL1,hvl,hpe⟩
   dsimp only [gName]
   refine iteT ?_
   refine ⟨_,rfl,.inl ⟨rfl,_,SqL.of hL1⟩,_,rfl,_,rfl,L,_,rfl,.inl (SqL.of hL1),p,c,ns,a1,_,rfl,hp1,by omega,by rw[List.length_map];omega,by rw[List.length_map];omega,fun r1 a2 H2 r10 r11 la2 ua2 hp2 kp2=>?_⟩
   rw[List.length_map] at r11
   obtain ⟨j,rfl⟩:∃ j:Nat,r1=j:=⟨r1.toNat,by omega⟩
   have hL2:=lst_but hL1 hp1 kp2
   obtain ⟨y,hy⟩:∃ y,vs[j]?=some y:=⟨_,List.getElem?_eq_getElem (by omega)⟩
   have hsx:seqIndex? (j:Int) (vs.map V.str).length=some j:=by
    rw[List.length_map]
    unfold seqIndex?
    simp
    omega
   refine ⟨L,_,_,j,V.str y,rfl,rfl,hL2,by omega,by omega,hsx,by rw[List.getElem?_map,hy];rfl,?_⟩
   refine ⟨a2,us ++ [y],vs.eraseIdx j,_,rfl,?_,?_,by omega,by omega,by rw[List.map_append];rfl,by rw[List.length_append,hul];rfl,?_,?_,?_⟩
   ·obtain ⟨⟨z,hz,e⟩,ce,ge,sm⟩:=hp2
    exact ⟨⟨z,hz,by rw[upd_ne nLp.symm];exact e⟩,by rw[upd_ne nLc.symm];exact ce,ge,sm⟩
   ·intro b o e ne
    rw[upd_ne (ne_of_none e hL)]
    exact (kp1.trans kp2) b o e ne
   ·rw[upd_same]
    congr 2
    exact erase_map V.str vs j
   ·rw[List.length_eraseIdx_of_lt (by omega)]
    omega
   ·rw[List.append_assoc]
    exact (List.Perm.append_left us (erase_perm vs j y hy)).trans hpe
  ·rintro ys σ' H1 ⟨a1,us,vs,o,rfl,hp1,kp1,la1,ua1,rfl,hul,hL1,hvl,hpe⟩ D hD
   have sD:=Same.new (o:=.lst (us.map V.str)) hD
   refine ⟨_,rfl,D,us,rfl,SqL.of upd_same,by omega,fun q ms hq hpm hsm=>?_⟩
   have s2:=Same.new (o:=.lst (ms.map V.str)) hq
   exact k q ms a1 _ upd_same (by rw[hpm.length_eq,hul];omega) hsm ⟨us,vs,hpm,hpe⟩ (by omega) (by omega) ((hp1.same sD).same s2) ((kp1.same sD).same s2)
end
end K5
namespace K5
open PySem L2
section
variable {P:Program}{w:World}{K:W.Frag}{mg:Str→Option Value}{base:Heap}
theorem scDays:FnScope ["_law_pen_here","_law_many","_law_way","_law_some_here","_law_k","_law_few","_law_found"] ["_law_pen_here","_law_many"] (defScope sDays):=⟨rfl,rfl,rfl,by decide,rfl,by decide,by decide⟩
theorem ok_days {f fT:Addr}{fd fdT:FuncData} (F:Fun K "_law_days" "_law_days" sDays f fd) (hrng:mg "range"=none) (hlen:mg "len"=none) (hint:mg "int"=none)
  (GT:FnOk P w K mg base CX0 1 fT fdT ["_law_pen_here","_law_many"] spTake) (mT:mg "_law_take"=some (.ref fT)) (kT:W.keepIn K (.ref fT)=true) (bT:Binds K fdT ["_law_pen_here","_law_many"] []):
  FnOk P w K mg base CX0 2 f fd ["_law_pen_here","_law_many"] spDays:=by
 refine F.ok scDays (fun vs H Q E h=>?_) (fun cdv A outer s H vs Q E hr h=>?_)
 ·obtain ⟨p,c,ns,a,m,rfl,_⟩:=h
  rfl
 ·obtain ⟨p,c,ns,a,m,rfl,hp,ha,hm,k⟩:=h
  refine ⟨_,pss_cons (ps_set (i:=2) scDays.nd rfl (Or.inl rfl) (pe_call GT hr rfl mT kT bT .nil pass0 (pa_c (pv 0) (pa_c pe_int pa_nil))))
   (pss_cons (ps_set (i:=3) scDays.nd rfl (Or.inr rfl) (pe_lst (pa_c pe_int (pa_c pe_int (pa_c pe_int (pa_c pe_int (pa_c (pe_call GT hr rfl mT kT bT .nil pass0 (pa_c (pv 0) (pa_c pe_int pa_nil))) (pa_c (pe_call GT hr rfl mT kT bT .nil pass0 (pa_c (pv 0) (pa_c pe_int pa_nil))) pa_nil))))))))
   (pss_cons (ps_setComp (i:=5) (N:=["_law_k","_law_some_here","_law_pen_here"]) (src:=[none,some 3,some 0]) (osc:=defScope sDays) (oN:=["_law_pen_here","_law_many","_law_way","_law_some_here","_law_k","_law_few","_law_found"]) ⟨by rfl,by decide,by decide,by decide,rfl,by rfl⟩ scDays.nd rfl
     (pi_range1 rfl hrng (pa_c (pe_op op_add pe_int (pe_call GT hr rfl mT kT bT .nil pass0 (pa_c (pv 0) (pa_c pe_int pa_nil)))) pa_nil))
     fun cl s H fp pins C=>⟨pg_name (i:=0) (show (["_law_k","_law_some_here","_law_pen_here"]:List Str).Nodup by decide) rfl (Or.inl rfl),pts_nil,pe_ix (r:=rIxL K) ix_list (pv 1) (pe_call GT hr rfl mT kT bT .nil pass0 (pa_c (pv 2) (pa_c pe_int pa_nil))) (fun _ _=>rfl)⟩)
   (pss_cons (ps_set (i:=6) scDays.nd rfl (Or.inl rfl) (pe_lst pa_nil))
   (pss_cons (ps_for PassesOwn.never rfl (pi_range1 rfl hrng (pa_c (pv 1) pa_nil)) (pg_name (i:=4) scDays.nd rfl (Or.inl rfl))
    (pss_one (ps_expr (pe_bm PySem.F.plainAttrs_list PySem.F.slot_list_append PySem.F.type_list_append mt_append (pv 6) (pa_c (pe_ix ix_list (pe_lst (pa_c (pe_ix ix_list (pv 5) (pe_call GT hr rfl mT kT bT .nil pass0 (pa_c (pv 0) (pa_c (pe_callB call_len_seq (by rfl) hlen PySem.boot_len (pa_c (pv 5) pa_nil)) pa_nil))) (fun _ _=>rfl)) (pa_c (pe_call GT hr rfl mT kT bT .nil pass0 (pa_c (pv 0) (pa_c pe_int pa_nil))) pa_nil)))
      (pe_callTy call_int1 (by rfl) hint (by kernel_rfl) (pa_c (pe_cmpR op_eq (pv 2) pe_int (nomark _)) pa_nil)) (fun _ _=>rfl)) pa_nil)))))
   (pss_one (ps_ret (pv 6))))))),?_⟩
  refine ⟨_,rfl,p,c,ns,a,_,rfl,hp,by omega,by decide,by decide,fun wy a1 H1 w0 w1 la1 ua1 hp1 kp1=>?_⟩
  refine ⟨_,rfl,p,c,ns,a1,_,rfl,hp1,by omega,by decide,by decide,fun x1 a2 H2 x10 x11 la2 ua2 hp2 kp2=>?_⟩
  refine ⟨_,rfl,p,c,ns,a2,_,rfl,hp2,by omega,by decide,by decide,fun x2 a3 H3 x20 x21 la3 ua3 hp3 kp3=>?_⟩
  refine ⟨sizeLine_big (by show 6≤1000000;decide),fun L hL=>?_⟩
  have sL:=Same.new (o:=.lst [V.int 0,.int 1,.int 9,.int 9999,.int x1,.int x2]) hL
  have hin:∀ v∈[V.int 0,.int 1,.int 9,.int 9999,.int x1,.int x2],∃ d:Int,v=.int d∧0≤d∧d≤9999:=by
   intro v hv
   simp only [List.mem_cons,List.not_mem_nil,or_false] at hv
   rcases hv with rfl | rfl | rfl | rfl | rfl | rfl
   ·exact ⟨_,rfl,by omega,by omega⟩
   ·exact ⟨_,rfl,by omega,by omega⟩
   ·exact ⟨_,rfl,by omega,by omega⟩
   ·exact ⟨_,rfl,by omega,by omega⟩
   ·exact ⟨_,rfl,by omega,by omega⟩
   ·exact ⟨_,rfl,by omega,by omega⟩
  have hp4:=hp3.same sL
  have k4:KeepBut p H _:=((kp1.trans kp2).trans kp3).same sL
  have hL4:upd H3 L (.lst [V.int 0,.int 1,.int 9,.int 9999,.int x1,.int x2]) L=_:=upd_same
  generalize upd H3 L (.lst [V.int 0,.int 1,.int 9,.int 9999,.int x1,.int x2])=H4 at hp4 k4 hL4 ⊢
  refine ⟨_,rfl,p,c,ns,a3,_,rfl,hp4,by omega,by decide,by decide,fun r1 a5 H5 r10 r11 la5 ua5 hp5 kp5=>?_⟩
  refine ⟨_,_,rfl,rfl,_,rfl,by omega,by omega,?_⟩
  have hL5:=lst_but hL4 hp4 kp5
  refine comp_range (fun i ys σ' H'=>Ex3 fun (a':Int) (ds:List Int) (o:Option V)=>Aw9 (σ'=[o,some (.ref L),some (.ref p)]) (PenAt H' p c ns a') (KeepBut p H H') (a5≤a') (a'≤a5 + i) (ys=ds.map V.int) (ds.length=i) ((∀ d∈ds,0≤d∧d≤9999)) (H' L=some (.lst [V.int 0,.int 1,.int 9,.int 9999,.int x1,.int x2])))
   ⟨a5,[],none,rfl,hp5,k4.trans kp5,by omega,by omega,rfl,rfl,(fun d hd=>by simp at hd),hL5⟩ (sizeLine_big (by omega)) (fun i ys σ H p=>by obtain ⟨_,ds,_,_,_,_,_,_,rfl,e,_⟩:=p;rw[List.length_map,e];exact Nat.le_refl _) ?_ ?_
  ·rintro i ys σ' H6 hi ⟨a6,ds,o,rfl,hp6,k6,la6,ua6,rfl,hdl,hds,hL6⟩
   dsimp only [gName]
   refine iteT ?_
   refine ⟨_,rfl,_,rfl,p,c,ns,a6,_,rfl,hp6,by omega,by decide,by decide,fun r2 a7 H7 r20 r21 la7 ua7 hp7 kp7=>?_⟩
   have hL7:=lst_but hL6 hp6 kp7
   obtain ⟨v,hv,hat⟩:=atI_in (xs:=[V.int 0,.int 1,.int 9,.int 9999,.int x1,.int x2]) (i:=r2) r20 (by show r2 < 6;omega)
   obtain ⟨d,rfl,hd0,hd1⟩:=hin v hv
   refine ⟨L,_,r2,_,rfl,rfl,SqL.of hL7,hat,?_⟩
   refine ⟨a7,ds ++ [d],_,rfl,hp7,k6.trans kp7,by omega,by omega,by rw[List.map_append];rfl,by rw[List.length_append,hdl];rfl,fun z hz=>?_,hL7⟩
   rcases List.mem_append.mp hz with y | y
   ·exact hds z y
   ·rw[List.mem_singleton.mp y];exact ⟨hd0,hd1⟩
  ·rintro ys σ' H6 ⟨a6,ds,o,rfl,hp6,k6,la6,ua6,rfl,hdl,hds,hL6⟩ D hD
   have sD:=Same.new (o:=.lst (ds.map V.int)) hD
   have hp7:=hp6.same sD
   have k7:=k6.same sD
   have hD7:upd H6 D (.lst (ds.map V.int)) D=_:=upd_same
   generalize upd H6 D (.lst (ds.map V.int))=H7 at hp7 k7 hD7 ⊢
   refine ⟨Nat.zero_le _,fun R hR=>?_⟩
   have sR:=Same.new (o:=.lst []) hR
   have nRp:R≠p:=by
    obtain ⟨z,_,e⟩:=hp7.ob
    exact (ne_of_none e hR).symm
   have nRc:R≠c:=(ne_of_none hp7.ce hR).symm
   have nDR:D≠R:=ne_of_none hD7 hR
   have hHR:H R=none:=by
    cases e:H R with
    | none=>rfl
    | some x=>exact absurd (k7 R x e nRp) (by rw[hR];simp)
   refine ⟨_,rfl,m,rfl,by omega,by omega,for_range (n:=(m:Int).toNat) (fun i σ H'=>Ex3 fun (o4:Option V) (a':Int) (es:List Int)=>Aw9 (σ=[some (.ref p),some (.int m),some (.int wy),some (.ref L),o4,some (.ref D),some (.ref R)]) (PenAt H' p c ns a') (a6≤a') (a'≤a6 + 2 * i) (KeepBut p H H') (H' D=some (.lst (ds.map V.int))) (H' R=some (.lst (es.map V.int))) (es.length=i) (∀ d∈es,0≤d∧d≤9999))
    ⟨_,a6,[],rfl,hp7.same sR,by omega,by simp,k7.same sR,sR _ _ hD7,upd_same,rfl,fun d hd=>by simp at hd⟩ ?_ ?_⟩
   ·rintro i σ H8 hi ⟨o4,a8,es,rfl,hp8,la8,ua8,k8,hD8,hR8,hel,hes⟩
    dsimp only [gName]
    refine ⟨_,rfl,.inl ⟨rfl,_,SqL.of hR8⟩,_,rfl,_,rfl,_,rfl,D,_,rfl,.inl (SqL.of hD8),p,c,ns,a8,_,rfl,hp8,by omega,by rw[List.length_map];omega,by rw[List.length_map];omega,fun r3 a9 H9 r30 r31 la9 ua9 hp9 kp9=>?_⟩
    have hD9:=lst_but hD8 hp8 kp9
    have hR9:=lst_but hR8 hp8 kp9
    obtain ⟨v,hv,hat⟩:=atI_in (xs:=ds.map V.int) (i:=r3) r30 r31
    obtain ⟨d,hd,rfl⟩:=List.mem_map.mp hv
    refine ⟨D,_,r3,_,rfl,rfl,SqL.of hD9,hat,?_⟩
    refine ⟨_,rfl,p,c,ns,a9,_,rfl,hp9,by omega,by decide,by decide,fun r4 b1 G1 r40 r41 lb1 ub1 hpb kpb=>?_⟩
    refine ⟨sizeLine_big (by show 2≤1000000;decide),fun q hq=>?_⟩
    have sq:=Same.new (o:=.lst [V.int d,.int r4]) hq
    refine ⟨_,rfl,rfl,.inr ⟨_,rfl,?_⟩⟩
    obtain ⟨z,hz,z0,z1⟩:∃ z:Int,(if decide (V.int wy=V.int 0)=true then (1:Int) else 0)=z∧0≤z∧z≤1:=by
     refine ⟨_,rfl,?_⟩
     split <;> omega
    rw[hz]
    obtain ⟨v,hv,hat⟩:=atI_in (xs:=[V.int d,.int r4]) (i:=z) z0 (by show z < 2;omega)
    obtain ⟨dd,rfl,hdd⟩:∃ dd:Int,v=.int dd∧0≤dd∧dd≤9999:=by
     simp only [List.mem_cons,List.not_mem_nil,or_false] at hv
     rcases hv with rfl | rfl
     ·exact ⟨_,rfl,hds d hd⟩
     ·exact ⟨_,rfl,by omega,by omega⟩
    refine ⟨q,_,z,_,rfl,rfl,SqL.of upd_same,hat,?_⟩
    have hRq:=sq _ _ (lst_but hR9 hp9 kpb)
    have hDq:=sq _ _ (lst_but hD9 hp9 kpb)
    have hpq:=hpb.same sq
    have kq:=((k8.trans kp9).trans kpb).same sq
    refine ⟨R,_,_,rfl,rfl,hRq,by rw[List.length_map];exact small1000 (by omega),?_⟩
    refine ⟨_,b1,es ++ [dd],rfl,?_,by omega,by omega,?_,by rw[upd_ne nDR];exact hDq,by rw[upd_same,List.map_append];rfl,by rw[List.length_append,hel];rfl,fun z hz=>?_⟩
    ·obtain ⟨⟨z,hz,e⟩,ce,ge,sm⟩:=hpq
     exact ⟨⟨z,hz,by rw[upd_ne nRp.symm];exact e⟩,by rw[upd_ne nRc.symm];exact ce,ge,sm⟩
    ·intro b o e ne
     rw[upd_ne (ne_of_none e hHR)]
     exact kq b o e ne
    ·rcases List.mem_append.mp hz with y | y
     ·exact hes z y
     ·rw[List.mem_singleton.mp y];exact hdd
   ·rintro σ H8 ⟨o4,a8,es,rfl,hp8,la8,ua8,k8,hD8,hR8,hel,hes⟩
    exact ⟨_,rfl,k R es a8 H8 hR8 (by omega) hes (by omega) (by omega) hp8 k8⟩
end
end K5
namespace K5
open PySem L2 PyProof.Rows
theorem rising_iff {ss ms:List Str} (hp:ms.Perm (mets ss)) (hs:sortedS ms=true):decide (ss=ms)=risingB ss:=by
 unfold risingB
 rw[decide_eq_decide]
 have hms:=sortedS_pair ms hs
 constructor
 ·rintro rfl
  have hn:ss.Nodup:=hp.nodup_iff.mpr (mets_nodup ss)
  have h2:=hms.and hn
  refine h2.imp fun {a b} h=>?_
  rcases Decidable.em (a.cps.toList < b.cps.toList) with z | z
  ·exact z
  ·exact absurd (cps_inj (List.le_antisymm (List.not_lt.mp h.1) (List.not_lt.mp z))) h.2
 ·intro h
  have hn:ss.Nodup:=h.imp fun {a b} z e=>by
   subst e
   exact List.lt_irrefl _ z
  have h2:ss.Pairwise fun a b=>¬ b.cps.toList < a.cps.toList:=h.imp fun {a b} z y=>List.lt_irrefl _ (List.lt_trans z y)
  have hpm:(mets ss).Perm ss:=by
   refine perm_of_full ss (mets ss) hn (fun x hx=>(mets_mem ss x).mpr hx) ?_
   have:=perm_of_full (mets ss) ss (mets_nodup ss) (fun x hx=>(mets_mem ss x).mp hx)
   have h1:=(set_count ss)
   rw[decide_eq_true hn] at h1
   have h3:=of_decide_eq_true h1
   unfold mets
   omega
  exact sorted_uniq (hpm.symm.trans hp.symm) h2 hms
theorem eqVs_strs:∀ (ss ms:List Str),eqVs (ss.map V.str) (ms.map V.str)=decide (ss=ms)
 | [],[]=>rfl
 | [],_ :: _=>rfl
 | _ :: _,[]=>rfl
 | a :: r,b :: q=>by
  show (eqV (.str a) (.str b) && eqVs (r.map V.str) (q.map V.str))=_
  rw[eqVs_strs r q]
  show ((a == b) && decide (r=q))=_
  rw[Bool.eq_iff_iff]
  simp
section
variable {P:Program}{w:World}{K:W.Frag}{mg:Str→Option Value}{base:Heap}
theorem scRising:FnScope ["things"] ["things"] (defScope sRising):=⟨rfl,rfl,rfl,by decide,rfl,by decide,by decide⟩
theorem ok_rising {f:Addr}{fd:FuncData} (F:Fun K "is_rising" "is_rising" sRising f fd) (T:Txt K mg) (hlist:mg "list"=none) (hsor:mg "sorted"=none):FnOk P w K mg base CX0 1 f fd ["things"] spRising:=by
 refine F.ok scRising (fun vs H Q E h=>?_) (fun cdv A outer s H vs Q E hr h=>?_)
 ·obtain ⟨a,ss,rfl,_⟩:=h
  rfl
 ·obtain ⟨a,ss,rfl,ha,hl,k⟩:=h
  have hu:=hu_of hr
  have hu':(A.deeper (PyProof.Rows.envOfC "is_rising" (defScope sRising) s.heap.objs.size f cdv)).units < cLine:=by omega
  refine ⟨_,pss_one (ps_ret (pe_cmpR (op_eqL hu') (pe_callTy call_list_of (by rfl) hlist (by kernel_rfl) (pa_c (pv 0) pa_nil)) (pe_callB (call_sortedQ rfl) (by rfl) hsor (by kernel_rfl) (pa_c (pe_callTy (call_setQ rfl) (by rfl) T.set (by kernel_rfl) (pa_c (pv 0) pa_nil)) pa_nil)) (nomark _))),?_⟩
  refine ⟨_,rfl,a,ss.map V.str,rfl,ha.imp SqL.of SqT.of,fun L hL=>?_⟩
  have sL:=Same.new (o:=.lst (ss.map V.str)) hL
  refine ⟨_,rfl,a,ss,rfl,ha.imp (sL _ _) (sL _ _),by omega,fun S hS=>?_⟩
  have sS:=Same.new (o:=setQ P w S ss) hS
  refine ⟨S,ss,rfl,upd_same,by omega,fun l ms hl2 hp hs=>?_⟩
  have sl:=Same.new (o:=.lst (ms.map V.str)) hl2
  refine ⟨L,l,_,_,rfl,rfl,SqL.of (sl _ _ (sS _ _ upd_same)),SqL.of upd_same,flat_strs ss,flat_strs ms,?_⟩
  rw[eqVs_strs,rising_iff hp hs]
  exact k _ ((sL.trans sS).trans sl)
end
end K5
namespace K5
open PySem L2
def pD (x:P3):PyData:=.tuple [.str x.1,.str x.2.1,.int x.2.2]
inductive OrdTo:PyData→PyData→Prop
 | short {ds:List PyData} (h:ds.length≠5):OrdTo (.tuple ds) (.tuple ds)
 | other {kind:Str} {n dy f l:PyData} (h1:kind≠"part") (h2:kind≠"join"):OrdTo (.tuple [.str kind,n,dy,f,l]) (.tuple [.str kind,n,dy,f,l])
 | part {n dy f:PyData} {T R:List P3} (hp:T.Perm R) (hr:RiseP R) (h2:2≤T.length) (h6:T.length≤6) (ha:(T.map pD).all partD=true):OrdTo (.tuple [.str "part",n,dy,f,.tuple (T.map pD)]) (.tuple [.str "part",n,dy,f,.tuple (R.map pD)])
 | join {n dy l:PyData} {T R:List Str} (hp:T.Perm R) (hr:risingB R=true) (h6:T.length≤6) (ha:(T.map PyData.str).all nameD=true):OrdTo (.tuple [.str "join",n,dy,.tuple (T.map PyData.str),l]) (.tuple [.str "join",n,dy,.tuple (R.map PyData.str),l])
inductive I_spOrd (vs:List V) (H:Hp) (Q:VK) (u3_:XK):Prop
 | mk (m:Bool) (x:V) (d d':PyData) (q0:vs=[x]) (q1:RdV m H x d) (q2:OrdTo d d') (q3:∀ y H',Same H H'→RdV m H' y d'→Q y H'):I_spOrd vs H Q u3_
def spOrd:Sp:=fun vs H Q u3_=>I_spOrd vs H Q u3_
theorem part_read {m:Bool}{H:Hp}{v:V}{x:P3} (h:RdV m H v (pD x)):PartH H v x:=by
 unfold pD at h
 cases h with
 | @tup a xs _ e hl r=>
  cases r with
  | cons r1 r=>
   cases r with
   | cons r2 r=>
    cases r with
    | cons r3 r=>
     cases r
     cases r1
     cases r2
     cases r3
     exact ⟨a,rfl,e⟩
theorem parts_read {m:Bool}{H:Hp}{vs:List V}{T:List P3} (r:RdVs m H vs (T.map pD)):∀ i,i < vs.length→PartH H (vs.getD i .non) (T.getD i ("","",0)):=fun i hi=>by
 have hl:=r.len
 rw[List.length_map] at hl
 obtain ⟨d,hd,rd⟩:=r.at (List.getElem?_eq_getElem hi)
 rw[List.getElem?_map,List.getElem?_eq_getElem (by omega)] at hd
 cases hd
 have:=part_read rd
 rw[List.getD_eq_getElem?_getD,List.getD_eq_getElem?_getD,List.getElem?_eq_getElem hi,List.getElem?_eq_getElem (by omega)]
 exact this
theorem read_pick {m:Bool}{H:Hp}{vs:List V}{ds:List PyData} (r:RdVs m H vs ds):∀ (q:List Nat),(∀ i∈q,i < vs.length)→RdVs m H (q.map fun i=>vs.getD i .non) (q.map fun i=>ds.getD i .none)
 | [],_=>.nil
 | i :: q,h=>by
  have hi:=h i (by simp)
  obtain ⟨d,hd,rd⟩:=r.at (List.getElem?_eq_getElem hi)
  refine .cons ?_ (read_pick r q fun j hj=>h j (by simp[hj]))
  show RdV m H (vs.getD i .non) (ds.getD i .none)
  rw[List.getD_eq_getElem?_getD,List.getD_eq_getElem?_getD,List.getElem?_eq_getElem hi,hd]
  exact rd
theorem strs_read {m:Bool}{H:Hp}:∀ {vs:List V}{T:List Str},RdVs m H vs (T.map PyData.str)→vs=T.map V.str∧∀ z∈T,z.length≤1000
 | _,[],.nil=>⟨rfl,fun z hz=>by simp at hz⟩
 | _,t :: T,.cons a r=>by
  obtain ⟨e,h⟩:=strs_read (T:=T) r
  cases a with
  | str _ hz=>
   refine ⟨by rw[e];rfl,fun z hz'=>?_⟩
   rcases List.mem_cons.mp hz' with rfl | y
   ·exact hz
   ·exact h z y
theorem read_strs {m:Bool}{H:Hp}:∀ {T:List Str},(∀ z∈T,z.length≤1000)→RdVs m H (T.map V.str) (T.map PyData.str)
 | [],_=>.nil
 | t :: T,h=>.cons (.str t (h t (by simp))) (read_strs fun z hz=>h z (by simp[hz]))
theorem rising_sorted {R:List Str} (h:risingB R=true):R.Pairwise fun a b=>¬ b.cps.toList < a.cps.toList:=(of_decide_eq_true h).imp fun {a b} z y=>List.lt_irrefl _ (List.lt_trans z y)
section
variable {P:Program}{w:World}{K:W.Frag}{mg:Str→Option Value}{base:Heap}
theorem scOrd:FnScope ["thing","kind","name","day","first","last"] ["thing"] (defScope sInOrder):=⟨rfl,rfl,rfl,by decide,rfl,by decide,by decide⟩
theorem rd_str {m:Bool}{H:Hp}{x:V}{z:Str} (h:RdV m H x (.str z)):x=.str z∧z.length≤1000:=by
 cases h with
 | str _ h=>exact ⟨rfl,h⟩
theorem rd5 {m:Bool}{H:Hp}{x:V}{d1 d2 d3 d4 d5:PyData} (h:RdV m H x (.tuple [d1,d2,d3,d4,d5])):∃ (a:Addr) (x1 x2 x3 x4 x5:V),x=.ref a∧H a=some (.tup [x1,x2,x3,x4,x5])∧RdV m H x1 d1∧RdV m H x2 d2∧RdV m H x3 d3∧RdV m H x4 d4∧RdV m H x5 d5:=by
 cases h with
 | @tup a xs _ e hl r=>
 cases r with
 | @cons x1 _ _ _ r1 r=>
 cases r with
 | @cons x2 _ _ _ r2 r=>
 cases r with
 | @cons x3 _ _ _ r3 r=>
 cases r with
 | @cons x4 _ _ _ r4 r=>
 cases r with
 | @cons x5 _ _ _ r5 r=>
 cases r
 exact ⟨a,x1,x2,x3,x4,x5,rfl,e,r1,r2,r3,r4,r5⟩
theorem ok_ord {f fP fN:Addr}{fd fdP fdN:FuncData} (F:Fun K "in_order" "in_order" sInOrder f fd) (T:Txt K mg) (hsor:mg "sorted"=none)
  (GP:FnOk P w K mg base CX0 4 fP fdP ["thing"] spAllP) (mP:mg "all_parts"=some (.ref fP)) (kP:W.keepIn K (.ref fP)=true) (bP:Binds K fdP ["thing"] [])
  (GN:FnOk P w K mg base CX0 2 fN fdN ["thing"] spAllN) (mN:mg "all_names"=some (.ref fN)) (kN:W.keepIn K (.ref fN)=true) (bN:Binds K fdN ["thing"] []):
  FnOk P w K mg base CX0 5 f fd ["thing"] spOrd:=by
 refine F.ok scOrd (fun vs H Q E h=>?_) (fun cdv A outer s H vs Q E hr h=>?_)
 ·obtain ⟨m,x,d,d',rfl,_⟩:=h
  rfl
 ·obtain ⟨m,x,d,d',rfl,hx,ho,k⟩:=h
  have hr2:Room 2 _:=hr.mono (by decide)
  refine ⟨_,pss_cons (ps_if (PW.pt (pw_or (pt_not (pt_val (pe_callB call_isinst (by rfl) T.isi (by kernel_rfl) (pa_c (pv 0) (pa_c (pe_bltn (v:=.ty "tuple") (by rfl) T.tuple (by kernel_rfl) rfl) pa_nil)))))
    (pw_or1 (pt_cmpR op_ne (pe_callB call_len_seq (by rfl) T.len PySem.boot_len (pa_c (pv 0) pa_nil)) pe_int (nomark _))))) (pss_one (ps_ret (pv 0))) pss_nil)
   (pss_cons (ps_asg (pv 0) (pg_tup rfl (pgs_cons (pg_name (i:=1) scOrd.nd rfl (Or.inl rfl)) (pgs_cons (pg_name (i:=2) scOrd.nd rfl (Or.inl rfl)) (pgs_cons (pg_name (i:=3) scOrd.nd rfl (Or.inl rfl)) (pgs_cons (pg_name (i:=4) scOrd.nd rfl (Or.inl rfl)) (pgs_cons (pg_name (i:=5) scOrd.nd rfl (Or.inl rfl)) pgs_nil)))))))
   (pss_cons (ps_if (PW.pt (pw_and (pt_cmpR op_eq (pv 1) pe_str (nomark _)) (pw_and1 (pt_val (pe_call GP hr rfl mP kP bP .nil pass0 (pa_c (pv 5) pa_nil)))))) (pss_one (ps_ret (pe_tup (pa_c (pv 1) (pa_c (pv 2) (pa_c (pv 3) (pa_c (pv 4) (pa_c (pe_callTy call_tuple_of (by rfl) T.tuple (by kernel_rfl) (pa_c (pe_callB call_sortedP (by rfl) hsor (by kernel_rfl) (pa_c (pv 5) pa_nil)) pa_nil)) pa_nil)))))))) pss_nil)
   (pss_cons (ps_if (PW.pt (pw_and (pt_cmpR op_eq (pv 1) pe_str (nomark _)) (pw_and1 (pt_val (pe_call GN hr2 rfl mN kN bN .nil pass0 (pa_c (pv 4) pa_nil)))))) (pss_one (ps_ret (pe_tup (pa_c (pv 1) (pa_c (pv 2) (pa_c (pv 3) (pa_c (pe_callTy call_tuple_of (by rfl) T.tuple (by kernel_rfl) (pa_c (pe_callB call_sortedST (by rfl) hsor (by kernel_rfl) (pa_c (pv 4) pa_nil)) pa_nil)) (pa_c (pv 5) pa_nil)))))))) pss_nil)
   (pss_one (ps_ret (pv 0)))))),?_⟩
  refine ⟨_,rfl,_,"tuple",_,_,rfl,ty_of hx,kit_tup d,_,rfl,?_⟩
  cases ho with
  | @short ds hn=>
   cases hx with
   | @tup a xs _ e hl r=>
    have hlen:=r.len
    refine iteF ?_
    refine ⟨_,rfl,a,xs,rfl,.inr (SqT.of e),rfl,_,rfl,?_⟩
    refine ite2 (fun g=>?_) (fun g=>?_)
    ·exact ⟨_,rfl,k _ H (Same.refl H) (.tup e hl r)⟩
    ·exfalso
     apply g
     rw[decide_eq_false (show ¬ V.int (xs.length:Int)=V.int 5 from fun z=>by injection z with z;omega)]
     rfl
  | @other kind n dy f l h1 h2=>
   obtain ⟨a,x1,x2,x3,x4,x5,rfl,e,r1,r2,r3,r4,r5⟩:=rd5 hx
   obtain ⟨rfl,hkz⟩:=rd_str r1
   have hl:(5:Nat)≤1000:=by decide
   refine iteF ?_
   refine ⟨_,rfl,a,_,rfl,.inr (SqT.of e),rfl,_,rfl,?_⟩
   refine ite2 (fun g=>absurd g (by simp)) (fun g=>?_)
   refine ⟨_,rfl,a,_,rfl,SqT.of e,rfl,_,_,rfl,_,_,rfl,_,_,rfl,_,_,rfl,_,_,rfl,rfl,?_⟩
   refine ⟨_,rfl,rfl,_,rfl,?_⟩
   rw[decide_eq_false (show ¬ V.str kind=V.str "part" from fun z=>by injection z with z;exact h1 z)]
   refine iteF ?_
   refine ⟨_,rfl,rfl,_,rfl,?_⟩
   rw[decide_eq_false (show ¬ V.str kind=V.str "join" from fun z=>by injection z with z;exact h2 z)]
   refine iteF ?_
   exact ⟨_,rfl,k _ H (Same.refl H) (.tup e hl (.cons (.str kind hkz) (.cons r2 (.cons r3 (.cons r4 (.cons r5 .nil))))))⟩
  | @part n dy f T R hp hrr h2 h6 ha=>
   obtain ⟨a,x1,x2,x3,x4,x5,rfl,e,r1,r2,r3,r4,r5⟩:=rd5 hx
   obtain ⟨rfl,hkz⟩:=rd_str r1
   have hl:(5:Nat)≤1000:=by decide
   refine iteF ?_
   refine ⟨_,rfl,a,_,rfl,.inr (SqT.of e),rfl,_,rfl,?_⟩
   refine ite2 (fun g=>absurd g (by simp)) (fun g=>?_)
   refine ⟨_,rfl,a,_,rfl,SqT.of e,rfl,_,_,rfl,_,_,rfl,_,_,rfl,_,_,rfl,_,_,rfl,rfl,?_⟩
   refine ⟨_,rfl,rfl,_,rfl,?_⟩
   rw[decide_eq_true (show V.str "part"=V.str "part" from rfl)]
   refine iteT ?_
   refine ⟨_,rfl,m,x5,_,rfl,r5,fun H1 s1=>⟨_,rfl,?_⟩⟩
   refine ite2 (fun g=>?_) (fun g=>absurd ha g)
   cases r5 with
   | @tup a5 xs5 _ e5 hl5 rr5=>
   have hl5':=rr5.len
   rw[List.length_map] at hl5'
   refine ⟨_,rfl,_,rfl,_,rfl,_,rfl,?_⟩
   refine ⟨_,rfl,a5,xs5,T,rfl,s1 _ _ e5,hl5',by omega,by omega,parts_read (rr5.same s1),fun L hL=>?_⟩
   have sL:=Same.new (o:=.lst ((kord T).map fun i=>xs5.getD i .non)) hL
   have hkp:=kord_perm T (by omega)
   have hkl:(kord T).length=T.length:=by rw[hkp.length_eq,List.length_range]
   refine ⟨L,_,rfl,.inl ⟨SqL.of upd_same,fun t ht=>?_⟩⟩
   have sT:=Same.new (o:=.tup ((kord T).map fun i=>xs5.getD i .non)) ht
   have rR:RdVs m H ((kord T).map fun i=>xs5.getD i .non) (R.map pD):=by
    have rp:=read_pick rr5 (kord T) (fun i hi=>by
     have:=hkp.mem_iff.mp hi
     rw[List.mem_range] at this
     omega)
    have e2:(kord T).map (fun i=>(T.map pD).getD i .none)=R.map pD:=by
     rw[← kord_sorted hp hrr h2 h6 ("","",0),List.map_map]
     refine List.map_congr_left fun i hi=>?_
     have hlt:=hkp.mem_iff.mp hi
     rw[List.mem_range] at hlt
     simp[hlt]
    rw[e2] at rp
    exact rp
   refine ⟨sizeLine_big (by show 5≤1000000;decide),fun t2 ht2=>?_⟩
   have s2:=Same.new (o:=.tup [V.str "part",x2,x3,x4,.ref t]) ht2
   have sA:=((s1.trans sL).trans sT).trans s2
   exact k _ _ sA (.tup upd_same (by show 5≤1000;decide) (.cons (.str _ hkz) (.cons (r2.same sA) (.cons (r3.same sA) (.cons (r4.same sA) (.cons (.tup (s2 _ _ upd_same) (by rw[List.length_map];omega) (rR.same sA)) .nil))))))
  | @join n dy l T R hp hrr h6 ha=>
   obtain ⟨a,x1,x2,x3,x4,x5,rfl,e,r1,r2,r3,r4,r5⟩:=rd5 hx
   obtain ⟨rfl,hkz⟩:=rd_str r1
   have hl:(5:Nat)≤1000:=by decide
   refine iteF ?_
   refine ⟨_,rfl,a,_,rfl,.inr (SqT.of e),rfl,_,rfl,?_⟩
   refine ite2 (fun g=>absurd g (by simp)) (fun g=>?_)
   refine ⟨_,rfl,a,_,rfl,SqT.of e,rfl,_,_,rfl,_,_,rfl,_,_,rfl,_,_,rfl,_,_,rfl,rfl,?_⟩
   refine ⟨_,rfl,rfl,_,rfl,?_⟩
   rw[decide_eq_false (show ¬ V.str "join"=V.str "part" from by decide)]
   refine iteF ?_
   refine ⟨_,rfl,rfl,_,rfl,?_⟩
   rw[decide_eq_true (show V.str "join"=V.str "join" from rfl)]
   refine iteT ?_
   refine ⟨_,rfl,m,x4,_,rfl,r4,fun H1 s1=>⟨_,rfl,?_⟩⟩
   refine ite2 (fun g=>?_) (fun g=>absurd ha g)
   cases r4 with
   | @tup a4 xs4 _ e4 hl4 rr4=>
   obtain ⟨ex4,hz4⟩:=strs_read rr4
   subst ex4
   refine ⟨_,rfl,_,rfl,_,rfl,?_⟩
   refine ⟨_,rfl,a4,T,rfl,s1 _ _ e4,by omega,fun L ms hL hpm hsm=>?_⟩
   have sL:=Same.new (o:=.lst (ms.map V.str)) hL
   have ems:ms=R:=sorted_uniq (hpm.trans hp) (sortedS_pair ms hsm) (rising_sorted hrr)
   subst ems
   refine ⟨L,_,rfl,.inl ⟨SqL.of upd_same,fun t ht=>?_⟩⟩
   have sT:=Same.new (o:=.tup (ms.map V.str)) ht
   have rR:RdVs m H (ms.map V.str) (ms.map PyData.str):=read_strs fun z hz=>hz4 z (hp.mem_iff.mpr hz)
   refine ⟨_,rfl,sizeLine_big (by show 5≤1000000;decide),fun t2 ht2=>?_⟩
   have s2:=Same.new (o:=.tup [V.str "join",x2,x3,.ref t,x5]) ht2
   have sA:=((s1.trans sL).trans sT).trans s2
   have hml:=hp.length_eq
   exact k _ _ sA (.tup upd_same (by show 5≤1000;decide) (.cons (.str _ hkz) (.cons (r2.same sA) (.cons (r3.same sA) (.cons (.tup (s2 _ _ upd_same) (by rw[List.length_map];omega) (rR.same sA)) (.cons (r5.same sA) .nil))))))
end
end K5
namespace K5
open PySem L2
inductive I_spRowOfP (vs:List V) (H:Hp) (Q:VK) (u3_:XK):Prop
 | mk (m:Bool) (x:V) (d d':PyData) (q0:vs=[x]) (q1:RdV m H x d) (q2:OrdTo (tupD 3 d) d') (q3:rowD d'=true) (q4:∀ y H',Same H H'→RdV m H' y d'→Q y H'):I_spRowOfP vs H Q u3_
def spRowOfP:Sp:=fun vs H Q u3_=>I_spRowOfP vs H Q u3_
section
variable {P:Program}{w:World}{K:W.Frag}{mg:Str→Option Value}{base:Heap}
theorem scRowOfP:FnScope ["thing","row"] ["thing"] (defScope sRowOfP):=⟨rfl,rfl,rfl,by decide,rfl,by decide,by decide⟩
theorem ok_rowOfP {f fA fO fI:Addr}{fd fdA fdO fdI:FuncData} (F:Fun K "row_of" "row_of" sRowOfP f fd) (hdep:∃ t,mg "ROW_DEPTH"=some (.int 3 t))
  (GA:FnOk P w K mg base CX0 4 fA fdA ["thing","deep"] (spAs 3)) (mA:mg "as_tuples"=some (.ref fA)) (kA:W.keepIn K (.ref fA)=true) (bA:Binds K fdA ["thing","deep"] [])
  (GO:FnOk P w K mg base CX0 5 fO fdO ["thing"] spOrd) (mO:mg "in_order"=some (.ref fO)) (kO:W.keepIn K (.ref fO)=true) (bO:Binds K fdO ["thing"] [])
  (GI:FnOk P w K mg base CX0 7 fI fdI ["thing"] spIsRow) (mI:mg "is_row"=some (.ref fI)) (kI:W.keepIn K (.ref fI)=true) (bI:Binds K fdI ["thing"] []):
  FnOk P w K mg base CX0 8 f fd ["thing"] spRowOfP:=by
 refine F.ok scRowOfP (fun vs H Q E h=>?_) (fun cdv A outer s H vs Q E hr h=>?_)
 ·obtain ⟨m,x,d,d',rfl,_⟩:=h
  rfl
 ·obtain ⟨m,x,d,d',rfl,hx,ho,hrow,k⟩:=h
  have hr4:Room 4 _:=hr.mono (by decide)
  have hr5:Room 5 _:=hr.mono (by decide)
  obtain ⟨td,hdp⟩:=hdep
  refine ⟨_,pss_cons (ps_set (i:=1) scRowOfP.nd rfl (Or.inl rfl) (pe_call GO hr5 rfl mO kO bO .nil pass0 (pa_c (pe_call GA hr4 rfl mA kA bA .nil pass0 (pa_c (pv 0) (pa_c (pe_glob (v:=.int 3) (by rfl) hdp ⟨_,rfl⟩) pa_nil))) pa_nil)))
   (pss_cons (ps_if (pt_not (pt_val (pe_call GI hr rfl mI kI bI .nil pass0 (pa_c (pv 1) pa_nil)))) pss_never pss_nil)
   (pss_one (ps_ret (pv 1)))),?_⟩
  refine ⟨_,rfl,m,x,d,rfl,hx,fun y H1 s1 r1=>?_⟩
  refine ⟨m,y,_,d',rfl,r1,ho,fun z H2 s2 r2=>?_⟩
  refine ⟨_,rfl,m,z,d',rfl,r2,fun H3 s3=>⟨_,rfl,?_⟩⟩
  rw[hrow]
  refine iteF ?_
  exact ⟨_,rfl,k _ _ ((s1.trans s2).trans s3) (r2.same s3)⟩
end
end K5
namespace K5
open PySem L2
structure S3 (H:Hp) (lf lp lh:Addr) (fs ps hs:List Str):Prop where
 f:H lf=some (.lst (fs.map V.str))
 p:H lp=some (.lst (ps.map V.str))
 h:H lh=some (.lst (hs.map V.str))
 f1:1≤fs.length
 f2:fs.length≤44
 p1:ps.length=10
 h1:hs.length=5
 nf:Nms fs
 np:Nms ps
 nh:Nms hs
theorem S3.but {H H':Hp}{lf lp lh:Addr}{fs ps hs:List Str}{p c:Addr}{ns:List Int}{t:Int} (x:S3 H lf lp lh fs ps hs) (hp:PenAt H p c ns t) (k:KeepBut p H H'):S3 H' lf lp lh fs ps hs:=⟨lst_but x.f hp k,lst_but x.p hp k,lst_but x.h hp k,x.f1,x.f2,x.p1,x.h1,x.nf,x.np,x.nh⟩
theorem S3.same {H H':Hp}{lf lp lh:Addr}{fs ps hs:List Str} (x:S3 H lf lp lh fs ps hs) (k:Same H H'):S3 H' lf lp lh fs ps hs:=⟨k _ _ x.f,k _ _ x.p,k _ _ x.h,x.f1,x.f2,x.p1,x.h1,x.nf,x.np,x.nh⟩
inductive RowS:Str→List PyData→Prop
 | part {land:Str} {R:List P3} (hl:nameB land=true) (hr:RiseP R) (h2:2≤R.length) (h6:R.length≤6) (ha:(R.map pD).all partD=true):RowS "part" [.str land,.tuple (R.map pD)]
 | join {land:Str} {R:List Str} (hl:nameB land=true) (hr:risingB R=true) (h2:2≤R.length) (h6:R.length≤6) (ha:(R.map PyData.str).all nameD=true):RowS "join" [.tuple (R.map PyData.str),.str land]
 | forfeit {land house:Str} (hl:nameB land=true) (hh:nameB house=true):RowS "forfeit" [.str land,.str house]
 | measure {field:Str} {n:Int} (hf:nameB field=true) (h0:0≤n) (h1:n≤10000000):RowS "measure" [.str field,.int n]
 | mend {house other:Str} (hh:nameB house=true) (ho:nameB other=true) (hne:house≠other):RowS "mend" [.str house,.str other]
 | alone {house:Str} (hh:nameB house=true):RowS "alone" [.str house]
 | breach {field:Str} {n1 n2 n3:Int} (hf:nameB field=true) (h10:0≤n1) (h11:n1≤9999999) (h20:0≤n2) (h21:n2≤1000000000) (h30:0≤n3) (h31:n3≤1000000):RowS "breach" [.str field,.int n1,.int n2,.int n3]
 | view {field house:Str} {n1:Int} (hf:nameB field=true) (h10:0≤n1) (h11:n1≤9999999) (hh:nameB house=true):RowS "view" [.str field,.int n1,.str house]
def rowDat (word name:Str) (day:Int) (ds:List PyData):PyData:=.tuple (.str word :: .str name :: .int day :: ds)
theorem rowS_row {word name:Str}{day:Int}{ds:List PyData} (h:RowS word ds) (hn:nameB name=true) (h0:0≤day) (h1:day≤9999):rowD (rowDat word name day ds)=true:=by
 have go:decide (word∈words8)=true→fitD word ds=true→rowD (rowDat word name day ds)=true:=fun a b=>by
  show (decide (word∈words8) && (nameB name && (decide (0≤day∧day≤9999) && fitD word ds)))=true
  rw[a,hn,b,decide_eq_true (show 0≤day∧day≤9999 from ⟨h0,h1⟩)]
  rfl
 cases h with
 | @part land R hl hr h2 h6 ha=>
  refine go (by decide) ?_
  show (nameB land && ((R.map pD).all partD && decide (2≤(R.map pD).length∧(R.map pD).length≤6) && risingB ((R.map pD).map headS)))=true
  have e:(R.map pD).map headS=R.map (·.1):=by rw[List.map_map];rfl
  rw[hl,ha,e,List.length_map,decide_eq_true (show 2≤R.length∧R.length≤6 from ⟨h2,h6⟩)]
  exact decide_eq_true (List.pairwise_map.mpr hr)
 | @join land R hl hr h2 h6 ha=>
  refine go (by decide) ?_
  rw[show fitD "join" [.tuple (R.map PyData.str),.str land]=fJoin [.tuple (R.map PyData.str),.str land] from by unfold fitD;rw[if_neg (by decide),if_pos rfl]]
  show (((R.map PyData.str).all nameD && decide (2≤(R.map PyData.str).length∧(R.map PyData.str).length≤6) && risingB ((R.map PyData.str).map strD)) && nameB land)=true
  have e:(R.map PyData.str).map strD=R:=by rw[List.map_map];exact List.map_id R
  rw[hl,ha,e,List.length_map,decide_eq_true (show 2≤R.length∧R.length≤6 from ⟨h2,h6⟩),hr]
  rfl
 | @forfeit land house hl hh=>
  refine go (by decide) ?_
  rw[show fitD "forfeit" [.str land,.str house]=fForfeit [.str land,.str house] from by unfold fitD;rw[if_neg (by decide),if_neg (by decide),if_pos rfl]]
  show (true && (nameB land && (nameB house && true)))=true
  rw[hl,hh]
  rfl
 | @measure field n hf h0 h1=>
  refine go (by decide) ?_
  rw[show fitD "measure" [.str field,.int n]=fMeasure [.str field,.int n] from by unfold fitD;rw[if_neg (by decide),if_neg (by decide),if_neg (by decide),if_pos rfl]]
  show (nameB field && decide (0≤n∧n≤10000000))=true
  rw[hf,decide_eq_true (show 0≤n∧n≤10000000 from ⟨h0,h1⟩)]
  rfl
 | @mend house other hh ho hne=>
  refine go (by decide) ?_
  rw[show fitD "mend" [.str house,.str other]=fMend [.str house,.str other] from by unfold fitD;rw[if_neg (by decide),if_neg (by decide),if_neg (by decide),if_neg (by decide),if_pos rfl]]
  show (nameB house && nameB other && !decide (house=other))=true
  rw[hh,ho,decide_eq_false hne]
  rfl
 | @alone house hh=>
  refine go (by decide) ?_
  rw[show fitD "alone" [.str house]=fAlone [.str house] from by unfold fitD;rw[if_neg (by decide),if_neg (by decide),if_neg (by decide),if_neg (by decide),if_neg (by decide),if_pos rfl]]
  exact hh
 | @breach field n1 n2 n3 hf h10 h11 h20 h21 h30 h31=>
  refine go (by decide) ?_
  rw[show fitD "breach" [.str field,.int n1,.int n2,.int n3]=fBreach [.str field,.int n1,.int n2,.int n3] from by unfold fitD;rw[if_neg (by decide),if_neg (by decide),if_neg (by decide),if_neg (by decide),if_neg (by decide),if_neg (by decide),if_pos rfl]]
  show (nameB field && decide (0≤n1∧n1≤9999999) && decide (0≤n2∧n2≤1000000000) && decide (0≤n3∧n3≤1000000))=true
  rw[hf,decide_eq_true (show 0≤n1∧n1≤9999999 from ⟨h10,h11⟩),decide_eq_true (show 0≤n2∧n2≤1000000000 from ⟨h20,h21⟩),decide_eq_true (show 0≤n3∧n3≤1000000 from ⟨h30,h31⟩)]
  rfl
 | @view field house n1 hf h10 h11 hh=>
  refine go (by decide) ?_
  rw[show fitD "view" [.str field,.int n1,.str house]=fView [.str field,.int n1,.str house] from by unfold fitD;rw[if_neg (by decide),if_neg (by decide),if_neg (by decide),if_neg (by decide),if_neg (by decide),if_neg (by decide),if_neg (by decide)]]
  show (nameB field && decide (0≤n1∧n1≤9999999) && nameB house)=true
  rw[hf,decide_eq_true (show 0≤n1∧n1≤9999999 from ⟨h10,h11⟩),hh]
  rfl
theorem nm_rd {m:Bool}{H:Hp}{z:Str} (h:nameB z=true):RdV m H (.str z) (.str z):=.str z (by have:=(nameB_len h).2;omega)
theorem word_len {w:Str} (h:w∈words8):w.length≤1000:=by
 have:∀ w∈words8,w.length≤1000:=by decide
 exact this w h
theorem some_rises {ms us vs ws:List Str} (hs:PyProof.Rows.sortedS ms=true) (hp:ms.Perm us) (hq:(us ++ vs).Perm ws) (hn:Nms ws):risingB ms=true∧∀ z∈ms,nameB z=true:=by
 have hnu:us.Nodup:=(List.nodup_append.mp (hq.nodup_iff.mpr hn.nd)).1
 have hnm:ms.Nodup:=hp.nodup_iff.mpr hnu
 refine ⟨decide_eq_true (((sortedS_pair ms hs).and hnm).imp fun {a b} h=>?_),fun z hz=>hn.ok z (hq.mem_iff.mp (List.mem_append_left _ (hp.mem_iff.mp hz)))⟩
 rcases Decidable.em (a.cps.toList < b.cps.toList) with z | z
 ·exact z
 ·exact absurd (cps_inj (List.le_antisymm (List.not_lt.mp h.1) (List.not_lt.mp z))) h.2
def FIn (word:Str) (ds:List PyData) (fs:List Str):Prop:=inV (.str word) [V.str "measure",.str "breach",.str "view"]=true→∀ z rest,ds=.str z :: rest→z∈fs
inductive I_spRowOf (vs:List V) (H:Hp) (Q:VK) (u3_:XK):Prop
 | mk (p c:Addr) (ns:List Int) (a:Int) (word name:Str) (day:Int) (tS lf lp lh:Addr) (fs ps hs:List Str) (q0:vs=[.ref p,.str word,.str name,.int day,.ref tS]) (q1:PenAt H p c ns a) (q2:a≤700000) (q3:H tS=some (.tup [.ref lf,.ref lp,.ref lh])) (q4:S3 H lf lp lh fs ps hs) (q5:word∈words8) (q6:nameB name=true) (q7:∀ (t:Addr) (ds:List PyData) (rest:List V) (a':Int) (H':Hp),H' t=some (.tup (.str word :: .str name :: .int day :: rest))→RdVs false H' rest ds→RowS word ds→FIn word ds fs→a≤a'→a'≤a + 80→PenAt H' p c ns a'→KeepBut p H H'→Q (.ref t) H'):I_spRowOf vs H Q u3_
def spRowOf:Sp:=fun vs H Q u3_=>I_spRowOf vs H Q u3_
section
variable {P:Program}{w:World}{K:W.Frag}{mg:Str→Option Value}{base:Heap}
theorem scRowOf:FnScope ["_law_pen_here","_law_word","_law_name","_law_day","_law_sorts_here","_law_fields","_law_plots","_law_houses","_law_land","_law_at","_law_house","_law_field","_law_some_here","_law_parts","_law_inch"] ["_law_pen_here","_law_word","_law_name","_law_day","_law_sorts_here"] (defScope sRowOf):=⟨rfl,rfl,rfl,by decide,rfl,by decide,by decide⟩
theorem ok_rowOf {f fT fN fS:Addr}{fd fdT fdN fdS:FuncData} (F:Fun K "_law_row_of" "_law_row_of" sRowOf f fd) (hlen:mg "len"=none) (htup:mg "tuple"=none)
  (GT:FnOk P w K mg base CX0 1 fT fdT ["_law_pen_here","_law_many"] spTake) (mT:mg "_law_take"=some (.ref fT)) (kT:W.keepIn K (.ref fT)=true) (bT:Binds K fdT ["_law_pen_here","_law_many"] [])
  (GN:FnOk P w K mg base CX0 2 fN fdN ["_law_pen_here","_law_bottom","_law_most"] spNum) (mN:mg "_law_number"=some (.ref fN)) (kN:W.keepIn K (.ref fN)=true) (bN:Binds K fdN ["_law_pen_here","_law_bottom","_law_most"] [])
  (GS:FnOk P w K mg base CX0 2 fS fdS ["_law_pen_here","_law_names_here","_law_many"] spSome) (mS:mg "_law_some"=some (.ref fS)) (kS:W.keepIn K (.ref fS)=true) (bS:Binds K fdS ["_law_pen_here","_law_names_here","_law_many"] []):
  FnOk P w K mg base CX0 3 f fd ["_law_pen_here","_law_word","_law_name","_law_day","_law_sorts_here"] spRowOf:=by
 refine F.ok scRowOf (fun vs H Q E h=>?_) (fun cdv A outer s H vs Q E hr h=>?_)
 ·obtain ⟨p,c,ns,a,word,name,day,tS,lf,lp,lh,fs,ps,hs,rfl,_⟩:=h
  rfl
 ·obtain ⟨p,c,ns,a,word,name,day,tS,lf,lp,lh,fs,ps,hs,rfl,hp,ha,htS,h3,hwd,hnm,k⟩:=h
  have hr1:Room 1 _:=hr.mono (by decide)
  refine ⟨_,pss_cons (ps_asg (pv 4) (pg_tup rfl (pgs_cons (pg_name (i:=5) scRowOf.nd rfl (Or.inl rfl)) (pgs_cons (pg_name (i:=6) scRowOf.nd rfl (Or.inl rfl)) (pgs_cons (pg_name (i:=7) scRowOf.nd rfl (Or.inr rfl)) pgs_nil)))))
   (pss_cons (ps_set (i:=8) scRowOf.nd rfl (Or.inl rfl) (pe_ix ix_list (pv 6) (pe_call GT hr1 rfl mT kT bT .nil pass0 (pa_c (pv 0) (pa_c (pe_callB call_len_seq (by rfl) hlen PySem.boot_len (pa_c (pv 6) pa_nil)) pa_nil))) (fun _ _=>rfl)))
   (pss_cons (ps_set (i:=9) scRowOf.nd rfl (Or.inl rfl) (pe_call GT hr1 rfl mT kT bT .nil pass0 (pa_c (pv 0) (pa_c (pe_callB call_len_seq (by rfl) hlen PySem.boot_len (pa_c (pv 7) pa_nil)) pa_nil))))
   (pss_cons (ps_set (i:=10) scRowOf.nd rfl (Or.inl rfl) (pe_ix ix_list (pv 7) (pv 9) (fun _ _=>rfl)))
   (pss_cons (ps_set (i:=11) scRowOf.nd rfl (Or.inl rfl) (pe_ix ix_list (pv 5) (pe_call GT hr1 rfl mT kT bT .nil pass0 (pa_c (pv 0) (pa_c (pe_callB call_len_seq (by rfl) hlen PySem.boot_len (pa_c (pv 5) pa_nil)) pa_nil))) (fun _ _=>rfl)))
   (pss_cons (ps_if (pt_cmpR op_in_seq (pv 1) (pe_tup (pa_c pe_str (pa_c pe_str pa_nil))) (by with_unfolding_all rfl))
    (pss_cons (ps_set (i:=12) scRowOf.nd rfl (Or.inl rfl) (pe_call GS hr rfl mS kS bS .nil pass0 (pa_c (pv 0) (pa_c (pv 6) (pa_c (pe_ix ix_list (pe_lst (pa_c pe_int (pa_c pe_int (pa_c (pe_op op_add pe_int (pe_call GT hr1 rfl mT kT bT .nil pass0 (pa_c (pv 0) (pa_c pe_int pa_nil)))) pa_nil)))) (pe_call GT hr1 rfl mT kT bT .nil pass0 (pa_c (pv 0) (pa_c pe_int pa_nil))) (fun _ _=>rfl)) pa_nil)))))
    (pss_cons (ps_if (pt_cmpR op_eq (pv 1) pe_str (nomark _)) (pss_one (ps_ret (pe_tup (pa_c (pv 1) (pa_c (pv 2) (pa_c (pv 3) (pa_c (pe_callTy call_tuple_of (by rfl) htup (by kernel_rfl) (pa_c (pv 12) pa_nil)) (pa_c (pv 8) pa_nil)))))))) pss_nil)
    (pss_cons (ps_setComp (i:=13) (N:=["_law_one","_law_houses","_law_pen_here"]) (src:=[none,some 7,some 0]) (osc:=defScope sRowOf) (oN:=["_law_pen_here","_law_word","_law_name","_law_day","_law_sorts_here","_law_fields","_law_plots","_law_houses","_law_land","_law_at","_law_house","_law_field","_law_some_here","_law_parts","_law_inch"]) ⟨by rfl,by decide,by decide,by decide,rfl,by rfl⟩ scRowOf.nd rfl
      (pi_list (pv 12))
      fun cl s H fp pins C=>⟨pg_name (i:=0) (show (["_law_one","_law_houses","_law_pen_here"]:List Str).Nodup by decide) rfl (Or.inl rfl),pts_nil,pe_tup (pa_c (pv 0) (pa_c (pe_ix (r:=rIxL K) ix_list (pv 1) (pe_call GT hr1 rfl mT kT bT .nil pass0 (pa_c (pv 2) (pa_c (pe_callB (r:=r_call_len_seq K) call_len_seq (by rfl) hlen PySem.boot_len (pa_c (pv 1) pa_nil)) pa_nil))) (fun _ _=>rfl)) (pa_c (pe_call GN hr rfl mN kN bN .nil pass0 (pa_c (pv 2) (pa_c pe_int (pa_c (pe_op op_pow pe_int pe_int) pa_nil)))) pa_nil)))⟩)
    (pss_one (ps_ret (pe_tup (pa_c (pv 1) (pa_c (pv 2) (pa_c (pv 3) (pa_c (pv 8) (pa_c (pe_callTy call_tuple_of (by rfl) htup (by kernel_rfl) (pa_c (pv 13) pa_nil)) pa_nil)))))))))))
    pss_nil)
   (pss_cons (ps_if (pt_cmpR op_eq (pv 1) pe_str (nomark _)) (pss_one (ps_ret (pe_tup (pa_c (pv 1) (pa_c (pv 2) (pa_c (pv 3) (pa_c (pv 8) (pa_c (pv 10) pa_nil)))))))) pss_nil)
   (pss_cons (ps_if (pt_cmpR op_eq (pv 1) pe_str (nomark _)) (pss_one (ps_ret (pe_tup (pa_c (pv 1) (pa_c (pv 2) (pa_c (pv 3) (pa_c (pv 11) (pa_c (pe_call GN hr rfl mN kN bN .nil pass0 (pa_c (pv 0) (pa_c pe_int (pa_c (pe_op op_pow pe_int pe_int) pa_nil)))) pa_nil)))))))) pss_nil)
   (pss_cons (ps_if (pt_cmpR op_eq (pv 1) pe_str (nomark _)) (pss_one (ps_ret (pe_tup (pa_c (pv 1) (pa_c (pv 2) (pa_c (pv 3) (pa_c (pv 10) (pa_c (pe_ix ix_list (pv 7) (pe_op op_mod (pe_op op_add (pe_op op_add (pv 9) pe_int) (pe_call GT hr1 rfl mT kT bT .nil pass0 (pa_c (pv 0) (pa_c (pe_op op_sub (pe_callB call_len_seq (by rfl) hlen PySem.boot_len (pa_c (pv 7) pa_nil)) pe_int) pa_nil)))) (pe_callB call_len_seq (by rfl) hlen PySem.boot_len (pa_c (pv 7) pa_nil))) (fun _ _=>rfl)) pa_nil)))))))) pss_nil)
   (pss_cons (ps_if (pt_cmpR op_eq (pv 1) pe_str (nomark _)) (pss_one (ps_ret (pe_tup (pa_c (pv 1) (pa_c (pv 2) (pa_c (pv 3) (pa_c (pv 10) pa_nil))))))) pss_nil)
   (pss_cons (ps_set (i:=14) scRowOf.nd rfl (Or.inl rfl) (pe_call GN hr rfl mN kN bN .nil pass0 (pa_c (pv 0) (pa_c pe_int (pa_c (pe_op op_sub (pe_op op_pow pe_int pe_int) pe_int) pa_nil)))))
   (pss_cons (ps_if (pt_cmpR op_eq (pv 1) pe_str (nomark _)) (pss_one (ps_ret (pe_tup (pa_c (pv 1) (pa_c (pv 2) (pa_c (pv 3) (pa_c (pv 11) (pa_c (pv 14) (pa_c (pv 10) pa_nil))))))))) pss_nil)
   (pss_one (ps_ret (pe_tup (pa_c (pv 1) (pa_c (pv 2) (pa_c (pv 3) (pa_c (pv 11) (pa_c (pv 14) (pa_c (pe_call GN hr rfl mN kN bN .nil pass0 (pa_c (pv 0) (pa_c pe_int (pa_c (pe_op op_pow pe_int pe_int) pa_nil)))) (pa_c (pe_call GN hr rfl mN kN bN .nil pass0 (pa_c (pv 0) (pa_c pe_int (pa_c (pe_op op_pow pe_int pe_int) pa_nil)))) pa_nil))))))))))))))))))))),?_⟩
  have fin:∀ (rest:List V) (ds:List PyData) (H':Hp) (a':Int),RdVs false H' rest ds→RowS word ds→FIn word ds fs→PenAt H' p c ns a'→KeepBut p H H'→a≤a'→a'≤a + 80→∀ t,H' t=none→Q (.ref t) (upd H' t (.tup (.str word :: .str name :: .int day :: rest))):=fun rest ds H' a' hR hS hFI h1 h2 h4 h5 t ht=>k t ds rest a' _ upd_same (hR.same (Same.new ht)) hS hFI h4 h5 (h1.same (Same.new ht)) (h2.same (Same.new ht))
  have cp:∀ j:Int,0≤j→j≤1000000→CPow 10 j:=fun j h1 h2=>⟨h1,h2,by decide⟩
  have p6:((10:Int) ^ Int.toNat 6)=1000000:=by decide
  have p7:((10:Int) ^ Int.toNat 7)=10000000:=by decide
  have p9:((10:Int) ^ Int.toNat 9)=1000000000:=by decide
  have e9:(10:Int) ^ 9=1000000000:=by decide
  have z2:(2:Nat)≤sizeLine:=sizeLine_big (by decide)
  have z3:(3:Nat)≤sizeLine:=sizeLine_big (by decide)
  have z4:(4:Nat)≤sizeLine:=sizeLine_big (by decide)
  have z5:(5:Nat)≤sizeLine:=sizeLine_big (by decide)
  have z6:(6:Nat)≤sizeLine:=sizeLine_big (by decide)
  have z7:(7:Nat)≤sizeLine:=sizeLine_big (by decide)
  have b10:=h3.p1
  have b5:=h3.h1
  have bf1:=h3.f1
  have bf2:=h3.f2
  refine ⟨_,rfl,tS,_,rfl,SqT.of htS,rfl,_,_,rfl,_,_,rfl,_,_,rfl,rfl,?_⟩
  refine ⟨_,rfl,_,rfl,_,rfl,lp,_,rfl,.inl (SqL.of h3.p),p,c,ns,a,_,rfl,hp,by omega,by rw[List.length_map];omega,by rw[List.length_map];omega,fun r1 a1 H1 r10 r11 la1 ua1 hp1 kp1=>?_⟩
  have h31:=h3.but hp kp1
  obtain ⟨v,hv,hat⟩:=atI_in (xs:=ps.map V.str) (i:=r1) r10 r11
  obtain ⟨land,hland,rfl⟩:=List.mem_map.mp hv
  have nland:=h3.np.ok land hland
  refine ⟨lp,_,r1,_,rfl,rfl,SqL.of h31.p,hat,?_⟩
  refine ⟨_,rfl,_,rfl,lh,_,rfl,.inl (SqL.of h31.h),p,c,ns,a1,_,rfl,hp1,by omega,by rw[List.length_map];omega,by rw[List.length_map];omega,fun r2 a2 H2 r20 r21 la2 ua2 hp2 kp2=>?_⟩
  have h32:=h31.but hp1 kp2
  rw[List.length_map] at r21
  obtain ⟨j2,rfl⟩:∃ j2:Nat,r2=j2:=⟨r2.toNat,by omega⟩
  obtain ⟨house,hj2⟩:∃ y,hs[j2]?=some y:=⟨_,List.getElem?_eq_getElem (by omega)⟩
  have nhouse:=h3.nh.ok house (List.mem_of_getElem? hj2)
  have hat:atI (hs.map V.str) ((j2:Nat):Int)=some (V.str house):=atI_nat (by rw[List.getElem?_map,hj2];rfl)
  refine ⟨_,rfl,_,rfl,lh,_,(j2:Int),_,rfl,rfl,SqL.of h32.h,hat,?_⟩
  refine ⟨_,rfl,_,rfl,_,rfl,lf,_,rfl,.inl (SqL.of h32.f),p,c,ns,a2,_,rfl,hp2,by omega,by rw[List.length_map];omega,by rw[List.length_map];omega,fun r3 a3 H3 r30 r31 la3 ua3 hp3 kp3=>?_⟩
  have h33:=h32.but hp2 kp3
  obtain ⟨v,hv,hat⟩:=atI_in (xs:=fs.map V.str) (i:=r3) r30 r31
  obtain ⟨field,hfield,rfl⟩:=List.mem_map.mp hv
  have nfield:=h3.nf.ok field hfield
  refine ⟨lf,_,r3,_,rfl,rfl,SqL.of h33.f,hat,?_⟩
  have k3:=(kp1.trans kp2).trans kp3
  refine ⟨_,rfl,z2,fun q hq=>?_⟩
  have sq:=Same.new (o:=.tup [V.str "part",.str "join"]) hq
  have hp4:=hp3.same sq
  have h34:=h33.same sq
  have k4:=k3.same sq
  have hq4:upd H3 q (.tup [V.str "part",.str "join"]) q=_:=upd_same
  refine ⟨q,_,rfl,.inr (SqT.of hq4),rfl,rfl,_,rfl,?_⟩
  generalize upd H3 q (.tup [V.str "part",.str "join"])=H4 at hp4 h34 k4 hq4 ⊢
  refine ite2 (fun g1=>?_) (fun g1=>?_)
  ·refine ⟨_,rfl,_,rfl,_,rfl,p,c,ns,a3,_,rfl,hp4,by omega,by decide,by decide,fun x1 a5 H5 x10 x11 la5 ua5 hp5 kp5=>?_⟩
   refine ⟨_,_,rfl,rfl,z3,fun u hu=>?_⟩
   have su:=Same.new (o:=.lst [V.int 2,.int 6,.int (2 + x1)]) hu
   refine ⟨_,rfl,p,c,ns,a5,_,rfl,hp5.same su,by omega,by decide,by decide,fun x2 a6 H6 x20 x21 la6 ua6 hp6 kp6=>?_⟩
   obtain ⟨v,hv,hat⟩:=atI_in (xs:=[V.int 2,.int 6,.int (2 + x1)]) (i:=x2) x20 (by show x2 < 3;omega)
   obtain ⟨n,rfl,hn,hn2⟩:∃ n:Nat,v=.int n∧n≤6∧2≤n:=by
    simp only [List.mem_cons,List.not_mem_nil,or_false] at hv
    rcases hv with rfl | rfl | rfl
    ·exact ⟨2,rfl,by omega,by omega⟩
    ·exact ⟨6,rfl,by omega,by omega⟩
    ·exact ⟨(2 + x1).toNat,by congr 1;omega,by omega,by omega⟩
   have k46:KeepBut p H4 H6:=(kp5.same su).trans kp6
   refine ⟨u,_,x2,_,rfl,rfl,SqL.of (lst_but upd_same (hp5.same su) kp6),hat,?_⟩
   have h36:=h34.but hp4 k46
   refine ⟨p,c,ns,a6,lp,ps,n,rfl,hp6,by omega,h36.p,b10,hn,fun L ms a7 H7 hL hml hsm hper la7 ua7 hp7 kp7=>?_⟩
   obtain ⟨us,vv,hpu,hpw⟩:=hper
   obtain ⟨hris,hnms⟩:=some_rises hsm hpu hpw h3.np
   have h37:=h36.but hp6 kp7
   have k7:=(k4.trans k46).trans kp7
   refine ⟨_,rfl,rfl,_,rfl,?_⟩
   refine ite2 (fun g2=>?_) (fun g2=>?_)
   ·refine ⟨_,rfl,_,rfl,_,rfl,_,rfl,L,_,rfl,.inl ⟨SqL.of hL,fun tt htt=>?_⟩⟩
    have st:=Same.new (o:=.tup (ms.map V.str)) htt
    have ew:word="join":=by
     have:=of_decide_eq_true g2
     injection this
    have hallN:(ms.map PyData.str).all nameD=true:=by
     rw[List.all_map,List.all_eq_true]
     exact fun z hz=>hnms z hz
    exact ⟨_,rfl,z5,fun t ht=>fin _ [.tuple (ms.map PyData.str),.str land] _ a7 (.cons (.tup upd_same (by rw[List.length_map];omega) (read_strs fun z hz=>by have:=(nameB_len (hnms z hz)).2;omega)) (.cons (nm_rd nland) .nil)) (by rw[ew];exact .join nland hris (by omega) (by omega) hallN) (by rw[ew];exact fun z=>absurd z (by decide)) (hp7.same st) (k7.same st) (by omega) (by omega) t ht⟩
   ·refine ⟨_,rfl,L,rfl,⟨_,SqL.of hL⟩,?_⟩
    refine comp_list (K:=K) (xs:=ms.map V.str) (fun i ys σ' H'=>Ex2 fun (a':Int) (o:Option V)=>Aw7 (σ'=[o,some (.ref lh),some (.ref p)]) (PenAt H' p c ns a') (KeepBut p H7 H') (a7≤a') (a'≤a7 + 4 * i) (ys.length=i) (Ex1 fun (R:List P3)=>Aw3 (RdVs false H' ys (R.map pD)) (R.map (·.1)=ms.take i) ((R.map pD).all partD=true)))
     ⟨a7,none,rfl,hp7,KeepBut.refl p H7,by omega,by omega,rfl,[],.nil,by simp,rfl⟩ (sizeLine_big (by rw[List.length_map];omega)) (fun i ys σ H p=>by obtain ⟨_,_,_,_,_,_,_,e,_⟩:=p;omega) (fun i ys σ H p=>by obtain ⟨_,_,_,_,kk,_⟩:=p;exact SqL.of (lst_but hL hp7 kk)) ?_ ?_
    ·rintro i x ys σ' H8 hx ⟨a8,o,rfl,hp8,k8,la8,ua8,hyl,R,rR,eR,aR⟩
     have hi:i < ms.length:=by
      have:=(List.getElem?_eq_some_iff.mp hx).1
      simpa using this
     have ex:x=V.str ms[i]:=by
      rw[List.getElem?_map,List.getElem?_eq_getElem hi] at hx
      cases hx
      rfl
     subst ex
     have nmi:=hnms _ (List.getElem_mem hi)
     dsimp only [gName]
     have hh8:=lst_but h37.h hp7 k8
     refine iteT ?_
     refine ⟨_,rfl,_,rfl,_,rfl,_,rfl,lh,_,rfl,.inl (SqL.of hh8),p,c,ns,a8,_,rfl,hp8,by omega,by rw[List.length_map];omega,by rw[List.length_map];omega,fun r4 a9 H9 r40 r41 la9 ua9 hp9 kp9=>?_⟩
     obtain ⟨v,hv,hat⟩:=atI_in (xs:=hs.map V.str) (i:=r4) r40 r41
     obtain ⟨hse,hhse,rfl⟩:=List.mem_map.mp hv
     have nhse:=h3.nh.ok hse hhse
     refine ⟨lh,_,r4,_,rfl,rfl,SqL.of (lst_but hh8 hp8 kp9),hat,?_⟩
     refine ⟨_,rfl,_,_,rfl,rfl,cp _ (by decide) (by decide),p,c,ns,a9,1,10000000,(by show [V.ref p,V.int 1,V.int ((10:Int) ^ Int.toNat 7)] ++ []=_;rw[p7];rfl),hp9,by omega,by decide,by decide,by omega,fun n1 b1 G1 n10 n11 lb1 ub1 hpb kpb=>?_⟩
     refine ⟨z3,fun q1 hq1=>?_⟩
     have sq1:=Same.new (o:=.tup [V.str ms[i],.str hse,.int n1]) hq1
     refine ⟨b1,_,rfl,hpb.same sq1,((k8.trans kp9).trans kpb).same sq1,by omega,by omega,by rw[List.length_append,hyl];rfl,R ++ [(ms[i],hse,n1)],?_,?_,?_⟩
     ·rw[List.map_append]
      exact RdVs.app ((rds_but (rds_but rR hp8 kp9) hp9 kpb).same sq1) (.cons (.tup upd_same (by show 3≤1000;decide) (.cons (nm_rd nmi) (.cons (nm_rd nhse) (.cons (.int n1) .nil)))) .nil)
     ·rw[List.map_append,eR,List.take_add_one,List.getElem?_eq_getElem hi]
      rfl
     ·rw[List.map_append,List.all_append,aR]
      show (true && ((nameB ms[i] && nameB hse && decide (1≤n1∧n1≤10000000)) && true))=true
      rw[nmi,nhse,decide_eq_true (show 1≤n1∧n1≤10000000 from ⟨n10,n11⟩)]
      rfl
    ·rintro ys σ' H8 ⟨a8,o,rfl,hp8,k8,la8,ua8,hyl,R,rR,eR,aR⟩ D hD
     rw[List.length_map] at ua8
     have sD:=Same.new (o:=.lst ys) hD
     refine ⟨_,rfl,_,rfl,_,rfl,_,rfl,_,rfl,D,_,rfl,.inl ⟨SqL.of upd_same,fun tt htt=>?_⟩⟩
     have st:=Same.new (o:=.tup ys) htt
     have ew:word="part":=by
      have h0:"part"=word∨"join"=word:=by simpa [inV,eqV] using g1
      have h1:word="part"∨word="join":=h0.imp Eq.symm Eq.symm
      rcases h1 with h1 | h1
      ·exact h1
      ·exact absurd (decide_eq_true (by rw[h1])) g2
     rw[List.length_map,List.take_length] at eR
     have hRl:R.length=ms.length:=by rw[← eR,List.length_map]
     have hRr:RiseP R:=by
      have:=of_decide_eq_true hris
      rw[← eR] at this
      exact (List.pairwise_map (f:=fun x:P3=>x.1) (R:=fun a b:Str=>a.cps.toList < b.cps.toList)).mp this
     exact ⟨z5,fun t ht=>fin _ [.str land,.tuple (R.map pD)] _ a8 (.cons (nm_rd nland) (.cons (.tup upd_same (by rw[hyl,List.length_map];omega) ((rR.same sD).same st)) .nil)) (by rw[ew];exact .part nland hRr (by omega) (by omega) aR) (by rw[ew];exact fun z=>absurd z (by decide)) ((hp8.same sD).same st) (((k7.trans k8).same sD).same st) (by omega) (by omega) t ht⟩
  ·refine ⟨_,rfl,rfl,_,rfl,?_⟩
   refine ite2 (fun g2=>?_) (fun g2=>?_)
   ·have ew:word="forfeit":=by
     have:=of_decide_eq_true g2
     injection this
    exact ⟨_,rfl,_,rfl,_,rfl,_,rfl,_,rfl,z5,fun t ht=>fin _ [.str land,.str house] _ a3 (.cons (nm_rd nland) (.cons (nm_rd nhouse) .nil)) (by rw[ew];exact .forfeit nland nhouse) (by rw[ew];exact fun z=>absurd z (by decide)) hp4 k4 (by omega) (by omega) t ht⟩
   ·refine ⟨_,rfl,rfl,_,rfl,?_⟩
    refine ite2 (fun g3=>?_) (fun g3=>?_)
    ·refine ⟨_,rfl,_,rfl,_,rfl,_,rfl,_,rfl,_,_,rfl,rfl,cp _ (by decide) (by decide),p,c,ns,a3,0,10000000,(by show [V.ref p,V.int 0,V.int ((10:Int) ^ Int.toNat 7)] ++ []=_;rw[p7];rfl),hp4,by omega,by decide,by decide,by omega,fun n1 b1 G1 n10 n11 lb1 ub1 hpb kpb=>?_⟩
     have ew:word="measure":=by
      have:=of_decide_eq_true g3
      injection this
     exact ⟨z5,fun t ht=>fin _ [.str field,.int n1] _ b1 (.cons (nm_rd nfield) (.cons (.int n1) .nil)) (by rw[ew];exact .measure nfield n10 n11) (fun _ z rest e=>by cases e;exact hfield) hpb (k4.trans kpb) (by omega) (by omega) t ht⟩
    ·refine ⟨_,rfl,rfl,_,rfl,?_⟩
     refine ite2 (fun g4=>?_) (fun g4=>?_)
     ·refine ⟨_,rfl,_,rfl,_,rfl,_,rfl,_,rfl,_,rfl,_,_,rfl,rfl,_,rfl,_,rfl,lh,_,rfl,.inl (SqL.of h34.h),_,_,rfl,rfl,p,c,ns,a3,_,rfl,hp4,by omega,by rw[List.length_map];omega,by rw[List.length_map];omega,fun r4 b1 G1 r40 r41 lb1 ub1 hpb kpb=>?_⟩
      have hh:=lst_but h34.h hp4 kpb
      refine ⟨_,_,rfl,rfl,_,rfl,lh,_,rfl,.inl (SqL.of hh),_,_,rfl,rfl,by rw[List.length_map];omega,?_⟩
      have e5:((hs.map V.str).length:Int)=5:=by rw[List.length_map,b5];rfl
      rw[e5] at r41
      obtain ⟨j4,ej4⟩:∃ j4:Nat,((j2:Int) + 1 + r4) % ((hs.map V.str).length:Int)=j4:=⟨(((j2:Int) + 1 + r4) % ((hs.map V.str).length:Int)).toNat,by rw[e5];omega⟩
      have hj4:j4 < 5∧j4≠j2:=by
       rw[e5] at ej4
       omega
      obtain ⟨other,hot⟩:∃ y,hs[j4]?=some y:=⟨_,List.getElem?_eq_getElem (by omega)⟩
      have nother:=h3.nh.ok other (List.mem_of_getElem? hot)
      have hne:house≠other:=fun z=>by
       have hl2:j2 < hs.length:=by omega
       have hl4:j4 < hs.length:=by omega
       rw[List.getElem?_eq_getElem hl2] at hj2
       rw[List.getElem?_eq_getElem hl4] at hot
       injection hj2 with hj2
       injection hot with hot
       rw[← hj2,← hot] at z
       exact hj4.2 ((List.getElem_inj h3.nh.nd).mp z).symm
      have hat4:atI (hs.map V.str) ((j4:Nat):Int)=some (V.str other):=atI_nat (by rw[List.getElem?_map,hot];rfl)
      rw[← ej4] at hat4
      have ew:word="mend":=by
       have:=of_decide_eq_true g4
       injection this
      refine ⟨lh,_,_,_,rfl,rfl,SqL.of hh,hat4,?_⟩
      exact ⟨z5,fun t ht=>fin _ [.str house,.str other] _ b1 (.cons (nm_rd nhouse) (.cons (nm_rd nother) .nil)) (by rw[ew];exact .mend nhouse nother hne) (by rw[ew];exact fun z=>absurd z (by decide)) hpb (k4.trans kpb) (by omega) (by omega) t ht⟩
     ·refine ⟨_,rfl,rfl,_,rfl,?_⟩
      refine ite2 (fun g5=>?_) (fun g5=>?_)
      ·have ew:word="alone":=by
        have:=of_decide_eq_true g5
        injection this
       exact ⟨_,rfl,_,rfl,_,rfl,_,rfl,z4,fun t ht=>fin _ [.str house] _ a3 (.cons (nm_rd nhouse) .nil) (by rw[ew];exact .alone nhouse) (by rw[ew];exact fun z=>absurd z (by decide)) hp4 k4 (by omega) (by omega) t ht⟩
      ·refine ⟨_,rfl,_,_,rfl,rfl,cp _ (by decide) (by decide),_,_,rfl,rfl,p,c,ns,a3,0,9999999,(by show [V.ref p,V.int 0,V.int ((10:Int) ^ Int.toNat 7 - 1)] ++ []=_;rw[p7];rfl),hp4,by omega,by decide,by decide,by omega,fun n1 b1 G1 n10 n11 lb1 ub1 hpb kpb=>?_⟩
       refine ⟨_,rfl,rfl,_,rfl,?_⟩
       refine ite2 (fun g6=>?_) (fun g6=>?_)
       ·have ew:word="view":=by
         have:=of_decide_eq_true g6
         injection this
        exact ⟨_,rfl,_,rfl,_,rfl,_,rfl,_,rfl,_,rfl,z6,fun t ht=>fin _ [.str field,.int n1,.str house] _ b1 (.cons (nm_rd nfield) (.cons (.int n1) (.cons (nm_rd nhouse) .nil))) (by rw[ew];exact .view nfield n10 n11 nhouse) (fun _ z rest e=>by cases e;exact hfield) hpb (k4.trans kpb) (by omega) (by omega) t ht⟩
       ·refine ⟨_,rfl,_,rfl,_,rfl,_,rfl,_,rfl,_,rfl,_,_,rfl,rfl,cp _ (by decide) (by decide),p,c,ns,b1,0,1000000000,(by show [V.ref p,V.int 0,V.int ((10:Int) ^ Int.toNat 9)] ++ []=_;rw[p9];rfl),hpb,by omega,by decide,by decide,by omega,fun n2 b2 G2 n20 n21 lb2 ub2 hpb2 kpb2=>?_⟩
        refine ⟨_,rfl,_,_,rfl,rfl,cp _ (by decide) (by decide),p,c,ns,b2,0,1000000,(by show [V.ref p,V.int 0,V.int ((10:Int) ^ Int.toNat 6)] ++ []=_;rw[p6];rfl),hpb2,by omega,by decide,by decide,by omega,fun n3 b3 G3 n30 n31 lb3 ub3 hpb3 kpb3=>?_⟩
        have ew:word="breach":=by
         have ng:∀ z:Str,¬ decide (V.str word=V.str z)=true→word≠z:=fun z hz e=>hz (decide_eq_true (by rw[e]))
         have hg1:word≠"part"∧word≠"join":=by
          constructor
          ·intro z;exact g1 (by rw[z];rfl)
          ·intro z;exact g1 (by rw[z];rfl)
         have hm:=hwd
         simp only [words8,List.mem_cons,List.not_mem_nil,or_false] at hm
         rcases hm with z | z | z | z | z | z | z | z
         ·exact absurd z hg1.1
         ·exact absurd z hg1.2
         ·exact absurd z (ng _ g2)
         ·exact absurd z (ng _ g3)
         ·exact absurd z (ng _ g4)
         ·exact absurd z (ng _ g5)
         ·exact z
         ·exact absurd z (ng _ g6)
        exact ⟨z7,fun t ht=>fin _ [.str field,.int n1,.int n2,.int n3] _ b3 (.cons (nm_rd nfield) (.cons (.int n1) (.cons (.int n2) (.cons (.int n3) .nil)))) (by rw[ew];exact .breach nfield n10 n11 n20 n21 n30 n31) (fun _ z rest e=>by cases e;exact hfield) hpb3 (((k4.trans kpb).trans kpb2).trans kpb3) (by omega) (by omega) t ht⟩
end
end K5
namespace K5
open PySem L2
inductive I_spTurned (vs:List V) (H:Hp) (Q:VK) (u3_:XK):Prop
 | mk (p c:Addr) (ns:List Int) (a:Int) (l:Addr) (xs:List V) (q0:vs=[.ref p,.ref l]) (q1:PenAt H p c ns a) (q2:a≤800000) (q3:H l=some (.tup xs)) (q4:xs.length≤6) (q5:∀ (q:Addr) (ys:List V) (a':Int) (H':Hp),H q=none→H' q=some (.lst ys)→ys.Perm xs→a≤a'→a'≤a + 6→PenAt H' p c ns a'→KeepBut p H H'→Q (.ref q) H'):I_spTurned vs H Q u3_
def spTurned:Sp:=fun vs H Q u3_=>I_spTurned vs H Q u3_
section
variable {P:Program}{w:World}{K:W.Frag}{mg:Str→Option Value}{base:Heap}
theorem scTurned:FnScope ["_law_pen_here","_law_some_here","_law_left"] ["_law_pen_here","_law_some_here"] (defScope sTurned):=⟨rfl,rfl,rfl,by decide,rfl,by decide,by decide⟩
theorem ok_turned {f fT:Addr}{fd fdT:FuncData} (F:Fun K "_law_turned" "_law_turned" sTurned f fd) (hlist:mg "list"=none) (hrng:mg "range"=none) (hlen:mg "len"=none)
  (GT:FnOk P w K mg base CX0 1 fT fdT ["_law_pen_here","_law_many"] spTake) (mT:mg "_law_take"=some (.ref fT)) (kT:W.keepIn K (.ref fT)=true) (bT:Binds K fdT ["_law_pen_here","_law_many"] []):
  FnOk P w K mg base CX0 2 f fd ["_law_pen_here","_law_some_here"] spTurned:=by
 refine F.ok scTurned (fun vs H Q E h=>?_) (fun cdv A outer s H vs Q E hr h=>?_)
 ·obtain ⟨p,c,ns,a,l,xs,rfl,_⟩:=h
  rfl
 ·obtain ⟨p,c,ns,a,l,xs,rfl,hp,ha,hl,hxl,k⟩:=h
  refine ⟨_,pss_cons (ps_set (i:=2) scTurned.nd rfl (Or.inr rfl) (pe_callTy call_list_of (by rfl) hlist (by kernel_rfl) (pa_c (pv 1) pa_nil)))
   (pss_one (ps_ret (pe_comp (N:=["_law_k","_law_left","_law_pen_here"]) (src:=[none,some 2,some 0]) (osc:=defScope sTurned) (oN:=["_law_pen_here","_law_some_here","_law_left"]) ⟨by rfl,by decide,by decide,by decide,rfl,by rfl⟩
     (pi_range1 rfl hrng (pa_c (pe_callB call_len_seq (by rfl) hlen PySem.boot_len (pa_c (pv 1) pa_nil)) pa_nil))
     fun cl s H fp pins C=>⟨pg_name (i:=0) (show (["_law_k","_law_left","_law_pen_here"]:List Str).Nodup by decide) rfl (Or.inl rfl),pts_nil,pe_bmK (K:=K) PySem.F.plainAttrs_list PySem.F.slot_list_pop PySem.F.type_list_pop mt_popAt (pv 1) (pa_c (pe_call GT hr rfl mT kT bT .nil pass0 (pa_c (pv 2) (pa_c (pe_callB (r:=r_call_len_seq K) call_len_seq (by rfl) hlen PySem.boot_len (pa_c (pv 1) pa_nil)) pa_nil))) pa_nil)⟩))),?_⟩
  refine ⟨_,rfl,l,_,rfl,.inr (SqT.of hl),fun L hL=>?_⟩
  have s0:=Same.new (o:=.lst xs) hL
  have nLp:L≠p:=by
   obtain ⟨z,_,e⟩:=hp.ob
   exact (ne_of_none e hL).symm
  have nLc:L≠c:=(ne_of_none hp.ce hL).symm
  refine ⟨_,rfl,l,_,rfl,.inr (SqT.of (s0 _ _ hl)),xs.length,rfl,by omega,by omega,?_⟩
  refine comp_range (fun i ys σ' H'=>Ex3 fun (a':Int) (vs:List V) (o:Option V)=>Aw9 (σ'=[o,some (.ref L),some (.ref p)]) (PenAt H' p c ns a') (KeepBut p H H') (a≤a') (a'≤a + i) (ys.length=i) (H' L=some (.lst vs)) (vs.length + i=xs.length) ((ys ++ vs).Perm xs))
   ⟨a,xs,none,rfl,hp.same s0,Same.but s0,by omega,by omega,rfl,upd_same,by omega,List.Perm.refl _⟩ (sizeLine_big (by omega)) (fun i ys σ H p=>by obtain ⟨_,_,_,_,_,_,_,_,e,_⟩:=p;omega) ?_ ?_
  ·rintro i ys σ' H1 hi ⟨a1,vs,o,rfl,hp1,kp1,la1,ua1,hul,hL1,hvl,hpe⟩
   dsimp only [gName]
   refine iteT ?_
   refine ⟨_,rfl,.inl ⟨rfl,_,SqL.of hL1⟩,_,rfl,_,rfl,L,_,rfl,.inl (SqL.of hL1),p,c,ns,a1,_,rfl,hp1,by omega,by omega,by omega,fun r1 a2 H2 r10 r11 la2 ua2 hp2 kp2=>?_⟩
   obtain ⟨j,rfl⟩:∃ j:Nat,r1=j:=⟨r1.toNat,by omega⟩
   have hL2:=lst_but hL1 hp1 kp2
   obtain ⟨y,hy⟩:∃ y,vs[j]?=some y:=⟨_,List.getElem?_eq_getElem (by omega)⟩
   have hsx:seqIndex? (j:Int) vs.length=some j:=by
    unfold seqIndex?
    simp
    omega
   refine ⟨L,_,_,j,y,rfl,rfl,hL2,by omega,by omega,hsx,hy,?_⟩
   refine ⟨a2,vs.eraseIdx j,_,rfl,?_,?_,by omega,by omega,by rw[List.length_append,hul];rfl,upd_same,?_,?_⟩
   ·obtain ⟨⟨z,hz,e⟩,ce,ge,sm⟩:=hp2
    exact ⟨⟨z,hz,by rw[upd_ne nLp.symm];exact e⟩,by rw[upd_ne nLc.symm];exact ce,ge,sm⟩
   ·intro b o e ne
    rw[upd_ne (ne_of_none e hL)]
    exact (kp1.trans kp2) b o e ne
   ·rw[List.length_eraseIdx_of_lt (by omega)]
    omega
   ·rw[List.append_assoc]
    exact (List.Perm.append_left ys (erase_perm vs j y hy)).trans hpe
  ·rintro ys σ' H1 ⟨a1,vs,o,rfl,hp1,kp1,la1,ua1,hul,hL1,hvl,hpe⟩ D hD
   have sD:=Same.new (o:=.lst ys) hD
   have hv0:vs=[]:=List.eq_nil_of_length_eq_zero (by have:=Int.toNat_natCast xs.length;omega)
   rw[hv0,List.append_nil] at hpe
   have hHD:H D=none:=by
    cases e:H D with
    | none=>rfl
    | some x=>
     by_cases z:D=p
     ·obtain ⟨y,_,e2⟩:=hp1.ob
      rw[z] at hD
      rw[hD] at e2
      cases e2
     ·exact absurd (kp1 D x e z) (by rw[hD];simp)
   exact k D ys a1 _ hHD upd_same hpe (by omega) (by have:=Int.toNat_natCast xs.length;omega) (hp1.same sD) (kp1.same sD)
end
end K5
namespace K5
open PySem L2
def hid (F:Addr) (H:Hp):Hp:=fun a=>if a=F then none else H a
theorem hid_upd {F:Addr}{H:Hp}{o:HO}:hid F (upd H F o)=hid F H:=by
 funext a
 unfold hid
 by_cases h:a=F
 ·rw[if_pos h,if_pos h]
 ·rw[if_neg h,if_neg h,upd_ne h]
theorem hid_some {F a:Addr}{H:Hp}{o:HO} (h:hid F H a=some o):a≠F∧H a=some o:=by
 unfold hid at h
 by_cases z:a=F
 ·rw[if_pos z] at h;cases h
 ·rw[if_neg z] at h;exact ⟨z,h⟩
theorem hid_at {F a:Addr}{H:Hp}{o:HO} (n:a≠F) (h:H a=some o):hid F H a=some o:=by
 unfold hid
 rw[if_neg n]
 exact h
theorem hid_keep {F:Addr}{H H':Hp}{m:Bool}{xs:List V}{ds:List PyData} (r:RdVs m (hid F H) xs ds) (k:∀ a o,a≠F→H a=some o→(∀ kv r,o≠.dK (kv :: r))→H' a=some o):RdVs m (hid F H') xs ds:=
 r.keep fun a o e n=>by
  obtain ⟨z,e'⟩:=hid_some e
  exact hid_at z (k a o z e' n)
theorem hid_out {F:Addr}{H:Hp}{m:Bool}{xs:List V}{ds:List PyData} (r:RdVs m (hid F H) xs ds):RdVs m H xs ds:=r.keep fun a o e _=>(hid_some e).2
theorem hid_in {F:Addr}{H H':Hp}{m:Bool}{xs:List V}{ds:List PyData} (r:RdVs m H xs ds) (hF:H F=none) (s:Same H H'):RdVs m (hid F H') xs ds:=
 r.keep fun a o e _=>hid_at (fun z=>by rw[z,hF] at e;cases e) (s a o e)
theorem RdVs.set {m:Bool}{H:Hp}:∀ {xs:List V}{ds:List PyData}{j:Nat}{x:V}{d:PyData},RdVs m H xs ds→RdV m H x d→RdVs m H (xs.set j x) (ds.set j d)
 | _,_,_,_,_,.nil,_=>.nil
 | _,_,0,_,_,.cons a r,h=>.cons h r
 | _,_,j + 1,_,_,.cons a r,h=>.cons a (RdVs.set r h)
theorem perm_rds {m:Bool}{H:Hp}:∀ {ys xs:List V},ys.Perm xs→∀ {ds:List PyData},RdVs m H xs ds→∃ es:List PyData,es.Perm ds∧RdVs m H ys es:=by
 intro ys xs hp
 induction hp with
 | nil=>intro ds r;exact ⟨ds,.refl _,r⟩
 | cons a _ ih=>
  intro ds r
  cases r with
  | cons r1 r2=>
   obtain ⟨es,h1,h2⟩:=ih r2
   exact ⟨_ :: es,h1.cons _,.cons r1 h2⟩
 | swap a b l=>
  intro ds r
  cases r with
  | cons r1 r2=>
   cases r2 with
   | cons r3 r4=>exact ⟨_ :: _ :: _,.swap _ _ _,.cons r3 (.cons r1 r4)⟩
 | trans _ _ ih1 ih2=>
  intro ds r
  obtain ⟨es,h1,h2⟩:=ih2 r
  obtain ⟨fs,h3,h4⟩:=ih1 h2
  exact ⟨fs,h3.trans h1,h4⟩
theorem perm_of_map {α:Type} (f:α→PyData):∀ {l l':List PyData},l.Perm l'→∀ {R:List α},l'=R.map f→∃ T:List α,T.Perm R∧l=T.map f:=by
 intro l l' hp
 induction hp with
 | nil=>intro R e;exact ⟨R,.refl _,e⟩
 | cons a _ ih=>
  intro R e
  cases R with
  | nil=>cases e
  | cons x R=>
   injection e with e1 e2
   obtain ⟨T,h1,h2⟩:=ih e2
   exact ⟨x :: T,h1.cons _,by rw[e1,h2];rfl⟩
 | swap a b l=>
  intro R e
  cases R with
  | nil=>cases e
  | cons x R=>
   cases R with
   | nil=>injection e with e1 e2;cases e2
   | cons y R=>
    injection e with e1 e2
    injection e2 with e2 e3
    exact ⟨y :: x :: R,.swap _ _ _,by rw[e1,e2,e3];rfl⟩
 | trans _ _ ih1 ih2=>
  intro R e
  obtain ⟨T,h1,h2⟩:=ih2 e
  obtain ⟨U,h3,h4⟩:=ih1 h2
  exact ⟨U,h3.trans h1,h4⟩
inductive ItemTo:PyData→PyData→Prop
 | same {d:PyData} (h:isSeq d=false):ItemTo d d
 | lst {es gs:List PyData} (hp:(gs.map (tupD 1)).Perm es):ItemTo (.tuple es) (.list gs)
 | tup {es gs:List PyData} (hp:(gs.map (tupD 1)).Perm es):ItemTo (.tuple es) (.tuple gs)
theorem tupD_id {d:PyData} (h:isSeq d=false) (n:Nat):tupD n d=d:=by
 cases n with
 | zero=>rfl
 | succ n=>
  cases d with
  | list ds=>simp[isSeq] at h
  | tuple ds=>simp[isSeq] at h
  | _=>rfl
theorem ItemTo.two {d g:PyData} (h:ItemTo d g):tupD 2 g=d∨∃ es ls,d=.tuple es∧tupD 2 g=.tuple ls∧ls.Perm es:=by
 cases h with
 | same h=>exact .inl (tupD_id h 2)
 | @lst es gs hp=>exact .inr ⟨es,gs.map (tupD 1),rfl,rfl,hp⟩
 | @tup es gs hp=>exact .inr ⟨es,gs.map (tupD 1),rfl,rfl,hp⟩
inductive All2:List PyData→List PyData→Prop
 | nil:All2 [] []
 | cons {d g:PyData} {ds gs:List PyData} (h:ItemTo d g) (r:All2 ds gs):All2 (d :: ds) (g :: gs)
theorem All2.of:∀ {ds gs:List PyData},ds.length=gs.length→(∀ (j:Nat) (d g:PyData),ds[j]?=some d→gs[j]?=some g→ItemTo d g)→All2 ds gs
 | [],[],_,_=>.nil
 | d :: ds,g :: gs,hl,h=>.cons (h 0 d g rfl rfl) (All2.of (by simpa using hl) fun j a b ha hb=>h (j + 1) a b (by simpa using ha) (by simpa using hb))
theorem All2.one {d:PyData}{ds gs:List PyData} (h:All2 (d :: ds) gs) (hd:isSeq d=false):∃ gs',gs.map (tupD 2)=d :: gs'.map (tupD 2)∧All2 ds gs':=by
 cases h with
 | @cons _ g _ gs' h r=>
  refine ⟨gs',?_,r⟩
  rw[List.map_cons]
  rcases h.two with e | ⟨es,ls,e,_⟩
  ·rw[e]
  ·rw[e] at hd;simp[isSeq] at hd
theorem All2.tup {es ds gs:List PyData} (h:All2 (.tuple es :: ds) gs):∃ ls gs',gs.map (tupD 2)=.tuple ls :: gs'.map (tupD 2)∧ls.Perm es∧All2 ds gs':=by
 cases h with
 | @cons _ g _ gs' h r=>
  cases h with
  | same h=>simp[isSeq] at h
  | @lst _ gg hp=>exact ⟨gg.map (tupD 1),gs',rfl,hp,r⟩
  | @tup _ gg hp=>exact ⟨gg.map (tupD 1),gs',rfl,hp,r⟩
theorem All2.end {gs:List PyData} (h:All2 [] gs):gs.map (tupD 2)=[]:=by cases h;rfl
theorem listed_ord {word name:Str}{day:Int}{ds gs:List PyData} (h:RowS word ds) (ha:All2 (.str word :: .str name :: .int day :: ds) gs):OrdTo (.tuple (gs.map (tupD 2))) (rowDat word name day ds):=by
 obtain ⟨g1,e1,h1⟩:=ha.one rfl
 obtain ⟨g2,e2,h2⟩:=h1.one rfl
 obtain ⟨g3,e3,h3⟩:=h2.one rfl
 rw[e1,e2,e3]
 cases h with
 | @part land R hl hr h2' h6 hall=>
  obtain ⟨g4,e4,h4⟩:=h3.one rfl
  obtain ⟨ls,g5,e5,hp,h5⟩:=h4.tup
  rw[e4,e5,h5.end]
  obtain ⟨T,hT,rfl⟩:=perm_of_map pD hp rfl
  have hTl:=hT.length_eq
  refine .part hT hr (by omega) (by omega) ?_
  rw[List.all_eq_true] at hall ⊢
  exact fun x hx=>hall x ((hT.map pD).mem_iff.mp hx)
 | @join land R hl hr h2' h6 hall=>
  obtain ⟨ls,g4,e4,hp,h4⟩:=h3.tup
  obtain ⟨g5,e5,h5⟩:=h4.one rfl
  rw[e4,e5,h5.end]
  obtain ⟨T,hT,rfl⟩:=perm_of_map PyData.str hp rfl
  have hTl:=hT.length_eq
  refine .join hT hr (by omega) ?_
  rw[List.all_eq_true] at hall ⊢
  exact fun x hx=>hall x ((hT.map PyData.str).mem_iff.mp hx)
 | @forfeit land house hl hh=>
  obtain ⟨g4,e4,h4⟩:=h3.one rfl
  obtain ⟨g5,e5,h5⟩:=h4.one rfl
  rw[e4,e5,h5.end]
  exact .other (by decide) (by decide)
 | @measure field n hf h0 h1'=>
  obtain ⟨g4,e4,h4⟩:=h3.one rfl
  obtain ⟨g5,e5,h5⟩:=h4.one rfl
  rw[e4,e5,h5.end]
  exact .other (by decide) (by decide)
 | @mend house other hh ho hne=>
  obtain ⟨g4,e4,h4⟩:=h3.one rfl
  obtain ⟨g5,e5,h5⟩:=h4.one rfl
  rw[e4,e5,h5.end]
  exact .other (by decide) (by decide)
 | @alone house hh=>
  obtain ⟨g4,e4,h4⟩:=h3.one rfl
  rw[e4,h4.end]
  exact .short (by simp)
 | @breach field n1 n2 n3 hf _ _ _ _ _ _=>
  obtain ⟨g4,e4,h4⟩:=h3.one rfl
  obtain ⟨g5,e5,h5⟩:=h4.one rfl
  obtain ⟨g6,e6,h6⟩:=h5.one rfl
  obtain ⟨g7,e7,h7⟩:=h6.one rfl
  rw[e4,e5,e6,e7,h7.end]
  exact .short (by simp)
 | @view field house n1 hf _ _ hh=>
  obtain ⟨g4,e4,h4⟩:=h3.one rfl
  obtain ⟨g5,e5,h5⟩:=h4.one rfl
  obtain ⟨g6,e6,h6⟩:=h5.one rfl
  rw[e4,e5,e6,h6.end]
  exact .short (by simp)
def smallD:PyData→Bool
 | .str _=>true
 | .tuple es=>es.all fun e=>!isSeq e
 | _=>false
theorem RowS.inner {word:Str}{ds:List PyData} (h:RowS word ds):∀ d∈ds,isSeq d=false∨∃ es,d=.tuple es∧es.length≤6∧es.all smallD=true:=by
 intro d hd
 cases h with
 | @part land R hl hr h2' h6 hall=>
  simp only [List.mem_cons,List.not_mem_nil,or_false] at hd
  rcases hd with rfl | rfl
  ·exact .inl rfl
  ·refine .inr ⟨_,rfl,by rw[List.length_map];exact h6,?_⟩
   rw[List.all_map,List.all_eq_true]
   exact fun x _=>rfl
 | @join land R hl hr h2' h6 hall=>
  simp only [List.mem_cons,List.not_mem_nil,or_false] at hd
  rcases hd with rfl | rfl
  ·refine .inr ⟨_,rfl,by rw[List.length_map];exact h6,?_⟩
   rw[List.all_map,List.all_eq_true]
   exact fun x _=>rfl
  ·exact .inl rfl
 | forfeit hl hh=>
  simp only [List.mem_cons,List.not_mem_nil,or_false] at hd
  rcases hd with rfl | rfl <;> exact .inl rfl
 | measure hf h0 h1'=>
  simp only [List.mem_cons,List.not_mem_nil,or_false] at hd
  rcases hd with rfl | rfl <;> exact .inl rfl
 | mend hh ho hne=>
  simp only [List.mem_cons,List.not_mem_nil,or_false] at hd
  rcases hd with rfl | rfl <;> exact .inl rfl
 | alone hh=>
  simp only [List.mem_cons,List.not_mem_nil,or_false] at hd
  rcases hd with rfl;exact .inl rfl
 | breach hf _ _ _ _ _ _=>
  simp only [List.mem_cons,List.not_mem_nil,or_false] at hd
  rcases hd with rfl | rfl | rfl | rfl <;> exact .inl rfl
 | view hf _ _ hh=>
  simp only [List.mem_cons,List.not_mem_nil,or_false] at hd
  rcases hd with rfl | rfl | rfl <;> exact .inl rfl
theorem small_one {e:PyData} (h:smallD e=true):tupD 1 e=e∧∀ ds,e=.tuple ds→tupD 1 (.list ds)=e:=by
 cases e with
 | str z=>exact ⟨rfl,fun ds z=>nomatch z⟩
 | tuple ds=>
  have h0:ds.map (tupD 0)=ds:=by
   have:∀ l:List PyData,l.map (tupD 0)=l:=fun l=>by
    induction l with
    | nil=>rfl
    | cons a l ih=>rw[List.map_cons,ih];rfl
   exact this ds
  refine ⟨?_,fun ds' z=>?_⟩
  ·show PyData.tuple (ds.map (tupD 0))=_
   rw[h0]
  ·cases z
   show PyData.tuple (ds.map (tupD 0))=_
   rw[h0]
 | _=>simp[smallD] at h
def SmallOk (e:PyData):Prop:=(isSeq e=false∧OkD 102 0 e)∨∃ is:List PyData,e=.tuple is∧is.length≤3∧∀ i∈is,OkD 102 0 i
theorem map_tup0:∀ l:List PyData,l.map (tupD 0)=l
 | []=>rfl
 | a :: l=>by rw[List.map_cons,map_tup0 l];rfl
theorem tup1_ok {g:PyData} (h:SmallOk (tupD 1 g)):OkD 315 1 g:=by
 have go:∀ is:List PyData,SmallOk (.tuple is)→is.length≤3∧∀ i∈is,OkD 102 0 i:=fun is z=>by
  rcases z with ⟨z,_⟩ | ⟨is',z,h1,h2⟩
  ·simp[isSeq] at z
  ·cases z;exact ⟨h1,h2⟩
 cases g with
 | list is=>
  have h':SmallOk (.tuple (is.map (tupD 0))):=h
  rw[map_tup0] at h'
  obtain ⟨h1,h2⟩:=go is h'
  exact OkD.list h2 h1
 | tuple is=>
  have h':SmallOk (.tuple (is.map (tupD 0))):=h
  rw[map_tup0] at h'
  obtain ⟨h1,h2⟩:=go is h'
  exact OkD.tuple h2 h1
 | _=>
  rcases h with ⟨_,z⟩ | ⟨_,z,_⟩
  ·exact OkD.mono z (by decide) (by decide)
  ·cases z
theorem RowS.ok {word:Str}{ds:List PyData} (h:RowS word ds):∀ d∈ds,(isSeq d=false∧OkD 102 0 d)∨∃ es,d=.tuple es∧es.length≤6∧∀ e∈es,SmallOk e:=by
 have nm:∀ {z:Str},nameB z=true→isSeq (PyData.str z)=false∧OkD 102 0 (.str z):=fun h=>⟨rfl,OkD.name h⟩
 have it:∀ {i:Int},0≤i→i≤1000000000→isSeq (PyData.int i)=false∧OkD 102 0 (.int i):=fun h0 h1=>⟨rfl,OkD.int h0 (Int.lt_of_le_of_lt h1 (by decide))⟩
 intro d hd
 cases h with
 | @part land R hl hr h2' h6 hall=>
  simp only [List.mem_cons,List.not_mem_nil,or_false] at hd
  rcases hd with rfl | rfl
  ·exact .inl (nm hl)
  ·refine .inr ⟨_,rfl,by rw[List.length_map];exact h6,fun e he=>?_⟩
   obtain ⟨x,hx,rfl⟩:=List.mem_map.mp he
   have hp:=List.all_eq_true.mp hall _ he
   have hp':(nameB x.1 && nameB x.2.1 && decide (1≤x.2.2∧x.2.2≤10000000))=true:=hp
   rw[Bool.and_eq_true,Bool.and_eq_true] at hp'
   have hb:=of_decide_eq_true hp'.2
   refine .inr ⟨_,rfl,by simp,fun i hi=>?_⟩
   simp only [List.mem_cons,List.not_mem_nil,or_false] at hi
   rcases hi with rfl | rfl | rfl
   ·exact (nm hp'.1.1).2
   ·exact (nm hp'.1.2).2
   ·exact (it (by omega) (by omega)).2
 | @join land R hl hr h2' h6 hall=>
  simp only [List.mem_cons,List.not_mem_nil,or_false] at hd
  rcases hd with rfl | rfl
  ·refine .inr ⟨_,rfl,by rw[List.length_map];exact h6,fun e he=>?_⟩
   obtain ⟨x,hx,rfl⟩:=List.mem_map.mp he
   exact .inl (nm (List.all_eq_true.mp hall _ he))
  ·exact .inl (nm hl)
 | forfeit hl hh=>
  simp only [List.mem_cons,List.not_mem_nil,or_false] at hd
  rcases hd with rfl | rfl
  ·exact .inl (nm hl)
  ·exact .inl (nm hh)
 | measure hf h0 h1'=>
  simp only [List.mem_cons,List.not_mem_nil,or_false] at hd
  rcases hd with rfl | rfl
  ·exact .inl (nm hf)
  ·exact .inl (it h0 (by omega))
 | mend hh ho hne=>
  simp only [List.mem_cons,List.not_mem_nil,or_false] at hd
  rcases hd with rfl | rfl
  ·exact .inl (nm hh)
  ·exact .inl (nm ho)
 | alone hh=>
  simp only [List.mem_cons,List.not_mem_nil,or_false] at hd
  rcases hd with rfl
  exact .inl (nm hh)
 | breach hf h10 h11 h20 h21 h30 h31=>
  simp only [List.mem_cons,List.not_mem_nil,or_false] at hd
  rcases hd with rfl | rfl | rfl | rfl
  ·exact .inl (nm hf)
  ·exact .inl (it h10 (by omega))
  ·exact .inl (it h20 (by omega))
  ·exact .inl (it h30 (by omega))
 | view hf h10 h11 hh=>
  simp only [List.mem_cons,List.not_mem_nil,or_false] at hd
  rcases hd with rfl | rfl | rfl
  ·exact .inl (nm hf)
  ·exact .inl (it h10 (by omega))
  ·exact .inl (nm hh)
theorem All2.mem:∀ {ds gs:List PyData}{g:PyData},All2 ds gs→g∈gs→∃ d∈ds,ItemTo d g
 | _,_,_,.nil,h=>by simp at h
 | _,_,_,.cons h r,hg=>by
  rcases List.mem_cons.mp hg with rfl | z
  ·exact ⟨_,by simp,h⟩
  ·obtain ⟨d,hd,hi⟩:=All2.mem r z
   exact ⟨d,by simp[hd],hi⟩
theorem All2.len:∀ {ds gs:List PyData},All2 ds gs→gs.length=ds.length
 | _,_,.nil=>rfl
 | _,_,.cons _ r=>by rw[List.length_cons,List.length_cons,All2.len r]
theorem words_name {w:Str} (h:w∈words8):nameB w=true:=by
 have:∀ w∈words8,nameB w=true:=by decide
 exact this w h
theorem RowS.word {word:Str}{ds:List PyData} (h:RowS word ds):word∈words8:=by
 cases h <;> decide
theorem RowS.len {word:Str}{ds:List PyData} (h:RowS word ds):ds.length≤4:=by
 cases h <;> simp
theorem row_ok {word name:Str}{day:Int}{ds:List PyData} (h:RowS word ds) (hn:nameB name=true) (h0:0≤day) (h1:day≤9999):∀ d∈(PyData.str word :: PyData.str name :: PyData.int day :: ds),(isSeq d=false∧OkD 102 0 d)∨∃ es,d=.tuple es∧es.length≤6∧∀ e∈es,SmallOk e:=fun d hd=>by
 simp only [List.mem_cons] at hd
 rcases hd with rfl | rfl | rfl | hd
 ·exact .inl ⟨rfl,OkD.name (words_name h.word)⟩
 ·exact .inl ⟨rfl,OkD.name hn⟩
 ·exact .inl ⟨rfl,OkD.int h0 (Int.lt_of_le_of_lt h1 (by decide))⟩
 ·exact h.ok d hd
theorem listed_ok {dF gs:List PyData} (h:∀ d∈dF,(isSeq d=false∧OkD 102 0 d)∨∃ es,d=.tuple es∧es.length≤6∧∀ e∈es,SmallOk e) (ha:All2 dF gs) (h7:dF.length≤7):OkD 13352 3 (.list gs)∧OkD 13352 3 (.tuple gs):=by
 have hl:=ha.len
 have each:∀ g∈gs,OkD 1905 2 g:=fun g hg=>by
  obtain ⟨d,hd,hi⟩:=ha.mem hg
  have many:∀ {es gg:List PyData},PyData.tuple es∈dF→(gg.map (tupD 1)).Perm es→gg.length≤6∧∀ x∈gg,OkD 315 1 x:=fun {es gg} hm hp=>by
   rcases h _ hm with ⟨z,_⟩ | ⟨es',z,h6,hs⟩
   ·simp[isSeq] at z
   ·cases z
    have hpl:=hp.length_eq
    rw[List.length_map] at hpl
    exact ⟨by omega,fun x hx=>tup1_ok (hs _ (hp.mem_iff.mp (List.mem_map.mpr ⟨x,hx,rfl⟩)))⟩
  cases hi with
  | same hq=>
   rcases h _ hd with ⟨_,z⟩ | ⟨es,rfl,_⟩
   ·exact OkD.mono z (by decide) (by decide)
   ·simp[isSeq] at hq
  | lst hp=>
   obtain ⟨m1,m2⟩:=many hd hp
   exact OkD.list m2 m1
  | tup hp=>
   obtain ⟨m1,m2⟩:=many hd hp
   exact OkD.tuple m2 m1
 exact ⟨OkD.list (n:=7) each (by omega),OkD.tuple (n:=7) each (by omega)⟩
theorem All2.refl_of:∀ {dF:List PyData},(∀ d∈dF,isSeq d=false∨∃ es,d=.tuple es∧es.all smallD=true)→All2 dF dF
 | [],_=>.nil
 | d :: dF,h=>by
  refine .cons ?_ (All2.refl_of fun x hx=>h x (by simp[hx]))
  rcases h d (by simp) with z | ⟨es,rfl,hs⟩
  ·exact .same z
  ·refine .tup ?_
   have:es.map (tupD 1)=es:=by
    have:∀ l:List PyData,l.all smallD=true→l.map (tupD 1)=l:=fun l=>by
     induction l with
     | nil=>intro _;rfl
     | cons a l ih=>
      intro z
      rw[List.all_cons,Bool.and_eq_true] at z
      rw[List.map_cons,(small_one z.1).1,ih z.2]
    exact this es hs
   rw[this]
end K5
namespace K5
open PySem L2
inductive I_ListN (H H':Hp) (x:V):Prop
 | mk (q:_) (xs:_) (q0:x=.ref q) (q1:H q=none) (q2:(H' q=some (.lst xs)∨H' q=some (.tup xs))) (q3:∀ b,V.ref b∈xs→∀ ys,H' b=some (.lst ys)→H b=none∧b≠q):I_ListN H H' x
def ListN (H H':Hp) (x:V):Prop:=I_ListN H H' x
inductive I_spListed (vs:List V) (H:Hp) (Q:VK) (u3_:XK):Prop
 | mk (p c:Addr) (ns:List Int) (a:Int) (tr:Addr) (word name:Str) (day:Int) (ds:List PyData) (q0:vs=[.ref p,.ref tr]) (q1:PenAt H p c ns a) (q2:a≤700000) (q3:RdV false H (.ref tr) (rowDat word name day ds)) (q4:RowS word ds) (q5:nameB name=true) (q6:0≤day) (q7:day≤9999) (q8:∀ (x:V) (d2:PyData) (a':Int) (H':Hp),RdV true H' x d2→OkD 13352 3 d2→OrdTo (tupD 3 d2) (rowDat word name day ds)→ListN H H' x→a≤a'→a'≤a + 200→PenAt H' p c ns a'→KeepBut p H H'→Q x H'):I_spListed vs H Q u3_
def spListed:Sp:=fun vs H Q u3_=>I_spListed vs H Q u3_
theorem pen_upd {H:Hp}{p c b:Addr}{ns:List Int}{a:Int}{o:HO} (hp:PenAt H p c ns a) (h1:b≠p) (h2:b≠c):PenAt (upd H b o) p c ns a:=by
 obtain ⟨⟨z,hz,e⟩,ce,ge,sm⟩:=hp
 exact ⟨⟨z,hz,by rw[upd_ne h1.symm];exact e⟩,by rw[upd_ne h2.symm];exact ce,ge,sm⟩
theorem pen_none {H:Hp}{p c b:Addr}{ns:List Int}{a:Int} (hp:PenAt H p c ns a) (h:H b=none):b≠p∧b≠c:=by
 refine ⟨?_,(ne_of_none hp.ce h).symm⟩
 obtain ⟨z,_,e⟩:=hp.ob
 exact (ne_of_none e h).symm
theorem but_none {H H':Hp}{p c b:Addr}{ns:List Int}{a:Int} (k:KeepBut p H H') (hp:PenAt H' p c ns a) (h:H' b=none):H b=none:=by
 cases e:H b with
 | none=>rfl
 | some x=>exact absurd (k b x e (pen_none hp h).1) (by rw[h];simp)
theorem nolist {H:Hp}{b:Addr}:∀ {xs:List V}{ds:List PyData},RdVs false H xs ds→V.ref b∈xs→∃ o,H b=some o∧∀ ys,o≠.lst ys
 | _,_,.nil,h=>by simp at h
 | _,_,.cons a r,h=>by
  rcases List.mem_cons.mp h with z | z
  ·cases a with
   | lst hm e hl r=>cases hm
   | tup e hl r=>cases z;exact ⟨_,e,fun ys z=>nomatch z⟩
   | dct hm e=>cases z;exact ⟨_,e,fun ys z=>nomatch z⟩
   | _=>cases z
  ·exact nolist r z
theorem nodict_parts:∀ R:List P3,PyData.hasDictAll (R.map pD)=false
 | []=>rfl
 | x :: R=>by
  show ((pD x).hasDict || PyData.hasDictAll (R.map pD))=false
  rw[nodict_parts R]
  rfl
theorem nodict_strs:∀ R:List Str,PyData.hasDictAll (R.map PyData.str)=false
 | []=>rfl
 | x :: R=>by
  show ((PyData.str x).hasDict || PyData.hasDictAll (R.map PyData.str))=false
  rw[nodict_strs R]
  rfl
theorem RowS.nodict {word:Str}{ds:List PyData} (h:RowS word ds):PyData.hasDictAll ds=false:=by
 cases h with
 | @part land R _ _ _ _ _=>
  show (false || (PyData.hasDictAll (R.map pD) || false))=false
  rw[nodict_parts]
  rfl
 | @join land R _ _ _ _ _=>
  show (PyData.hasDictAll (R.map PyData.str) || (false || false))=false
  rw[nodict_strs]
  rfl
 | _=>rfl
theorem hid_mid {F:Addr}{H H':Hp}{m:Bool}{x:V}{d:PyData} (r:RdV m H x d) (hF:H F=none) (k:∀ a o,H a=some o→(∀ kv r,o≠.dK (kv :: r))→H' a=some o):RdV m (hid F H') x d:=
 r.keep fun a o e n=>hid_at (fun z=>by rw[z,hF] at e;cases e) (k a o e n)
theorem mem_rd {H:Hp}{b:Addr}:∀ {xs:List V}{ds:List PyData},RdVs true H xs ds→V.ref b∈xs→∃ o,H b=some o∧∀ kv r,o≠.dK (kv :: r)
 | _,_,.nil,h=>by simp at h
 | _,_,.cons a r,h=>by
  rcases List.mem_cons.mp h with z | z
  ·cases a with
   | lst hm e hl r=>cases z;exact ⟨_,e,fun _ _ z=>nomatch z⟩
   | tup e hl r=>cases z;exact ⟨_,e,fun _ _ z=>nomatch z⟩
   | dct hm e=>cases hm
   | _=>cases z
  ·exact mem_rd r z
theorem upd_but {H0 H:Hp}{p b:Addr}{o:HO} (k:KeepBut p H0 H) (h:H0 b=none):KeepBut p H0 (upd H b o):=fun a u e ne=>by
 rw[upd_ne (ne_of_none e h)]
 exact k a u e ne
section
variable {P:Program}{w:World}{K:W.Frag}{mg:Str→Option Value}{base:Heap}
theorem scListed:FnScope ["_law_pen_here","_law_row_here","_law_found","_law_at","_law_some_here"] ["_law_pen_here","_law_row_here"] (defScope sListed):=⟨rfl,rfl,rfl,by decide,rfl,by decide,by decide⟩
theorem ok_listed {f fT fU:Addr}{fd fdT fdU:FuncData} (F:Fun K "_law_listed" "_law_listed" sListed f fd) (T:Txt K mg) (hlist:mg "list"=none) (hrng:mg "range"=none)
  (GT:FnOk P w K mg base CX0 1 fT fdT ["_law_pen_here","_law_many"] spTake) (mT:mg "_law_take"=some (.ref fT)) (kT:W.keepIn K (.ref fT)=true) (bT:Binds K fdT ["_law_pen_here","_law_many"] [])
  (GU:FnOk P w K mg base CX0 2 fU fdU ["_law_pen_here","_law_some_here"] spTurned) (mU:mg "_law_turned"=some (.ref fU)) (kU:W.keepIn K (.ref fU)=true) (bU:Binds K fdU ["_law_pen_here","_law_some_here"] []):
  FnOk P w K mg base CX0 3 f fd ["_law_pen_here","_law_row_here"] spListed:=by
 refine F.ok scListed (fun vs H Q E h=>?_) (fun cdv A outer s H vs Q E hr h=>?_)
 ·obtain ⟨p,c,ns,a,tr,word,name,day,ds,rfl,_⟩:=h
  rfl
 ·obtain ⟨p,c,ns,a,tr,word,name,day,ds,rfl,hp,ha,hrd,hS,hnm,hday0,hday1,k⟩:=h
  have hr1:Room 1 _:=hr.mono (by decide)
  refine ⟨_,pss_cons (ps_set (i:=2) scListed.nd rfl (Or.inl rfl) (pe_callTy call_list_of (by rfl) hlist (by kernel_rfl) (pa_c (pv 1) pa_nil)))
   (pss_cons (ps_for PassesOwn.never rfl (pi_range1 rfl hrng (pa_c (pe_callB call_len_seq (by rfl) T.len PySem.boot_len (pa_c (pv 1) pa_nil)) pa_nil)) (pg_name (i:=3) scListed.nd rfl (Or.inl rfl))
    (pss_one (ps_if (pt_val (pe_callB call_isinst (by rfl) T.isi (by kernel_rfl) (pa_c (pe_ix ix_tup (pv 1) (pv 3) (fun _ _=>rfl)) (pa_c (pe_bltn (v:=.ty "tuple") (by rfl) T.tuple (by kernel_rfl) rfl) pa_nil))))
     (pss_cons (ps_set (i:=4) scListed.nd rfl (Or.inl rfl) (pe_call GU hr rfl mU kU bU .nil pass0 (pa_c (pv 0) (pa_c (pe_ix ix_tup (pv 1) (pv 3) (fun _ _=>rfl)) pa_nil))))
     (pss_cons (ps_setComp (i:=4) (N:=["_law_one","_law_pen_here"]) (src:=[none,some 0]) (osc:=defScope sListed) (oN:=["_law_pen_here","_law_row_here","_law_found","_law_at","_law_some_here"]) ⟨by rfl,by decide,by decide,by decide,rfl,by rfl⟩ scListed.nd rfl
       (pi_list (pv 4))
       fun cl s H fp pins C=>⟨pg_name (i:=0) (show (["_law_one","_law_pen_here"]:List Str).Nodup by decide) rfl (Or.inl rfl),pts_nil,pe_ifExp (PW.pt (pw_and (pt_val (pe_callB (r:=r_call_isinst K) call_isinst (by rfl) T.isi (by kernel_rfl) (pa_c (pv 0) (pa_c (pe_bltn (v:=.ty "tuple") (by rfl) T.tuple (by kernel_rfl) rfl) pa_nil)))) (pw_and1 (pt_cmpR op_eq (pe_call GT hr1 rfl mT kT bT .nil pass0 (pa_c (pv 1) (pa_c pe_int pa_nil))) pe_int (nomark _))))) (pe_callTy (r:=r_call_list_of K) call_list_of (by rfl) hlist (by kernel_rfl) (pa_c (pv 0) pa_nil)) (pv 0)⟩)
     (pss_one (ps_asg (pe_ix ix_list (pe_lst (pa_c (pv 4) (pa_c (pe_callTy call_tuple_of (by rfl) T.tuple (by kernel_rfl) (pa_c (pv 4) pa_nil)) pa_nil))) (pe_call GT hr1 rfl mT kT bT .nil pass0 (pa_c (pv 0) (pa_c pe_int pa_nil))) (fun _ _=>rfl)) (pg_sub (pv 2) (pv 3) set_list))))) pss_nil)))
   (pss_one (ps_ret (pe_ix ix_list (pe_lst (pa_c (pv 2) (pa_c (pe_callTy call_tuple_of (by rfl) T.tuple (by kernel_rfl) (pa_c (pv 2) pa_nil)) pa_nil))) (pe_call GT hr1 rfl mT kT bT .nil pass0 (pa_c (pv 0) (pa_c pe_int pa_nil))) (fun _ _=>rfl))))),?_⟩
  have hrd':RdV false H (.ref tr) (.tuple (.str word :: .str name :: .int day :: ds)):=hrd
  have hin:∀ d∈(PyData.str word :: PyData.str name :: PyData.int day :: ds),isSeq d=false∨∃ es,d=.tuple es∧es.length≤6∧es.all smallD=true:=fun d hd=>by
   simp only [List.mem_cons] at hd
   rcases hd with rfl | rfl | rfl | hd
   ·exact .inl rfl
   ·exact .inl rfl
   ·exact .inl rfl
   ·exact hS.inner d hd
  have hnd:PyData.hasDictAll (PyData.str word :: PyData.str name :: PyData.int day :: ds)=false:=by
   show (false || (false || (false || PyData.hasDictAll ds)))=false
   rw[hS.nodict]
   rfl
  have hd7:(PyData.str word :: PyData.str name :: PyData.int day :: ds).length≤7:=by
   have:=hS.len
   simp only [List.length_cons]
   omega
  have hfin:∀ gs,All2 (PyData.str word :: PyData.str name :: PyData.int day :: ds) gs→OrdTo (.tuple (gs.map (tupD 2))) (rowDat word name day ds):=fun gs h=>listed_ord hS h
  have hok:∀ gs,All2 (PyData.str word :: PyData.str name :: PyData.int day :: ds) gs→OkD 13352 3 (.list gs)∧OkD 13352 3 (.tuple gs):=fun gs h=>listed_ok (row_ok hS hnm hday0 hday1) h hd7
  generalize (PyData.str word :: PyData.str name :: PyData.int day :: ds)=dF at hrd' hin hnd hd7 hfin hok
  generalize rowDat word name day ds=dR at hfin k
  clear hrd hS
  cases hrd' with
  | @tup _ xs _ e hl r=>
  have hlen:=r.len
  have r3:=r.flip hnd true
  refine ⟨_,rfl,tr,_,rfl,.inr (SqT.of e),fun F hF=>?_⟩
  have s0:=Same.new (o:=.lst xs) hF
  obtain ⟨nFp,nFc⟩:=pen_none hp hF
  refine ⟨_,rfl,tr,_,rfl,.inr (SqT.of (s0 _ _ e)),xs.length,rfl,by omega,by omega,for_range (n:=(xs.length:Int).toNat) (fun i σ H'=>Ex5 fun (o3 o4:Option V) (a':Int) (fs:List V) (gs:List PyData)=>Aw10 (σ=[some (.ref p),some (.ref tr),some (.ref F),o3,o4]) (PenAt H' p c ns a') (a≤a') (a'≤a + 20 * i) (KeepBut p H H') (H' F=some (.lst fs)) (RdVs true (hid F H') fs gs) (gs.length=dF.length) ((∀ (j:Nat) (d g:PyData),dF[j]?=some d→gs[j]?=some g→if j < i then ItemTo d g else g=d)) (∀ b,V.ref b∈fs→∀ ys,H' b=some (.lst ys)→H b=none∧b≠F))
   ⟨_,_,a,xs,dF,rfl,hp.same s0,by omega,by omega,Same.but s0,upd_same,hid_in r3 hF s0,rfl,(fun j d g h1 h2=>by
    rw[if_neg (Nat.not_lt_zero j)]
    rw[h1] at h2
    cases h2
    rfl),fun b hb ys h=>by
     obtain ⟨o,ho,hno⟩:=nolist r hb
     rw[upd_ne (ne_of_none ho hF),ho] at h
     cases h
     exact absurd rfl (hno ys)⟩ ?_ ?_⟩
  ·rintro i σ H1 hi ⟨o3,o4,a1,fs,gs,rfl,hp1,la1,ua1,k1,hF1,rg,hgl,hit,hnew⟩
   dsimp only [gName]
   have hi':i < xs.length:=by have:=Int.toNat_natCast xs.length;omega
   have e1:=k1 _ _ e (pen_ne hp e (fun _ _ z=>nomatch z))
   obtain ⟨y,hy⟩:∃ y,xs[i]?=some y:=⟨_,List.getElem?_eq_getElem hi'⟩
   have hat:atI xs ((0:Int) + (i:Nat))=some y:=by
    rw[Int.zero_add]
    exact atI_nat hy
   obtain ⟨d,hd,rd⟩:=r3.at hy
   have rd1:=rd_but rd hp k1
   have hdm:d∈dF:=List.mem_of_getElem? hd
   refine ⟨_,rfl,_,rfl,tr,_,_,_,rfl,rfl,SqT.of e1,hat,?_⟩
   refine ⟨_,"tuple",_,_,rfl,ty_of rd1,kit_tup d,_,rfl,?_⟩
   refine ite2 (fun g=>?_) (fun g=>?_)
   ·obtain ⟨es,rfl,hes6,hsm⟩:∃ es,d=.tuple es∧es.length≤6∧es.all smallD=true:=by
     rcases hin d hdm with z | z
     ·cases d with
      | tuple es=>simp[isSeq] at z
      | _=>simp[isTup] at g
     ·exact z
    cases rd with
    | @tup b zs _ eb hzl rz=>
    have hzlen:=rz.len
    have eb1:=k1 _ _ eb (pen_ne hp eb (fun _ _ z=>nomatch z))
    refine ⟨_,rfl,_,rfl,_,rfl,tr,_,_,_,rfl,rfl,SqT.of e1,hat,p,c,ns,a1,b,zs,rfl,hp1,by omega,eb1,by omega,fun q ys a2 H2 hq hq2 hpm la2 ua2 hp2 kp2=>?_⟩
    obtain ⟨es',hes',rys⟩:=perm_rds hpm rz
    have hyl:=rys.len
    have hys6:ys.length≤6:=by rw[hpm.length_eq];omega
    have hsm':∀ e∈es',smallD e=true:=fun e he=>List.all_eq_true.mp hsm e (hes'.mem_iff.mp he)
    have k2:=k1.trans kp2
    have hF2:=lst_but hF1 hp1 kp2
    refine ⟨_,rfl,q,rfl,⟨_,SqL.of hq2⟩,?_⟩
    refine comp_list (K:=K) (xs:=ys) (fun i2 us σ' H'=>Ex3 fun (a':Int) (o:Option V) (gs1:List PyData)=>Aw8 (σ'=[o,some (.ref p)]) (PenAt H' p c ns a') (KeepBut p H2 H') (a2≤a') (a'≤a2 + i2) (RdVs true (hid F H') us gs1) (gs1.map (tupD 1)=es'.take i2) (us.length=i2))
     ⟨a2,none,[],rfl,hp2,KeepBut.refl p H2,by omega,by omega,.nil,by simp,rfl⟩ (sizeLine_big (by omega)) (fun i ys σ H p=>by obtain ⟨_,_,_,_,_,_,_,_,_,_,e⟩:=p;omega) (fun i us σ H p=>by obtain ⟨_,_,_,_,_,kk,_⟩:=p;exact SqL.of (lst_but hq2 hp2 kk)) ?_ ?_
    ·rintro i2 x us σ' H3 hx ⟨a3,o,gs1,rfl,hp3,k3,la3,ua3,ru,eg,hul⟩
     dsimp only [gName]
     have hi2:i2 < ys.length:=(List.getElem?_eq_some_iff.mp hx).1
     obtain ⟨e2,he2,rx⟩:=rys.at hx
     have hs2:=hsm' e2 (List.mem_of_getElem? he2)
     obtain ⟨t1,t2⟩:=small_one hs2
     have kA:KeepBut p H H3:=k2.trans k3
     have rx3:=rd_but rx hp kA
     have hF3:=lst_but hF2 hp2 k3
     have etk:∀ g,tupD 1 g=e2→(gs1 ++ [g]).map (tupD 1)=es'.take (i2 + 1):=fun g hg=>by
      rw[List.map_append,eg,List.take_add_one,he2]
      show _ ++ [tupD 1 g]=_
      rw[hg]
      rfl
     have asis:∀ (H4:Hp) (a4:Int),PenAt H4 p c ns a4→KeepBut p H3 H4→a3≤a4→a4≤a3 + 1→Ex3 fun (a':Int) (o:Option V) (gs1:List PyData)=>Aw8 (([some x,some (.ref p)]:St)=[o,some (.ref p)]) (PenAt H4 p c ns a') (KeepBut p H2 H4) (a2≤a') (a'≤a2 + ((i2 + 1:Nat):Int)) (RdVs true (hid F H4) (us ++ [x]) gs1) (gs1.map (tupD 1)=es'.take (i2 + 1)) ((us ++ [x]).length=i2 + 1):=fun H4 a4 hp4 k4 l4 u4=>
      ⟨a4,_,gs1 ++ [e2],rfl,hp4,k3.trans k4,by omega,by omega,RdVs.app (hid_keep ru fun a o _ e n=>k4 a o e (pen_ne hp3 e n)) (.cons (hid_mid rx hF fun a o e n=>(kA.trans k4) a o e (pen_ne hp e n)) .nil),etk e2 t1,by rw[List.length_append,hul];rfl⟩
     refine iteT ?_
     refine ⟨_,rfl,_,"tuple",_,_,rfl,ty_of rx3,kit_tup e2,_,rfl,?_⟩
     refine ite2 (fun g2=>?_) (fun g2=>?_)
     ·refine ⟨_,rfl,p,c,ns,a3,_,rfl,hp3,by omega,by decide,by decide,fun r4 a4 H4 r40 r41 la4 ua4 hp4 kp4=>?_⟩
      refine ⟨rfl,_,rfl,?_⟩
      refine ite2 (fun g3=>?_) (fun g3=>?_)
      ·obtain ⟨ds2,rfl⟩:∃ ds2,e2=.tuple ds2:=by
        cases e2 with
        | tuple z=>exact ⟨z,rfl⟩
        | _=>simp[isTup] at g2
       cases rx with
       | @tup b2 zs2 _ eb2 hz2 rz2=>
       have eb4:=(kA.trans kp4) _ _ eb2 (pen_ne hp eb2 (fun _ _ z=>nomatch z))
       refine ⟨_,rfl,b2,zs2,rfl,.inr (SqT.of eb4),fun L1 hL1=>?_⟩
       have sL1:=Same.new (o:=.lst zs2) hL1
       have nLF:L1≠F:=(ne_of_none (lst_but hF3 hp3 kp4) hL1).symm
       refine ⟨a4,_,gs1 ++ [.list ds2],rfl,hp4.same sL1,(k3.trans kp4).same sL1,by omega,by omega,RdVs.app (hid_keep ru fun a o _ e n=>sL1 _ _ (kp4 a o e (pen_ne hp3 e n))) (.cons (.lst rfl (hid_at nLF upd_same) hz2 (rz2.keep fun a o e n=>hid_at (fun z=>by rw[z,hF] at e;cases e) (sL1 _ _ ((kA.trans kp4) a o e (pen_ne hp e n))))) .nil),etk _ (t2 ds2 rfl),by rw[List.length_append,hul];rfl⟩
      ·exact ⟨_,rfl,asis H4 a4 hp4 kp4 la4 ua4⟩
     ·exact ⟨_,rfl,asis H3 a3 hp3 (KeepBut.refl p H3) (by omega) (by omega)⟩
    ·rintro us σ' H3 ⟨a3,o,gs1,rfl,hp3,k3,la3,ua3,ru,eg,hul⟩ D hD
     have hF3:=lst_but hF2 hp2 k3
     have kA:KeepBut p H H3:=k2.trans k3
     have nDF:D≠F:=(ne_of_none hF3 hD).symm
     have hHD:H D=none:=but_none kA hp3 hD
     have sD:=Same.new (o:=.lst us) hD
     refine ⟨_,rfl,_,rfl,D,_,rfl,.inl ⟨SqL.of upd_same,fun T2 hT2=>?_⟩⟩
     have sT:=Same.new (o:=.tup us) hT2
     refine ⟨sizeLine_big (by show 2≤1000000;decide),fun W hW=>?_⟩
     have sW:=Same.new (o:=.lst [V.ref D,.ref T2]) hW
     have sA:=(sD.trans sT).trans sW
     refine ⟨_,rfl,p,c,ns,a3,_,rfl,hp3.same sA,by omega,by decide,by decide,fun r5 a5 H5 r50 r51 la5 ua5 hp5 kp5=>?_⟩
     obtain ⟨v,hv,hat5⟩:=atI_in (xs:=[V.ref D,.ref T2]) (i:=r5) r50 (by show r5 < 2;omega)
     have k35:KeepBut p H3 H5:=(Same.but sA).trans kp5
     have hpA:=hp3.same sA
     have hD5:H5 D=some (.lst us):=lst_but (sW _ _ (sT _ _ upd_same)) hpA kp5
     have hT5:H5 T2=some (.tup us):=tup_but (sW _ _ upd_same) hpA kp5
     have hW5:H5 W=some (.lst [V.ref D,.ref T2]):=lst_but upd_same hpA kp5
     have hF5:=lst_but hF3 hp3 k35
     have nTF:T2≠F:=(ne_of_none (sD _ _ hF3) hT2).symm
     have ru5:RdVs true (hid F H5) us gs1:=hid_keep ru fun a o _ e n=>k35 a o e (pen_ne hp3 e n)
     have rg5:RdVs true (hid F H5) fs gs:=hid_keep rg fun a o _ e n=>(kp2.trans (k3.trans k35)) a o e (pen_ne hp1 e n)
     have hpe:(gs1.map (tupD 1)).Perm es:=by
      rw[eg,List.take_of_length_le (by omega)]
      exact hes'
     have hul6:us.length≤1000:=by omega
     obtain ⟨g2,rv,hg2,hvn⟩:∃ g2,RdV true (hid F H5) v g2∧ItemTo (.tuple es) g2∧∀ b ys,v=.ref b→H5 b=some (.lst ys)→H b=none∧b≠F:=by
      simp only [List.mem_cons,List.not_mem_nil,or_false] at hv
      rcases hv with rfl | rfl
      ·exact ⟨.list gs1,.lst rfl (hid_at nDF hD5) hul6 ru5,.lst hpe,fun b ys z _=>by cases z;exact ⟨hHD,nDF⟩⟩
      ·exact ⟨.tuple gs1,.tup (hid_at nTF hT5) hul6 ru5,.tup hpe,fun b ys z y=>by cases z;rw[hT5] at y;cases y⟩
     have hfl:fs.length=dF.length:=by rw[rg.len,hgl]
     have hix:ixN fs.length ((0:Int) + (i:Nat))=some i:=by
      unfold ixN
      rw[Int.zero_add,if_pos (by omega),if_pos (by omega)]
      simp
     refine ⟨W,_,r5,_,rfl,rfl,SqL.of hW5,hat5,?_⟩
     refine ⟨_,rfl,_,rfl,F,fs,_,i,rfl,rfl,hF5,hix,?_⟩
     refine ⟨_,_,a5,fs.set i v,gs.set i g2,rfl,pen_upd hp5 nFp nFc,by omega,by omega,upd_but (kA.trans k35) hF,upd_same,(by rw[hid_upd];exact RdVs.set rg5 rv),by rw[List.length_set];exact hgl,fun j d' g' h1 h2=>?_,fun b hb ys hby=>?_⟩
     ·by_cases hji:j=i
      ·subst hji
       rw[if_pos (Nat.lt_succ_self _)]
       rw[hd] at h1
       cases h1
       rw[List.getElem?_set_self (by omega)] at h2
       cases h2
       exact hg2
      ·rw[List.getElem?_set_ne (fun z=>hji z.symm)] at h2
       have:=hit j d' g' h1 h2
       by_cases hlt:j < i
       ·rw[if_pos hlt] at this
        rw[if_pos (by omega)]
        exact this
       ·rw[if_neg hlt] at this
        rw[if_neg (by omega)]
        exact this
     ·have hbF:b≠F:=by
       rcases List.mem_or_eq_of_mem_set hb with z | z
       ·obtain ⟨o,ho,_⟩:=mem_rd rg5 z
        exact (hid_some ho).1
       ·subst z
        cases rv with
        | lst hm e hl r=>exact (hid_some e).1
        | tup e hl r=>exact (hid_some e).1
        | dct hm e=>cases hm
      rw[upd_ne hbF] at hby
      rcases List.mem_or_eq_of_mem_set hb with z | z
      ·obtain ⟨o,ho,hno⟩:=mem_rd rg z
       have ho1:=(hid_some ho).2
       have ho5:=(kp2.trans (k3.trans k35)) b o ho1 (pen_ne hp1 ho1 hno)
       rw[hby] at ho5
       cases ho5
       exact hnew b z ys ho1
      ·exact hvn b ys z.symm hby
   ·have hsq:isSeq d=false:=by
     rcases hin d hdm with z | ⟨es,rfl,_⟩
     ·exact z
     ·exact absurd rfl g
    refine ⟨_,_,a1,fs,gs,rfl,hp1,la1,by omega,k1,hF1,rg,hgl,fun j d' g' h1 h2=>?_,hnew⟩
    have:=hit j d' g' h1 h2
    by_cases hji:j=i
    ·subst hji
     rw[if_pos (Nat.lt_succ_self _)]
     rw[if_neg (Nat.lt_irrefl _)] at this
     rw[hd] at h1
     cases h1
     rw[this]
     exact .same hsq
    ·by_cases hlt:j < i
     ·rw[if_pos hlt] at this
      rw[if_pos (by omega)]
      exact this
     ·rw[if_neg hlt] at this
      rw[if_neg (by omega)]
      exact this
  ·rintro σ H1 ⟨o3,o4,a1,fs,gs,rfl,hp1,la1,ua1,k1,hF1,rg,hgl,hit,hnew⟩
   have hnn:=Int.toNat_natCast xs.length
   have hfl:fs.length=dF.length:=by rw[rg.len,hgl]
   have hall:All2 dF gs:=All2.of (by omega) fun j d g h1 h2=>by
    have hj:=(List.getElem?_eq_some_iff.mp h1).1
    have:=hit j d g h1 h2
    rw[if_pos (by omega)] at this
    exact this
   refine ⟨_,rfl,_,rfl,F,_,rfl,.inl ⟨SqL.of hF1,fun T2 hT2=>?_⟩⟩
   have sT:=Same.new (o:=.tup fs) hT2
   refine ⟨sizeLine_big (by show 2≤1000000;decide),fun W hW=>?_⟩
   have sW:=Same.new (o:=.lst [V.ref F,.ref T2]) hW
   have sA:=sT.trans sW
   have hpA:=hp1.same sA
   refine ⟨_,rfl,p,c,ns,a1,_,rfl,hpA,by omega,by decide,by decide,fun r5 a5 H5 r50 r51 la5 ua5 hp5 kp5=>?_⟩
   obtain ⟨v,hv,hat5⟩:=atI_in (xs:=[V.ref F,.ref T2]) (i:=r5) r50 (by show r5 < 2;omega)
   have k15:KeepBut p H1 H5:=(Same.but sA).trans kp5
   have hW5:H5 W=some (.lst [V.ref F,.ref T2]):=lst_but upd_same hpA kp5
   have hF5:=lst_but hF1 hp1 k15
   have hT5:H5 T2=some (.tup fs):=tup_but (sW _ _ upd_same) hpA kp5
   have rg5:RdVs true H5 fs gs:=hid_out (hid_keep rg fun a o _ e n=>k15 a o e (pen_ne hp1 e n))
   have hHT:H T2=none:=but_none k1 hp1 hT2
   have old:∀ b,V.ref b∈fs→∀ ys,H5 b=some (.lst ys)→H b=none∧b≠F:=fun b hb ys hby=>by
    obtain ⟨o,ho,hno⟩:=mem_rd rg hb
    have ho1:=(hid_some ho).2
    have ho5:=k15 b o ho1 (pen_ne hp1 ho1 hno)
    rw[hby] at ho5
    cases ho5
    exact hnew b hb ys ho1
   refine ⟨W,_,r5,_,rfl,rfl,SqL.of hW5,hat5,?_⟩
   simp only [List.mem_cons,List.not_mem_nil,or_false] at hv
   rcases hv with rfl | rfl
   ·exact k _ (.list gs) a5 H5 (.lst rfl hF5 (by omega) rg5) (hok gs hall).1 (hfin gs hall) ⟨F,fs,rfl,hF,.inl hF5,old⟩ (by omega) (by omega) hp5 (k1.trans k15)
   ·refine k _ (.tuple gs) a5 H5 (.tup hT5 (by omega) rg5) (hok gs hall).2 (hfin gs hall) ⟨T2,fs,rfl,hHT,.inr hT5,fun b hb ys hby=>⟨(old b hb ys hby).1,fun z=>?_⟩⟩ (by omega) (by omega) hp5 (k1.trans k15)
    rw[z,hT5] at hby
    cases hby
end
end K5
namespace K5
open PySem L2
def fieldD:PyData→Bool
 | .tuple [f,h,a,i]=>nameD f && nameD h && wholeD 1 1000000 a && wholeD 0 10000000 i
 | _=>false
def layD:PyData→Bool
 | .tuple ds=>decide (1≤ds.length∧ds.length≤8) && ds.all fieldD && decide (ds.map headS).Nodup
 | _=>false
inductive I_spField (vs:List V) (H:Hp) (Q:VK) (u3_:XK):Prop
 | mk (m:Bool) (x:V) (d:PyData) (q0:vs=[x]) (q1:RdV m H x d) (q2:∀ H',Same H H'→Q (.bl (fieldD d)) H'):I_spField vs H Q u3_
def spField:Sp:=fun vs H Q u3_=>I_spField vs H Q u3_
inductive I_spLay (vs:List V) (H:Hp) (Q:VK) (u3_:XK):Prop
 | mk (m:Bool) (x:V) (d:PyData) (q0:vs=[x]) (q1:RdV m H x d) (q2:∀ H',Same H H'→Q (.bl (layD d)) H'):I_spLay vs H Q u3_
def spLay:Sp:=fun vs H Q u3_=>I_spLay vs H Q u3_
section
variable {P:Program}{w:World}{K:W.Frag}{mg:Str→Option Value}{base:Heap}
theorem scField:FnScope ["thing","field","house","acres","inches"] ["thing"] (defScope sIsField):=⟨rfl,rfl,rfl,by decide,rfl,by decide,by decide⟩
theorem ok_field {f fN fW:Addr}{fd fdN fdW:FuncData} (F:Fun K "is_field" "is_field" sIsField f fd) (T:Txt K mg)
  (GN:FnOk P w K mg base CX0 1 fN fdN ["thing"] spName) (mN:mg "is_name"=some (.ref fN)) (kN:W.keepIn K (.ref fN)=true) (bN:Binds K fdN ["thing"] [])
  (GW:FnOk P w K mg base CX0 2 fW fdW ["thing","least","most"] spWhole) (mW:mg "is_whole"=some (.ref fW)) (kW:W.keepIn K (.ref fW)=true) (bW:Binds K fdW ["thing","least","most"] []):
  FnOk P w K mg base CX0 3 f fd ["thing"] spField:=by
 refine F.ok scField (fun vs H Q E h=>?_) (fun cdv A outer s H vs Q E hr h=>?_)
 ·obtain ⟨m,x,d,rfl,_⟩:=h
  rfl
 ·obtain ⟨m,x,d,rfl,hx,k⟩:=h
  have hr1:Room 1 _:=hr.mono (by decide)
  obtain ⟨ta,hacres⟩:=T.fieldAcres
  obtain ⟨ti,hinches⟩:=T.inches
  refine ⟨_,pss_cons (ps_if (PW.pt (pw_or (pt_not (pt_val (pe_callB call_isinst (by rfl) T.isi (by kernel_rfl) (pa_c (pv 0) (pa_c (pe_bltn (v:=.ty "tuple") (by rfl) T.tuple (by kernel_rfl) rfl) pa_nil)))))
    (pw_or1 (pt_cmpR op_ne (pe_callB call_len_seq (by rfl) T.len PySem.boot_len (pa_c (pv 0) pa_nil)) pe_int (nomark _))))) (pss_one (ps_ret pe_bl)) pss_nil)
   (pss_cons (ps_asg (pv 0) (pg_tup rfl (pgs_cons (pg_name (i:=1) scField.nd rfl (Or.inl rfl)) (pgs_cons (pg_name (i:=2) scField.nd rfl (Or.inl rfl)) (pgs_cons (pg_name (i:=3) scField.nd rfl (Or.inl rfl)) (pgs_cons (pg_name (i:=4) scField.nd rfl (Or.inl rfl)) pgs_nil))))))
   (pss_cons (ps_if (PW.pt (pw_or (pt_not (pt_val (pe_call GN hr1 rfl mN kN bN .nil pass0 (pa_c (pv 1) pa_nil)))) (pw_or1 (pt_not (pt_val (pe_call GN hr1 rfl mN kN bN .nil pass0 (pa_c (pv 2) pa_nil))))))) (pss_one (ps_ret pe_bl)) pss_nil)
   (pss_one (ps_ret (pe_and (pe_call GW hr rfl mW kW bW .nil pass0 (pa_c (pv 3) (pa_c pe_int (pa_c (pe_glob (v:=.int 1000000) (by rfl) hacres ⟨_,rfl⟩) pa_nil)))) (pe_one (pe_call GW hr rfl mW kW bW .nil pass0 (pa_c (pv 4) (pa_c pe_int (pa_c (pe_glob (v:=.int 10000000) (by rfl) hinches ⟨_,rfl⟩) pa_nil)))))))))),?_⟩
  refine ⟨_,rfl,_,"tuple",_,_,rfl,ty_of hx,kit_tup d,_,rfl,?_⟩
  cases hd:isTup d with
  | false=>
   have e:fieldD d=false:=by
    cases d with
    | tuple ds=>simp[isTup] at hd
    | _=>rfl
   rw[e] at k
   exact k H (Same.refl H)
  | true=>
   obtain ⟨ds,rfl⟩:∃ ds,d=.tuple ds:=by
    cases d with
    | tuple z=>exact ⟨z,rfl⟩
    | _=>simp[isTup] at hd
   cases hx with
   | @tup a xs _ e hl r=>
    have hlen:=r.len
    refine iteF ?_
    refine ⟨_,rfl,a,xs,rfl,.inr (SqT.of e),rfl,_,rfl,?_⟩
    by_cases h4:xs.length=4
    ·rw[decide_eq_true (show V.int (xs.length:Int)=V.int 4 by rw[h4];rfl)]
     refine iteF ?_
     obtain ⟨x1,x2,x3,x4,rfl⟩:=len4 h4
     obtain ⟨d1,d2,d3,d4,rfl,r1,r2,r3,r4⟩:=rds4 r
     refine ⟨_,rfl,a,_,rfl,SqT.of e,rfl,_,_,rfl,_,_,rfl,_,_,rfl,_,_,rfl,rfl,?_⟩
     have k':∀ H',Same H H'→Q (.bl (nameD d1 && nameD d2 && wholeD 1 1000000 d3 && wholeD 0 10000000 d4)) H':=k
     refine ⟨_,rfl,m,x1,d1,rfl,r1,fun H1 s1=>⟨_,rfl,?_⟩⟩
     refine ite2 (fun g=>?_) (fun g=>?_)
     ·have g':nameD d1=false:=by simpa using g
      have:=k' H1 s1
      rw[g'] at this
      exact this
     ·have g':nameD d1=true:=by simpa using g
      refine ⟨_,rfl,m,x2,d2,rfl,r2.same s1,fun H2 s2=>⟨_,rfl,?_⟩⟩
      refine ite2 (fun g2=>?_) (fun g2=>?_)
      ·have g2':nameD d2=false:=by simpa using g2
       have:=k' H2 (s1.trans s2)
       rw[g',g2'] at this
       exact this
      ·have g2':nameD d2=true:=by simpa using g2
       have:=k' H2 (s1.trans s2)
       rw[g',g2',Bool.true_and,Bool.true_and] at this
       refine ⟨_,rfl,m,x3,d3,1,1000000,rfl,(r3.same s1).same s2,_,rfl,?_⟩
       refine ite2 (fun g3=>?_) (fun g3=>?_)
       ·rw[g3,Bool.true_and] at this
        exact ⟨_,rfl,m,x4,d4,0,10000000,rfl,(r4.same s1).same s2,this⟩
       ·have g3':wholeD 1 1000000 d3=false:=by simpa using g3
        rw[g3'] at this
        exact this
    ·rw[decide_eq_false (show ¬ V.int (xs.length:Int)=V.int 4 from fun z=>h4 (by have:=V.int.inj z;omega))]
     refine iteT ?_
     have e2:fieldD (.tuple ds)=false:=by
      match ds,hlen with
      | [],_=>rfl
      | [_],_=>rfl
      | [_,_],_=>rfl
      | [_,_,_],_=>rfl
      | [_,_,_,_],h=>exact absurd (by simpa using h) h4
      | _ :: _ :: _ :: _ :: _ :: _,_=>rfl
     have:=k H (Same.refl H)
     rw[e2] at this
     exact this
end
theorem field_form {d:PyData} (h:fieldD d=true):∃ (f:Str) (g a i:PyData),d=.tuple [.str f,g,a,i]∧nameB f=true∧nameD g=true∧wholeD 1 1000000 a=true∧wholeD 0 10000000 i=true:=by
 match d,h with
 | .tuple [.str f,g,a,i],h=>
  simp only [fieldD,nameD,Bool.and_eq_true] at h
  exact ⟨f,g,a,i,rfl,h.1.1.1,h.1.1.2,h.1.2,h.2⟩
 | .tuple [.none,g,a,i],h=>simp[fieldD,nameD] at h
 | .tuple [.bool _,g,a,i],h=>simp[fieldD,nameD] at h
 | .tuple [.int _,g,a,i],h=>simp[fieldD,nameD] at h
 | .tuple [.list _,g,a,i],h=>simp[fieldD,nameD] at h
 | .tuple [.tuple _,g,a,i],h=>simp[fieldD,nameD] at h
 | .tuple [.dict _,g,a,i],h=>simp[fieldD,nameD] at h
theorem head_at {m:Bool}{H:Hp}{x:V}{d:PyData} (r:RdV m H x d) (h:fieldD d=true):∃ a xs,x=.ref a∧H a=some (.tup xs)∧atI xs 0=some (V.str (headS d)):=by
 obtain ⟨f,g,a,i,rfl,_⟩:=field_form h
 cases r with
 | @tup a xs _ e _ r=>
  cases r with
  | cons r1 rs=>
   cases r1
   refine ⟨a,_,rfl,e,?_⟩
   unfold atI ixN
   rw[if_pos (by decide),if_pos (by rw[List.length_cons];omega)]
   rfl
section
variable {P:Program}{w:World}{K:W.Frag}{mg:Str→Option Value}{base:Heap}
theorem scLay:FnScope ["thing"] ["thing"] (defScope sIsLaying):=⟨rfl,rfl,rfl,by decide,rfl,by decide,by decide⟩
theorem ok_lay {f fF:Addr}{fd fdF:FuncData} (F:Fun K "is_laying" "is_laying" sIsLaying f fd) (T:Txt K mg)
  (GF:FnOk P w K mg base CX0 3 fF fdF ["thing"] spField) (mF:mg "is_field"=some (.ref fF)) (kF:W.keepIn K (.ref fF)=true) (bF:Binds K fdF ["thing"] []):
  FnOk P w K mg base CX0 4 f fd ["thing"] spLay:=by
 refine F.ok scLay (fun vs H Q E h=>?_) (fun cdv A outer s H vs Q E hr h=>?_)
 ·obtain ⟨m,x,d,rfl,_⟩:=h
  rfl
 ·obtain ⟨m,x,d,rfl,hx,k⟩:=h
  obtain ⟨tf,hfields⟩:=T.mostFields
  refine ⟨_,pss_cons (ps_if (PW.pt (pw_or (pt_not (pt_val (pe_callB call_isinst (by rfl) T.isi (by kernel_rfl) (pa_c (pv 0) (pa_c (pe_bltn (v:=.ty "tuple") (by rfl) T.tuple (by kernel_rfl) rfl) pa_nil)))))
    (pw_or1 (pt_not (pt_chain op_le op_le pe_int (pe_callB call_len_seq (by rfl) T.len PySem.boot_len (pa_c (pv 0) pa_nil)) (pe_glob (v:=.int 8) (by rfl) hfields ⟨_,rfl⟩)))))) (pss_one (ps_ret pe_bl)) pss_nil)
   (pss_cons (ps_if (pt_not (pt_val (pe_callB (call_all rfl) (by rfl) T.al (by kernel_rfl) (pa_c (pe_comp (N:=["field"]) (src:=[none]) (osc:=defScope sIsLaying) (oN:=["thing"]) ⟨by rfl,by decide,by decide,by decide,rfl,by rfl⟩ (pi_tup (pv 0))
     fun cl s H fp pins C=>⟨pg_name (i:=0) (show (["field"]:List Str).Nodup by decide) rfl (Or.inl rfl),pts_nil,pe_call GF hr rfl mF kF bF .nil pass0 (pa_c (pv 0) pa_nil)⟩) pa_nil)))) (pss_one (ps_ret pe_bl)) pss_nil)
   (pss_one (ps_ret (pe_cmpR op_eq (pe_callB call_lenS (by rfl) T.len PySem.boot_len (pa_c (pe_callTy (call_setS rfl) (by rfl) T.set (by kernel_rfl) (pa_c (pe_comp (N:=["field"]) (src:=[none]) (osc:=defScope sIsLaying) (oN:=["thing"]) ⟨by rfl,by decide,by decide,by decide,rfl,by rfl⟩ (pi_tup (pv 0))
     fun cl s H fp pins C=>⟨pg_name (i:=0) (show (["field"]:List Str).Nodup by decide) rfl (Or.inl rfl),pts_nil,pe_ix (r:=rIxT K) ix_tup (pv 0) pe_int (fun _ _=>rfl)⟩) pa_nil)) pa_nil)) (pe_callB call_len_seq (by rfl) T.len PySem.boot_len (pa_c (pv 0) pa_nil)) (nomark _))))),?_⟩
  refine ⟨_,rfl,_,"tuple",_,_,rfl,ty_of hx,kit_tup d,_,rfl,?_⟩
  cases hd:isTup d with
  | false=>
   have e:layD d=false:=by
    cases d with
    | tuple ds=>simp[isTup] at hd
    | _=>rfl
   rw[e] at k
   exact k H (Same.refl H)
  | true=>
   obtain ⟨ds,rfl⟩:∃ ds,d=.tuple ds:=by
    cases d with
    | tuple z=>exact ⟨z,rfl⟩
    | _=>simp[isTup] at hd
   cases hx with
   | @tup a xs _ e hl r=>
    have hlen:=r.len
    have k':∀ H',Same H H'→Q (.bl (decide (1≤ds.length∧ds.length≤8) && ds.all fieldD && decide (ds.map headS).Nodup)) H':=k
    have bad:¬ (1≤ds.length∧ds.length≤8)→Q (.bl false) H:=fun h=>by
     have:=k' H (Same.refl H)
     rw[decide_eq_false h] at this
     exact this
    refine iteF ?_
    refine ⟨_,rfl,a,xs,rfl,.inr (SqT.of e),_,_,rfl,rfl,_,rfl,?_⟩
    refine ite2 (fun h1=>?_) (fun h1=>?_)
    ·have h1':(1:Int)≤xs.length:=of_decide_eq_true h1
     refine ⟨_,_,rfl,rfl,_,rfl,?_⟩
     by_cases h8:(xs.length:Int)≤8
     ·rw[decide_eq_true h8]
      refine iteF ?_
      have hrange:1≤ds.length∧ds.length≤8:=by omega
      refine ⟨_,rfl,a,rfl,⟨xs,SqT.of e⟩,?_⟩
      refine comp_tup (xs:=xs) (fun i ys σ H'=>Same H H'∧ys=((ds.take i).map fun d=>V.bl (fieldD d))∧∃ o,σ=[o]) ⟨Same.refl H,rfl,none,rfl⟩ (sizeLine_big (by omega)) (fun i ys σ H' p=>by rw[p.2.1,List.length_map,List.length_take];omega) (fun i ys σ H' p=>SqT.of (p.1 _ _ e)) ?_ ?_
      ·rintro i y ys σ H' hy ⟨S,rfl,o,rfl⟩
       dsimp only [gName]
       obtain ⟨d',hd',r'⟩:=r.at hy
       refine iteT ?_
       refine ⟨_,rfl,m,y,d',rfl,r'.same S,fun H2 s2=>⟨S.trans s2,?_,_,rfl⟩⟩
       rw[List.take_add_one,hd',List.map_append]
       rfl
      ·rintro ys σ H1 ⟨S,rfl,o,rfl⟩ D hD
       have etk:List.take xs.length ds=ds:=List.take_of_length_le (by omega)
       rw[etk]
       have S1:=S.trans (Same.new (o:=.lst (ds.map fun d=>V.bl (fieldD d))) hD)
       refine ⟨D,ds.map fieldD,rfl,SqL.of (by rw[upd_same,List.map_map];rfl),?_⟩
       generalize upd H1 D (.lst (ds.map fun d=>V.bl (fieldD d)))=H2 at S1 ⊢
       refine ⟨_,rfl,?_⟩
       rw[List.all_map]
       refine ite2 (fun g=>?_) (fun g=>?_)
       ·have g':ds.all fieldD=false:=by
         have:(ds.all (id ∘ fieldD))=ds.all fieldD:=rfl
         rw[this] at g
         simpa using g
        have:=k' H2 S1
        rw[g',Bool.and_false,Bool.false_and] at this
        exact this
       ·have g':ds.all fieldD=true:=by
         have:(ds.all (id ∘ fieldD))=ds.all fieldD:=rfl
         rw[this] at g
         simpa using g
        have ga:=List.all_eq_true.mp g'
        refine ⟨_,rfl,a,rfl,⟨xs,SqT.of (S1 _ _ e)⟩,?_⟩
        refine comp_tup (xs:=xs) (fun i ys σ H'=>Same H H'∧ys=((ds.take i).map fun d=>V.str (headS d))∧∃ o,σ=[o]) ⟨S1,rfl,none,rfl⟩ (sizeLine_big (by omega)) (fun i ys σ H' p=>by rw[p.2.1,List.length_map,List.length_take];omega) (fun i ys σ H' p=>SqT.of (p.1 _ _ e)) ?_ ?_
        ·rintro i y ys σ H' hy ⟨S,rfl,o,rfl⟩
         dsimp only [gName]
         obtain ⟨d',hd',r'⟩:=r.at hy
         obtain ⟨a',xs',rfl,e',hat⟩:=head_at r' (ga d' (List.mem_of_getElem? hd'))
         refine iteT ?_
         refine ⟨_,rfl,a',xs',0,_,rfl,rfl,SqT.of (S _ _ e'),hat,S,?_,_,rfl⟩
         rw[List.take_add_one,hd',List.map_append]
         rfl
        ·rintro ys σ H3 ⟨S,rfl,o,rfl⟩ D3 hD3
         rw[etk]
         have S3:=S.trans (Same.new (o:=.lst (ds.map fun d=>V.str (headS d))) hD3)
         refine ⟨D3,ds.map headS,rfl,SqL.of (by rw[upd_same,List.map_map];rfl),by rw[List.length_map];omega,fun D4 hD4=>?_⟩
         generalize upd H3 D3 (.lst (ds.map fun d=>V.str (headS d)))=H4 at S3 hD4 ⊢
         refine ⟨D4,ds.map headS,rfl,upd_same,by rw[List.length_map];omega,?_⟩
         have S4:=S3.trans (Same.new (o:=setS P w D4 (ds.map headS)) hD4)
         refine ⟨_,rfl,a,xs,rfl,.inr (SqT.of (S4 _ _ e)),rfl,?_⟩
         have hc:=set_count (ds.map headS)
         have e5:decide (V.int ((metS (fun i=>(ds.map headS).getD i "") (ds.map headS).length).length:Nat)=V.int (xs.length:Int))=decide (ds.map headS).Nodup:=by
          rw[← hc,decide_eq_decide,List.length_map,hlen]
          constructor
          ·intro z;exact V.int.inj z
          ·intro z;rw[z]
         have:=k' _ S4
         rw[decide_eq_true hrange,g',Bool.true_and,Bool.true_and] at this
         show Q (.bl (decide (V.int ((metS (fun i=>(ds.map headS).getD i "") (ds.map headS).length).length:Nat)=V.int (xs.length:Int)))) _
         rw[e5]
         exact this
     ·rw[decide_eq_false h8]
      exact iteT (bad (by omega))
    ·have h1':¬ (1:Int)≤xs.length:=fun z=>h1 (decide_eq_true z)
     refine ⟨false,rfl,?_⟩
     exact iteT (bad (by omega))
end
end K5
namespace K5
open PySem L2
mutual
inductive PlainD:PyData→Prop
 | non:PlainD .none
 | bl (b:Bool):PlainD (.bool b)
 | int (i:Int):PlainD (.int i)
 | str (z:Str):PlainD (.str z)
 | tup {ds:List PyData} (h:PlainDs ds):PlainD (.tuple ds)
inductive PlainDs:List PyData→Prop
 | nil:PlainDs []
 | cons {d:PyData} {ds:List PyData} (a:PlainD d) (r:PlainDs ds):PlainDs (d :: ds)
end
theorem RdV.unl {H:Hp}{x:V}{d:PyData} (h:RdV true H x d) (hp:PlainD d):RdV false H x d:=
 RdV.rec (m:=true) (H:=H) (motive_1:=fun x d _=>PlainD d→RdV false H x d) (motive_2:=fun xs ds _=>PlainDs ds→RdVs false H xs ds) (fun _=>.non) (fun b _=>.bl b) (fun i _=>.int i) (fun z h _=>.str z h) (fun _ _ _ _ _ h=>nomatch h) (fun e hl _ ih h=>by cases h with | tup h=>exact .tup e hl (ih h)) (fun hm _ _=>nomatch hm) (fun _=>.nil) (fun _ _ a r h=>by cases h with | cons b s=>exact .cons (a b) (r s)) h hp
theorem plain_parts:∀ R:List P3,PlainDs (R.map pD)
 | []=>.nil
 | x :: R=>.cons (.tup (.cons (.str _) (.cons (.str _) (.cons (.int _) .nil)))) (plain_parts R)
theorem plain_strs:∀ R:List Str,PlainDs (R.map PyData.str)
 | []=>.nil
 | x :: R=>.cons (.str _) (plain_strs R)
theorem RowS.plain {word:Str}{ds:List PyData} (h:RowS word ds) (name:Str) (day:Int):PlainD (rowDat word name day ds):=by
 refine .tup (.cons (.str _) (.cons (.str _) (.cons (.int _) ?_)))
 cases h with
 | @part land R _ _ _ _ _=>exact .cons (.str _) (.cons (.tup (plain_parts R)) .nil)
 | @join land R _ _ _ _ _=>exact .cons (.tup (plain_strs R)) (.cons (.str _) .nil)
 | forfeit _ _=>exact .cons (.str _) (.cons (.str _) .nil)
 | measure _ _ _=>exact .cons (.str _) (.cons (.int _) .nil)
 | mend _ _ _=>exact .cons (.str _) (.cons (.str _) .nil)
 | alone _=>exact .cons (.str _) .nil
 | breach _ _ _ _ _ _ _=>exact .cons (.str _) (.cons (.int _) (.cons (.int _) (.cons (.int _) .nil)))
 | view _ _ _ _=>exact .cons (.str _) (.cons (.int _) (.cons (.str _) .nil))
def fmV (g0 g1 g2 g3 g4 g5 g6 g7:Addr):List (Key×V):=[(Sum.inr "part",.ref g0),(Sum.inr "join",.ref g1),(Sum.inr "forfeit",.ref g2),(Sum.inr "measure",.ref g3),(Sum.inr "mend",.ref g4),(Sum.inr "alone",.ref g5),(Sum.inr "breach",.ref g6),(Sum.inr "view",.ref g7)]
def fmR (g0 g1 g2 g3 g4 g5 g6 g7:Addr):List (Key×Value):=[(Sum.inr "part",.ref g0),(Sum.inr "join",.ref g1),(Sum.inr "forfeit",.ref g2),(Sum.inr "measure",.ref g3),(Sum.inr "mend",.ref g4),(Sum.inr "alone",.ref g5),(Sum.inr "breach",.ref g6),(Sum.inr "view",.ref g7)]
theorem fm_rel (g0 g1 g2 g3 g4 g5 g6 g7:Addr):KV (fmV g0 g1 g2 g3 g4 g5 g6 g7) (fmR g0 g1 g2 g3 g4 g5 g6 g7):=.cons ⟨rfl,rfl⟩ (.cons ⟨rfl,rfl⟩ (.cons ⟨rfl,rfl⟩ (.cons ⟨rfl,rfl⟩ (.cons ⟨rfl,rfl⟩ (.cons ⟨rfl,rfl⟩ (.cons ⟨rfl,rfl⟩ (.cons ⟨rfl,rfl⟩ (.nil))))))))
theorem keyH_str (w:World) (s:Str):PyData.keyHash w.params s=keyH w (Sum.inr s):=by
 first | rfl | (unfold keyH hashStr PyData.keyHash;rfl)
theorem isS (s:Str) (t:Tok):keyIs (Sum.inr s) (.str s t)=true:=by
 show Value.isStrOf s (.str s t)=true
 simp[Value.isStrOf]
theorem fm_dict {P:Program}{w:World}{K:W.Frag}{a:Addr}{e:Nat}{x0 x1 x2 x3 x4 x5 x6 x7:Tok}{g0 g1 g2 g3 g4 g5 g6 g7:Addr} (l:K.lookup a=some { cls:=.type "dict",data:=.dict #[⟨PyData.keyHash w.params "part",.str "part" x0,.ref g0⟩,⟨PyData.keyHash w.params "join",.str "join" x1,.ref g1⟩,⟨PyData.keyHash w.params "forfeit",.str "forfeit" x2,.ref g2⟩,⟨PyData.keyHash w.params "measure",.str "measure" x3,.ref g3⟩,⟨PyData.keyHash w.params "mend",.str "mend" x4,.ref g4⟩,⟨PyData.keyHash w.params "alone",.str "alone" x5,.ref g5⟩,⟨PyData.keyHash w.params "breach",.str "breach" x6,.ref g6⟩,⟨PyData.keyHash w.params "view",.str "view" x7,.ref g7⟩] e }):∀ h:Heap,K.In h→h.DictOf (mixKind P w) a (fmR g0 g1 g2 g3 g4 g5 g6 g7):=by
 intro h hK
 refine ⟨_,_,_,hK _ _ l,⟨rfl,rfl,rfl⟩,rfl,?_,?_,?_⟩
 ·intro en he
  simp only [List.mem_toArray,List.mem_cons,List.not_mem_nil,or_false] at he
  rcases he with rfl | rfl | rfl | rfl | rfl | rfl | rfl | rfl
  ·exact ⟨Sum.inr "part",isS "part" x0,keyH_str w "part"⟩
  ·exact ⟨Sum.inr "join",isS "join" x1,keyH_str w "join"⟩
  ·exact ⟨Sum.inr "forfeit",isS "forfeit" x2,keyH_str w "forfeit"⟩
  ·exact ⟨Sum.inr "measure",isS "measure" x3,keyH_str w "measure"⟩
  ·exact ⟨Sum.inr "mend",isS "mend" x4,keyH_str w "mend"⟩
  ·exact ⟨Sum.inr "alone",isS "alone" x5,keyH_str w "alone"⟩
  ·exact ⟨Sum.inr "breach",isS "breach" x6,keyH_str w "breach"⟩
  ·exact ⟨Sum.inr "view",isS "view" x7,keyH_str w "view"⟩
 ·exact .cons (isS "part" x0) rfl (.cons (isS "join" x1) rfl (.cons (isS "forfeit" x2) rfl (.cons (isS "measure" x3) rfl (.cons (isS "mend" x4) rfl (.cons (isS "alone" x5) rfl (.cons (isS "breach" x6) rfl (.cons (isS "view" x7) rfl (.nil))))))))
 ·show ([Sum.inr "part",Sum.inr "join",Sum.inr "forfeit",Sum.inr "measure",Sum.inr "mend",Sum.inr "alone",Sum.inr "breach",Sum.inr "view"]:List Key).Nodup
  decide
theorem fm_at (g0 g1 g2 g3 g4 g5 g6 g7:Addr) (kind:Str):valV (fmV g0 g1 g2 g3 g4 g5 g6 g7) (Sum.inr kind)=if kind="part" then some (.ref g0) else if kind="join" then some (.ref g1) else if kind="forfeit" then some (.ref g2) else if kind="measure" then some (.ref g3) else if kind="mend" then some (.ref g4) else if kind="alone" then some (.ref g5) else if kind="breach" then some (.ref g6) else if kind="view" then some (.ref g7) else none:=by
 unfold fmV
 by_cases h0:kind="part"
 ·rw[if_pos h0]
  subst h0
  rfl
 rw[valV_neg (show ¬ (Sum.inr "part":Key)=Sum.inr kind from fun z=>h0 (by injection z with z;exact z.symm)),if_neg h0]
 by_cases h1:kind="join"
 ·rw[if_pos h1]
  subst h1
  rfl
 rw[valV_neg (show ¬ (Sum.inr "join":Key)=Sum.inr kind from fun z=>h1 (by injection z with z;exact z.symm)),if_neg h1]
 by_cases h2:kind="forfeit"
 ·rw[if_pos h2]
  subst h2
  rfl
 rw[valV_neg (show ¬ (Sum.inr "forfeit":Key)=Sum.inr kind from fun z=>h2 (by injection z with z;exact z.symm)),if_neg h2]
 by_cases h3:kind="measure"
 ·rw[if_pos h3]
  subst h3
  rfl
 rw[valV_neg (show ¬ (Sum.inr "measure":Key)=Sum.inr kind from fun z=>h3 (by injection z with z;exact z.symm)),if_neg h3]
 by_cases h4:kind="mend"
 ·rw[if_pos h4]
  subst h4
  rfl
 rw[valV_neg (show ¬ (Sum.inr "mend":Key)=Sum.inr kind from fun z=>h4 (by injection z with z;exact z.symm)),if_neg h4]
 by_cases h5:kind="alone"
 ·rw[if_pos h5]
  subst h5
  rfl
 rw[valV_neg (show ¬ (Sum.inr "alone":Key)=Sum.inr kind from fun z=>h5 (by injection z with z;exact z.symm)),if_neg h5]
 by_cases h6:kind="breach"
 ·rw[if_pos h6]
  subst h6
  rfl
 rw[valV_neg (show ¬ (Sum.inr "breach":Key)=Sum.inr kind from fun z=>h6 (by injection z with z;exact z.symm)),if_neg h6]
 by_cases h7:kind="view"
 ·rw[if_pos h7]
  subst h7
  rfl
 rw[valV_neg (show ¬ (Sum.inr "view":Key)=Sum.inr kind from fun z=>h7 (by injection z with z;exact z.symm)),if_neg h7]
 rfl
theorem fm_in (g0 g1 g2 g3 g4 g5 g6 g7:Addr) (kind:Str):(valV (fmV g0 g1 g2 g3 g4 g5 g6 g7) (Sum.inr kind)).isSome=decide (kind∈words8):=by
 rw[fm_at]
 simp only [words8,List.mem_cons,List.not_mem_nil,or_false]
 by_cases h0:kind="part"
 ·rw[if_pos h0,decide_eq_true (by simp[h0])];rfl
 rw[if_neg h0]
 by_cases h1:kind="join"
 ·rw[if_pos h1,decide_eq_true (by simp[h1])];rfl
 rw[if_neg h1]
 by_cases h2:kind="forfeit"
 ·rw[if_pos h2,decide_eq_true (by simp[h2])];rfl
 rw[if_neg h2]
 by_cases h3:kind="measure"
 ·rw[if_pos h3,decide_eq_true (by simp[h3])];rfl
 rw[if_neg h3]
 by_cases h4:kind="mend"
 ·rw[if_pos h4,decide_eq_true (by simp[h4])];rfl
 rw[if_neg h4]
 by_cases h5:kind="alone"
 ·rw[if_pos h5,decide_eq_true (by simp[h5])];rfl
 rw[if_neg h5]
 by_cases h6:kind="breach"
 ·rw[if_pos h6,decide_eq_true (by simp[h6])];rfl
 rw[if_neg h6]
 by_cases h7:kind="view"
 ·rw[if_pos h7,decide_eq_true (by simp[h7])];rfl
 rw[if_neg h7]
 rw[decide_eq_false (by simp[h0,h1,h2,h3,h4,h5,h6,h7])]
 rfl
theorem fm_fn {P:Program}{w:World}{K:W.Frag}{mg:Str→Option Value}{base:Heap}{g0 g1 g2 g3 g4 g5 g6 g7:Addr}{d0:FuncData} (G0:FnOk P w K mg base CX0 6 g0 d0 ["rest"] (spFits fPart)) (k0:W.keepIn K (.ref g0)=true) (b0:Binds K d0 ["rest"] []) {d1:FuncData} (G1:FnOk P w K mg base CX0 6 g1 d1 ["rest"] (spFits fJoin)) (k1:W.keepIn K (.ref g1)=true) (b1:Binds K d1 ["rest"] []) {d2:FuncData} (G2:FnOk P w K mg base CX0 6 g2 d2 ["rest"] (spFits fForfeit)) (k2:W.keepIn K (.ref g2)=true) (b2:Binds K d2 ["rest"] []) {d3:FuncData} (G3:FnOk P w K mg base CX0 6 g3 d3 ["rest"] (spFits fMeasure)) (k3:W.keepIn K (.ref g3)=true) (b3:Binds K d3 ["rest"] []) {d4:FuncData} (G4:FnOk P w K mg base CX0 6 g4 d4 ["rest"] (spFits fMend)) (k4:W.keepIn K (.ref g4)=true) (b4:Binds K d4 ["rest"] []) {d5:FuncData} (G5:FnOk P w K mg base CX0 6 g5 d5 ["rest"] (spFits fAlone)) (k5:W.keepIn K (.ref g5)=true) (b5:Binds K d5 ["rest"] []) {d6:FuncData} (G6:FnOk P w K mg base CX0 6 g6 d6 ["rest"] (spFits fBreach)) (k6:W.keepIn K (.ref g6)=true) (b6:Binds K d6 ["rest"] []) {d7:FuncData} (G7:FnOk P w K mg base CX0 6 g7 d7 ["rest"] (spFits fView)) (k7:W.keepIn K (.ref g7)=true) (b7:Binds K d7 ["rest"] []):
  ∀ (kind:Str) (v:V),valV (fmV g0 g1 g2 g3 g4 g5 g6 g7) (Sum.inr kind)=some v→∃ (a:Addr) (fd:FuncData),v=.ref a∧FnOk P w K mg base CX0 6 a fd ["rest"] (spFits (fitD kind))∧W.keepIn K (.ref a)=true∧Binds K fd ["rest"] []:=by
 intro kind v h
 rw[fm_at] at h
 by_cases h0:kind="part"
 ·rw[if_pos h0] at h
  cases h
  subst h0
  have e:fitD "part"=fPart:=by funext ds;unfold fitD;rw[if_pos rfl]
  exact ⟨g0,d0,rfl,by rw[e];exact G0,k0,b0⟩
 rw[if_neg h0] at h
 by_cases h1:kind="join"
 ·rw[if_pos h1] at h
  cases h
  subst h1
  have e:fitD "join"=fJoin:=by funext ds;unfold fitD;rw[if_neg (by decide),if_pos rfl]
  exact ⟨g1,d1,rfl,by rw[e];exact G1,k1,b1⟩
 rw[if_neg h1] at h
 by_cases h2:kind="forfeit"
 ·rw[if_pos h2] at h
  cases h
  subst h2
  have e:fitD "forfeit"=fForfeit:=by funext ds;unfold fitD;rw[if_neg (by decide),if_neg (by decide),if_pos rfl]
  exact ⟨g2,d2,rfl,by rw[e];exact G2,k2,b2⟩
 rw[if_neg h2] at h
 by_cases h3:kind="measure"
 ·rw[if_pos h3] at h
  cases h
  subst h3
  have e:fitD "measure"=fMeasure:=by funext ds;unfold fitD;rw[if_neg (by decide),if_neg (by decide),if_neg (by decide),if_pos rfl]
  exact ⟨g3,d3,rfl,by rw[e];exact G3,k3,b3⟩
 rw[if_neg h3] at h
 by_cases h4:kind="mend"
 ·rw[if_pos h4] at h
  cases h
  subst h4
  have e:fitD "mend"=fMend:=by funext ds;unfold fitD;rw[if_neg (by decide),if_neg (by decide),if_neg (by decide),if_neg (by decide),if_pos rfl]
  exact ⟨g4,d4,rfl,by rw[e];exact G4,k4,b4⟩
 rw[if_neg h4] at h
 by_cases h5:kind="alone"
 ·rw[if_pos h5] at h
  cases h
  subst h5
  have e:fitD "alone"=fAlone:=by funext ds;unfold fitD;rw[if_neg (by decide),if_neg (by decide),if_neg (by decide),if_neg (by decide),if_neg (by decide),if_pos rfl]
  exact ⟨g5,d5,rfl,by rw[e];exact G5,k5,b5⟩
 rw[if_neg h5] at h
 by_cases h6:kind="breach"
 ·rw[if_pos h6] at h
  cases h
  subst h6
  have e:fitD "breach"=fBreach:=by funext ds;unfold fitD;rw[if_neg (by decide),if_neg (by decide),if_neg (by decide),if_neg (by decide),if_neg (by decide),if_neg (by decide),if_pos rfl]
  exact ⟨g6,d6,rfl,by rw[e];exact G6,k6,b6⟩
 rw[if_neg h6] at h
 by_cases h7:kind="view"
 ·rw[if_pos h7] at h
  cases h
  subst h7
  have e:fitD "view"=fView:=by funext ds;unfold fitD;rw[if_neg (by decide),if_neg (by decide),if_neg (by decide),if_neg (by decide),if_neg (by decide),if_neg (by decide),if_neg (by decide)]
  exact ⟨g7,d7,rfl,by rw[e];exact G7,k7,b7⟩
 rw[if_neg h7] at h
 cases h
def rkD:List (Key×V):=[(Sum.inr "measure",.int 0),(Sum.inr "mend",.int 2),(Sum.inr "alone",.int 2),(Sum.inr "breach",.int 3),(Sum.inr "view",.int 3)]
def rk (w:Str):Int:=if w="measure" then 0 else if w="mend"∨w="alone" then 2 else if w="breach"∨w="view" then 3 else 1
theorem rk_get:∀ w∈words8,(valV rkD (Sum.inr w)).getD (.int 1)=.int (rk w):=by decide
inductive I_RowAt (H:Hp) (x:V) (word name:Str) (day:Int):Prop
 | mk (t:_) (rest:_) (q0:x=.ref t) (q1:H t=some (.tup (.str word :: .str name :: .int day :: rest))) (q2:word∈words8):I_RowAt H x word name day
def RowAt (H:Hp) (x:V) (word name:Str) (day:Int):Prop:=I_RowAt H x word name day
theorem row_at {word name:Str}{day:Int}{rest:List V}:atI (V.str word :: .str name :: .int day :: rest) 0=some (.str word)∧atI (V.str word :: .str name :: .int day :: rest) 1=some (.str name)∧atI (V.str word :: .str name :: .int day :: rest) 2=some (.int day):=by
 have hl:(V.str word :: V.str name :: V.int day :: rest).length=rest.length + 3:=rfl
 unfold atI ixN
 rw[hl,if_pos (by decide),if_pos (by omega),if_pos (by decide),if_pos (by omega),if_pos (by decide),if_pos (by omega)]
 exact ⟨rfl,rfl,rfl⟩
inductive I_spPlace (vs:List V) (H:Hp) (Q:VK) (u3_:XK):Prop
 | mk (x:V) (word name:Str) (day:Int) (q0:vs=[x]) (q1:RowAt H x word name day) (q2:∀ (q:Addr) (H':Hp),Same H H'→H' q=some (.tup [.int day,.int (rk word),.str name])→Q (.ref q) H'):I_spPlace vs H Q u3_
def spPlace:Sp:=fun vs H Q u3_=>I_spPlace vs H Q u3_
section
variable {P:Program}{w:World}{K:W.Frag}{mg:Str→Option Value}{base:Heap}
theorem scPlace:FnScope ["_law_row_here","_law_ranks"] ["_law_row_here"] (defScope sPlace):=⟨rfl,rfl,rfl,by decide,rfl,by decide,by decide⟩
theorem ok_place {f:Addr}{fd:FuncData} (F:Fun K "_law_place" "_law_place" sPlace f fd):FnOk P w K mg base CX0 1 f fd ["_law_row_here"] spPlace:=by
 refine F.ok scPlace (fun vs H Q E h=>?_) (fun cdv A outer s H vs Q E hr h=>?_)
 ·obtain ⟨x,word,name,day,rfl,_⟩:=h
  rfl
 ·obtain ⟨x,word,name,day,rfl,⟨t,rest,rfl,ht,hw⟩,k⟩:=h
  have hu:=hu_of hr
  refine ⟨_,pss_cons (ps_set (i:=1) scPlace.nd rfl (Or.inl rfl) (pe_disp (pps_cons pe_str pe_int (pps_cons pe_str pe_int (pps_cons pe_str pe_int (pps_cons pe_str pe_int (pps_cons pe_str pe_int pps_nil))))) rfl rfl (by simp) (by decide)))
   (pss_one (ps_ret (pe_tup (pa_c (pe_ix ix_tup (pv 0) pe_int (fun _ _=>rfl)) (pa_c (pe_dget2 hu (pv 1) (pe_ix ix_tup (pv 0) pe_int (fun _ _=>rfl)) pe_int ⟨rfl,rfl,rfl,rfl⟩) (pa_c (pe_ix ix_tup (pv 0) pe_int (fun _ _=>rfl)) pa_nil)))))),?_⟩
  obtain ⟨r0,r1,r2⟩:=row_at (word:=word) (name:=name) (day:=day) (rest:=rest)
  refine fun d hd=>?_
  refine ⟨upd_same,rkD,rfl,(by show 5≤15;decide),?_⟩
  rw[show mergeK [] rkD=rkD by first | rfl | decide]
  have sd:Same H (upd (upd H d (.dK [])) d (.dK rkD)):=fun b o e=>by rw[upd_upd,upd_ne (ne_of_none e hd)];exact e
  have hd2:upd (upd H d (.dK [])) d (.dK rkD) d=some (.dK rkD):=upd_same
  generalize upd (upd H d (.dK [])) d (.dK rkD)=H2 at sd hd2 ⊢
  have ht2:=sd _ _ ht
  refine ⟨_,rfl,t,_,2,_,rfl,rfl,SqT.of ht2,r2,?_⟩
  refine ⟨_,rfl,d,rfl,.inl ⟨rkD,.inl hd2⟩,_,rfl,t,_,0,_,rfl,rfl,SqT.of ht2,r0,_,.inl ⟨rkD,Sum.inr word,.inl hd2,rfl,rfl⟩,?_⟩
  rw[rk_get word hw]
  refine ⟨_,rfl,t,_,1,_,rfl,rfl,SqT.of ht2,r1,?_⟩
  refine ⟨sizeLine_big (by show 3≤1000000;decide),fun q hq=>?_⟩
  exact k q _ (sd.trans (Same.new hq)) upd_same
end
def rkP:List (Key×V):=[(Sum.inr "measure",.int 0),(Sum.inr "part",.int 1),(Sum.inr "join",.int 1),(Sum.inr "forfeit",.int 1),(Sum.inr "mend",.int 2),(Sum.inr "alone",.int 2),(Sum.inr "breach",.int 3),(Sum.inr "view",.int 3)]
theorem rkP_get:∀ w∈words8,valV rkP (Sum.inr w)=some (.int (rk w)):=by decide
structure RanksAt (w:World) (K:W.Frag) (a:Addr):Prop where
 ex:∃ (e:Nat) (x0 x1 x2 x3 x4 x5 x6 x7 y0 y1 y2 y3 y4 y5 y6 y7:Tok),K.lookup a=some { cls:=.type "dict",data:=.dict #[⟨PyData.keyHash w.params "measure",.str "measure" x0,.int 0 y0⟩,⟨PyData.keyHash w.params "part",.str "part" x1,.int 1 y1⟩,⟨PyData.keyHash w.params "join",.str "join" x2,.int 1 y2⟩,⟨PyData.keyHash w.params "forfeit",.str "forfeit" x3,.int 1 y3⟩,⟨PyData.keyHash w.params "mend",.str "mend" x4,.int 2 y4⟩,⟨PyData.keyHash w.params "alone",.str "alone" x5,.int 2 y5⟩,⟨PyData.keyHash w.params "breach",.str "breach" x6,.int 3 y6⟩,⟨PyData.keyHash w.params "view",.str "view" x7,.int 3 y7⟩] e }
theorem RanksAt.dict {P:Program}{w:World}{K:W.Frag}{a:Addr} (r:RanksAt w K a):∃ vs,KV rkP vs∧∀ h:Heap,K.In h→h.DictOf (mixKind P w) a vs:=by
 obtain ⟨e,x0,x1,x2,x3,x4,x5,x6,x7,y0,y1,y2,y3,y4,y5,y6,y7,l⟩:=r.ex
 refine ⟨[(Sum.inr "measure",.int 0 y0),(Sum.inr "part",.int 1 y1),(Sum.inr "join",.int 1 y2),(Sum.inr "forfeit",.int 1 y3),(Sum.inr "mend",.int 2 y4),(Sum.inr "alone",.int 2 y5),(Sum.inr "breach",.int 3 y6),(Sum.inr "view",.int 3 y7)],?_,fun h hK=>⟨_,_,_,hK _ _ l,⟨rfl,rfl,rfl⟩,rfl,?_,?_,?_⟩⟩
 ·exact .cons ⟨rfl,_,rfl⟩ (.cons ⟨rfl,_,rfl⟩ (.cons ⟨rfl,_,rfl⟩ (.cons ⟨rfl,_,rfl⟩ (.cons ⟨rfl,_,rfl⟩ (.cons ⟨rfl,_,rfl⟩ (.cons ⟨rfl,_,rfl⟩ (.cons ⟨rfl,_,rfl⟩ (.nil))))))))
 ·intro en he
  simp only [List.mem_toArray,List.mem_cons,List.not_mem_nil,or_false] at he
  rcases he with rfl | rfl | rfl | rfl | rfl | rfl | rfl | rfl
  ·exact ⟨Sum.inr "measure",isS "measure" x0,keyH_str w "measure"⟩
  ·exact ⟨Sum.inr "part",isS "part" x1,keyH_str w "part"⟩
  ·exact ⟨Sum.inr "join",isS "join" x2,keyH_str w "join"⟩
  ·exact ⟨Sum.inr "forfeit",isS "forfeit" x3,keyH_str w "forfeit"⟩
  ·exact ⟨Sum.inr "mend",isS "mend" x4,keyH_str w "mend"⟩
  ·exact ⟨Sum.inr "alone",isS "alone" x5,keyH_str w "alone"⟩
  ·exact ⟨Sum.inr "breach",isS "breach" x6,keyH_str w "breach"⟩
  ·exact ⟨Sum.inr "view",isS "view" x7,keyH_str w "view"⟩
 ·exact .cons (isS "measure" x0) rfl (.cons (isS "part" x1) rfl (.cons (isS "join" x2) rfl (.cons (isS "forfeit" x3) rfl (.cons (isS "mend" x4) rfl (.cons (isS "alone" x5) rfl (.cons (isS "breach" x6) rfl (.cons (isS "view" x7) rfl (.nil))))))))
 ·show ([Sum.inr "measure",Sum.inr "part",Sum.inr "join",Sum.inr "forfeit",Sum.inr "mend",Sum.inr "alone",Sum.inr "breach",Sum.inr "view"]:List Key).Nodup
  decide
section
variable {P:Program}{w:World}{K:W.Frag}{mg:Str→Option Value}{base:Heap}
theorem scOrder:FnScope ["row"] ["row"] (defScope sOrder):=⟨rfl,rfl,rfl,by decide,rfl,by decide,by decide⟩
theorem ok_order {f:Addr}{fd:FuncData} (F:Fun K "order" "order" sOrder f fd) {ra:Addr} (R:RanksAt w K ra) (mR:mg "RANKS"=some (.ref ra)):FnOk P w K mg base CX0 1 f fd ["row"] spPlace:=by
 refine F.ok scOrder (fun vs H Q E h=>?_) (fun cdv A outer s H vs Q E hr h=>?_)
 ·obtain ⟨x,word,name,day,rfl,_⟩:=h
  rfl
 ·obtain ⟨x,word,name,day,rfl,⟨t,rest,rfl,ht,hw⟩,k⟩:=h
  obtain ⟨rvs,rel,hd⟩:=R.dict (P:=P)
  refine ⟨_,pss_one (ps_ret (pe_tup (pa_c (pe_ix ix_tup (pv 0) pe_int (fun _ _=>rfl)) (pa_c (pe_kget hd rel (by rfl) mR (pe_ix ix_tup (pv 0) pe_int (fun _ _=>rfl)) (fun _ _=>rfl)) (pa_c (pe_ix ix_tup (pv 0) pe_int (fun _ _=>rfl)) pa_nil))))),?_⟩
  obtain ⟨r0,r1,r2⟩:=row_at (word:=word) (name:=name) (day:=day) (rest:=rest)
  refine ⟨_,rfl,t,_,2,_,rfl,rfl,SqT.of ht,r2,?_⟩
  refine ⟨_,rfl,t,_,0,_,rfl,rfl,SqT.of ht,r0,Sum.inr word,_,rfl,rkP_get word hw,?_⟩
  refine ⟨_,rfl,t,_,1,_,rfl,rfl,SqT.of ht,r1,?_⟩
  refine ⟨sizeLine_big (by show 3≤1000000;decide),fun q hq=>?_⟩
  exact k q _ (Same.new hq) upd_same
end
def Flds (ds:List PyData):Prop:=∀ d∈ds,fieldD d=true∧OkD 5000 1 d∧d.hasDict=false
def fieldOf (f h:Str) (a i:Int):PyData:=.tuple [.str f,.str h,.int a,.int i]
theorem fieldOf_ok {f h:Str}{a i:Int} (hf:nameB f=true) (hh:nameB h=true) (a1:1≤a) (a2:a≤1000000) (i1:0≤i) (i2:i≤10000000):fieldD (fieldOf f h a i)=true∧OkD 5000 1 (fieldOf f h a i)∧(fieldOf f h a i).hasDict=false:=by
 refine ⟨?_,?_,rfl⟩
 ·show (nameB f && nameB h && decide (1≤a∧a≤1000000) && decide (0≤i∧i≤10000000))=true
  rw[hf,hh,decide_eq_true ⟨a1,a2⟩,decide_eq_true ⟨i1,i2⟩]
  rfl
 ·have b:(10000000:Int) < 10 ^ 60:=by decide
  refine (OkD.tuple (n:=4) (b:=102) (k:=0) (fun d hd=>?_) (by show 4≤4;decide)).mono (by decide) (by decide)
  simp only [List.mem_cons,List.not_mem_nil,or_false] at hd
  rcases hd with rfl | rfl | rfl | rfl
  ·exact OkD.name hf
  ·exact OkD.name hh
  ·exact OkD.int (by omega) (by omega)
  ·exact OkD.int (by omega) (by omega)
inductive I_spLayOf (vs:List V) (H:Hp) (Q:VK) (u3_:XK):Prop
 | mk (p c:Addr) (ns:List Int) (a:Int) (lf lh:Addr) (ws hs:List Str) (q0:vs=[.ref p,.ref lf,.ref lh]) (q1:PenAt H p c ns a) (q2:a≤800000) (q3:H lf=some (.lst (ws.map V.str))) (q4:(∀ w∈ws,nameB w=true)) (q5:ws.length≤44) (q6:H lh=some (.lst (hs.map V.str))) (q7:(∀ w∈hs,nameB w=true)) (q8:1≤hs.length) (q9:hs.length≤44) (q10:∀ t xs ds a' H',H' t=some (.tup xs)→RdVs false H' xs ds→Flds ds→ds.map headS=ws→a≤a'→a'≤a + 400→PenAt H' p c ns a'→KeepBut p H H'→Q (.ref t) H'):I_spLayOf vs H Q u3_
def spLayOf:Sp:=fun vs H Q u3_=>I_spLayOf vs H Q u3_
section
variable {P:Program}{w:World}{K:W.Frag}{mg:Str→Option Value}{base:Heap}
theorem scLayOf:FnScope ["_law_pen_here","_law_fields","_law_houses","_law_found","_law_field","_law_house"] ["_law_pen_here","_law_fields","_law_houses"] (defScope sLayOf):=⟨rfl,rfl,rfl,by decide,rfl,by decide,by decide⟩
theorem ok_layOf {f fT fN:Addr}{fd fdT fdN:FuncData} (F:Fun K "_law_laying" "_law_laying" sLayOf f fd) (hlen:mg "len"=none) (htup:mg "tuple"=none)
  (GT:FnOk P w K mg base CX0 1 fT fdT ["_law_pen_here","_law_many"] spTake) (mT:mg "_law_take"=some (.ref fT)) (kT:W.keepIn K (.ref fT)=true) (bT:Binds K fdT ["_law_pen_here","_law_many"] [])
  (GN:FnOk P w K mg base CX0 2 fN fdN ["_law_pen_here","_law_bottom","_law_most"] spNum) (mN:mg "_law_number"=some (.ref fN)) (kN:W.keepIn K (.ref fN)=true) (bN:Binds K fdN ["_law_pen_here","_law_bottom","_law_most"] []):
  FnOk P w K mg base CX0 3 f fd ["_law_pen_here","_law_fields","_law_houses"] spLayOf:=by
 refine F.ok scLayOf (fun vs H Q E h=>?_) (fun cdv A outer s H vs Q E hr h=>?_)
 ·obtain ⟨p,c,ns,a,lf,lh,ws,hs,rfl,_⟩:=h
  rfl
 ·obtain ⟨p,c,ns,a,lf,lh,ws,hs,rfl,hp,ha,hlf,hw,hwl,hlh,hh,hl1,hl2,k⟩:=h
  have hr1:Room 1 _:=hr.mono (by decide)
  refine ⟨_,pss_cons (ps_set (i:=3) scLayOf.nd rfl (Or.inl rfl) (pe_lst pa_nil))
   (pss_cons (ps_for PassesOwn.never rfl (pi_list (pv 1)) (pg_name (i:=4) scLayOf.nd rfl (Or.inl rfl))
    (pss_cons (ps_set (i:=5) scLayOf.nd rfl (Or.inl rfl) (pe_ix ix_list (pv 2) (pe_call GT hr1 rfl mT kT bT .nil pass0 (pa_c (pv 0) (pa_c (pe_callB call_len_seq (by rfl) hlen PySem.boot_len (pa_c (pv 2) pa_nil)) pa_nil))) (fun _ _=>rfl)))
    (pss_one (ps_expr (pe_bm PySem.F.plainAttrs_list PySem.F.slot_list_append PySem.F.type_list_append mt_append (pv 3) (pa_c (pe_tup (pa_c (pv 4) (pa_c (pv 5) (pa_c (pe_call GN hr rfl mN kN bN .nil pass0 (pa_c (pv 0) (pa_c pe_int (pa_c (pe_op op_pow pe_int pe_int) pa_nil)))) (pa_c (pe_call GN hr rfl mN kN bN .nil pass0 (pa_c (pv 0) (pa_c pe_int (pa_c (pe_op op_pow pe_int pe_int) pa_nil)))) pa_nil))))) pa_nil))))))
   (pss_one (ps_ret (pe_callTy call_tuple_of (by rfl) htup (by kernel_rfl) (pa_c (pv 3) pa_nil))))),?_⟩
  have cp:∀ j:Int,0≤j→j≤1000000→CPow 10 j:=fun j h1 h2=>⟨h1,h2,by decide⟩
  have p6:((10:Int) ^ Int.toNat 6)=1000000:=by decide
  have p7:((10:Int) ^ Int.toNat 7)=10000000:=by decide
  have e9:(10:Int) ^ 9=1000000000:=by decide
  refine ⟨Nat.zero_le _,fun L hL=>?_⟩
  have S0:=Same.new (o:=.lst []) hL
  have nLp:L≠p:=by
   obtain ⟨l,_,z⟩:=hp.ob
   exact (ne_of_none z hL).symm
  have nLc:L≠c:=(ne_of_none hp.ce hL).symm
  have nfL:lf≠L:=ne_of_none hlf hL
  have nhL:lh≠L:=ne_of_none hlh hL
  refine ⟨_,rfl,lf,rfl,⟨_,SqL.of (S0 _ _ hlf)⟩,for_list (K:=K) (xs:=ws.map V.str) (fun i σ H'=>Ex5 fun (o4 o5:Option V) (a':Int) (xs:List V) (ds:List PyData)=>Aw11 (σ=[some (.ref p),some (.ref lf),some (.ref lh),some (.ref L),o4,o5]) (H' L=some (.lst xs)) (RdVs false H' xs ds) (Flds ds) (ds.map headS=ws.take i) (PenAt H' p c ns a') (a≤a') (a'≤a + 8 * i) (KeepBut p H H') (H' lf=some (.lst (ws.map V.str))) (H' lh=some (.lst (hs.map V.str))))
   ⟨none,none,a,[],[],rfl,upd_same,.nil,(fun d hd=>by simp at hd),by simp,hp.same S0,by omega,by simp,Same.but S0,S0 _ _ hlf,S0 _ _ hlh⟩ (fun i σ H' _ h=>?_) ?_ ?_⟩
  ·obtain ⟨_,_,_,_,_,_,_,_,_,_,_,_,_,_,h,_⟩:=h
   exact SqL.of h
  ·rintro i x σ H1 hx ⟨o4,o5,a1,xs,ds,rfl,hLx,hrd,hfl,hhd,hp1,la1,ua1,kp1,hlf1,hlh1⟩
   have hi:i < ws.length:=by
    have:=(List.getElem?_eq_some_iff.mp hx).1
    simpa using this
   obtain ⟨fn,hfn,rfl⟩:∃ fn,ws[i]?=some fn∧x=V.str fn:=by
    rw[List.getElem?_map] at hx
    cases e:ws[i]? with
    | none=>rw[e] at hx;cases hx
    | some z=>rw[e] at hx;exact ⟨z,rfl,(Option.some.inj hx).symm⟩
   dsimp only [gName]
   refine ⟨_,rfl,_,rfl,_,rfl,lh,_,rfl,.inl (SqL.of hlh1),p,c,ns,a1,_,rfl,hp1,by omega,by rw[List.length_map];omega,by rw[List.length_map];omega,fun r1 a2 H2 r10 r11 l2 u2 hp2 kp2=>?_⟩
   have hlh2:=lst_but hlh1 hp1 kp2
   obtain ⟨v,hv,hat⟩:=atI_in (xs:=hs.map V.str) (i:=r1) r10 r11
   obtain ⟨hn,hhn,rfl⟩:=List.mem_map.mp hv
   refine ⟨lh,_,r1,_,rfl,rfl,SqL.of hlh2,hat,?_⟩
   have hL2:=lst_but hLx hp1 kp2
   refine ⟨_,rfl,.inl ⟨rfl,_,SqL.of hL2⟩,_,rfl,_,rfl,_,rfl,_,_,rfl,rfl,cp _ (by decide) (by decide),p,c,ns,a2,1,1000000,(by show [V.ref p,V.int 1,V.int ((10:Int) ^ Int.toNat 6)] ++ []=_;rw[p6];rfl),hp2,by omega,by decide,by decide,by omega,fun n1 a3 H3 n10 n11 l3 u3 hp3 kp3=>?_⟩
   refine ⟨_,rfl,_,_,rfl,rfl,cp _ (by decide) (by decide),p,c,ns,a3,0,10000000,(by show [V.ref p,V.int 0,V.int ((10:Int) ^ Int.toNat 7)] ++ []=_;rw[p7];rfl),hp3,by omega,by decide,by decide,by omega,fun n2 a4 H4 n20 n21 l4 u4 hp4 kp4=>?_⟩
   refine ⟨sizeLine_big (by show 4≤1000000;decide),fun q hq=>?_⟩
   have sq:=Same.new (o:=.tup [V.str fn,.str hn,.int n1,.int n2]) hq
   have kall:=((kp2.trans kp3).trans kp4).same sq
   have hL5:=lst_but hLx hp1 kall
   have nqL:q≠L:=(ne_of_none (lst_but hLx hp1 ((kp2.trans kp3).trans kp4)) hq).symm
   have hfk:=fieldOf_ok (hw fn (List.mem_of_getElem? hfn)) (hh hn hhn) n10 n11 n20 n21
   have hfl':xs.length≤44:=by
    have e1:=hrd.len
    have e2:=congrArg List.length hhd
    rw[List.length_map,List.length_take] at e2
    omega
   refine ⟨L,xs,_,rfl,rfl,hL5,small1000 (by omega),?_⟩
   have hrd5:=rds_but hrd hp1 kall
   have kL:∀ (b:Addr) (o:HO),upd H4 q (.tup [V.str fn,.str hn,.int n1,.int n2]) b=some o→b≠L→upd (upd H4 q (.tup [V.str fn,.str hn,.int n1,.int n2])) L (.lst (xs ++ [V.ref q])) b=some o:=fun b o e ne=>by rw[upd_ne ne];exact e
   refine ⟨_,_,a4,xs ++ [V.ref q],ds ++ [fieldOf fn hn n1 n2],rfl,upd_same,?_,?_,?_,?_,by omega,by omega,?_,?_,?_⟩
   ·refine RdVs.app (hrd5.keepF fun b o e _ hnl=>kL b o e fun z=>?_) (.cons (.tup (kL _ _ upd_same nqL) (by show 4≤1000;decide) (.cons (.str _ (by have:=nameB_len (hw fn (List.mem_of_getElem? hfn));omega)) (.cons (.str _ (by have:=nameB_len (hh hn hhn);omega)) (.cons (.int _) (.cons (.int _) .nil))))) .nil)
    rw[z,hL5] at e
    exact hnl _ (Option.some.inj e).symm
   ·intro d hd
    rcases List.mem_append.mp hd with z | z
    ·exact hfl d z
    ·rw[List.mem_singleton.mp z];exact hfk
   ·rw[List.map_append,hhd,List.take_add_one,hfn]
    rfl
   ·obtain ⟨⟨l,hl,e⟩,ce,ge,sm⟩:=hp4.same sq
    exact ⟨⟨l,hl,kL _ _ e nLp.symm⟩,kL _ _ ce nLc.symm,ge,sm⟩
   ·intro b o e ne
    exact kL b o ((kp1.trans kall) b o e ne) (ne_of_none e hL)
   ·exact kL _ _ (lst_but hlf1 hp1 kall) nfL
   ·exact kL _ _ (lst_but hlh1 hp1 kall) nhL
  ·rintro σ H1 ⟨o4,o5,a1,xs,ds,rfl,hLx,hrd,hfl,hhd,hp1,la1,ua1,kp1,hlf1,hlh1⟩
   rw[List.length_map] at ua1 hhd
   rw[List.take_length] at hhd
   refine ⟨_,rfl,L,xs,rfl,.inl ⟨SqL.of hLx,fun t ht=>?_⟩⟩
   have S1:=Same.new (o:=.tup xs) ht
   exact k t xs ds a1 _ upd_same (hrd.same S1) hfl hhd la1 (by omega) (hp1.same S1) (kp1.same S1)
end
end K5
namespace K5
open PySem L2
theorem RowS.fourth {word:Str}{ds:List PyData} (h:RowS word ds):∃ d ds',ds=d :: ds'∧(inV (.str word) [V.str "measure",.str "breach",.str "view"]=true→∃ z,d=.str z):=by
 cases h with
 | part _ _ _ _ _=>exact ⟨_,_,rfl,fun z=>absurd z (by decide)⟩
 | join _ _ _ _ _=>exact ⟨_,_,rfl,fun z=>absurd z (by decide)⟩
 | forfeit _ _=>exact ⟨_,_,rfl,fun z=>absurd z (by decide)⟩
 | measure _ _ _=>exact ⟨_,_,rfl,fun z=>⟨_,rfl⟩⟩
 | mend _ _ _=>exact ⟨_,_,rfl,fun z=>absurd z (by decide)⟩
 | alone _=>exact ⟨_,_,rfl,fun z=>absurd z (by decide)⟩
 | breach _ _ _ _ _ _ _=>exact ⟨_,_,rfl,fun z=>⟨_,rfl⟩⟩
 | view _ _ _ _=>exact ⟨_,_,rfl,fun z=>⟨_,rfl⟩⟩
structure RowI where
 word:Str
 name:Str
 day:Int
 ds:List PyData
def RowI.d (r:RowI):PyData:=rowDat r.word r.name r.day r.ds
def RowI.key (r:RowI):L2.K3:=(r.day,rk r.word,r.name)
structure RowI.Ok (r:RowI) (fs:List Str):Prop where
 rs:RowS r.word r.ds
 nm:nameB r.name=true
 d0:0≤r.day
 d1:r.day≤9999
 fi:FIn r.word r.ds fs
theorem RowI.Ok.row {r:RowI}{fs:List Str} (h:r.Ok fs):rowD r.d=true:=rowS_row h.rs h.nm h.d0 h.d1
theorem RowI.Ok.at {r:RowI}{fs:List Str} (h:r.Ok fs) {m:Bool}{H:Hp}{x:V} (rd:RdV m H x r.d):RowAt H x r.word r.name r.day:=by
 unfold RowI.d rowDat at rd
 cases rd with
 | @tup a xs _ e hl q=>
  cases q with
  | cons q1 q=>
   cases q with
   | cons q2 q=>
    cases q with
    | cons q3 q=>
     cases q1
     cases q2
     cases q3
     exact ⟨a,_,rfl,e,h.rs.word⟩
inductive I_LayAt (H:Hp) (t:Addr) (ws:List Str):Prop
 | mk (ps:_) (q0:H t=some (.tup ps)) (q1:ps.length=ws.length) (q2:∀ (i:Nat) (x:V),ps[i]?=some x→∃ (b:Addr) (z:Str) (rest:List V),x=.ref b∧H b=some (.tup (.str z :: rest))∧ws[i]?=some z):I_LayAt H t ws
def LayAt (H:Hp) (t:Addr) (ws:List Str):Prop:=I_LayAt H t ws
theorem LayAt.same {H H':Hp}{t:Addr}{ws:List Str} (h:LayAt H t ws) (s:Same H H'):LayAt H' t ws:=by
 obtain ⟨ps,e,hl,ha⟩:=h
 refine ⟨ps,s _ _ e,hl,fun i x hx=>?_⟩
 obtain ⟨b,z,rest,ex,eb,hw⟩:=ha i x hx
 exact ⟨b,z,rest,ex,s _ _ eb,hw⟩
theorem LayAt.of {m:Bool}{H:Hp}{t:Addr}{ds:List PyData} (r:RdV m H (.ref t) (.tuple ds)) (hf:ds.all fieldD=true):LayAt H t (ds.map headS):=by
 cases r with
 | @tup _ xs _ e hl q=>
  refine ⟨xs,e,by rw[q.len,List.length_map],fun i x hx=>?_⟩
  obtain ⟨d,hd,rd⟩:=q.at hx
  have hfd:=List.all_eq_true.mp hf d (List.mem_of_getElem? hd)
  obtain ⟨f,g,a,j,rfl,_⟩:=field_form hfd
  cases rd with
  | @tup b ys _ eb hyl q2=>
   cases q2 with
   | cons q3 q4=>
    cases q3
    exact ⟨b,f,_,rfl,eb,by rw[List.getElem?_map,hd];rfl⟩
inductive I_spLayingOf (vs:List V) (H:Hp) (Q:VK) (u3_:XK):Prop
 | mk (m:Bool) (x:V) (d:PyData) (q0:vs=[x]) (q1:RdV m H x d) (q2:layD (tupD 2 d)=true) (q3:∀ y H',Same H H'→RdV m H' y (tupD 2 d)→Q y H'):I_spLayingOf vs H Q u3_
def spLayingOf:Sp:=fun vs H Q u3_=>I_spLayingOf vs H Q u3_
inductive I_Thg (H:Hp) (x:V) (r:RowI):Prop
 | mk (d:_) (q0:RdV true H x d) (q1:OrdTo (tupD 3 d) r.d):I_Thg H x r
def Thg (H:Hp) (x:V) (r:RowI):Prop:=I_Thg H x r
theorem Thg.same {H H':Hp}{x:V}{r:RowI} (h:Thg H x r) (s:Same H H'):Thg H' x r:=by
 obtain ⟨d,rd,o⟩:=h
 exact ⟨d,rd.same s,o⟩
inductive I_spRowFor (vs:List V) (H:Hp) (Q:VK) (u3_:XK):Prop
 | mk (t:Addr) (ws:List Str) (x:V) (r:RowI) (q0:vs=[.ref t,x]) (q1:LayAt H t ws) (q2:ws.length≤8) (q3:Thg H x r) (q4:r.Ok ws) (q5:∀ y H',Same H H'→RdV false H' y r.d→Q y H'):I_spRowFor vs H Q u3_
def spRowFor:Sp:=fun vs H Q u3_=>I_spRowFor vs H Q u3_
section
variable {P:Program}{w:World}{K:W.Frag}{mg:Str→Option Value}{base:Heap}
theorem scLayingOf:FnScope ["thing","laying"] ["thing"] (defScope sLayingOf):=⟨rfl,rfl,rfl,by decide,rfl,by decide,by decide⟩
theorem ok_layingOf {f fA fI:Addr}{fd fdA fdI:FuncData} (F:Fun K "laying_of" "laying_of" sLayingOf f fd) (hdep:∃ t,mg "LAYING_DEPTH"=some (.int 2 t))
  (GA:FnOk P w K mg base CX0 3 fA fdA ["thing","deep"] (spAs 2)) (mA:mg "as_tuples"=some (.ref fA)) (kA:W.keepIn K (.ref fA)=true) (bA:Binds K fdA ["thing","deep"] [])
  (GI:FnOk P w K mg base CX0 4 fI fdI ["thing"] spLay) (mI:mg "is_laying"=some (.ref fI)) (kI:W.keepIn K (.ref fI)=true) (bI:Binds K fdI ["thing"] []):
  FnOk P w K mg base CX0 5 f fd ["thing"] spLayingOf:=by
 refine F.ok scLayingOf (fun vs H Q E h=>?_) (fun cdv A outer s H vs Q E hr h=>?_)
 ·obtain ⟨m,x,d,rfl,_⟩:=h
  rfl
 ·obtain ⟨m,x,d,rfl,hx,hl,k⟩:=h
  have hr3:Room 3 _:=hr.mono (by decide)
  obtain ⟨td,hdp⟩:=hdep
  refine ⟨_,pss_cons (ps_set (i:=1) scLayingOf.nd rfl (Or.inl rfl) (pe_call GA hr3 rfl mA kA bA .nil pass0 (pa_c (pv 0) (pa_c (pe_glob (v:=.int 2) (by rfl) hdp ⟨_,rfl⟩) pa_nil))))
   (pss_cons (ps_if (pt_not (pt_val (pe_call GI hr rfl mI kI bI .nil pass0 (pa_c (pv 1) pa_nil)))) pss_never pss_nil)
   (pss_one (ps_ret (pv 1)))),?_⟩
  refine ⟨_,rfl,m,x,d,rfl,hx,fun y H1 s1 r1=>?_⟩
  refine ⟨_,rfl,m,y,_,rfl,r1,fun H3 s3=>⟨_,rfl,?_⟩⟩
  rw[hl]
  refine iteF ?_
  exact ⟨_,rfl,k _ _ (s1.trans s3) (r1.same s3)⟩
theorem scRowFor:FnScope ["laying","thing","row","field"] ["laying","thing"] (defScope sRowFor):=⟨rfl,rfl,rfl,by decide,rfl,by decide,by decide⟩
theorem ok_rowFor {f fR fF:Addr}{fd fdR fdF:FuncData} (F:Fun K "row_for" "row_for" sRowFor f fd)
  (GR:FnOk P w K mg base CX0 8 fR fdR ["thing"] spRowOfP) (mR:mg "row_of"=some (.ref fR)) (kR:W.keepIn K (.ref fR)=true) (bR:Binds K fdR ["thing"] [])
  (GF:FnOk P w K mg base CX0 1 fF fdF ["row"] spFieldOf) (mF:mg "field_of"=some (.ref fF)) (kF:W.keepIn K (.ref fF)=true) (bF:Binds K fdF ["row"] []):
  FnOk P w K mg base CX0 9 f fd ["laying","thing"] spRowFor:=by
 refine F.ok scRowFor (fun vs H Q E h=>?_) (fun cdv A outer s H vs Q E hr h=>?_)
 ·obtain ⟨t,ws,x,r,rfl,_⟩:=h
  rfl
 ·obtain ⟨t,ws,x,r,rfl,hL,hw8,⟨d,hx,hord⟩,hok,k⟩:=h
  have hr1:Room 1 _:=hr.mono (by decide)
  refine ⟨_,pss_cons (ps_set (i:=2) scRowFor.nd rfl (Or.inl rfl) (pe_call GR hr rfl mR kR bR .nil pass0 (pa_c (pv 1) pa_nil)))
   (pss_cons (ps_set (i:=3) scRowFor.nd rfl (Or.inl rfl) (pe_call GF hr1 rfl mF kF bF .nil pass0 (pa_c (pv 2) pa_nil)))
   (pss_cons (ps_if (PW.pt (pw_and (pt_cmpR op_notN (pv 3) pe_non (nomark _)) (pw_and1 (pt_cmpR op_notIn_seq (pv 3) (pe_comp (N:=["place"]) (src:=[none]) (osc:=defScope sRowFor) (oN:=["laying","thing","row","field"]) ⟨by rfl,by decide,by decide,by decide,rfl,by rfl⟩ (pi_tup (pv 0))
     fun cl s H fp pins C=>⟨pg_name (i:=0) (show (["place"]:List Str).Nodup by decide) rfl (Or.inl rfl),pts_nil,pe_ix (r:=rIxT K) ix_tup (pv 0) pe_int (fun _ _=>rfl)⟩) (by with_unfolding_all rfl))))) pss_never pss_nil)
   (pss_one (ps_ret (pv 2))))),?_⟩
  refine ⟨_,rfl,true,x,d,r.d,rfl,hx,hord,hok.row,fun y H1 s1 ry=>?_⟩
  have ryF:RdV false H1 y r.d:=RdV.unl ry (hok.rs.plain r.name r.day)
  obtain ⟨d4,rd',erd,hf4⟩:=hok.rs.fourth
  obtain ⟨tr,x4,rest',rfl,etr,r4⟩:∃ tr x4 rest',y=.ref tr∧H1 tr=some (.tup (.str r.word :: .str r.name :: .int r.day :: x4 :: rest'))∧RdV false H1 x4 d4:=by
   unfold RowI.d rowDat at ryF
   rw[erd] at ryF
   cases ryF with
   | @tup a xs _ e hl q=>
    cases q with
    | cons q1 q=>
    cases q with
    | cons q2 q=>
    cases q with
    | cons q3 q=>
    cases q with
    | cons q4 q=>
     cases q1
     cases q2
     cases q3
     exact ⟨a,_,_,rfl,e,q4⟩
  refine ⟨_,rfl,tr,r.word,_,_,x4,rest',rfl,etr,fun H2 s2=>?_⟩
  have hL2:=(hL.same s1).same s2
  by_cases g:inV (.str r.word) [V.str "measure",.str "breach",.str "view"]=true
  ·obtain ⟨z,rfl⟩:=hf4 g
   have hz:z∈ws:=hok.fi g z rd' erd
   cases r4
   rw[if_pos g]
   refine ⟨_,rfl,rfl,_,rfl,?_⟩
   rw[decide_eq_false (show ¬ V.str z=V.non from fun y=>nomatch y)]
   refine iteT ?_
   obtain ⟨ps,eps,hpl,hps⟩:=hL2
   refine ⟨_,rfl,_,rfl,t,rfl,⟨ps,SqT.of eps⟩,?_⟩
   refine comp_tup (xs:=ps) (fun i ys σ H'=>Same H2 H'∧ys=(ws.take i).map V.str∧∃ o,σ=[o]) ⟨Same.refl H2,by simp,none,rfl⟩ (sizeLine_big (by omega)) (fun i ys σ H' p=>by rw[p.2.1,List.length_map,List.length_take];omega) (fun i ys σ H' p=>SqT.of (p.1 _ _ eps)) ?_ ?_
   ·rintro i px ys σ H' hpx ⟨S,rfl,o,rfl⟩
    dsimp only [gName]
    obtain ⟨b,zz,rr,rfl,eb,hw⟩:=hps i px hpx
    refine iteT ?_
    refine ⟨_,rfl,b,_,0,_,rfl,rfl,SqT.of (S _ _ eb),atI_nat (j:=0) rfl,?_⟩
    refine ⟨S,?_,_,rfl⟩
    rw[List.take_add_one,hw,List.map_append]
    rfl
   ·rintro ys σ H' ⟨S,rfl,o,rfl⟩ D hD
    rw[hpl,List.take_length]
    have sD:=Same.new (o:=.lst (ws.map V.str)) hD
    refine ⟨D,_,rfl,.inl (SqL.of upd_same),rfl,flat_strs ws,_,rfl,?_⟩
    have hmem:inV (.str z) (ws.map V.str)=true:=by
     unfold inV
     rw[List.any_eq_true]
     exact ⟨V.str z,List.mem_map.mpr ⟨z,hz,rfl⟩,by simp[eqV]⟩
    rw[if_pos rfl,hmem]
    refine iteF ?_
    have sA:=(s2.trans S).trans sD
    exact ⟨_,rfl,k _ _ (s1.trans sA) (ryF.same sA)⟩
  ·rw[if_neg g]
   refine ⟨_,rfl,rfl,_,rfl,?_⟩
   rw[decide_eq_true rfl]
   refine iteF ?_
   exact ⟨_,rfl,k _ _ (s1.trans s2) (ryF.same s2)⟩
theorem scRowForRoll:FnScope ["laying","thing"] ["laying","thing"] (defScope sRowForRoll):=⟨rfl,rfl,rfl,by decide,rfl,by decide,by decide⟩
theorem ok_rowForRoll {f fR:Addr}{fd fdR:FuncData} (F:Fun K "row_for_roll" "row_for_roll" sRowForRoll f fd)
  (GR:FnOk P w K mg base CX0 9 fR fdR ["laying","thing"] spRowFor) (mR:mg "row_for"=some (.ref fR)) (kR:W.keepIn K (.ref fR)=true) (bR:Binds K fdR ["laying","thing"] []):
  FnOk P w K mg base CX0 10 f fd ["laying","thing"] spRowFor:=by
 refine F.ok scRowForRoll (fun vs H Q E h=>?_) (fun cdv A outer s H vs Q E hr h=>?_)
 ·obtain ⟨t,ws,x,r,rfl,_⟩:=h
  rfl
 ·refine ⟨_,pss_one (ps_tryN (fun e s z=>z) (pss_one (ps_ret (pe_call GR hr rfl mR kR bR .nil pass0 (pa_c (pv 0) (pa_c (pv 1) pa_nil)))))),?_⟩
  obtain ⟨t,ws,x,r,rfl,hL,hw8,ht,hok,k⟩:=h
  exact ⟨_,rfl,_,rfl,t,ws,x,r,rfl,hL,hw8,ht,hok,k⟩
end
end K5
namespace K5
open PySem L2
mutual
theorem RdV.keepN {m:Bool}{H H':Hp} (k:∀ a o,H a=some o→(∀ kv,o≠.dK kv)→H' a=some o):∀ {x:V}{d:PyData},RdV m H x d→d.hasDict=false→RdV m H' x d
 | _,_,.non,_=>.non
 | _,_,.bl b,_=>.bl b
 | _,_,.int i,_=>.int i
 | _,_,.str z h,_=>.str z h
 | _,_,.lst hm e hl r,hd=>.lst hm (k _ _ e (fun _ z=>nomatch z)) hl (RdVs.keepN k r hd)
 | _,_,.tup e hl r,hd=>.tup (k _ _ e (fun _ z=>nomatch z)) hl (RdVs.keepN k r hd)
 | _,_,.dct hm e,hd=>by simp[PyData.hasDict] at hd
theorem RdVs.keepN {m:Bool}{H H':Hp} (k:∀ a o,H a=some o→(∀ kv,o≠.dK kv)→H' a=some o):∀ {xs:List V}{ds:List PyData},RdVs m H xs ds→PyData.hasDictAll ds=false→RdVs m H' xs ds
 | _,_,.nil,_=>.nil
 | _,_,.cons a r,hd=>by
  have hd':(PyData.hasDict _ || PyData.hasDictAll _)=false:=hd
  rw[Bool.or_eq_false_iff] at hd'
  exact .cons (RdV.keepN k a hd'.1) (RdVs.keepN k r hd'.2)
end
def NamedAt (H:Hp) (kvs:List (Key×V)) (us:List RowI):Prop:=kvs.length=us.length∧∀ (i:Nat) (p:Key×V),kvs[i]?=some p→∃ u,us[i]?=some u∧p.1=Sum.inr u.name∧RdV false H p.2 u.d
theorem NamedAt.same {H H':Hp}{kvs:List (Key×V)}{us:List RowI} (h:NamedAt H kvs us) (s:∀ {x:V}{d:PyData},RdV false H x d→RdV false H' x d):NamedAt H' kvs us:=
 ⟨h.1,fun i p hp=>by obtain ⟨u,a,b,c⟩:=h.2 i p hp;exact ⟨u,a,b,s c⟩⟩
inductive I_Pv (t q D:Addr) (H:Hp) (rs:List RowI) (i:Nat) (σ:St) (H':Hp):Prop
 | mk (o3 o4:Option V) (kvs:List (Key×V)) (us:List RowI) (q0:σ=[some (.ref t),some (.ref q),some (.ref D),o3,o4]) (q1:Same H H') (q2:H' D=some (.dK kvs)) (q3:NamedAt H' kvs us) (q4:(us.map (·.name)).Nodup) (q5:∀ r,r∈us↔r∈rs.take i):I_Pv t q D H rs i σ H'
def Pv (t q D:Addr) (H:Hp) (rs:List RowI) (i:Nat) (σ:St) (H':Hp):Prop:=I_Pv t q D H rs i σ H'
structure Things (H:Hp) (ws:List Str) (xs:List V) (rs:List RowI):Prop where
 len:xs.length=rs.length
 at':∀ (i:Nat) (x:V),xs[i]?=some x→∃ r,rs[i]?=some r∧Thg H x r∧r.Ok ws
 uniq:∀ r∈rs,∀ r'∈rs,r.name=r'.name→r=r'
inductive I_spByNames (vs:List V) (H:Hp) (Q:VK) (u3_:XK):Prop
 | mk (t:Addr) (ws:List Str) (q:Addr) (xs:List V) (rs:List RowI) (q0:vs=[.ref t,.ref q]) (q1:LayAt H t ws) (q2:ws.length≤8) (q3:(H q=some (.lst xs)∨H q=some (.tup xs))) (q4:rs.length≤200) (q5:Things H ws xs rs) (q6:∀ (D:Addr) (kvs:List (Key×V)) (us:List RowI) (H':Hp),Same H H'→H D=none→H' D=some (.dK kvs)→NamedAt H' kvs us→(us.map (·.name)).Nodup→(∀ r,r∈us↔r∈rs)→Q (.ref D) H'):I_spByNames vs H Q u3_
def spByNames:Sp:=fun vs H Q u3_=>I_spByNames vs H Q u3_
theorem RowS.dep {word:Str}{ds:List PyData} (h:RowS word ds):∀ d∈ds,DepP 2 d:=by
 have leaf:∀ {n:Nat} {d:PyData},isSeq d=false→DepP n d:=fun {n d} hd=>by
  have:∀ ds,d≠.tuple ds∧d≠.list ds:=fun ds=>⟨fun z=>by rw[z] at hd;simp[isSeq] at hd,fun z=>by rw[z] at hd;simp[isSeq] at hd⟩
  cases n with
  | zero=>exact this
  | succ n=>exact .inl this
 intro d hd
 rcases h.ok d hd with ⟨z,_⟩ | ⟨es,rfl,_,hs⟩
 ·exact leaf z
 ·refine .inr ⟨es,rfl,fun e he=>?_⟩
  rcases hs e he with ⟨z,_⟩ | ⟨is,rfl,_,hi⟩
  ·exact leaf z
  ·refine .inr ⟨is,rfl,fun i hi'=>?_⟩
   have hz:=(hi i hi').dp
   refine leaf ?_
   cases i with
   | list ds=>simp[PyData.depth] at hz
   | tuple ds=>simp[PyData.depth] at hz
   | _=>rfl
theorem row_dep {word name:Str}{day:Int}{ds:List PyData} (h:RowS word ds):∀ e∈(PyData.str word :: PyData.str name :: PyData.int day :: ds),DepP 2 e:=fun e he=>by
 simp only [List.mem_cons] at he
 rcases he with rfl | rfl | rfl | he
 ·exact .inl fun ds=>⟨(fun z=>nomatch z),fun z=>nomatch z⟩
 ·exact .inl fun ds=>⟨(fun z=>nomatch z),fun z=>nomatch z⟩
 ·exact .inl fun ds=>⟨(fun z=>nomatch z),fun z=>nomatch z⟩
 ·exact h.dep e he
theorem row_nodict {word name:Str}{day:Int}{ds:List PyData} (h:RowS word ds):PyData.hasDictAll (PyData.str word :: PyData.str name :: PyData.int day :: ds)=false:=by
 show (false || (false || (false || PyData.hasDictAll ds)))=false
 rw[h.nodict]
 rfl
theorem valV_at {kvs:List (Key×V)}{k:Key}{v:V} (h:valV kvs k=some v):∃ i:Nat,kvs[i]?=some (k,v):=by
 unfold valV at h
 cases hf:kvs.find? (fun kv=>decide (kv.1=k)) with
 | none=>rw[hf] at h;cases h
 | some p=>
  rw[hf] at h
  have hp:=List.find?_some hf
  have hm:=List.mem_of_find?_eq_some hf
  obtain ⟨i,hi⟩:=List.getElem?_of_mem hm
  have e1:p.1=k:=of_decide_eq_true hp
  have e2:p.2=v:=by simpa using h
  refine ⟨i,?_⟩
  rw[hi,← e1,← e2]
theorem valV_none_at {kvs:List (Key×V)}{k:Key} (h:valV kvs k=none):∀ p∈kvs,p.1≠k:=fun p hp e=>by
 unfold valV at h
 cases hf:kvs.find? (fun kv=>decide (kv.1=k)) with
 | none=>
  have:=List.find?_eq_none.mp hf p hp
  exact this (decide_eq_true e)
 | some p'=>rw[hf] at h;cases h
section
variable {P:Program}{w:World}{K:W.Frag}{mg:Str→Option Value}{base:Heap}
theorem scByNames:FnScope ["laying","things","named","thing","row"] ["laying","things"] (defScope sByNames):=⟨rfl,rfl,rfl,by decide,rfl,by decide,by decide⟩
theorem ok_byNames {f fR:Addr}{fd fdR:FuncData} (F:Fun K "by_names" "by_names" sByNames f fd)
  (GR:FnOk P w K mg base CX0 10 fR fdR ["laying","thing"] spRowFor) (mR:mg "row_for_roll"=some (.ref fR)) (kR:W.keepIn K (.ref fR)=true) (bR:Binds K fdR ["laying","thing"] []):
  FnOk P w K mg base CX0 11 f fd ["laying","things"] spByNames:=by
 refine F.ok scByNames (fun vs H Q E h=>?_) (fun cdv A outer s H vs Q E hr h=>?_)
 ·obtain ⟨t,ws,q,xs,rs,rfl,_⟩:=h
  rfl
 ·obtain ⟨t,ws,q,xs,rs,rfl,hL,hw8,hqq,h200,hT,k⟩:=h
  have hxl:=hT.len
  have hu:(A.deeper (PyProof.Rows.envOfC "by_names" (defScope sByNames) s.heap.objs.size f cdv)).units + 4 * 2 + 8 < cLine:=by have:=hr.un;omega
  rcases hqq with hq | hq
  ·refine ⟨_,pss_cons (ps_set (i:=2) scByNames.nd rfl (Or.inl rfl) pe_dnewK)
    (pss_cons (ps_for PassesOwn.never rfl (pi_list (pv 1)) (pg_name (i:=3) scByNames.nd rfl (Or.inl rfl))
     (pss_cons (ps_set (i:=4) scByNames.nd rfl (Or.inl rfl) (pe_call GR hr rfl mR kR bR .nil pass0 (pa_c (pv 0) (pa_c (pv 3) pa_nil))))
     (pss_one (ps_if (pt_cmpR (op_neSame (n:=2) hu) (pe_dsd (pv 2) (pe_ix ix_tup (pv 4) pe_int (fun _ _=>rfl)) (pv 4) ⟨rfl,rfl,rfl,rfl⟩) (pv 4) (nomark _)) pss_never pss_nil))))
    (pss_one (ps_ret (pv 2)))),?_⟩
   refine fun D hD=>?_
   have sD:=Same.new (o:=.dK []) hD
   refine ⟨_,rfl,q,rfl,⟨xs,SqL.of (sD _ _ hq)⟩,for_list (K:=K) (xs:=xs) (Pv t q D H rs) ⟨none,none,[],[],rfl,sD,upd_same,⟨rfl,fun i p hp=>by simp at hp⟩,List.nodup_nil,fun r=>by simp⟩ (fun j σ H' _ z=>by obtain ⟨_,_,_,_,_,S,_⟩:=z;exact SqL.of (S _ _ hq)) ?_ ?_⟩
   ·rintro i x σ H1 hx ⟨o3,o4,kvs,us,rfl,S,hDk,hN,hnd,hus⟩
    obtain ⟨r,hr1,ht,hok⟩:=hT.at' i x hx
    have hm:=List.mem_of_getElem? hr1
    dsimp only [gName]
    refine ⟨_,rfl,_,rfl,t,ws,x,r,rfl,hL.same S,hw8,ht.same S,hok,fun y H2 s2 ry=>?_⟩
    have nod:=row_nodict (word:=r.word) (name:=r.name) (day:=r.day) hok.rs
    have nod':r.d.hasDict=false:=nod
    have dep:=row_dep (word:=r.word) (name:=r.name) (day:=r.day) hok.rs
    have hN2:=hN.same fun z=>z.same s2
    have hD2:=s2 _ _ hDk
    obtain ⟨a,rest,rfl,ea,_⟩:=hok.at ry
    have hkl:kvs.length≤200:=by
     rw[hN.1]
     have h1:us.length≤(rs.take i).length:=by
      have h2:us.Nodup:=List.Pairwise.imp (fun h e=>h (by rw[e])) (List.pairwise_map.mp hnd)
      exact List.Nodup.length_le_of_subset h2 fun z hz=>(hus z).mp hz
     rw[List.length_take] at h1
     omega
    have htk:rs.take (i + 1)=rs.take i ++ [r]:=by rw[List.take_add_one,hr1];rfl
    refine ⟨_,rfl,D,rfl,.inl ⟨_,.inl hD2⟩,_,rfl,a,_,1,_,rfl,rfl,SqT.of ea,atI_nat (j:=1) rfl,_,rfl,kvs,Sum.inr r.name,hD2,by omega,rfl,fun v hv=>?_,fun hv=>?_⟩
    ·obtain ⟨j,hj⟩:=valV_at hv
     obtain ⟨u,hu1,hu2,ru⟩:=hN2.2 j _ hj
     have hun:u.name=r.name:=by injection hu2.symm
     have hur:u∈rs:=List.mem_of_mem_take ((hus u).mp (List.mem_of_getElem? hu1))
     have eur:u=r:=hT.uniq u hur r hm hun
     subst eur
     obtain ⟨b,_,rfl,eb,_⟩:=hok.at ru
     refine ⟨_,rfl,b,a,_,rfl,rfl,ru,ry,dep,nod,_,rfl,?_⟩
     refine iteF ?_
     refine ⟨_,_,kvs,us,rfl,S.trans s2,hD2,hN2,hnd,fun z=>?_⟩
     rw[htk,List.mem_append,hus z,List.mem_singleton]
     exact ⟨.inl,fun h=>h.elim id fun e=>by rw[e];exact (hus u).mp (List.mem_of_getElem? hu1)⟩
    ·have nm:∀ p∈kvs,p.1≠Sum.inr r.name:=valV_none_at hv
     have ep:putK kvs (Sum.inr r.name) (V.ref a)=kvs ++ [(Sum.inr r.name,V.ref a)]:=by
      unfold putK
      rw[if_neg]
      intro h
      obtain ⟨p,hp,e⟩:=List.any_eq_true.mp h
      exact nm p hp (of_decide_eq_true e)
     rw[ep]
     have kN:∀ b o,H2 b=some o→(∀ kv,o≠.dK kv)→upd H2 D (.dK (kvs ++ [(Sum.inr r.name,V.ref a)])) b=some o:=fun b o e ho=>by
      rw[upd_ne fun z=>by rw[z,hD2] at e;cases e;exact ho _ rfl]
      exact e
     have ry3:=RdV.keepN kN ry nod'
     refine ⟨_,rfl,a,a,_,rfl,rfl,ry3,ry3,dep,nod,_,rfl,?_⟩
     refine iteF ?_
     have nu:∀ u∈us,u.name≠r.name:=fun u hu e=>by
      obtain ⟨j,hj⟩:=List.getElem?_of_mem hu
      have hjl:j < kvs.length:=by rw[hN.1];exact (List.getElem?_eq_some_iff.mp hj).1
      obtain ⟨u',hu1,hu2,_⟩:=hN.2 j kvs[j] (List.getElem?_eq_getElem hjl)
      rw[hj] at hu1
      cases hu1
      exact nm kvs[j] (List.getElem_mem hjl) (by rw[hu2,e])
     refine ⟨_,_,kvs ++ [(Sum.inr r.name,V.ref a)],us ++ [r],rfl,fun b o e=>?_,upd_same,⟨by rw[List.length_append,List.length_append,hN.1];rfl,fun j p hp=>?_⟩,?_,fun z=>?_⟩
     ·rw[upd_ne fun z=>by rw[z,hD] at e;cases e]
      exact s2 _ _ (S _ _ e)
     ·by_cases hj:j < kvs.length
      ·rw[List.getElem?_append_left hj] at hp
       obtain ⟨u,h1,h2,h3⟩:=hN2.2 j p hp
       have hus1:u∈rs:=List.mem_of_mem_take ((hus u).mp (List.mem_of_getElem? h1))
       obtain ⟨j2,hj2⟩:=List.getElem?_of_mem hus1
       have hjx:j2 < xs.length:=by rw[hT.len];exact (List.getElem?_eq_some_iff.mp hj2).1
       obtain ⟨u2,hu2,_,hok2⟩:=hT.at' j2 _ (List.getElem?_eq_getElem hjx)
       rw[hj2] at hu2
       cases hu2
       exact ⟨u,by rw[List.getElem?_append_left (by rw[← hN.1];exact hj)];exact h1,h2,RdV.keepN kN h3 (row_nodict (word:=u.word) (name:=u.name) (day:=u.day) hok2.rs)⟩
      ·rw[List.getElem?_append_right (by omega)] at hp
       have e0:j - kvs.length=0:=by
        cases h:j - kvs.length with
        | zero=>rfl
        | succ n=>rw[h] at hp;simp at hp
       rw[e0] at hp
       have ep':(Sum.inr r.name,V.ref a)=p:=by simpa using hp
       subst ep'
       exact ⟨r,by rw[List.getElem?_append_right (by rw[← hN.1];omega),← hN.1,e0];rfl,rfl,ry3⟩
     ·rw[List.map_append,List.nodup_append]
      refine ⟨hnd,by simp,fun p hp q hq=>?_⟩
      obtain ⟨u,hu,rfl⟩:=List.mem_map.mp hp
      have:q=r.name:=by simpa using hq
      rw[this]
      exact nu u hu
     ·rw[htk,List.mem_append,List.mem_append,hus z]
   ·rintro σ H1 ⟨o3,o4,kvs,us,rfl,S,hDk,hN,hnd,hus⟩
    rw[hxl,List.take_length] at hus
    exact ⟨_,rfl,k D kvs us H1 S hD hDk hN hnd hus⟩
  ·refine ⟨_,pss_cons (ps_set (i:=2) scByNames.nd rfl (Or.inl rfl) pe_dnewK)
    (pss_cons (ps_for PassesOwn.never rfl (pi_tup (pv 1)) (pg_name (i:=3) scByNames.nd rfl (Or.inl rfl))
     (pss_cons (ps_set (i:=4) scByNames.nd rfl (Or.inl rfl) (pe_call GR hr rfl mR kR bR .nil pass0 (pa_c (pv 0) (pa_c (pv 3) pa_nil))))
     (pss_one (ps_if (pt_cmpR (op_neSame (n:=2) hu) (pe_dsd (pv 2) (pe_ix ix_tup (pv 4) pe_int (fun _ _=>rfl)) (pv 4) ⟨rfl,rfl,rfl,rfl⟩) (pv 4) (nomark _)) pss_never pss_nil))))
    (pss_one (ps_ret (pv 2)))),?_⟩
   refine fun D hD=>?_
   have sD:=Same.new (o:=.dK []) hD
   refine ⟨_,rfl,q,rfl,⟨xs,SqT.of (sD _ _ hq)⟩,for_tup (K:=K) (xs:=xs) (Pv t q D H rs) ⟨none,none,[],[],rfl,sD,upd_same,⟨rfl,fun i p hp=>by simp at hp⟩,List.nodup_nil,fun r=>by simp⟩ (fun j σ H' _ z=>by obtain ⟨_,_,_,_,_,S,_⟩:=z;exact SqT.of (S _ _ hq)) ?_ ?_⟩
   ·rintro i x σ H1 hx ⟨o3,o4,kvs,us,rfl,S,hDk,hN,hnd,hus⟩
    obtain ⟨r,hr1,ht,hok⟩:=hT.at' i x hx
    have hm:=List.mem_of_getElem? hr1
    dsimp only [gName]
    refine ⟨_,rfl,_,rfl,t,ws,x,r,rfl,hL.same S,hw8,ht.same S,hok,fun y H2 s2 ry=>?_⟩
    have nod:=row_nodict (word:=r.word) (name:=r.name) (day:=r.day) hok.rs
    have nod':r.d.hasDict=false:=nod
    have dep:=row_dep (word:=r.word) (name:=r.name) (day:=r.day) hok.rs
    have hN2:=hN.same fun z=>z.same s2
    have hD2:=s2 _ _ hDk
    obtain ⟨a,rest,rfl,ea,_⟩:=hok.at ry
    have hkl:kvs.length≤200:=by
     rw[hN.1]
     have h1:us.length≤(rs.take i).length:=by
      have h2:us.Nodup:=List.Pairwise.imp (fun h e=>h (by rw[e])) (List.pairwise_map.mp hnd)
      exact List.Nodup.length_le_of_subset h2 fun z hz=>(hus z).mp hz
     rw[List.length_take] at h1
     omega
    have htk:rs.take (i + 1)=rs.take i ++ [r]:=by rw[List.take_add_one,hr1];rfl
    refine ⟨_,rfl,D,rfl,.inl ⟨_,.inl hD2⟩,_,rfl,a,_,1,_,rfl,rfl,SqT.of ea,atI_nat (j:=1) rfl,_,rfl,kvs,Sum.inr r.name,hD2,by omega,rfl,fun v hv=>?_,fun hv=>?_⟩
    ·obtain ⟨j,hj⟩:=valV_at hv
     obtain ⟨u,hu1,hu2,ru⟩:=hN2.2 j _ hj
     have hun:u.name=r.name:=by injection hu2.symm
     have hur:u∈rs:=List.mem_of_mem_take ((hus u).mp (List.mem_of_getElem? hu1))
     have eur:u=r:=hT.uniq u hur r hm hun
     subst eur
     obtain ⟨b,_,rfl,eb,_⟩:=hok.at ru
     refine ⟨_,rfl,b,a,_,rfl,rfl,ru,ry,dep,nod,_,rfl,?_⟩
     refine iteF ?_
     refine ⟨_,_,kvs,us,rfl,S.trans s2,hD2,hN2,hnd,fun z=>?_⟩
     rw[htk,List.mem_append,hus z,List.mem_singleton]
     exact ⟨.inl,fun h=>h.elim id fun e=>by rw[e];exact (hus u).mp (List.mem_of_getElem? hu1)⟩
    ·have nm:∀ p∈kvs,p.1≠Sum.inr r.name:=valV_none_at hv
     have ep:putK kvs (Sum.inr r.name) (V.ref a)=kvs ++ [(Sum.inr r.name,V.ref a)]:=by
      unfold putK
      rw[if_neg]
      intro h
      obtain ⟨p,hp,e⟩:=List.any_eq_true.mp h
      exact nm p hp (of_decide_eq_true e)
     rw[ep]
     have kN:∀ b o,H2 b=some o→(∀ kv,o≠.dK kv)→upd H2 D (.dK (kvs ++ [(Sum.inr r.name,V.ref a)])) b=some o:=fun b o e ho=>by
      rw[upd_ne fun z=>by rw[z,hD2] at e;cases e;exact ho _ rfl]
      exact e
     have ry3:=RdV.keepN kN ry nod'
     refine ⟨_,rfl,a,a,_,rfl,rfl,ry3,ry3,dep,nod,_,rfl,?_⟩
     refine iteF ?_
     have nu:∀ u∈us,u.name≠r.name:=fun u hu e=>by
      obtain ⟨j,hj⟩:=List.getElem?_of_mem hu
      have hjl:j < kvs.length:=by rw[hN.1];exact (List.getElem?_eq_some_iff.mp hj).1
      obtain ⟨u',hu1,hu2,_⟩:=hN.2 j kvs[j] (List.getElem?_eq_getElem hjl)
      rw[hj] at hu1
      cases hu1
      exact nm kvs[j] (List.getElem_mem hjl) (by rw[hu2,e])
     refine ⟨_,_,kvs ++ [(Sum.inr r.name,V.ref a)],us ++ [r],rfl,fun b o e=>?_,upd_same,⟨by rw[List.length_append,List.length_append,hN.1];rfl,fun j p hp=>?_⟩,?_,fun z=>?_⟩
     ·rw[upd_ne fun z=>by rw[z,hD] at e;cases e]
      exact s2 _ _ (S _ _ e)
     ·by_cases hj:j < kvs.length
      ·rw[List.getElem?_append_left hj] at hp
       obtain ⟨u,h1,h2,h3⟩:=hN2.2 j p hp
       have hus1:u∈rs:=List.mem_of_mem_take ((hus u).mp (List.mem_of_getElem? h1))
       obtain ⟨j2,hj2⟩:=List.getElem?_of_mem hus1
       have hjx:j2 < xs.length:=by rw[hT.len];exact (List.getElem?_eq_some_iff.mp hj2).1
       obtain ⟨u2,hu2,_,hok2⟩:=hT.at' j2 _ (List.getElem?_eq_getElem hjx)
       rw[hj2] at hu2
       cases hu2
       exact ⟨u,by rw[List.getElem?_append_left (by rw[← hN.1];exact hj)];exact h1,h2,RdV.keepN kN h3 (row_nodict (word:=u.word) (name:=u.name) (day:=u.day) hok2.rs)⟩
      ·rw[List.getElem?_append_right (by omega)] at hp
       have e0:j - kvs.length=0:=by
        cases h:j - kvs.length with
        | zero=>rfl
        | succ n=>rw[h] at hp;simp at hp
       rw[e0] at hp
       have ep':(Sum.inr r.name,V.ref a)=p:=by simpa using hp
       subst ep'
       exact ⟨r,by rw[List.getElem?_append_right (by rw[← hN.1];omega),← hN.1,e0];rfl,rfl,ry3⟩
     ·rw[List.map_append,List.nodup_append]
      refine ⟨hnd,by simp,fun p hp q hq=>?_⟩
      obtain ⟨u,hu,rfl⟩:=List.mem_map.mp hp
      have:q=r.name:=by simpa using hq
      rw[this]
      exact nu u hu
     ·rw[htk,List.mem_append,List.mem_append,hus z]
   ·rintro σ H1 ⟨o3,o4,kvs,us,rfl,S,hDk,hN,hnd,hus⟩
    rw[hxl,List.take_length] at hus
    exact ⟨_,rfl,k D kvs us H1 S hD hDk hN hnd hus⟩
end
end K5
namespace K5
open PySem L2
def RiseR (os:List RowI):Prop:=os.Pairwise fun a b=>lexK a.key b.key=true
theorem riseR_uniq:∀ {l m:List RowI},l.Perm m→RiseR l→RiseR m→l=m
 | [],m,h,_,_=>(List.Perm.eq_nil h.symm).symm
 | x :: r,[],h,_,_=>by simpa using h.length_eq
 | x :: r,y :: q,h,h1,h2=>by
  obtain ⟨a1,a2⟩:=List.pairwise_cons.mp h1
  obtain ⟨b1,b2⟩:=List.pairwise_cons.mp h2
  have e:x=y:=by
   rcases List.mem_cons.mp (h.mem_iff.mp (List.mem_cons_self (a:=x) (l:=r))) with e | hx
   ·exact e
   ·rcases List.mem_cons.mp (h.mem_iff.mpr (List.mem_cons_self (a:=y) (l:=q))) with e | hy
    ·exact e.symm
    ·have:=lexK_trans (a1 y hy) (b1 x hx)
     rw[lexK_irr] at this
     cases this
  subst e
  rw[riseR_uniq ((List.perm_cons x).mp h) a2 b2]
theorem outX_rows {us:List RowI}{kk:List L2.K3}{p:List Nat} (hk:kk=us.map RowI.key) (hn:(us.map (·.name)).Nodup) (ho:OutX kk p) {d:RowI}:(p.map fun i=>us.getD i d).Perm us∧RiseR (p.map fun i=>us.getD i d):=by
 subst hk
 obtain ⟨hp,hs⟩:=ho
 rw[List.length_map] at hp
 have hlt:∀ i∈p,i < us.length:=fun i hi=>List.mem_range.mp (hp.mem_iff.mp hi)
 have hnk:(us.map RowI.key).Nodup:=by
  refine List.pairwise_map.mpr ((List.pairwise_map.mp hn).imp fun {a b} h e=>h ?_)
  exact congrArg (fun z:L2.K3=>z.2.2) e
 refine ⟨?_,?_⟩
 ·refine (hp.map _).trans (List.Perm.of_eq ?_)
  apply List.ext_getElem?
  intro j
  rw[List.getElem?_map]
  by_cases hj:j < us.length
  ·rw[List.getElem?_range hj,List.getElem?_eq_getElem hj]
   simp[hj]
  ·rw[List.getElem?_eq_none (by simpa using hj),List.getElem?_eq_none (by omega)]
   rfl
 ·have h:=hs hnk
  have e:(p.map fun i=>(us.map RowI.key).getD i k0)=(p.map fun i=>us.getD i d).map RowI.key:=by
   rw[List.map_map]
   refine List.map_congr_left fun i hi=>?_
   have:=hlt i hi
   simp[this]
  rw[e] at h
  exact List.pairwise_map.mp h
structure RowsAt (H:Hp) (xs:List V) (us:List RowI) (fs:List Str):Prop where
 len:xs.length=us.length
 at':∀ (i:Nat) (x:V),xs[i]?=some x→∃ u,us[i]?=some u∧RdV false H x u.d∧u.Ok fs
theorem RowsAt.same {H H':Hp}{xs:List V}{us:List RowI}{fs:List Str} (h:RowsAt H xs us fs) (s:Same H H'):RowsAt H' xs us fs:=
 ⟨h.len,fun i x hx=>by obtain ⟨u,a,b,c⟩:=h.at' i x hx;exact ⟨u,a,b.same s,c⟩⟩
theorem RowsAt.rdvs {H:Hp}:∀ {xs:List V}{us:List RowI}{fs:List Str},RowsAt H xs us fs→RdVs false H xs (us.map RowI.d)
 | [],[],_,_=>.nil
 | [],_ :: _,_,h=>by have:=h.len;simp at this
 | _ :: _,[],_,h=>by have:=h.len;simp at this
 | x :: xs,u :: us,fs,h=>by
  obtain ⟨u',e,r,_⟩:=h.at' 0 x rfl
  have e':u=u':=by simpa using e
  subst e'
  exact .cons r (RowsAt.rdvs ⟨by simpa using h.len,fun i y hy=>h.at' (i + 1) y hy⟩)
inductive I_KeyAt (H:Hp) (y:V) (k:L2.K3):Prop
 | mk (t:_) (rest:_) (w:_) (n:_) (d:_) (q0:y=.ref t) (q1:H t=some (.tup (.str w :: .str n :: .int d :: rest))) (q2:k=(d,rk w,n)):I_KeyAt H y k
def KeyAt (H:Hp) (y:V) (k:L2.K3):Prop:=I_KeyAt H y k
theorem keyAt_of {H:Hp}{y:V}{k:L2.K3}{u:RowI}{fs:List Str} (h:KeyAt H y k) (r:RdV false H y u.d) (ok:u.Ok fs):k=u.key:=by
 obtain ⟨t,rest,w,n,d,rfl,e,rfl⟩:=h
 obtain ⟨t',rest',e1,e2,_⟩:=ok.at r
 cases e1
 rw[e] at e2
 cases e2
 rfl
theorem sortedRows {H1 H':Hp}{xs:List V}{us:List RowI}{fs:List Str}{kk:List L2.K3}{p:List Nat} (hR:RowsAt H1 xs us fs) (hn:(us.map (·.name)).Nodup) (hkl:kk.length=xs.length) (hk:∀ i,i < xs.length→KeyAt H1 (xs.getD i .non) (kk.getD i k0)) (ho:OutX kk p) (s:Same H1 H'):
  ∃ os:List RowI,os.Perm us∧RiseR os∧RowsAt H' (p.map fun i=>xs.getD i .non) os fs:=by
 have hxl:=hR.len
 have ek:kk=us.map RowI.key:=by
  apply List.ext_getElem (by rw[List.length_map];omega)
  intro i h1 h2
  have hi:i < xs.length:=by omega
  have hiu:i < us.length:=by omega
  obtain ⟨u,e,r,ok⟩:=hR.at' i xs[i] (List.getElem?_eq_getElem hi)
  have eu:us[i]=u:=by rw[List.getElem?_eq_getElem hiu] at e;simpa using e
  have h3:=hk i hi
  have e1:xs.getD i .non=xs[i]:=by simp[hi]
  have e2:kk.getD i k0=kk[i]:=by simp[h1]
  rw[e1,e2] at h3
  rw[List.getElem_map,eu]
  exact keyAt_of h3 r ok
 cases us with
 | nil=>
  have hx0:xs=[]:=List.eq_nil_of_length_eq_zero (by simpa using hxl)
  have hp0:p=[]:=by
   have h:=ho.1.length_eq
   rw[hkl,hx0] at h
   simpa using h
  subst hx0 hp0
  exact ⟨[],List.Perm.refl _,List.Pairwise.nil,⟨rfl,fun i x hx=>by simp at hx⟩⟩
 | cons u0 us'=>
  obtain ⟨h1,h2⟩:=outX_rows (d:=u0) ek hn ho
  refine ⟨_,h1,h2,⟨by rw[List.length_map,List.length_map],fun i x hx=>?_⟩⟩
  rw[List.getElem?_map] at hx
  obtain ⟨j,hj,rfl⟩:=Option.map_eq_some_iff.mp hx
  have hjl:j < xs.length:=by
   have:=List.mem_range.mp (ho.1.mem_iff.mp (List.mem_of_getElem? hj))
   omega
  obtain ⟨u,e,r,ok⟩:=hR.at' j xs[j] (List.getElem?_eq_getElem hjl)
  refine ⟨u,?_,?_,ok⟩
  ·rw[List.getElem?_map,hj]
   show some ((u0 :: us').getD j u0)=some u
   rw[List.getD_eq_getElem?_getD,e]
   rfl
  ·have e1:xs.getD j .non=xs[j]:=by simp[hjl]
   rw[e1]
   exact r.same s
theorem keyCall {H1:Hp}{xs:List V}{us:List RowI}{fs:List Str} (hR:RowsAt H1 xs us fs):∀ y∈xs,∀ (H':Hp) (Q:VK),Same H1 H'→(∀ t a b c H'',Same H' H''→H'' t=some (.tup [.int a,.int b,.str c])→KeyAt H1 y (a,b,c)→Q (.ref t) H'')→spPlace [y] H' Q E0:=fun y hy H' Q S h=>by
 obtain ⟨i,hi⟩:=List.getElem?_of_mem hy
 obtain ⟨u,_,r,ok⟩:=hR.at' i y hi
 have hat:=ok.at r
 obtain ⟨t,rest,rfl,e,hw⟩:=hat
 exact ⟨_,u.word,u.name,u.day,rfl,⟨t,rest,rfl,S _ _ e,hw⟩,fun q H2 S2 e2=>h q _ _ _ H2 S2 e2 ⟨t,rest,_,_,_,rfl,e,rfl⟩⟩
inductive I_spRow (vs:List V) (H:Hp) (Q:VK) (u3_:XK):Prop
 | mk (p c:Addr) (ns:List Int) (a:Int) (name:Str) (day:Int) (tS lf lp lh:Addr) (fs ps hs:List Str) (q0:vs=[.ref p,.str name,.int day,.ref tS]) (q1:PenAt H p c ns a) (q2:a≤600000) (q3:H tS=some (.tup [.ref lf,.ref lp,.ref lh])) (q4:S3 H lf lp lh fs ps hs) (q5:nameB name=true) (q6:0≤day) (q7:day≤9999) (q8:∀ (x:V) (r:RowI) (a':Int) (H':Hp),RdV false H' x r.d→r.name=name→r.Ok fs→a≤a'→a'≤a + 90→PenAt H' p c ns a'→KeepBut p H H'→Q x H'):I_spRow vs H Q u3_
def spRow:Sp:=fun vs H Q u3_=>I_spRow vs H Q u3_
section
variable {P:Program}{w:World}{K:W.Frag}{mg:Str→Option Value}{base:Heap}
theorem scRow:FnScope ["_law_pen_here","_law_name","_law_day","_law_sorts_here","_law_terms"] ["_law_pen_here","_law_name","_law_day","_law_sorts_here"] (defScope sRow):=⟨rfl,rfl,rfl,by decide,rfl,by decide,by decide⟩
theorem ok_row {f fT fR:Addr}{fd fdT fdR:FuncData} (F:Fun K "_law_row" "_law_row" sRow f fd)
  (GT:FnOk P w K mg base CX0 1 fT fdT ["_law_pen_here","_law_many"] spTake) (mT:mg "_law_take"=some (.ref fT)) (kT:W.keepIn K (.ref fT)=true) (bT:Binds K fdT ["_law_pen_here","_law_many"] [])
  (GR:FnOk P w K mg base CX0 3 fR fdR ["_law_pen_here","_law_word","_law_name","_law_day","_law_sorts_here"] spRowOf) (mR:mg "_law_row_of"=some (.ref fR)) (kR:W.keepIn K (.ref fR)=true) (bR:Binds K fdR ["_law_pen_here","_law_word","_law_name","_law_day","_law_sorts_here"] []):
  FnOk P w K mg base CX0 4 f fd ["_law_pen_here","_law_name","_law_day","_law_sorts_here"] spRow:=by
 refine F.ok scRow (fun vs H Q E h=>?_) (fun cdv A outer s H vs Q E hr h=>?_)
 ·obtain ⟨p,c,ns,a,name,day,tS,lf,lp,lh,fs,ps,hs,rfl,_⟩:=h
  rfl
 ·obtain ⟨p,c,ns,a,name,day,tS,lf,lp,lh,fs,ps,hs,rfl,hp,ha,htS,h3,hnm,d0,d1,k⟩:=h
  have hr1:Room 1 _:=hr.mono (by decide)
  refine ⟨_,pss_cons (ps_set (i:=4) scRow.nd rfl (Or.inl rfl) (pe_lst (pa_c pe_str (pa_c pe_str (pa_c pe_str (pa_c pe_str (pa_c pe_str (pa_c pe_str (pa_c pe_str (pa_c pe_str (pa_c pe_str (pa_c pe_str pa_nil))))))))))))
   (pss_one (ps_ret (pe_call GR hr rfl mR kR bR .nil pass0 (pa_c (pv 0) (pa_c (pe_ix ix_list (pv 4) (pe_call GT hr1 rfl mT kT bT .nil pass0 (pa_c (pv 0) (pa_c pe_int pa_nil))) (fun _ _=>rfl)) (pa_c (pv 1) (pa_c (pv 2) (pa_c (pv 3) pa_nil)))))))),?_⟩
  refine ⟨sizeLine_big (by show 10≤1000000;decide),fun L hL=>?_⟩
  have sL:=Same.new (o:=.lst [V.str "part",.str "join",.str "forfeit",.str "measure",.str "mend",.str "alone",.str "breach",.str "view",.str "part",.str "join"]) hL
  refine ⟨_,rfl,_,rfl,_,rfl,p,c,ns,a,_,rfl,hp.same sL,by omega,by decide,by decide,fun r1 a1 H1 r10 r11 la1 ua1 hp1 kp1=>?_⟩
  obtain ⟨v,hv,hat⟩:=atI_in (xs:=[V.str "part",.str "join",.str "forfeit",.str "measure",.str "mend",.str "alone",.str "breach",.str "view",.str "part",.str "join"]) (i:=r1) r10 (by show r1 < 10;omega)
  obtain ⟨word,rfl,hw⟩:∃ word:Str,v=.str word∧word∈words8:=by
   simp only [List.mem_cons,List.not_mem_nil,or_false] at hv
   rcases hv with rfl | rfl | rfl | rfl | rfl | rfl | rfl | rfl | rfl | rfl <;> exact ⟨_,rfl,by decide⟩
  have k1:KeepBut p H H1:=(Same.but sL).trans kp1
  refine ⟨L,_,r1,_,rfl,rfl,SqL.of (lst_but upd_same (hp.same sL) kp1),hat,?_⟩
  refine ⟨_,rfl,_,rfl,_,rfl,p,c,ns,a1,word,name,day,tS,lf,lp,lh,fs,ps,hs,rfl,hp1,by omega,tup_but htS hp k1,h3.but hp k1,hw,hnm,fun t ds rest a2 H2 ht hrest hRS hFI la2 ua2 hp2 kp2=>?_⟩
  have hl4:=hrest.len
  have hd4:=hRS.len
  exact k (.ref t) ⟨word,name,day,ds⟩ a2 H2 (.tup ht (by simp only [List.length_cons];omega) (.cons (.str word (word_len hw)) (.cons (nm_rd hnm) (.cons (.int day) hrest)))) rfl ⟨hRS,hnm,d0,d1,hFI⟩ (by omega) (by omega) hp2 (k1.trans kp2)
end
end K5
namespace K5
open PySem L2
def rollD (lds:List PyData) (os:List RowI):PyData:=.tuple [.tuple lds,.tuple (os.map RowI.d)]
inductive IRollOf (vs:List V) (H:Hp) (Q:VK) (E:XK):Prop
 | mk (x:V) (q:Addr) (d0:PyData) (lds:List PyData) (xs:List V) (rs us0:List RowI) (h0:vs=[x,.ref q]) (rx:RdV true H x d0) (ed:tupD 2 d0=.tuple lds) (hl:layD (.tuple lds)=true) (hf:lds.all fieldD=true) (h8:lds.length≤8)
   (hq:H q=some (.lst xs)∨H q=some (.tup xs)) (h200:rs.length≤200) (hT:Things H (lds.map headS) xs rs) (hn:(us0.map (·.name)).Nodup) (hm:∀ r,r∈us0↔r∈rs) (h40:us0.length≤40)
   (k:∀ (t:Addr) (os:List RowI) (H':Hp),Same H H'→os.Perm us0→RiseR os→RdV false H' (.ref t) (rollD lds os)→Q (.ref t) H'):IRollOf vs H Q E
def spRollOf:Sp:=fun vs H Q E=>IRollOf vs H Q E
theorem plain_name {d:PyData} (h:nameD d=true):PlainD d:=by
 cases d with
 | str z=>exact .str z
 | _=>simp[nameD] at h
theorem plain_whole {lo hi:Int}{d:PyData} (h:wholeD lo hi d=true):PlainD d:=by
 cases d with
 | int i=>exact .int i
 | _=>simp[wholeD] at h
theorem plain_field {d:PyData} (h:fieldD d=true):PlainD d:=by
 obtain ⟨f,g,a,j,rfl,_,h2,h3,h4⟩:=field_form h
 exact .tup (.cons (.str f) (.cons (plain_name h2) (.cons (plain_whole h3) (.cons (plain_whole h4) .nil))))
theorem plain_fields:∀ {lds:List PyData},lds.all fieldD=true→PlainDs lds
 | [],_=>.nil
 | d :: r,h=>by
  rw[List.all_cons,Bool.and_eq_true] at h
  exact .cons (plain_field h.1) (plain_fields h.2)
section
variable {P:Program}{w:World}{K:W.Frag}{mg:Str→Option Value}{base:Heap}
theorem scRollOf:FnScope ["laying","rows","made","named"] ["laying","rows"] (defScope sRollOf):=⟨rfl,rfl,rfl,by decide,rfl,by decide,by decide⟩
theorem ok_rollOf {f fL fB fO:Addr}{fd fdL fdB fdO:FuncData} (F:Fun K "roll_of" "roll_of" sRollOf f fd) (T:Txt K mg) (hlist:mg "list"=none) (hsor:mg "sorted"=none) (hmost:∃ t,mg "MOST_ROWS"=some (.int 40 t))
  (GL:FnOk P w K mg base CX0 5 fL fdL ["thing"] spLayingOf) (mL:mg "laying_of"=some (.ref fL)) (kL:W.keepIn K (.ref fL)=true) (bL:Binds K fdL ["thing"] [])
  (GB:FnOk P w K mg base CX0 11 fB fdB ["laying","things"] spByNames) (mB:mg "by_names"=some (.ref fB)) (kB:W.keepIn K (.ref fB)=true) (bB:Binds K fdB ["laying","things"] [])
  (GO:FnOk P w K mg base CX0 1 fO fdO ["row"] spPlace) (mO:mg "order"=some (.ref fO)) (kO:W.keepIn K (.ref fO)=true) (bO:Binds K fdO ["row"] []):
  FnOk P w K mg base CX0 12 f fd ["laying","rows"] spRollOf:=by
 refine F.ok scRollOf (fun vs H Q E h=>?_) (fun cdv A outer s H vs Q E hr h=>?_)
 ·obtain ⟨x,q,d0,lds,xs,rs,us0,rfl,_⟩:=h
  rfl
 ·obtain ⟨x,q,d0,lds,xs,rs,us0,rfl,rx,ed,hl,hf,h8,hq,h200,hT,hn,hm,h40,k⟩:=h
  have hr5:Room 5 _:=hr.mono (by decide)
  have hr3:Room (1 + 2) _:=hr.mono (by decide)
  obtain ⟨tm,hmr⟩:=hmost
  refine ⟨_,pss_cons (ps_set (i:=2) scRollOf.nd rfl (Or.inl rfl) (pe_call GL hr5 rfl mL kL bL .nil pass0 (pa_c (pv 0) pa_nil)))
   (pss_cons (ps_if (pt_not (pt_val (pe_callB call_isinstT (by rfl) T.isi (by kernel_rfl) (pa_c (pv 1) (pa_c (pe_tup (pa_c (pe_bltn (v:=.ty "list") (by rfl) hlist (by kernel_rfl) rfl) (pa_c (pe_bltn (v:=.ty "tuple") (by rfl) T.tuple (by kernel_rfl) rfl) pa_nil))) pa_nil))))) pss_never pss_nil)
   (pss_cons (ps_set (i:=3) scRollOf.nd rfl (Or.inl rfl) (pe_call GB hr rfl mB kB bB .nil pass0 (pa_c (pv 2) (pa_c (pv 1) pa_nil))))
   (pss_cons (ps_if (pt_cmpR op_gt (pe_callB call_lenD (by rfl) T.len PySem.boot_len (pa_c (pv 3) pa_nil)) (pe_glob (v:=.int 40) (by rfl) hmr ⟨_,rfl⟩) (nomark _)) pss_never pss_nil)
   (pss_one (ps_ret (pe_tup (pa_c (pv 2) (pa_c (pe_callTy call_tuple_of (by rfl) T.tuple (by kernel_rfl) (pa_c (pe_sortedX GO hr3 bO (by rfl) hsor (by rfl) mO (pa_c (pe_values (pv 3)) pa_nil)) pa_nil)) pa_nil)))))))),?_⟩
  refine ⟨_,rfl,true,x,d0,rfl,rx,by rw[ed];exact hl,fun y H1 s1 ry=>?_⟩
  rw[ed] at ry
  have ryF:RdV false H1 y (.tuple lds):=RdV.unl ry (.tup (plain_fields hf))
  obtain ⟨tl,rfl⟩:∃ tl,y=.ref tl:=by
   cases ryF with
   | tup e hl r=>exact ⟨_,rfl⟩
  have hLA:LayAt H1 tl (lds.map headS):=LayAt.of ryF hf
  refine ⟨_,rfl,sizeLine_big (by show 2≤1000000;decide),fun q2 hq2=>?_⟩
  have s2:=Same.new (o:=.tup [V.ty "list",.ty "tuple"]) hq2
  have hq3:∀ {H':Hp},Same H H'→H' q=some (.lst xs)∨H' q=some (.tup xs):=fun S=>hq.imp (S _ _) (S _ _)
  have s12:=s1.trans s2
  obtain ⟨tq,htq,hkq⟩:∃ tq,TyOf K (upd H1 q2 (.tup [V.ty "list",.ty "tuple"])) (.ref q) tq∧PySem.W.kitAny K tq [.type "list",.type "tuple"]=some true:=by
   rcases hq3 s12 with e | e
   ·exact ⟨_,TyOf.lst e,kit_seq (.list [])⟩
   ·exact ⟨_,TyOf.tup e,kit_seq (.tuple [])⟩
  refine ⟨_,q2,"list","tuple",tq,true,rfl,upd_same,htq,hkq,_,rfl,?_⟩
  refine iteF ?_
  generalize upd H1 q2 (.tup [V.ty "list",.ty "tuple"])=H2 at s2 s12 htq ⊢
  refine ⟨_,rfl,_,rfl,tl,_,q,xs,rs,rfl,hLA.same s2,by rw[List.length_map];exact h8,hq3 s12,h200,⟨hT.len,fun i z hz=>by obtain ⟨r,a,b,c⟩:=hT.at' i z hz;exact ⟨r,a,b.same s12,c⟩,hT.uniq⟩,fun D kvs us H3 s3 hDn hDk hN hnd hus=>?_⟩
  have hul:us.length≤40:=by
   have h2:us.Nodup:=List.Pairwise.imp (fun h e=>h (by rw[e])) (List.pairwise_map.mp hnd)
   have:=List.Nodup.length_le_of_subset h2 (l₂:=us0) fun z hz=>(hm z).mpr ((hus z).mp hz)
   omega
  have hpu:us.Perm us0:=by
   have h1:us.Nodup:=List.Pairwise.imp (fun h e=>h (by rw[e])) (List.pairwise_map.mp hnd)
   have h2:us0.Nodup:=List.Pairwise.imp (fun h e=>h (by rw[e])) (List.pairwise_map.mp hn)
   exact (List.perm_ext_iff_of_nodup h1 h2).mpr fun z=>(hus z).trans (hm z).symm
  refine ⟨_,rfl,D,kvs,rfl,hDk,_,_,rfl,rfl,_,rfl,?_⟩
  rw[decide_eq_false (show ¬ ((40:Int) < (kvs.length:Int)) by rw[hN.1];omega)]
  refine iteF ?_
  have hok:∀ u∈us,u.Ok (lds.map headS):=fun u hu=>by
   obtain ⟨j,hj⟩:=List.getElem?_of_mem ((hus u).mp hu)
   have hjx:j < xs.length:=by rw[hT.len];exact (List.getElem?_eq_some_iff.mp hj).1
   obtain ⟨u2,h2,_,h4⟩:=hT.at' j _ (List.getElem?_eq_getElem hjx)
   rw[hj] at h2
   cases h2
   exact h4
  have hRA:RowsAt H3 (kvs.map (·.2)) us (lds.map headS):=⟨by rw[List.length_map,hN.1],fun i z hz=>by
   rw[List.getElem?_map] at hz
   obtain ⟨pz,hp,rfl⟩:=Option.map_eq_some_iff.mp hz
   obtain ⟨u,a,_,c⟩:=hN.2 i pz hp
   exact ⟨u,a,c,hok u (List.mem_of_getElem? a)⟩⟩
  refine ⟨_,rfl,_,rfl,D,kvs,rfl,hDk,fun v hv=>?_⟩
  have sv:=Same.new (o:=viewV v D) hv
  have hRA4:=hRA.same sv
  refine ⟨v,kvs.map (·.2),KeyAt (upd H3 v (viewV v D)),rfl,.inr ⟨D,kvs,upd_same,sv _ _ hDk,rfl⟩,by rw[List.length_map,hN.1];omega,keyCall hRA4,fun E1 kk p H5 s5 hE hkl hk ho eE=>?_⟩
  obtain ⟨os,ho1,ho2,ho3⟩:=sortedRows hRA4 hnd hkl hk ho s5
  refine ⟨E1,_,rfl,.inl ⟨SqL.of eE,fun l hl=>⟨sizeLine_big (by show 2≤1000000;decide),fun t ht=>?_⟩⟩⟩
  have sl:=Same.new (o:=.tup (p.map fun i=>(kvs.map (·.2)).getD i .non)) hl
  have el:upd H5 l (.tup (p.map fun i=>(kvs.map (·.2)).getD i .non)) l=some (.tup (p.map fun i=>(kvs.map (·.2)).getD i .non)):=upd_same
  generalize upd H5 l (.tup (p.map fun i=>(kvs.map (·.2)).getD i .non))=H6 at sl el ht ⊢
  have st:=Same.new (o:=.tup [V.ref tl,.ref l]) ht
  have s26:Same H2 H6:=((s3.trans sv).trans s5).trans sl
  have s2t:=s26.trans st
  have hol:=ho1.length_eq
  have hpl:=ho3.len
  refine k t os _ (s12.trans s2t) (ho1.trans hpu) ho2 (.tup upd_same (by show 2≤1000;decide) (.cons (ryF.same (s2.trans s2t)) (.cons (.tup (st _ _ el) (by omega) ((ho3.rdvs).same (sl.trans st))) .nil)))
end
end K5
namespace K5
open PySem L2
abbrev pickV (xs:List V) (js:List Nat):List V:=js.map fun j=>xs.getD j .non
theorem pick_erase {xs:List V}:∀ (js:List Nat) (t:Nat),(pickV xs js).eraseIdx t=pickV xs (js.eraseIdx t)
 | [],_=>rfl
 | _ :: _,0=>rfl
 | j :: js,t + 1=>by
  show _ :: (pickV xs js).eraseIdx t=_ :: pickV xs (js.eraseIdx t)
  rw[pick_erase js t]
theorem mem_erase {js:List Nat}{t j i:Nat} (hj:js[t]?=some j) (hi:i∈js):i∈js.eraseIdx t∨i=j:=by
 have:=erase_permL js t j hj
 rcases List.mem_cons.mp (this.mem_iff.mpr hi) with h | h
 ·exact .inr h
 ·exact .inl h
structure MixJ (n:Nat) (js:List Nat):Prop where
 lt:∀ j∈js,j < n
 all:∀ j,j < n→j∈js
 len:js.length≤2 * n
inductive IMixed (vs:List V) (H:Hp) (Q:VK) (E:XK):Prop
 | mk (p c:Addr) (ns:List Int) (a:Int) (lt:Addr) (xs:List V) (h0:vs=[.ref p,.ref lt]) (hp:PenAt H p c ns a) (ha:a≤700000) (e:H lt=some (.lst xs)) (h80:xs.length≤80)
   (k:∀ (T:Addr) (js:List Nat) (a':Int) (H':Hp),H T=none→(H' T=some (.lst (pickV xs js))∨H' T=some (.tup (pickV xs js)))→MixJ xs.length js→a≤a'→a'≤a + 300→PenAt H' p c ns a'→KeepBut p H H'→Q (.ref T) H'):IMixed vs H Q E
def spMixed:Sp:=fun vs H Q E=>IMixed vs H Q E
theorem free_but {H H':Hp}{p c D:Addr}{ns:List Int}{a:Int} (k:KeepBut p H H') (hp:PenAt H' p c ns a) (hD:H' D=none):H D=none:=by
 cases e:H D with
 | none=>rfl
 | some x=>
  by_cases z:D=p
  ·obtain ⟨y,_,e2⟩:=hp.ob
   rw[z] at hD
   rw[hD] at e2
   cases e2
  ·exact absurd (k D x e z) (by rw[hD];simp)
section
variable {P:Program}{w:World}{K:W.Frag}{mg:Str→Option Value}{base:Heap}
theorem scMixed:FnScope ["_law_pen_here","_law_things","_law_way","_law_left","_law_found","_law_k"] ["_law_pen_here","_law_things"] (defScope sMixed):=⟨rfl,rfl,rfl,by decide,rfl,by decide,by decide⟩
theorem ok_mixed {f fT:Addr}{fd fdT:FuncData} (F:Fun K "_law_mixed" "_law_mixed" sMixed f fd) (hlist:mg "list"=none) (htup:mg "tuple"=none) (hrng:mg "range"=none) (hlen:mg "len"=none)
  (GT:FnOk P w K mg base CX0 1 fT fdT ["_law_pen_here","_law_many"] spTake) (mT:mg "_law_take"=some (.ref fT)) (kT:W.keepIn K (.ref fT)=true) (bT:Binds K fdT ["_law_pen_here","_law_many"] []):
  FnOk P w K mg base CX0 2 f fd ["_law_pen_here","_law_things"] spMixed:=by
 refine F.ok scMixed (fun vs H Q E h=>?_) (fun cdv A outer s H vs Q E hr h=>?_)
 ·obtain ⟨p,c,ns,a,l,xs,rfl,_⟩:=h
  rfl
 ·obtain ⟨p,c,ns,a,l,xs,rfl,hp,ha,hl,h80,k⟩:=h
  refine ⟨_,pss_cons (ps_set (i:=2) scMixed.nd rfl (Or.inl rfl) (pe_call GT hr rfl mT kT bT .nil pass0 (pa_c (pv 0) (pa_c pe_int pa_nil))))
   (pss_cons (ps_set (i:=3) scMixed.nd rfl (Or.inl rfl) (pe_callTy call_list_of (by rfl) hlist (by kernel_rfl) (pa_c (pv 1) pa_nil)))
   (pss_cons (ps_set (i:=4) scMixed.nd rfl (Or.inl rfl) (pe_lst pa_nil))
   (pss_cons (ps_for PassesOwn.never rfl (pi_range1 rfl hrng (pa_c (pe_callB call_len_seq (by rfl) hlen PySem.boot_len (pa_c (pv 1) pa_nil)) pa_nil)) (pg_name (i:=5) scMixed.nd rfl (Or.inl rfl))
    (pss_cons (ps_expr (pe_bm PySem.F.plainAttrs_list PySem.F.slot_list_append PySem.F.type_list_append mt_append (pv 4) (pa_c (pe_bm PySem.F.plainAttrs_list PySem.F.slot_list_pop PySem.F.type_list_pop mt_popAt (pv 3) (pa_c (pe_call GT hr rfl mT kT bT .nil pass0 (pa_c (pv 0) (pa_c (pe_callB call_len_seq (by rfl) hlen PySem.boot_len (pa_c (pv 3) pa_nil)) pa_nil))) pa_nil)) pa_nil)))
    (pss_one (ps_if (pt_cmpR op_eq (pe_call GT hr rfl mT kT bT .nil pass0 (pa_c (pv 0) (pa_c pe_int pa_nil))) pe_int (nomark _))
     (pss_one (ps_expr (pe_bm PySem.F.plainAttrs_list PySem.F.slot_list_append PySem.F.type_list_append mt_append (pv 4) (pa_c (pe_ix ix_list (pv 4) (pe_call GT hr rfl mT kT bT .nil pass0 (pa_c (pv 0) (pa_c (pe_callB call_len_seq (by rfl) hlen PySem.boot_len (pa_c (pv 4) pa_nil)) pa_nil))) (fun _ _=>rfl)) pa_nil)))) pss_nil))))
   (pss_cons (ps_if (pt_cmpR op_eq (pv 2) pe_int (nomark _)) (pss_one (ps_ret (pe_callTy call_tuple_of (by rfl) htup (by kernel_rfl) (pa_c (pv 4) pa_nil)))) pss_nil)
   (pss_one (ps_ret (pv 4))))))),?_⟩
  refine ⟨_,rfl,p,c,ns,a,_,rfl,hp,by omega,by decide,by decide,fun r0 a0 H0 r00 r01 la0 ua0 hp0 kp0=>?_⟩
  have hl0:=lst_but hl hp kp0
  refine ⟨_,rfl,l,_,rfl,.inl (SqL.of hl0),fun L hL=>?_⟩
  have sL:=Same.new (o:=.lst xs) hL
  have eL:upd H0 L (.lst xs) L=some (.lst xs):=upd_same
  generalize upd H0 L (.lst xs)=H1 at sL eL ⊢
  have hp1:=hp0.same sL
  refine ⟨Nat.zero_le _,fun Fo hF=>?_⟩
  have sF:=Same.new (o:=.lst []) hF
  have eF:upd H1 Fo (.lst []) Fo=some (.lst []):=upd_same
  generalize upd H1 Fo (.lst [])=H2 at sF eF ⊢
  have hp2:=hp1.same sF
  have eL2:=sF _ _ eL
  have k2:KeepBut p H H2:=(kp0.same sL).same sF
  have nL:H L=none:=free_but kp0 hp0 hL
  have nF:H Fo=none:=free_but (kp0.same sL) hp1 hF
  have nLF:L≠Fo:=fun z=>by rw[z,hF] at eL;cases eL
  have nLp:L≠p:=fun z=>by obtain ⟨y,_,e⟩:=hp1.ob;rw[z,e] at eL;cases eL
  have nFp:Fo≠p:=fun z=>by obtain ⟨y,_,e⟩:=hp2.ob;rw[z,e] at eF;cases eF
  have nLc:L≠c:=fun z=>by rw[z,hp0.ce] at hL;cases hL
  have nFc:Fo≠c:=fun z=>by rw[z,hp1.ce] at hF;cases hF
  have nlL:l≠L:=fun z=>by rw[← z,hl0] at hL;cases hL
  have nlF:l≠Fo:=fun z=>by rw[← z,sL _ _ hl0] at hF;cases hF
  have nlp:l≠p:=fun z=>by obtain ⟨y,_,e⟩:=hp.ob;rw[z,e] at hl;cases hl
  refine ⟨_,rfl,l,_,rfl,.inl (SqL.of (sF _ _ (sL _ _ hl0))),xs.length,rfl,by omega,by omega,?_⟩
  have en:((xs.length:Nat):Int).toNat=xs.length:=Int.toNat_natCast _
  have ctr:∀ {Ha Hb:Hp},KeepBut p Ha Hb→∀ b o,b≠p→Ha b=some o→Hb b=some o:=fun k b o hb e=>k b o e hb
  refine for_range (n:=((xs.length:Nat):Int).toNat) (fun i σ H'=>Ex4 fun (o5:Option V) (lj fj:List Nat) (a':Int)=>Aw13 (σ=[some (.ref p),some (.ref l),some (.int r0),some (.ref L),some (.ref Fo),o5]) (H' L=some (.lst (pickV xs lj))) (H' Fo=some (.lst (pickV xs fj))) (lj.length + i=xs.length) (i≤fj.length) (fj.length≤2 * i) ((∀ j∈lj,j < xs.length)) ((∀ j∈fj,j < xs.length)) ((∀ j,j < xs.length→j∈lj∨j∈fj)) (PenAt H' p c ns a') (a0≤a') (a'≤a0 + 3 * i) (KeepBut p H H'))
   ⟨none,List.range xs.length,[],a0,rfl,?_,eF,by simp,by simp,by simp,fun j hj=>List.mem_range.mp hj,fun j hj=>by simp at hj,fun j hj=>.inl (List.mem_range.mpr hj),hp2,by omega,by omega,k2⟩ ?_ ?_
  ·rw[eL2]
   congr 2
   apply List.ext_getElem?
   intro j
   rw[List.getElem?_map]
   by_cases hj:j < xs.length
   ·rw[List.getElem?_range hj,List.getElem?_eq_getElem hj]
    simp[hj]
   ·rw[List.getElem?_eq_none (by omega),List.getElem?_eq_none (by simpa using hj)]
    rfl
  ·rintro i σ H3 hi ⟨o5,lj,fj,a3,rfl,eL3,eF3,hll,hfl,hfl2,hlj,hfj,hall,hp3,la3,ua3,k3⟩
   rw[en] at hi
   dsimp only [gName]
   refine ⟨_,rfl,.inl ⟨rfl,_,SqL.of eF3⟩,_,rfl,.inl ⟨rfl,_,SqL.of eL3⟩,_,rfl,_,rfl,L,_,rfl,.inl (SqL.of eL3),p,c,ns,a3,_,rfl,hp3,by omega,by rw[List.length_map];omega,by rw[List.length_map];omega,fun r4 a4 H4 r40 r41 la4 ua4 hp4 kp4=>?_⟩
   obtain ⟨t,rfl⟩:∃ t:Nat,r4=t:=⟨r4.toNat,by omega⟩
   rw[List.length_map] at r41
   have htl:t < lj.length:=by omega
   have hjt:lj[t]?=some lj[t]:=List.getElem?_eq_getElem htl
   generalize hjj:lj[t]=jt at hjt
   have hjn:jt < xs.length:=hlj jt (List.mem_of_getElem? hjt)
   have eL4:=lst_but eL3 hp3 kp4
   have eF4:=lst_but eF3 hp3 kp4
   have hy:(pickV xs lj)[t]?=some (xs.getD jt .non):=by rw[List.getElem?_map,hjt];rfl
   have hsx:seqIndex? (t:Int) (pickV xs lj).length=some t:=by
    unfold seqIndex?
    rw[List.length_map]
    simp
    omega
   refine ⟨L,_,_,t,_,rfl,rfl,eL4,by omega,by omega,hsx,hy,?_⟩
   rw[pick_erase]
   have eF5:upd H4 L (.lst (pickV xs (lj.eraseIdx t))) Fo=some (.lst (pickV xs fj)):=by rw[upd_ne nLF.symm];exact eF4
   refine ⟨Fo,_,_,rfl,rfl,eF5,sizeLine_big (by rw[List.length_map];omega),?_⟩
   have ePk:pickV xs fj ++ [xs.getD jt .non]=pickV xs (fj ++ [jt]):=by rw[pickV,pickV,List.map_append];rfl
   rw[ePk]
   have kU:∀ b o,H b=some o→b≠p→upd (upd H4 L (.lst (pickV xs (lj.eraseIdx t)))) Fo (.lst (pickV xs (fj ++ [jt]))) b=some o:=fun b o e hb=>by
    rw[upd_ne (show b≠Fo from fun z=>by rw[z,nF] at e;cases e),upd_ne (show b≠L from fun z=>by rw[z,nL] at e;cases e)]
    exact (k3.trans kp4) b o e hb
   have hp6:PenAt (upd (upd H4 L (.lst (pickV xs (lj.eraseIdx t)))) Fo (.lst (pickV xs (fj ++ [jt])))) p c ns a4:=pen_upd (pen_upd hp4 nLp nLc) nFp nFc
   have eL6:upd (upd H4 L (.lst (pickV xs (lj.eraseIdx t)))) Fo (.lst (pickV xs (fj ++ [jt]))) L=some (.lst (pickV xs (lj.eraseIdx t))):=by rw[upd_ne nLF,upd_same]
   have eF6:upd (upd H4 L (.lst (pickV xs (lj.eraseIdx t)))) Fo (.lst (pickV xs (fj ++ [jt]))) Fo=some (.lst (pickV xs (fj ++ [jt]))):=upd_same
   generalize upd (upd H4 L (.lst (pickV xs (lj.eraseIdx t)))) Fo (.lst (pickV xs (fj ++ [jt])))=H6 at kU hp6 eL6 eF6 ⊢
   have hle:(lj.eraseIdx t).length + (i + 1)=xs.length:=by rw[List.length_eraseIdx_of_lt htl];omega
   have hlj6:∀ j∈lj.eraseIdx t,j < xs.length:=fun j hj=>hlj j (List.mem_of_mem_eraseIdx hj)
   have hfj6:∀ j∈fj ++ [jt],j < xs.length:=fun j hj=>by
    rcases List.mem_append.mp hj with h | h
    ·exact hfj j h
    ·rw[List.mem_singleton.mp h];exact hjn
   have hall6:∀ j,j < xs.length→j∈lj.eraseIdx t∨j∈fj ++ [jt]:=fun j hj=>by
    rcases hall j hj with h | h
    ·rcases mem_erase hjt h with h | h
     ·exact .inl h
     ·exact .inr (by simp[h])
    ·exact .inr (by simp[h])
   have hf6:(fj ++ [jt]).length=fj.length + 1:=by simp
   generalize fj ++ [jt]=fk at eF6 hfj6 hall6 hf6
   generalize lj.eraseIdx t=lk at eL6 hle hlj6 hall6
   refine ⟨_,rfl,p,c,ns,a4,_,rfl,hp6,by omega,by decide,by decide,fun r7 a7 H7 r70 r71 la7 ua7 hp7 kp7=>⟨rfl,_,rfl,?_⟩⟩
   have eL7:=lst_but eL6 hp6 kp7
   have eF7:=lst_but eF6 hp6 kp7
   have k7:KeepBut p H H7:=fun b o e hb=>kp7 b o (kU b o e hb) hb
   refine ite2 (fun g=>?_) (fun g=>?_)
   ·refine ⟨_,rfl,.inl ⟨rfl,_,SqL.of eF7⟩,_,rfl,_,rfl,_,rfl,Fo,_,rfl,.inl (SqL.of eF7),p,c,ns,a7,_,rfl,hp7,by omega,by rw[List.length_map];omega,by rw[List.length_map];omega,fun r8 a8 H8 r80 r81 la8 ua8 hp8 kp8=>?_⟩
    obtain ⟨u,rfl⟩:∃ u:Nat,r8=u:=⟨r8.toNat,by omega⟩
    rw[List.length_map] at r81
    have hul:u < fk.length:=by omega
    have hju:fk[u]?=some fk[u]:=List.getElem?_eq_getElem hul
    generalize fk[u]=ju at hju
    have eF8:=lst_but eF7 hp7 kp8
    have eL8:=lst_but eL7 hp7 kp8
    have hyu:(pickV xs fk)[u]?=some (xs.getD ju .non):=by rw[List.getElem?_map,hju];rfl
    refine ⟨Fo,_,_,_,rfl,rfl,SqL.of eF8,atI_nat hyu,Fo,_,_,rfl,rfl,eF8,sizeLine_big (by rw[List.length_map];omega),?_⟩
    have ePu:pickV xs fk ++ [xs.getD ju .non]=pickV xs (fk ++ [ju]):=by rw[pickV,pickV,List.map_append];rfl
    rw[ePu]
    refine ⟨_,lk,fk ++ [ju],a8,rfl,by rw[upd_ne nLF];exact eL8,upd_same,hle,by rw[List.length_append];omega,by rw[List.length_append];show fk.length + 1≤_;omega,hlj6,fun j hj=>?_,fun j hj=>(hall6 j hj).imp id fun h=>by simp[h],pen_upd hp8 nFp nFc,by omega,by omega,fun b o e hb=>?_⟩
    ·rcases List.mem_append.mp hj with h | h
     ·exact hfj6 j h
     ·rw[List.mem_singleton.mp h];exact hfj6 ju (List.mem_of_getElem? hju)
    ·rw[upd_ne fun z=>by rw[z,nF] at e;cases e]
     exact (k7.trans kp8) b o e hb
   ·exact ⟨_,lk,fk,a7,rfl,eL7,eF7,hle,by omega,by omega,hlj6,hfj6,hall6,hp7,by omega,by omega,k7⟩
  ·rintro σ H3 ⟨o5,lj,fj,a3,rfl,eL3,eF3,hll,hfl,hfl2,hlj,hfj,hall,hp3,la3,ua3,k3⟩
   rw[en] at hll hfl hfl2 ua3
   have hl0:lj=[]:=List.eq_nil_of_length_eq_zero (by omega)
   subst hl0
   have hJ:MixJ xs.length fj:=⟨hfj,fun j hj=>(hall j hj).resolve_left (by simp),by omega⟩
   refine ⟨_,rfl,rfl,_,rfl,?_⟩
   refine ite2 (fun g=>?_) (fun g=>?_)
   ·refine ⟨_,rfl,Fo,_,rfl,.inl ⟨SqL.of eF3,fun T hT=>?_⟩⟩
    have sT:=Same.new (o:=.tup (pickV xs fj)) hT
    exact k T fj a3 _ (free_but k3 hp3 hT) (.inr upd_same) hJ (by omega) (by omega) (hp3.same sT) (k3.same sT)
   ·exact ⟨_,rfl,k Fo fj a3 _ nF (.inl eF3) hJ (by omega) (by omega) hp3 k3⟩
end
end K5
namespace K5
open PySem L2
theorem rep_big {b k:Nat}{d:PyData} (o:OkD b k d) (hb:b≤16000000) (hk:k≤20):d.showable=true∧d.depth≤20∧d.shown.length≤sizeLine:=⟨o.sh,Nat.le_trans o.dp hk,Nat.le_trans o.len (by rw[PySem.sizeLine_eq];omega)⟩
inductive IRight (vs:List V) (H:Hp) (Q:VK) (E:XK):Prop
 | mk (t o:Addr) (lds:List PyData) (os:List RowI) (h0:vs=[.ref t,.ref o]) (rt:RdV false H (.ref t) (rollD lds os)) (ro:RdV false H (.ref o) (rollD lds os)) (ok:OkD 2000000 10 (rollD lds os)) (k:∀ H',Same H H'→Q (.bl true) H'):IRight vs H Q E
def spRight:Sp:=fun vs H Q E=>IRight vs H Q E
def ShV (H0:Hp) (Hd:Addr) (H:Hp) (v:V):Prop:=v=.non∨∃ b z,v=.ref b∧(H b=some (.tup z)∨(H b=some (.lst z)∧H0 b=none∧b≠Hd))
inductive IHanded (vs:List V) (H:Hp) (Q:VK) (E:XK):Prop
 | mk (p c:Addr) (ns:List Int) (a:Int) (t:Addr) (xs:List V) (lds:List PyData) (h0:vs=[.ref p,.ref t]) (hp:PenAt H p c ns a) (ha:a≤700000) (e:H t=some (.tup xs)) (rd:RdVs false H xs lds) (hf:lds.all fieldD=true) (h8:lds.length≤8)
   (k:∀ (x:V) (d0:PyData) (ys:List V) (b:Addr) (a':Int) (H':Hp),RdV true H' x d0→tupD 2 d0=.tuple lds→OkD 10000 3 d0→x=.ref b→(H' b=some (.lst ys)∨H' b=some (.tup ys))→H b=none→(∀ v∈ys,∃ b' z,v=.ref b'∧(H' b'=some (.tup z)∨(H' b'=some (.lst z)∧H b'=none)))→a≤a'→a'≤a + 20→PenAt H' p c ns a'→KeepBut p H H'→Q x H'):IHanded vs H Q E
def spHanded:Sp:=fun vs H Q E=>IHanded vs H Q E
section
variable {P:Program}{w:World}{K:W.Frag}{mg:Str→Option Value}{base:Heap}
theorem scRight:FnScope ["_law_found","_law_owed"] ["_law_found","_law_owed"] (defScope sRight):=⟨rfl,rfl,rfl,by decide,rfl,by decide,by decide⟩
theorem ok_right {f:Addr}{fd:FuncData} (F:Fun K "_law_right" "_law_right" sRight f fd) (T:Txt K mg) (hrepr:mg "repr"=none):
  FnOk P w K mg base CX0 2 f fd ["_law_found","_law_owed"] spRight:=by
 refine F.ok scRight (fun vs H Q E h=>?_) (fun cdv A outer s H vs Q E hr h=>?_)
 ·obtain ⟨t,o,lds,os,rfl,_⟩:=h
  rfl
 ·obtain ⟨t,o,lds,os,rfl,rt,ro,ok,k⟩:=h
  obtain ⟨w1,w2,w3⟩:=rep_big ok (by decide) (by decide)
  refine ⟨_,pss_cons (ps_if (PW.pt (pw_or (pt_not (pt_val (pe_callB call_isinst (by rfl) T.isi (by kernel_rfl) (pa_c (pv 0) (pa_c (pe_bltn (v:=.ty "tuple") (by rfl) T.tuple (by kernel_rfl) rfl) pa_nil)))))
    (pw_or1 (pt_cmpR op_ne (pe_callB call_len_seq (by rfl) T.len PySem.boot_len (pa_c (pv 0) pa_nil)) pe_int (nomark _))))) (pss_one (ps_ret pe_bl)) pss_nil)
   (pss_one (ps_ret (pe_and (pe_callB (call_all rfl) (by rfl) T.al (by kernel_rfl) (pa_cons (pe_comp (N:=["_law_part"]) (src:=[none]) (osc:=defScope sRight) (oN:=["_law_found","_law_owed"]) ⟨by rfl,by decide,by decide,by decide,rfl,by rfl⟩ (pi_tup (pv 0))
     fun cl s H fp pins C=>⟨pg_name (i:=0) (show (["_law_part"]:List Str).Nodup by decide) rfl (Or.inl rfl),pts_nil,pe_callB (r:=r_call_isinst K) call_isinst (by rfl) T.isi (by kernel_rfl) (pa_c (pv 0) (pa_c (pe_bltn (v:=.ty "tuple") (by rfl) T.tuple (by kernel_rfl) rfl) pa_nil))⟩) pa_nil))
    (pe_one (pe_cmpR op_eq (pe_callB (call_repr hr) (by rfl) hrepr (by kernel_rfl) (pa_c (pv 0) pa_nil)) (pe_callB (call_repr hr) (by rfl) hrepr (by kernel_rfl) (pa_c (pv 1) pa_nil)) (nomark _)))))),?_⟩
  obtain ⟨y1,y2,et,ry1,ry2⟩:∃ y1 y2,H t=some (.tup [y1,y2])∧RdV false H y1 (.tuple lds)∧RdV false H y2 (.tuple (os.map RowI.d)):=by
   unfold rollD at rt
   cases rt with
   | @tup _ xs _ e hl r=>
    cases r with
    | cons r1 r=>
     cases r with
     | cons r2 r=>
      cases r
      exact ⟨_,_,e,r1,r2⟩
  refine ⟨_,rfl,_,"tuple",_,true,rfl,TyOf.tup et,kit_same,_,rfl,?_⟩
  refine iteF ?_
  refine ⟨_,rfl,t,_,rfl,.inr (SqT.of et),rfl,_,rfl,?_⟩
  rw[decide_eq_true (show V.int (([y1,y2]:List V).length:Int)=V.int 2 from rfl)]
  refine iteF ?_
  refine ⟨_,rfl,t,rfl,⟨_,SqT.of et⟩,?_⟩
  refine comp_tup (K:=K) (xs:=[y1,y2]) (fun i ys σ' H'=>Ex1 fun (o:Option V)=>Aw3 (σ'=[o]) (Same H H') (ys=List.replicate i (V.bl true))) ⟨none,rfl,Same.refl H,rfl⟩ (sizeLine_big (by show 2≤1000000;decide)) (fun i ys σ H' p=>by obtain ⟨_,_,_,rfl⟩:=p;simp)
   (fun i ys σ H' p=>by obtain ⟨_,_,S',_⟩:=p;exact SqT.of (S' _ _ et)) ?_ ?_
  ·rintro i v ys σ' H1 hv ⟨o',rfl,S1,rfl⟩
   have hvt:∃ ds,RdV false H v (.tuple ds):=by
    have:=List.mem_of_getElem? hv
    simp only [List.mem_cons,List.not_mem_nil,or_false] at this
    rcases this with rfl | rfl
    ·exact ⟨_,ry1⟩
    ·exact ⟨_,ry2⟩
   obtain ⟨ds,rv⟩:=hvt
   dsimp only [gName]
   refine iteT ?_
   refine ⟨_,rfl,_,"tuple",_,true,rfl,ty_of (rv.same S1),kit_tup (.tuple ds),?_⟩
   exact ⟨_,rfl,S1,List.replicate_succ'.symm⟩
  ·rintro ys σ' H1 ⟨o',rfl,S1,rfl⟩ D hD
   have s2:=Same.new (o:=.lst (List.replicate ([y1,y2]:List V).length (V.bl true))) hD
   refine ⟨D,List.replicate 2 true,rfl,SqL.of (by rw[upd_same];rfl),true,rfl,?_⟩
   refine iteT ?_
   have s12:=S1.trans s2
   refine ⟨_,rfl,t,false,_,rfl,rt.same s12,w1,w2,w3,_,rfl,o,false,_,rfl,ro.same s12,w1,w2,w3,rfl,?_⟩
   rw[decide_eq_true rfl]
   exact k _ s12
end
end K5
namespace K5
open PySem L2
theorem field_items {d:PyData} (h:fieldD d=true):∃ fs:List PyData,d=.tuple fs∧fs.length=4∧(∀ e∈fs,OkD 102 0 e)∧fs.map (tupD 0)=fs∧PyData.hasDictAll fs=false:=by
 obtain ⟨f,g,a,j,rfl,h1,h2,h3,h4⟩:=field_form h
 have wh:∀ {lo hi:Int} {d:PyData},wholeD lo hi d=true→0≤lo→hi≤10000000→OkD 102 0 d∧d.hasDict=false:=fun {lo hi d} hd h0 h1=>by
  cases d with
  | int i=>
   have hw:=of_decide_eq_true (show decide (lo≤i∧i≤hi)=true from hd)
   exact ⟨OkD.int (by omega) (Int.lt_of_le_of_lt (show i≤10000000 by omega) (by decide)),rfl⟩
  | _=>simp[wholeD] at hd
 have g2:OkD 102 0 g∧g.hasDict=false:=by
  cases g with
  | str z=>exact ⟨OkD.name h2,rfl⟩
  | _=>simp[nameD] at h2
 obtain ⟨a1,a2⟩:=wh h3 (by decide) (by decide)
 obtain ⟨j1,j2⟩:=wh h4 (by decide) (by decide)
 refine ⟨_,rfl,rfl,fun e he=>?_,rfl,?_⟩
 ·simp only [List.mem_cons,List.not_mem_nil,or_false] at he
  rcases he with rfl | rfl | rfl | rfl
  ·exact OkD.name h1
  ·exact g2.1
  ·exact a1
  ·exact j1
 ·simp only [PyData.hasDictAll,PyData.hasDict,g2.2,a2,j2,Bool.or_false]
def PartV (H0 H:Hp) (v:V):Prop:=∃ b z,v=.ref b∧(H b=some (.tup z)∨(H b=some (.lst z)∧H0 b=none))
theorem PartV.but {H0 H H':Hp}{p c:Addr}{ns:List Int}{a:Int}{v:V} (h:PartV H0 H v) (hp:PenAt H p c ns a) (k:KeepBut p H H'):PartV H0 H' v:=by
 obtain ⟨b,z,rfl,e | ⟨e,n⟩⟩:=h
 ·exact ⟨b,z,rfl,.inl (tup_but e hp k)⟩
 ·exact ⟨b,z,rfl,.inr ⟨lst_but e hp k,n⟩⟩
section
variable {P:Program}{w:World}{K:W.Frag}{mg:Str→Option Value}{base:Heap}
theorem scHanded:FnScope ["_law_pen_here","_law_laying_here","_law_parts"] ["_law_pen_here","_law_laying_here"] (defScope sAsHanded):=⟨rfl,rfl,rfl,by decide,rfl,by decide,by decide⟩
theorem ok_handed {f fT:Addr}{fd fdT:FuncData} (F:Fun K "_law_as_handed" "_law_as_handed" sAsHanded f fd) (hlist:mg "list"=none) (htup:mg "tuple"=none)
  (GT:FnOk P w K mg base CX0 1 fT fdT ["_law_pen_here","_law_many"] spTake) (mT:mg "_law_take"=some (.ref fT)) (kT:W.keepIn K (.ref fT)=true) (bT:Binds K fdT ["_law_pen_here","_law_many"] []):
  FnOk P w K mg base CX0 2 f fd ["_law_pen_here","_law_laying_here"] spHanded:=by
 refine F.ok scHanded (fun vs H Q E h=>?_) (fun cdv A outer s H vs Q E hr h=>?_)
 ·obtain ⟨p,c,ns,a,t,xs,lds,rfl,_⟩:=h
  rfl
 ·obtain ⟨p,c,ns,a,t,xs,lds,rfl,hp,ha,et,rd,hf,h8,k⟩:=h
  refine ⟨_,pss_cons (ps_setComp (i:=2) (N:=["_law_part","_law_pen_here"]) (src:=[none,some 0]) (osc:=defScope sAsHanded) (oN:=["_law_pen_here","_law_laying_here","_law_parts"]) ⟨by rfl,by decide,by decide,by decide,rfl,by rfl⟩ scHanded.nd rfl (pi_tup (pv 1))
    fun cl s H fp pins C=>⟨pg_name (i:=0) (show (["_law_part","_law_pen_here"]:List Str).Nodup by decide) rfl (Or.inl rfl),pts_nil,pe_ix (r:=rIxL K) ix_list (pe_lst (pa_c (pv 0) (pa_c (pe_callTy (r:=r_call_list_of K) call_list_of (by rfl) hlist (by kernel_rfl) (pa_c (pv 0) pa_nil)) pa_nil))) (pe_call GT hr rfl mT kT bT .nil pass0 (pa_c (pv 1) (pa_c pe_int pa_nil))) (fun _ _=>rfl)⟩)
   (pss_one (ps_ret (pe_ix ix_list (pe_lst (pa_c (pv 2) (pa_c (pe_callTy call_tuple_of (by rfl) htup (by kernel_rfl) (pa_c (pv 2) pa_nil)) pa_nil))) (pe_call GT hr rfl mT kT bT .nil pass0 (pa_c (pv 0) (pa_c pe_int pa_nil))) (fun _ _=>rfl)))),?_⟩
  have hxl:=rd.len
  have h2l:(2:Nat)≤sizeLine:=sizeLine_big (by decide)
  refine ⟨_,rfl,t,rfl,⟨_,SqT.of et⟩,?_⟩
  refine comp_tup (K:=K) (xs:=xs) (fun i ys σ' H'=>Ex3 fun (o:Option V) (es:List PyData) (a':Int)=>Aw10 (σ'=[o,some (.ref p)]) (ys.length=i) (es.map (tupD 1)=lds.take i) (RdVs true H' ys es) ((∀ e∈es,OkD 500 1 e)) ((∀ v∈ys,PartV H H' v)) (PenAt H' p c ns a') (a≤a') (a'≤a + i) (KeepBut p H H'))
   ⟨none,[],a,rfl,rfl,rfl,.nil,fun e he=>by simp at he,fun v hv=>by simp at hv,hp,by omega,by omega,KeepBut.refl p H⟩ (sizeLine_big (by omega)) (fun i ys σ H' q=>by obtain ⟨_,_,_,_,e,_⟩:=q;omega) (fun i ys σ H' q=>by obtain ⟨_,_,_,_,_,_,_,_,_,_,_,_,kb⟩:=q;exact SqT.of (tup_but et hp kb)) ?_ ?_
  ·rintro i v ys σ' H1 hv ⟨o,es,a1,rfl,hyl,hes,rys,oes,pys,hp1,la1,ua1,k1⟩
   obtain ⟨d,hd,rv⟩:=rd.at hv
   have hfd:=List.all_eq_true.mp hf d (List.mem_of_getElem? hd)
   have hil:i < 8:=by have:=(List.getElem?_eq_some_iff.mp hd).1;omega
   obtain ⟨fs,rfl,hf4,hfo,hf0,hfn⟩:=field_items hfd
   obtain ⟨b,zs,rfl,eb,rz⟩:∃ b zs,v=.ref b∧H b=some (.tup zs)∧RdVs false H zs fs:=by
    cases rv with
    | tup e hl r=>exact ⟨_,_,rfl,e,r⟩
   have eb1:=tup_but eb hp k1
   have hz4:zs.length=4:=by rw[rz.len,hf4]
   have tk:(lds.take (i + 1))=lds.take i ++ [.tuple fs]:=by rw[List.take_add_one,hd];rfl
   dsimp only [gName]
   refine iteT ?_
   refine ⟨_,rfl,_,rfl,b,zs,rfl,.inr (SqT.of eb1),fun l hl=>⟨h2l,fun u hu=>?_⟩⟩
   have sl:=Same.new (o:=.lst zs) hl
   have su:=Same.new (o:=.lst [.ref b,.ref l]) hu
   have el:upd H1 l (.lst zs) l=some (.lst zs):=upd_same
   generalize upd H1 l (.lst zs)=H2 at sl su el hu ⊢
   have eu:upd H2 u (.lst [.ref b,.ref l]) u=some (.lst [.ref b,.ref l]):=upd_same
   have nl:H l=none:=free_but k1 hp1 hl
   have hp3:=(hp1.same sl).same su
   generalize upd H2 u (.lst [.ref b,.ref l])=H3 at su eu hp3 ⊢
   have k3:KeepBut p H H3:=(k1.same sl).same su
   refine ⟨_,rfl,p,c,ns,a1,_,rfl,hp3,by omega,by decide,by decide,fun r a4 H4 r0 r1 la4 ua4 hp4 kp4=>?_⟩
   have k4:KeepBut p H H4:=k3.trans kp4
   have eb4:=tup_but eb hp k4
   have el4:=lst_but (su _ _ el) hp3 kp4
   have rz4:=(rds_but rz hp k4).flip hfn true
   have S14:KeepBut p H1 H4:=fun d o e h=>kp4 d o (su _ _ (sl _ _ e)) h
   have rys4:=rds_but rys hp1 S14
   have pys4:∀ v∈ys,PartV H H4 v:=fun v h=>(pys v h).but hp1 S14
   have key:∀ (y:V) (e:PyData),RdV true H4 y e→tupD 1 e=.tuple fs→OkD 500 1 e→PartV H H4 y→_:=fun y e ry te oe py=>
    (⟨some (.ref b),es ++ [e],a4,rfl,by rw[List.length_append,hyl];rfl,by rw[List.map_append,hes,tk,List.map_singleton,te],rys4.app (.cons ry .nil),fun d hd=>by
      rcases List.mem_append.mp hd with h | h
      ·exact oes d h
      ·rw[List.mem_singleton.mp h];exact oe,
     fun v hv=>by
      rcases List.mem_append.mp hv with h | h
      ·exact pys4 v h
      ·rw[List.mem_singleton.mp h];exact py,
     hp4,by omega,by omega,k4⟩:∃ (o:Option V) (es:List PyData) (a':Int),[some (.ref b),some (.ref p)]=[o,some (.ref p)]∧(ys ++ [y]).length=i + 1∧es.map (tupD 1)=lds.take (i + 1)∧RdVs true H4 (ys ++ [y]) es∧(∀ e∈es,OkD 500 1 e)∧(∀ v∈ys ++ [y],PartV H H4 v)∧PenAt H4 p c ns a'∧a≤a'∧a'≤a + (i + 1:Nat)∧KeepBut p H H4)
   have eu4:=lst_but eu hp3 kp4
   have c2:r=0∨r=1:=by omega
   rcases c2 with rfl | rfl
   ·refine ⟨u,_,0,.ref b,rfl,rfl,SqL.of eu4,rfl,?_⟩
    obtain ⟨z1,z2,z3,z4,z5,z6,z7,z8,z9,z10,z11,z12,z13⟩:=key (.ref b) (.tuple fs) (.tup eb4 (by omega) rz4) (by show PyData.tuple (fs.map (tupD 0))=_;rw[hf0]) ((OkD.tuple hfo (Nat.le_of_eq hf4)).mono (by decide) (by decide)) ⟨b,zs,rfl,.inl eb4⟩
    exact ⟨z1,z2,z3,z4,z5,z6,z7,z8,z9,z10,z11,z12,z13⟩
   ·refine ⟨u,_,1,.ref l,rfl,rfl,SqL.of eu4,rfl,?_⟩
    obtain ⟨z1,z2,z3,z4,z5,z6,z7,z8,z9,z10,z11,z12,z13⟩:=key (.ref l) (.list fs) (.lst rfl el4 (by omega) rz4) (by show PyData.tuple (fs.map (tupD 0))=_;rw[hf0]) ((OkD.list hfo (Nat.le_of_eq hf4)).mono (by decide) (by decide)) ⟨l,zs,rfl,.inr ⟨el4,nl⟩⟩
    exact ⟨z1,z2,z3,z4,z5,z6,z7,z8,z9,z10,z11,z12,z13⟩
  ·rintro ys σ' H1 ⟨o,es,a1,rfl,hyl,hes,rys,oes,pys,hp1,la1,ua1,k1⟩ D hD
   have sD:=Same.new (o:=.lst ys) hD
   have eD:upd H1 D (.lst ys) D=some (.lst ys):=upd_same
   generalize upd H1 D (.lst ys)=H2 at sD eD ⊢
   have nD:H D=none:=free_but k1 hp1 hD
   have hp2:=hp1.same sD
   rw[hxl,List.take_length] at hes
   have hel:es.length≤8:=by rw[← rys.len,hyl,hxl];exact h8
   refine ⟨_,rfl,_,rfl,D,ys,rfl,.inl ⟨SqL.of eD,fun T hT=>⟨h2l,fun u hu=>?_⟩⟩⟩
   have sT:=Same.new (o:=.tup ys) hT
   have su:=Same.new (o:=.lst [.ref D,.ref T]) hu
   have eT:upd H2 T (.tup ys) T=some (.tup ys):=upd_same
   generalize upd H2 T (.tup ys)=H3 at sT su eT hu ⊢
   have eu:upd H3 u (.lst [.ref D,.ref T]) u=some (.lst [.ref D,.ref T]):=upd_same
   have nT:H T=none:=free_but (k1.same sD) hp2 hT
   have hp4:=(hp2.same sT).same su
   generalize upd H3 u (.lst [.ref D,.ref T])=H4 at su eu hp4 ⊢
   refine ⟨_,rfl,p,c,ns,a1,_,rfl,hp4,by omega,by decide,by decide,fun r a5 H5 r0 r1 la5 ua5 hp5 kp5=>?_⟩
   have S15:KeepBut p H1 H5:=fun d o e h=>kp5 d o (su _ _ (sT _ _ (sD _ _ e))) h
   have k5:KeepBut p H H5:=k1.trans S15
   have rys5:=rds_but rys hp1 S15
   have pys5:∀ v∈ys,PartV H H5 v:=fun v h=>(pys v h).but hp1 S15
   have eu5:=lst_but eu hp4 kp5
   have hy8:ys.length≤1000:=by omega
   have te:∀ l:List PyData,tupD 2 (.list l)=.tuple (l.map (tupD 1)):=fun _=>rfl
   have te':∀ l:List PyData,tupD 2 (.tuple l)=.tuple (l.map (tupD 1)):=fun _=>rfl
   have c2:r=0∨r=1:=by omega
   rcases c2 with rfl | rfl
   ·refine ⟨u,_,0,.ref D,rfl,rfl,SqL.of eu5,rfl,?_⟩
    have e5:=lst_but (su _ _ (sT _ _ eD)) hp4 kp5
    exact k (.ref D) (.list es) ys D a5 H5 (.lst rfl e5 hy8 rys5) (by rw[te,hes]) ((OkD.list oes hel).mono (by decide) (by decide)) rfl (.inl e5) nD pys5 (by omega) (by omega) hp5 k5
   ·refine ⟨u,_,1,.ref T,rfl,rfl,SqL.of eu5,rfl,?_⟩
    have e5:=tup_but (su _ _ eT) hp4 kp5
    exact k (.ref T) (.tuple es) ys T a5 H5 (.tup e5 hy8 rys5) (by rw[te',hes]) ((OkD.tuple oes hel).mono (by decide) (by decide)) rfl (.inr e5) nT pys5 (by omega) (by omega) hp5 k5
end
end K5
namespace K5
open PySem L2
def TgV (H0 H:Hp) (y:V) (r:RowI):Prop:=(∃ d,RdV true H y d∧OkD 13352 3 d∧OrdTo (tupD 3 d) r.d)∧PartV H0 H y
theorem TgV.but {H0 H H':Hp}{p c:Addr}{ns:List Int}{a:Int}{y:V}{r:RowI} (h:TgV H0 H y r) (hp:PenAt H p c ns a) (k:KeepBut p H H'):TgV H0 H' y r:=by
 obtain ⟨⟨d,h1,h2,h3⟩,h4⟩:=h
 exact ⟨⟨d,rd_but h1 hp k,h2,h3⟩,h4.but hp k⟩
theorem RowI.Ok.okd {r:RowI}{fs:List Str} (h:r.Ok fs):OkD 13352 3 r.d∧OrdTo (tupD 3 r.d) r.d:=by
 have hin:∀ d∈(PyData.str r.word :: PyData.str r.name :: PyData.int r.day :: r.ds),isSeq d=false∨∃ es,d=.tuple es∧es.all smallD=true:=fun d hd=>by
  simp only [List.mem_cons] at hd
  rcases hd with rfl | rfl | rfl | hd
  ·exact .inl rfl
  ·exact .inl rfl
  ·exact .inl rfl
  ·rcases h.rs.inner d hd with z | ⟨es,z,_,y⟩
   ·exact .inl z
   ·exact .inr ⟨es,z,y⟩
 have hall:=All2.refl_of hin
 have hd7:(PyData.str r.word :: PyData.str r.name :: PyData.int r.day :: r.ds).length≤7:=by
  have:=h.rs.len
  simp only [List.length_cons]
  omega
 exact ⟨(listed_ok (row_ok h.rs h.nm h.d0 h.d1) hall hd7).2,listed_ord h.rs hall⟩
theorem RowI.Ok.tg {r:RowI}{fs:List Str} (h:r.Ok fs) {H0 H:Hp}{x:V} (rd:RdV false H x r.d):TgV H0 H x r:=by
 have nd:r.d.hasDict=false:=row_nodict h.rs
 refine ⟨⟨r.d,rd.flip nd true,h.okd.1,h.okd.2⟩,?_⟩
 unfold RowI.d rowDat at rd
 cases rd with
 | tup e hl q=>exact ⟨_,_,rfl,.inl e⟩
def RowI.nil:RowI:=⟨"","",0,[]⟩
def Tgs (H0 H:Hp) (fs:List Str) (xs:List V) (rr:List RowI):Prop:=xs.length=rr.length∧∀ (i:Nat) (x:V),xs[i]?=some x→∃ r,rr[i]?=some r∧TgV H0 H x r∧r.Ok fs
theorem Tgs.nil {H0 H:Hp}{fs:List Str}:Tgs H0 H fs [] []:=⟨rfl,fun i x h=>by simp at h⟩
theorem Tgs.but {H0 H H':Hp}{p c:Addr}{ns:List Int}{a:Int}{fs:List Str}{xs:List V}{rr:List RowI} (h:Tgs H0 H fs xs rr) (hp:PenAt H p c ns a) (k:KeepBut p H H'):Tgs H0 H' fs xs rr:=
 ⟨h.1,fun i x hx=>by obtain ⟨r,a,b,c⟩:=h.2 i x hx;exact ⟨r,a,b.but hp k,c⟩⟩
theorem Tgs.app {H0 H:Hp}{fs:List Str}{xs ys:List V}{rr ss:List RowI} (h:Tgs H0 H fs xs rr) (g:Tgs H0 H fs ys ss):Tgs H0 H fs (xs ++ ys) (rr ++ ss):=by
 refine ⟨by rw[List.length_append,List.length_append,h.1,g.1],fun i x hx=>?_⟩
 by_cases hi:i < xs.length
 ·rw[List.getElem?_append_left hi] at hx
  rw[List.getElem?_append_left (by rw[← h.1];exact hi)]
  exact h.2 i x hx
 ·rw[List.getElem?_append_right (by omega)] at hx
  rw[List.getElem?_append_right (by rw[← h.1];omega),← h.1]
  exact g.2 _ x hx
theorem Tgs.one {H0 H:Hp}{fs:List Str}{x:V}{r:RowI} (h:TgV H0 H x r) (ok:r.Ok fs):Tgs H0 H fs [x] [r]:=⟨rfl,fun i y hy=>by
 cases i with
 | zero=>cases hy;exact ⟨r,rfl,h,ok⟩
 | succ i=>simp at hy⟩
theorem getD_some {α:Type}{l:List α}{i:Nat}{x d:α} (h:l[i]?=some x):l.getD i d=x:=by
 rw[List.getD_eq_getElem?_getD,h];rfl
theorem mix_things {H0 H:Hp}{fs:List Str}{Sx:List V}{rr us:List RowI}{js:List Nat} (hT:Tgs H0 H fs Sx rr) (hn:(us.map (·.name)).Nodup) (hsub:∀ r∈rr,r∈us) (hpre:∃ ex,rr=us ++ ex) (J:MixJ Sx.length js):
  ∃ rs,Things H fs (pickV Sx js) rs∧rs.length=js.length∧(∀ r,r∈us↔r∈rs):=by
 have hat:∀ j∈js,∃ r,rr[j]?=some r∧TgV H0 H (Sx.getD j .non) r∧r.Ok fs:=fun j hj=>by
  have hl:=J.lt j hj
  have e:Sx[j]?=some (Sx.getD j .non):=by rw[List.getElem?_eq_getElem hl];simp[hl]
  exact hT.2 j _ e
 have hus:∀ r∈us,∀ r'∈us,r.name=r'.name→r=r':=fun r hr r' hr' e=>by
  obtain ⟨i,hi⟩:=List.getElem?_of_mem hr
  obtain ⟨j,hj⟩:=List.getElem?_of_mem hr'
  obtain ⟨hi',ei⟩:=List.getElem?_eq_some_iff.mp hi
  obtain ⟨hj',ej⟩:=List.getElem?_eq_some_iff.mp hj
  have h2:=List.pairwise_iff_getElem.mp (List.pairwise_map.mp hn)
  rcases Nat.lt_trichotomy i j with z | z | z
  ·exact absurd (by rw[ei,ej];exact e) (h2 i j hi' hj' z)
  ·subst z;rw[← ei,← ej]
  ·exact absurd (by rw[ei,ej];exact e.symm) (h2 j i hj' hi' z)
 have hin:∀ r,r∈js.map (fun j=>rr.getD j RowI.nil)→r∈us:=fun r hr=>by
  obtain ⟨j,hj,rfl⟩:=List.mem_map.mp hr
  obtain ⟨r,e,_⟩:=hat j hj
  rw[getD_some e]
  exact hsub r (List.mem_of_getElem? e)
 refine ⟨js.map fun j=>rr.getD j RowI.nil,⟨by rw[List.length_map,List.length_map],fun i x hx=>?_,fun r hr r' hr' e=>hus r (hin r hr) r' (hin r' hr') e⟩,List.length_map _,fun r=>⟨fun hr=>?_,hin r⟩⟩
 ·rw[List.getElem?_map] at hx
  obtain ⟨j,hj,rfl⟩:=Option.map_eq_some_iff.mp hx
  obtain ⟨r,e,⟨⟨d,h1,_,h3⟩,_⟩,ok⟩:=hat j (List.mem_of_getElem? hj)
  refine ⟨r,?_,⟨d,h1,h3⟩,ok⟩
  rw[List.getElem?_map,hj]
  show some (rr.getD j RowI.nil)=some r
  rw[getD_some e]
 ·obtain ⟨j,hj⟩:=List.getElem?_of_mem hr
  obtain ⟨ex,rfl⟩:=hpre
  have hjl:=(List.getElem?_eq_some_iff.mp hj).1
  have e:(us ++ ex)[j]?=some r:=by rw[List.getElem?_append_left hjl];exact hj
  refine List.mem_map.mpr ⟨j,J.all j ?_,getD_some e⟩
  have:=(List.getElem?_eq_some_iff.mp e).1
  rw[hT.1]
  exact this
theorem rds_of {H:Hp}{b k:Nat}:∀ {ys:List V},(∀ y∈ys,∃ d,RdV true H y d∧OkD b k d)→∃ es,RdVs true H ys es∧∀ e∈es,OkD b k e
 | [],_=>⟨[],.nil,fun e he=>by simp at he⟩
 | y :: ys,h=>by
  obtain ⟨d,h1,h2⟩:=h y List.mem_cons_self
  obtain ⟨es,h3,h4⟩:=rds_of fun z hz=>h z (List.mem_cons_of_mem _ hz)
  exact ⟨d :: es,.cons h1 h3,fun e he=>by
   rcases List.mem_cons.mp he with rfl | z
   ·exact h2
   ·exact h4 e z⟩
theorem Tgs.pick {H0 H:Hp}{fs:List Str}{Sx:List V}{rr:List RowI}{js:List Nat} (hT:Tgs H0 H fs Sx rr) (J:MixJ Sx.length js):∀ y∈pickV Sx js,∃ r,TgV H0 H y r:=fun y hy=>by
 obtain ⟨j,hj,rfl⟩:=List.mem_map.mp hy
 have hl:=J.lt j hj
 have e:Sx[j]?=some (Sx.getD j .non):=by rw[List.getElem?_eq_getElem hl];simp[hl]
 obtain ⟨r,_,h,_⟩:=hT.2 j _ e
 exact ⟨r,h⟩
theorem ShV.of {H0 H H':Hp}{G:Addr}{v:V} (h:PartV H0 H v) (s:Same H H') (hG:H G=none):ShV H0 G H' v:=by
 obtain ⟨b,z,rfl,e | ⟨e,n⟩⟩:=h
 ·exact .inr ⟨b,z,rfl,.inl (s _ _ e)⟩
 ·exact .inr ⟨b,z,rfl,.inr ⟨s _ _ e,n,fun q=>by rw[q,hG] at e;cases e⟩⟩
theorem ShV.upd {H0 H:Hp}{G q:Addr}{zs zs':List V}{v:V} (h:ShV H0 G H v) (hq:H q=some (.lst zs)) (hn:H0 q=none) (hG:q≠G):ShV H0 G (L2.upd H q (.lst zs')) v:=by
 rcases h with rfl | ⟨b,z,rfl,e | ⟨e,n,g⟩⟩
 ·exact .inl rfl
 ·exact .inr ⟨b,z,rfl,.inl (by rw[upd_ne (fun y=>by rw[y,hq] at e;cases e)];exact e)⟩
 ·by_cases y:b=q
  ·exact .inr ⟨b,zs',rfl,.inr ⟨by rw[y];exact upd_same,n,g⟩⟩
  ·exact .inr ⟨b,z,rfl,.inr ⟨by rw[upd_ne y];exact e,n,g⟩⟩
def PartOk (n:Nat) (H0:Hp) (G:Addr) (H:Hp) (v:V):Prop:=∃ b ys,v=.ref b∧(H b=some (.lst ys)∨H b=some (.tup ys))∧H0 b=none∧b≠G∧ys.length≤n∧∀ u∈ys,ShV H0 G H u
theorem PartOk.upd {n n':Nat}{H0 H:Hp}{G q:Addr}{zs zs':List V}{v:V} (h:PartOk n H0 G H v) (hq:H q=some (.lst zs)) (hn:H0 q=none) (hG:q≠G) (hs:∀ u∈zs',ShV H0 G H u) (hl:zs'.length≤n') (hnn:n≤n'):PartOk n' H0 G (L2.upd H q (.lst zs')) v:=by
 obtain ⟨b,ys,rfl,e,h0,hg,hy,hu⟩:=h
 by_cases y:b=q
 ·subst y
  exact ⟨b,zs',rfl,.inl upd_same,h0,hg,hl,fun u hz=>(hs u hz).upd hq hn hG⟩
 ·exact ⟨b,ys,rfl,by rw[upd_ne y];exact e,h0,hg,by omega,fun u hz=>(hu u hz).upd hq hn hG⟩
structure Mut (n:Nat) (H0:Hp) (p c:Addr) (ns:List Int) (a:Int) (G:Addr) (x y t:V) (D:PyData) (H:Hp):Prop where
 hp:PenAt H p c ns a
 kb:KeepBut p H0 H
 g:H G=some (.lst [x,y])
 rt:RdV false H t D
 px:PartOk n H0 G H x
 py:PartOk n H0 G H y
theorem Mut.upd {n n':Nat}{H0 H:Hp}{p c:Addr}{ns:List Int}{a a0:Int}{G q:Addr}{x y t:V}{D:PyData}{zs zs':List V} (M:Mut n H0 p c ns a G x y t D H) (hp0:PenAt H0 p c ns a0) (hq:H q=some (.lst zs)) (hn:H0 q=none) (hG:q≠G) (hs:∀ u∈zs',ShV H0 G H u) (hl:zs'.length≤n') (hnn:n≤n'):Mut n' H0 p c ns a G x y t D (L2.upd H q (.lst zs')):=by
 obtain ⟨np,nc⟩:=pen_none hp0 hn
 refine ⟨pen_upd M.hp np nc,upd_but M.kb hn,by rw[upd_ne hG.symm];exact M.g,?_,M.px.upd hq hn hG hs hl hnn,M.py.upd hq hn hG hs hl hnn⟩
 exact M.rt.keepF fun a o e _ z=>by
  rw[upd_ne (fun y=>by rw[y,hq] at e;cases e;exact z zs rfl)]
  exact e
theorem lay_ok {ds:List PyData}{ws:List Str} (hf:Flds ds) (e:ds.map headS=ws) (hw:Nms ws) (h1:1≤ws.length) (h8:ws.length≤8):layD (.tuple ds)=true∧ds.all fieldD=true∧ds.length≤8:=by
 have hl:ds.length=ws.length:=by rw[← e,List.length_map]
 have ha:ds.all fieldD=true:=List.all_eq_true.mpr fun d hd=>(hf d hd).1
 refine ⟨?_,ha,by omega⟩
 show (decide (1≤ds.length∧ds.length≤8) && ds.all fieldD && decide (ds.map headS).Nodup)=true
 rw[ha,decide_eq_true (show 1≤ds.length∧ds.length≤8 by omega),decide_eq_true (show (ds.map headS).Nodup by rw[e];exact hw.nd)]
 rfl
theorem roll_ok {lds:List PyData}{os:List RowI}{fs:List Str} (hf:Flds lds) (h8:lds.length≤8) (ho:∀ r∈os,r.Ok fs) (h40:os.length≤40):OkD 2000000 10 (rollD lds os):=by
 have o1:OkD 600000 4 (.tuple lds):=(OkD.tuple (fun d hd=>(hf d hd).2.1) h8).mono (by decide) (by decide)
 have o2:OkD 600000 4 (.tuple (os.map RowI.d)):=(OkD.tuple (n:=40) (b:=13352) (k:=3) (fun d hd=>by
  obtain ⟨r,hr,rfl⟩:=List.mem_map.mp hd
  exact (ho r hr).okd.1) (by rw[List.length_map];exact h40)).mono (by decide) (by decide)
 refine (OkD.tuple (n:=2) (b:=600000) (k:=4) (fun d hd=>?_) (by show 2≤2;decide)).mono (by decide) (by decide)
 simp only [List.mem_cons,List.not_mem_nil,or_false] at hd
 rcases hd with rfl | rfl
 ·exact o1
 ·exact o2
end K5
namespace K5
open PySem L2
inductive I_spLaw (K:W.Frag) (vs:List V) (H:Hp) (Q:VK) (u3_:XK):Prop
 | mk (a:Addr) (ns:List Int) (q0:vs=[.ref a]) (q1:SqL K H a (ns.map V.int)) (q2:ns.length≤63) (q3:∀ H',Q (.bl true) H'):I_spLaw K vs H Q u3_
def spLaw (K:W.Frag):Sp:=fun vs H Q u3_=>I_spLaw K vs H Q u3_
theorem RowsAt.but {H H':Hp}{p c:Addr}{ns:List Int}{a:Int}{xs:List V}{us:List RowI}{fs:List Str} (h:RowsAt H xs us fs) (hp:PenAt H p c ns a) (k:KeepBut p H H'):RowsAt H' xs us fs:=
 ⟨h.len,fun i x hx=>by obtain ⟨u,a,b,c⟩:=h.at' i x hx;exact ⟨u,a,rd_but b hp k,c⟩⟩
theorem RowsAt.snoc {H:Hp}{xs:List V}{us:List RowI}{fs:List Str}{x:V}{u:RowI} (h:RowsAt H xs us fs) (r:RdV false H x u.d) (ok:u.Ok fs):RowsAt H (xs ++ [x]) (us ++ [u]) fs:=by
 refine ⟨by rw[List.length_append,List.length_append,h.len];rfl,fun i y hy=>?_⟩
 by_cases hi:i < xs.length
 ·rw[List.getElem?_append_left hi] at hy
  rw[List.getElem?_append_left (by rw[← h.len];exact hi)]
  exact h.at' i y hy
 ·rw[List.getElem?_append_right (by omega)] at hy
  rw[List.getElem?_append_right (by rw[← h.len];omega),← h.len]
  cases e:i - xs.length with
  | zero=>rw[e] at hy;cases hy;exact ⟨u,rfl,r,ok⟩
  | succ n=>rw[e] at hy;simp at hy
section
variable {P:Program}{w:World}{K:W.Frag}{mg:Str→Option Value}{base:Heap}
abbrev lawN:List Str:=["_law_script","_law_pen_here","_law_turn","_law_many","_law_fields","_law_plots","_law_houses","_law_names_here","_law_days_here","_law_laying_here","_law_rows","_law_owed","_law_again","_law_some_here","_law_handed","_law_kept","_law_found","_law_part"]
theorem scL:FnScope lawN ["_law_script"] (defScope sLaw):=⟨rfl,rfl,rfl,by decide,rfl,by decide,by decide⟩
theorem ok_law {f fP fT fSo fD fL fR fK fLi fH fM fRo fRi:Addr}{fd fdP fdT fdSo fdD fdL fdR fdK fdLi fdH fdM fdRo fdRi:FuncData} (F:Fun K "law" "law" sLaw f fd) (T:Txt K mg) (hlist:mg "list"=none) (hrng:mg "range"=none) (hsor:mg "sorted"=none) (hrepr:mg "repr"=none)
  (GP:FnOk P w K mg base CX0 1 fP fdP ["_law_script"] (spPen K)) (mP:mg "_law_pen"=some (.ref fP)) (kP:W.keepIn K (.ref fP)=true) (bP:Binds K fdP ["_law_script"] [])
  (GT:FnOk P w K mg base CX0 1 fT fdT ["_law_pen_here","_law_many"] spTake) (mT:mg "_law_take"=some (.ref fT)) (kT:W.keepIn K (.ref fT)=true) (bT:Binds K fdT ["_law_pen_here","_law_many"] [])
  (GSo:FnOk P w K mg base CX0 3 fSo fdSo ["_law_pen_here","_law_fields","_law_rows"] spSorts) (mSo:mg "_law_sorts"=some (.ref fSo)) (kSo:W.keepIn K (.ref fSo)=true) (bSo:Binds K fdSo ["_law_pen_here","_law_fields","_law_rows"] [])
  (GD:FnOk P w K mg base CX0 2 fD fdD ["_law_pen_here","_law_many"] spDays) (mD:mg "_law_days"=some (.ref fD)) (kD:W.keepIn K (.ref fD)=true) (bD:Binds K fdD ["_law_pen_here","_law_many"] [])
  (GL:FnOk P w K mg base CX0 3 fL fdL ["_law_pen_here","_law_fields","_law_houses"] spLayOf) (mL:mg "_law_laying"=some (.ref fL)) (kL:W.keepIn K (.ref fL)=true) (bL:Binds K fdL ["_law_pen_here","_law_fields","_law_houses"] [])
  (GR:FnOk P w K mg base CX0 4 fR fdR ["_law_pen_here","_law_name","_law_day","_law_sorts_here"] spRow) (mR:mg "_law_row"=some (.ref fR)) (kR:W.keepIn K (.ref fR)=true) (bR:Binds K fdR ["_law_pen_here","_law_name","_law_day","_law_sorts_here"] [])
  (GK:FnOk P w K mg base CX0 1 fK fdK ["_law_row_here"] spPlace) (mK:mg "_law_place"=some (.ref fK)) (kK:W.keepIn K (.ref fK)=true) (bK:Binds K fdK ["_law_row_here"] [])
  (GLi:FnOk P w K mg base CX0 3 fLi fdLi ["_law_pen_here","_law_row_here"] spListed) (mLi:mg "_law_listed"=some (.ref fLi)) (kLi:W.keepIn K (.ref fLi)=true) (bLi:Binds K fdLi ["_law_pen_here","_law_row_here"] [])
  (GH:FnOk P w K mg base CX0 2 fH fdH ["_law_pen_here","_law_laying_here"] spHanded) (mH:mg "_law_as_handed"=some (.ref fH)) (kH:W.keepIn K (.ref fH)=true) (bH:Binds K fdH ["_law_pen_here","_law_laying_here"] [])
  (GM:FnOk P w K mg base CX0 2 fM fdM ["_law_pen_here","_law_things"] spMixed) (mM:mg "_law_mixed"=some (.ref fM)) (kM:W.keepIn K (.ref fM)=true) (bM:Binds K fdM ["_law_pen_here","_law_things"] [])
  (GRo:FnOk P w K mg base CX0 12 fRo fdRo ["laying","rows"] spRollOf) (mRo:mg "roll_of"=some (.ref fRo)) (kRo:W.keepIn K (.ref fRo)=true) (bRo:Binds K fdRo ["laying","rows"] [])
  (GRi:FnOk P w K mg base CX0 2 fRi fdRi ["_law_found","_law_owed"] spRight) (mRi:mg "_law_right"=some (.ref fRi)) (kRi:W.keepIn K (.ref fRi)=true) (bRi:Binds K fdRi ["_law_found","_law_owed"] []):
  FnOk P w K mg base CX0 13 f fd ["_law_script"] (spLaw K):=by
 refine F.ok scL (fun vs H Q E h=>?_) (fun cdv A outer s H vs Q E hr h=>?_)
 ·obtain ⟨a,ns,rfl,_⟩:=h
  rfl
 ·obtain ⟨sc,ns,rfl,hS,hln,k⟩:=h
  have hr1:Room 1 _:=hr.mono (by decide)
  have hr2:Room 2 _:=hr.mono (by decide)
  have hr3:Room 3 _:=hr.mono (by decide)
  have hr4:Room 4 _:=hr.mono (by decide)
  refine ⟨_,pss_cons (ps_set (i:=1) scL.nd rfl (Or.inr rfl) (pe_call GP hr1 rfl mP kP bP .nil pass0 (pa_c (pv 0) pa_nil)))
   (pss_cons (ps_for PassesOwn.never rfl (pi_range1 rfl hrng (pa_c pe_int pa_nil)) (pg_name (i:=2) scL.nd rfl (Or.inl rfl))
    (pss_cons (ps_set (i:=3) scL.nd rfl (Or.inl rfl) (pe_ix ix_list (pe_lst (pa_c pe_int (pa_c pe_int (pa_c (pe_call GT hr1 rfl mT kT bT .nil pass0 (pa_c (pv 1) (pa_c pe_int pa_nil))) (pa_c (pe_call GT hr1 rfl mT kT bT .nil pass0 (pa_c (pv 1) (pa_c pe_int pa_nil))) pa_nil))))) (pe_call GT hr1 rfl mT kT bT .nil pass0 (pa_c (pv 1) (pa_c pe_int pa_nil))) (fun _ _=>rfl)))
    (pss_cons (ps_asg (pe_call GSo hr3 rfl mSo kSo bSo .nil pass0 (pa_c (pv 1) (pa_c (pe_ix ix_list (pe_lst (pa_c pe_int (pa_c (pe_op op_add pe_int (pe_call GT hr1 rfl mT kT bT .nil pass0 (pa_c (pv 1) (pa_c pe_int pa_nil)))) pa_nil))) (pe_call GT hr1 rfl mT kT bT .nil pass0 (pa_c (pv 1) (pa_c pe_int pa_nil))) (fun _ _=>rfl)) (pa_c (pv 3) pa_nil)))) (pg_tup rfl (pgs_cons (pg_name (i:=4) scL.nd rfl (Or.inr rfl)) (pgs_cons (pg_name (i:=5) scL.nd rfl (Or.inr rfl)) (pgs_cons (pg_name (i:=6) scL.nd rfl (Or.inr rfl)) (pgs_cons (pg_name (i:=7) scL.nd rfl (Or.inr rfl)) pgs_nil))))))
    (pss_cons (ps_set (i:=8) scL.nd rfl (Or.inr rfl) (pe_call GD hr2 rfl mD kD bD .nil pass0 (pa_c (pv 1) (pa_c (pv 3) pa_nil))))
    (pss_cons (ps_set (i:=9) scL.nd rfl (Or.inl rfl) (pe_call GL hr3 rfl mL kL bL .nil pass0 (pa_c (pv 1) (pa_c (pv 4) (pa_c (pv 6) pa_nil)))))
    (pss_cons (ps_setComp (i:=10) (N:=["_law_k","_law_days_here","_law_fields","_law_houses","_law_names_here","_law_pen_here","_law_plots"]) (src:=[none,some 8,some 4,some 6,some 7,some 1,some 5]) (osc:=defScope sLaw) (oN:=lawN) ⟨by rfl,by decide,by decide,by decide,rfl,by rfl⟩ scL.nd rfl
      (pi_range1 rfl hrng (pa_c (pv 3) pa_nil))
      fun cl s H fp pins C=>⟨pg_name (i:=0) (show (["_law_k","_law_days_here","_law_fields","_law_houses","_law_names_here","_law_pen_here","_law_plots"]:List Str).Nodup by decide) rfl (Or.inl rfl),pts_nil,pe_call GR hr4 rfl mR kR bR .nil pass0 (pa_c (pv 5) (pa_c (pe_ix (r:=rIxL K) ix_list (pv 4) (pv 0) (fun _ _=>rfl)) (pa_c (pe_ix (r:=rIxL K) ix_list (pv 1) (pv 0) (fun _ _=>rfl)) (pa_c (pe_tup (pa_c (pv 2) (pa_c (pv 6) (pa_c (pv 3) pa_nil)))) pa_nil))))⟩)
    (pss_cons (ps_set (i:=11) scL.nd rfl (Or.inl rfl) (pe_tup (pa_c (pv 9) (pa_c (pe_callTy call_tuple_of (by rfl) T.tuple (by kernel_rfl) (pa_c (pe_sortedX GK hr3 bK (by rfl) hsor (by rfl) mK (pa_c (pv 10) pa_nil)) pa_nil)) pa_nil))))
    (pss_one (ps_for PassesOwn.never rfl (pi_range1 rfl hrng (pa_c pe_int pa_nil)) (pg_name (i:=12) scL.nd rfl (Or.inl rfl))
     (pss_cons (ps_setComp (i:=13) (N:=["_law_row_here","_law_pen_here"]) (src:=[none,some 1]) (osc:=defScope sLaw) (oN:=lawN) ⟨by rfl,by decide,by decide,by decide,rfl,by rfl⟩ scL.nd rfl (pi_list (pv 10))
       fun cl s H fp pins C=>⟨pg_name (i:=0) (show (["_law_row_here","_law_pen_here"]:List Str).Nodup by decide) rfl (Or.inl rfl),pts_nil,pe_ix (r:=rIxL K) ix_list (pe_lst (pa_c (pv 0) (pa_c (pe_call GLi hr3 rfl mLi kLi bLi .nil pass0 (pa_c (pv 1) (pa_c (pv 0) pa_nil))) pa_nil))) (pe_call GT hr1 rfl mT kT bT .nil pass0 (pa_c (pv 1) (pa_c pe_int pa_nil))) (fun _ _=>rfl)⟩)
     (pss_cons (ps_set (i:=13) scL.nd rfl (Or.inl rfl) (pe_op op_cat (pv 13) (pe_comp (N:=["_law_row_here","_law_pen_here"]) (src:=[none,some 1]) (osc:=defScope sLaw) (oN:=lawN) ⟨by rfl,by decide,by decide,by decide,rfl,by rfl⟩ (pi_list (pv 10))
       fun cl s H fp pins C=>⟨pg_name (i:=0) (show (["_law_row_here","_law_pen_here"]:List Str).Nodup by decide) rfl (Or.inl rfl),pts_one (pt_cmpR op_eq (pe_call GT hr1 rfl mT kT bT .nil pass0 (pa_c (pv 1) (pa_c pe_int pa_nil))) pe_int (nomark _)),pe_call GLi hr3 rfl mLi kLi bLi .nil pass0 (pa_c (pv 1) (pa_c (pv 0) pa_nil))⟩)))
     (pss_cons (ps_set (i:=14) scL.nd rfl (Or.inl rfl) (pe_lst (pa_c (pe_call GH hr2 rfl mH kH bH .nil pass0 (pa_c (pv 1) (pa_c (pv 9) pa_nil))) (pa_c (pe_call GM hr2 rfl mM kM bM .nil pass0 (pa_c (pv 1) (pa_c (pv 13) pa_nil))) pa_nil))))
     (pss_cons (ps_set (i:=15) scL.nd rfl (Or.inl rfl) (pe_callB (call_repr hr) (by rfl) hrepr (by kernel_rfl) (pa_c (pv 14) pa_nil)))
     (pss_cons (ps_set (i:=16) scL.nd rfl (Or.inl rfl) (pe_call GRo hr rfl mRo kRo bRo .nil pass0 (pa_c (pe_ix ix_list (pv 14) pe_int (fun _ _=>rfl)) (pa_c (pe_ix ix_list (pv 14) pe_int (fun _ _=>rfl)) pa_nil))))
     (pss_cons (ps_if (PW.pt (pw_or (pt_not (pt_val (pe_call GRi hr2 rfl mRi kRi bRi .nil pass0 (pa_c (pv 16) (pa_c (pv 11) pa_nil))))) (pw_or1 (pt_cmpR op_ne (pe_callB (call_repr hr) (by rfl) hrepr (by kernel_rfl) (pa_c (pv 14) pa_nil)) (pv 15) (nomark _))))) (pss_one (ps_ret pe_bl)) pss_nil)
     (pss_cons (ps_for PassesOwn.never rfl (pi_list (pv 14)) (pg_name (i:=17) scL.nd rfl (Or.inl rfl))
      (pss_cons (ps_mid <| ps_if (pt_val (pe_callB call_isinst (by rfl) T.isi (by kernel_rfl) (pa_c (pv 17) (pa_c (pe_bltn (v:=.ty "list") (by rfl) hlist (by kernel_rfl) rfl) pa_nil)))) (pss_one (ps_expr (pe_bm PySem.F.plainAttrs_list PySem.F.slot_list_append PySem.F.type_list_append mt_append (pv 17) (pa_c pe_non pa_nil)))) pss_nil)
      (pss_one (ps_if (PW.pt (pw_and (pt_cmpR op_gt (pe_callB call_len_seq (by rfl) T.len PySem.boot_len (pa_c (pv 17) pa_nil)) pe_int (nomark _)) (pw_and1 (pt_val (pe_callB call_isinst (by rfl) T.isi (by kernel_rfl) (pa_c (pe_ix ix_seq (pv 17) pe_int (fun _ _=>rfl)) (pa_c (pe_bltn (v:=.ty "list") (by rfl) hlist (by kernel_rfl) rfl) pa_nil))))))) (pss_one (ps_expr (pe_bm0 PySem.F.plainAttrs_list PySem.F.slot_list_clear PySem.F.type_list_clear mt_clear (pe_ix ix_seq (pv 17) pe_int (fun _ _=>rfl))))) pss_nil))))
     (pss_one (ps_if (pt_not (pt_val (pe_call GRi hr2 rfl mRi kRi bRi .nil pass0 (pa_c (pv 16) (pa_c (pv 11) pa_nil))))) (pss_one (ps_ret pe_bl)) pss_nil))))))))))))))))))
   (pss_one (ps_ret pe_bl))),?_⟩
  refine ⟨_,rfl,sc,ns,rfl,hS,hln,fun p c H1 hp1 s1 np=>?_⟩
  refine ⟨2,rfl,by decide,by decide,for_range (n:=2) (fun i σ H'=>∃ (o2 o3 o4 o5 o6 o7 o8 o9 o10 o11 o12 o13 o14 o15 o16 o17:Option V) (a':Int),σ=[some (.ref sc),some (.ref p),o2,o3,o4,o5,o6,o7,o8,o9,o10,o11,o12,o13,o14,o15,o16,o17]∧PenAt H' p c ns a'∧a'≤100000 * i) ⟨none,none,none,none,none,none,none,none,none,none,none,none,none,none,none,none,0,rfl,hp1,by omega⟩ ?_ ?_⟩
  ·rintro iT σ H2 hiT ⟨o2,o3,o4,o5,o6,o7,o8,o9,o10,o11,o12,o13,o14,o15,o16,o17,a2,rfl,hp2,ua2⟩
   dsimp only [gName]
   refine ⟨_,rfl,p,c,ns,a2,_,rfl,hp2,by omega,by decide,by decide,fun r1 a3 H3 r10 r11 la3 ua3 hp3 kp3=>?_⟩
   refine ⟨_,rfl,p,c,ns,a3,_,rfl,hp3,by omega,by decide,by decide,fun r2 a4 H4 r20 r21 la4 ua4 hp4 kp4=>?_⟩
   refine ⟨sizeLine_big (by show 4≤1000000;decide),fun q hq=>?_⟩
   have sq:=Same.new (o:=.lst [V.int 40,.int 0,.int r1,.int r2]) hq
   have eq5:upd H4 q (.lst [V.int 40,.int 0,.int r1,.int r2]) q=some (.lst [V.int 40,.int 0,.int r1,.int r2]):=upd_same
   generalize upd H4 q (.lst [V.int 40,.int 0,.int r1,.int r2])=H5 at sq eq5 ⊢
   have hp5:=hp4.same sq
   refine ⟨_,rfl,p,c,ns,a4,_,rfl,hp5,by omega,by decide,by decide,fun r3 a6 H6 r30 r31 la6 ua6 hp6 kp6=>?_⟩
   obtain ⟨v,hv,hat⟩:=atI_in (xs:=[V.int 40,.int 0,.int r1,.int r2]) (i:=r3) r30 (by show r3 < 4;omega)
   obtain ⟨m,rfl,hm⟩:∃ m:Nat,v=.int m∧m≤40:=by
    simp only [List.mem_cons,List.not_mem_nil,or_false] at hv
    rcases hv with rfl | rfl | rfl | rfl
    ·exact ⟨40,rfl,by omega⟩
    ·exact ⟨0,rfl,by omega⟩
    ·exact ⟨r1.toNat,by congr 1;omega,by omega⟩
    ·exact ⟨r2.toNat,by congr 1;omega,by omega⟩
   refine ⟨q,_,r3,_,rfl,rfl,SqL.of (lst_but eq5 hp5 kp6),hat,?_⟩
   refine ⟨_,rfl,_,rfl,p,c,ns,a6,_,rfl,hp6,by omega,by decide,by decide,fun r4 a7 H7 r40 r41 la7 ua7 hp7 kp7=>?_⟩
   refine ⟨_,_,rfl,rfl,sizeLine_big (by show 2≤1000000;decide),fun q2 hq2=>?_⟩
   have sq2:=Same.new (o:=.lst [V.int 8,.int (1 + r4)]) hq2
   have eq8:upd H7 q2 (.lst [V.int 8,.int (1 + r4)]) q2=some (.lst [V.int 8,.int (1 + r4)]):=upd_same
   generalize upd H7 q2 (.lst [V.int 8,.int (1 + r4)])=H8 at sq2 eq8 ⊢
   have hp8:=hp7.same sq2
   refine ⟨_,rfl,p,c,ns,a7,_,rfl,hp8,by omega,by decide,by decide,fun r5 a9 H9 r50 r51 la9 ua9 hp9 kp9=>?_⟩
   obtain ⟨v2,hv2,hat2⟩:=atI_in (xs:=[V.int 8,.int (1 + r4)]) (i:=r5) r50 (by show r5 < 2;omega)
   obtain ⟨nf,rfl,hf1,hf8⟩:∃ m:Nat,v2=.int m∧1≤m∧m≤8:=by
    simp only [List.mem_cons,List.not_mem_nil,or_false] at hv2
    rcases hv2 with rfl | rfl
    ·exact ⟨8,rfl,by omega,by omega⟩
    ·exact ⟨(1 + r4).toNat,by congr 1;omega,by omega,by omega⟩
   refine ⟨q2,_,r5,_,rfl,rfl,SqL.of (lst_but eq8 hp8 kp9),hat2,?_⟩
   refine ⟨_,rfl,p,c,ns,a9,nf,m,rfl,hp9,by omega,by omega,by omega,fun t l1 l2 l3 l4 ws ps hs rs aA HA ht hl1 hwl hNw hl2 hpl hNp hl3 hhl hNh hl4 hrl hNr laA uaA hpA kpA=>?_⟩
   refine ⟨t,_,rfl,SqT.of ht,rfl,_,_,rfl,_,_,rfl,_,_,rfl,_,_,rfl,rfl,?_⟩
   refine ⟨_,rfl,_,rfl,p,c,ns,aA,m,rfl,hpA,by omega,by omega,fun lD ds aB HB hlD hdl hds laB uaB hpB kpB=>?_⟩
   refine ⟨_,rfl,_,rfl,_,rfl,p,c,ns,aB,l1,l3,ws,hs,rfl,hpB,by omega,lst_but hl1 hpA kpB,hNw.ok,by omega,lst_but hl3 hpA kpB,hNh.ok,by omega,by omega,fun tL lxs lds aC HC htL rlx hFl hhd laC uaC hpC kpC=>?_⟩
   obtain ⟨hlay,hlf,hl8⟩:=lay_ok hFl hhd hNw (by omega) (by omega)
   refine ⟨_,rfl,m,rfl,by omega,by omega,?_⟩
   have kAC:=kpB.trans kpC
   have hS3:S3 HC l1 l2 l3 ws ps hs:=⟨lst_but hl1 hpA kAC,lst_but hl2 hpA kAC,lst_but hl3 hpA kAC,by omega,by omega,hpl,hhl,hNw,hNp,hNh⟩
   have j4:=lst_but hl4 hpA kAC
   have jD:=lst_but hlD hpB kpC
   have en:((m:Nat):Int).toNat=m:=Int.toNat_natCast _
   refine comp_range (n:=((m:Nat):Int).toNat) (fun i ys σ' H'=>Ex3 fun (a':Int) (o:Option V) (us:List RowI)=>Aw8 (σ'=[o,some (.ref lD),some (.ref l1),some (.ref l3),some (.ref l4),some (.ref p),some (.ref l2)]) (PenAt H' p c ns a') (KeepBut p HC H') (aC≤a') (a'≤aC + 90 * i) (ys.length=i) (RowsAt H' ys us ws) (us.map (·.name)=rs.take i))
    ⟨aC,none,[],rfl,hpC,KeepBut.refl _ _,by omega,by omega,rfl,⟨rfl,fun i x hx=>by simp at hx⟩,rfl⟩ (sizeLine_big (by omega)) (fun i ys σ H p=>by obtain ⟨_,_,_,_,_,_,_,_,e,_⟩:=p;omega) ?_ ?_
   ·rintro i ys σ' HD hi ⟨aD,o,us,rfl,hpD,kD,laD,uaD,hyl,hRA,hnm⟩
    rw[en] at hi
    dsimp only [gName]
    refine iteT ?_
    have hi1:i < rs.length:=by omega
    have hi2:i < ds.length:=by omega
    have hn:rs[i]?=some rs[i]:=List.getElem?_eq_getElem hi1
    have hd:ds[i]?=some ds[i]:=List.getElem?_eq_getElem hi2
    have hatn:atI (rs.map V.str) (0 + (i:Int))=some (.str rs[i]):=by
     rw[Int.zero_add]
     exact atI_nat (by rw[List.getElem?_map,hn];rfl)
    have hatd:atI (ds.map V.int) (0 + (i:Int))=some (.int ds[i]):=by
     rw[Int.zero_add]
     exact atI_nat (by rw[List.getElem?_map,hd];rfl)
    refine ⟨_,rfl,_,rfl,_,rfl,l4,_,_,_,rfl,rfl,SqL.of (lst_but j4 hpC kD),hatn,_,rfl,_,rfl,lD,_,_,_,rfl,rfl,SqL.of (lst_but jD hpC kD),hatd,_,rfl,_,rfl,_,rfl,sizeLine_big (by show 3≤1000000;decide),fun q3 hq3=>?_⟩
    have sq3:=Same.new (o:=.tup [V.ref l1,.ref l2,.ref l3]) hq3
    have kDq:=kD.same sq3
    have hS4:S3 HD l1 l2 l3 ws ps hs:=hS3.but hpC kD
    have hname:=hNr.ok _ (List.getElem_mem hi1)
    obtain ⟨dd0,dd1⟩:=hds _ (List.getElem_mem hi2)
    refine ⟨p,c,ns,aD,rs[i],ds[i],q3,l1,l2,l3,ws,ps,hs,rfl,hpD.same sq3,by omega,upd_same,hS4.same sq3,hname,dd0,dd1,fun x r aE HE hrow hrn hrok laE uaE hpE kpE=>?_⟩
    have kDE:KeepBut p HD HE:=fun b o e hb=>kpE b o (sq3 _ _ e) hb
    refine ⟨aE,_,us ++ [r],rfl,hpE,kD.trans kDE,by omega,by omega,by rw[List.length_append,hyl];rfl,(hRA.but hpD kDE).snoc hrow hrok,?_⟩
    rw[List.map_append,hnm,List.take_add_one,hn]
    show _ ++ [r.name]=_ ++ [rs[i]]
    rw[hrn]
   ·rintro vs σ' HD ⟨aD,o,us,rfl,hpD,kD,laD,uaD,hyl,hRA,hnm⟩ lR hlR
    rw[en] at hyl uaD hnm
    have hnu:(us.map (·.name)).Nodup:=by rw[hnm];exact (hNr.take m).nd
    have sR:=Same.new (o:=.lst vs) hlR
    have eR:upd HD lR (.lst vs) lR=some (.lst vs):=upd_same
    generalize upd HD lR (.lst vs)=HE at sR eR ⊢
    have hpE:=hpD.same sR
    have hRE:=hRA.same sR
    have kCE:KeepBut p HC HE:=kD.same sR
    have hul:us.length≤40:=by rw[← hRA.len];omega
    refine ⟨_,rfl,_,rfl,lR,vs,KeyAt HE,rfl,.inl (SqL.of eR),by omega,keyCall hRE,fun E1 kk pp HF sF hE hkl hk ho eE=>?_⟩
    obtain ⟨os,ho1,ho2,ho3⟩:=sortedRows hRE hnu hkl hk ho sF
    have hol:=ho1.length_eq
    have hpl:=ho3.len
    refine ⟨E1,_,rfl,.inl ⟨SqL.of eE,fun l hl=>⟨sizeLine_big (by show 2≤1000000;decide),fun O hO=>?_⟩⟩⟩
    have sl:=Same.new (o:=.tup (pp.map fun i=>vs.getD i .non)) hl
    have el:upd HF l (.tup (pp.map fun i=>vs.getD i .non)) l=some (.tup (pp.map fun i=>vs.getD i .non)):=upd_same
    generalize upd HF l (.tup (pp.map fun i=>vs.getD i .non))=HF2 at sl el hO ⊢
    have sO:=Same.new (o:=.tup [V.ref tL,.ref l]) hO
    have eO:upd HF2 O (.tup [V.ref tL,.ref l]) O=some (.tup [V.ref tL,.ref l]):=upd_same
    generalize upd HF2 O (.tup [V.ref tL,.ref l])=HG at sO eO ⊢
    have sEG:Same HE HG:=(sF.trans sl).trans sO
    have kCG:KeepBut p HC HG:=kCE.same sEG
    have hpG:=hpE.same sEG
    have hRG:=hRE.same sEG
    have eRG:=sEG _ _ eR
    have htG:=tup_but htL hpC kCG
    have rlG:=rds_but rlx hpC kCG
    have hxl:lxs.length≤1000:=by have:=rlx.len;omega
    have rO:RdV false HG (.ref O) (rollD lds os):=.tup eO (by show 2≤1000;decide) (.cons (.tup htG hxl rlG) (.cons (.tup (sO _ _ el) (by omega) ((ho3.rdvs).same (sl.trans sO))) .nil))
    have hokU:∀ u∈us,u.Ok ws:=fun u hu=>by
     obtain ⟨j,hj⟩:=List.getElem?_of_mem hu
     have hjx:j < vs.length:=by rw[hRA.len];exact (List.getElem?_eq_some_iff.mp hj).1
     obtain ⟨u2,h2,_,h4⟩:=hRA.at' j _ (List.getElem?_eq_getElem hjx)
     rw[hj] at h2
     cases h2
     exact h4
    have okO:OkD 2000000 10 (rollD lds os):=roll_ok hFl hl8 (fun r hr=>hokU r (ho1.mem_iff.mp hr)) (by omega)
    refine ⟨2,rfl,by decide,by decide,for_range (n:=2) (fun i σ H'=>Ex7 fun (o12 o13 o14 o15 o16 o17:Option V) (a':Int)=>Aw4 (σ=[some (.ref sc),some (.ref p),some (.int (0 + (iT:Int))),some (.int m),some (.ref l1),some (.ref l2),some (.ref l3),some (.ref l4),some (.ref lD),some (.ref tL),some (.ref lR),some (.ref O),o12,o13,o14,o15,o16,o17]) (PenAt H' p c ns a') (a'≤aD + 20000 * i) (KeepBut p HG H')) ⟨o12,o13,o14,o15,o16,o17,aD,rfl,hpG,by omega,KeepBut.refl _ _⟩ ?_ ?_⟩
    ·clear o12 o13 o14 o15 o16 o17
     rintro iA σ H0 hiA ⟨o12,o13,o14,o15,o16,o17,a0,rfl,hp0,ua0,k0⟩
     dsimp only [gName]
     have eR0:=lst_but eRG hpG k0
     have hR0:=hRG.but hpG k0
     have rO0:=rd_but rO hpG k0
     have ht0:=tup_but htG hpG k0
     have rl0:=rds_but rlG hpG k0
     refine ⟨_,rfl,lR,rfl,⟨vs,SqL.of eR0⟩,?_⟩
     refine comp_list (K:=K) (xs:=vs) (fun i ys σ' H'=>Ex2 fun (o:Option V) (a':Int)=>Aw7 (σ'=[o,some (.ref p)]) (ys.length=i) (Tgs H0 H' ws ys (us.take i)) (PenAt H' p c ns a') (a0≤a') (a'≤a0 + 201 * i) (KeepBut p H0 H'))
      ⟨none,a0,rfl,rfl,Tgs.nil,hp0,by omega,by omega,KeepBut.refl _ _⟩ (sizeLine_big (by omega)) (fun i ys σ H' q=>by obtain ⟨_,_,_,e,_⟩:=q;omega) (fun i ys σ H' q=>by obtain ⟨_,_,_,_,_,_,_,_,kb⟩:=q;exact SqL.of (lst_but eR0 hp0 kb)) ?_ ?_
     ·rintro i v ys σ' HI hv ⟨o,aI,rfl,hyI,hTI,hpI,laI,uaI,kI⟩
      have hil:i < 40:=by have:=(List.getElem?_eq_some_iff.mp hv).1;omega
      obtain ⟨u,hu,rv,hok⟩:=hR0.at' i v hv
      have rvI:=rd_but rv hp0 kI
      obtain ⟨tr,rest,rfl,etr,_⟩:=hok.at rvI
      have tk:us.take (i + 1)=us.take i ++ [u]:=by rw[List.take_add_one,hu];rfl
      dsimp only [gName]
      refine iteT ?_
      refine ⟨_,rfl,_,rfl,_,rfl,p,c,ns,aI,tr,u.word,u.name,u.day,u.ds,rfl,hpI,by omega,rvI,hok.rs,hok.nm,hok.d0,hok.d1,fun x d2 aJ HJ rx okx ordx hLN laJ uaJ hpJ kpJ=>?_⟩
      refine ⟨sizeLine_big (by show 2≤1000000;decide),fun q3 hq3=>?_⟩
      have s3:=Same.new (o:=.lst [V.ref tr,x]) hq3
      have e3:upd HJ q3 (.lst [V.ref tr,x]) q3=some (.lst [V.ref tr,x]):=upd_same
      generalize upd HJ q3 (.lst [V.ref tr,x])=HK at s3 e3 ⊢
      have hpK:=hpJ.same s3
      refine ⟨_,rfl,p,c,ns,aJ,_,rfl,hpK,by omega,by decide,by decide,fun r aL HL r0 r1 laL uaL hpL kpL=>?_⟩
      have kIL:KeepBut p HI HL:=(kpJ.same s3).trans kpL
      have kJL:KeepBut p HJ HL:=(Same.but s3).trans kpL
      have hTL:=hTI.but hpI kIL
      have e3L:=lst_but e3 hpK kpL
      have key:∀ y,TgV H0 HL y u→∃ (o:Option V) (a':Int),[some (.ref tr),some (.ref p)]=[o,some (.ref p)]∧(ys ++ [y]).length=i + 1∧Tgs H0 HL ws (ys ++ [y]) (us.take (i + 1))∧PenAt HL p c ns a'∧a0≤a'∧a'≤a0 + 201 * (i + 1:Nat)∧KeepBut p H0 HL:=fun y hy=>
       ⟨_,aL,rfl,by rw[List.length_append,hyI];rfl,by rw[tk];exact hTL.app (Tgs.one hy hok),hpL,by omega,by omega,kI.trans kIL⟩
      have c2:r=0∨r=1:=by omega
      rcases c2 with rfl | rfl
      ·refine ⟨q3,_,0,.ref tr,rfl,rfl,SqL.of e3L,rfl,?_⟩
       obtain ⟨z1,z2,z3,z4,z5,z6,z7,z8,z9⟩:=key _ (hok.tg (rd_but rvI hpI kIL))
       exact ⟨z1,z2,z3,z4,z5,z6,z7,z8,z9⟩
      ·refine ⟨q3,_,1,x,rfl,rfl,SqL.of e3L,rfl,?_⟩
       obtain ⟨qx,zx,rfl,hqx,hqz,_⟩:=hLN
       have hn0:H0 qx=none:=free_but kI hpI hqx
       obtain ⟨z1,z2,z3,z4,z5,z6,z7,z8,z9⟩:=key _ (TgV.but ⟨⟨d2,rx,okx,ordx⟩,qx,zx,rfl,hqz.symm.imp id fun e=>⟨e,hn0⟩⟩ hpJ kJL)
       exact ⟨z1,z2,z3,z4,z5,z6,z7,z8,z9⟩
     ·rintro S1 σ' HI ⟨o,aI,rfl,hyI,hTI,hpI,laI,uaI,kI⟩ D1 hD1
      rw[show us.take vs.length=us by rw[hR0.len];exact List.take_length] at hTI
      have sD1:=Same.new (o:=.lst S1) hD1
      have eD1:upd HI D1 (.lst S1) D1=some (.lst S1):=upd_same
      generalize upd HI D1 (.lst S1)=HJ at sD1 eD1 ⊢
      have hpJ:=hpI.same sD1
      have kJ:KeepBut p H0 HJ:=kI.same sD1
      have hTJ:=hTI.but hpI (Same.but (p:=p) sD1)
      refine ⟨_,rfl,_,rfl,lR,rfl,⟨vs,SqL.of (lst_but eR0 hp0 kJ)⟩,?_⟩
      refine comp_list (K:=K) (xs:=vs) (fun i ys σ' H'=>Ex3 fun (o:Option V) (a':Int) (ex:List RowI)=>Aw8 (σ'=[o,some (.ref p)]) (ys.length≤i) (Tgs H0 H' ws ys ex) ((∀ r∈ex,r∈us)) (PenAt H' p c ns a') (aI≤a') (a'≤aI + 201 * i) (KeepBut p HJ H'))
       ⟨none,aI,[],rfl,Nat.le_refl _,Tgs.nil,fun r hr=>by simp at hr,hpJ,by omega,by omega,KeepBut.refl _ _⟩ (sizeLine_big (by omega)) (fun i ys σ H' q=>by obtain ⟨_,_,_,_,e,_⟩:=q;exact e) (fun i ys σ H' q=>by obtain ⟨_,_,_,_,_,_,_,_,_,_,kb⟩:=q;exact SqL.of (lst_but eR0 hp0 (kJ.trans kb))) ?_ ?_
      ·rintro i v ys σ' HK hv ⟨o,aK,ex,rfl,hyK,hTK,hex,hpK,laK,uaK,kK⟩
       have hil:i < 40:=by have:=(List.getElem?_eq_some_iff.mp hv).1;omega
       obtain ⟨u,hu,rv,hok⟩:=hR0.at' i v hv
       have k0K:=kJ.trans kK
       dsimp only [gName]
       refine ⟨_,rfl,p,c,ns,aK,_,rfl,hpK,by omega,by decide,by decide,fun r aL HL r0 r1 laL uaL hpL kpL=>⟨rfl,_,rfl,?_⟩⟩
       have k0L:=k0K.trans kpL
       have rvL:=rd_but rv hp0 k0L
       obtain ⟨tr,rest,rfl,etr,_⟩:=hok.at rvL
       refine ite2 (fun g=>?_) (fun g=>?_)
       ·refine ⟨_,rfl,_,rfl,p,c,ns,aL,tr,u.word,u.name,u.day,u.ds,rfl,hpL,by omega,rvL,hok.rs,hok.nm,hok.d0,hok.d1,fun x d2 aM HM rx okx ordx hLN laM uaM hpM kpM=>?_⟩
        obtain ⟨qx,zx,rfl,hqx,hqz,_⟩:=hLN
        have hn0:H0 qx=none:=free_but k0L hpL hqx
        refine ⟨_,aM,ex ++ [u],rfl,by rw[List.length_append];show ys.length + 1≤i + 1;omega,(hTK.but hpK (kpL.trans kpM)).app (Tgs.one ⟨⟨d2,rx,okx,ordx⟩,qx,zx,rfl,hqz.symm.imp id fun e=>⟨e,hn0⟩⟩ hok),fun r hr=>?_,hpM,by omega,by omega,(kK.trans kpL).trans kpM⟩
        rcases List.mem_append.mp hr with h | h
        ·exact hex r h
        ·rw[List.mem_singleton.mp h];exact List.mem_of_getElem? hu
       ·exact ⟨_,aL,ex,rfl,by omega,hTK.but hpK kpL,hex,hpL,by omega,by omega,kK.trans kpL⟩
      ·rintro S2 σ' HK ⟨o,aK,ex,rfl,hyK,hTK,hex,hpK,laK,uaK,kK⟩ D2 hD2
       have sD2:=Same.new (o:=.lst S2) hD2
       have eD2:upd HK D2 (.lst S2) D2=some (.lst S2):=upd_same
       generalize upd HK D2 (.lst S2)=HL at sD2 eD2 ⊢
       have hpL:=hpK.same sD2
       have kJL:KeepBut p HJ HL:=kK.same sD2
       refine ⟨D1,D2,S1,S2,rfl,rfl,lst_but eD1 hpJ kJL,eD2,sizeLine_big (by omega),fun L hL=>?_⟩
       have sLs:=Same.new (o:=.lst (S1 ++ S2)) hL
       have eLs:upd HL L (.lst (S1 ++ S2)) L=some (.lst (S1 ++ S2)):=upd_same
       generalize upd HL L (.lst (S1 ++ S2))=HM at sLs eLs ⊢
       have hpM:=hpL.same sLs
       have kJM:KeepBut p HJ HM:=kJL.same sLs
       have k0M:=kJ.trans kJM
       have hTM:Tgs H0 HM ws (S1 ++ S2) (us ++ ex):=(hTJ.but hpJ kJM).app (hTK.but hpK ((Same.but sD2).same sLs))
       have hsub:∀ r∈us ++ ex,r∈us:=fun r hr=>by
        rcases List.mem_append.mp hr with h | h
        ·exact h
        ·exact hex r h
       have hlS:(S1 ++ S2).length≤80:=by rw[List.length_append];omega
       generalize hSx:S1 ++ S2=Sx at eLs hTM hlS
       dsimp only [gName]
       refine ⟨_,rfl,_,rfl,p,c,ns,aK,tL,lxs,lds,rfl,hpM,by omega,tup_but ht0 hp0 k0M,rds_but rl0 hp0 k0M,hlf,hl8,fun x d0 ys b aN HN rx ed okd ex' hb hbn hys laN uaN hpN kN=>?_⟩
       subst ex'
       refine ⟨_,rfl,_,rfl,p,c,ns,aN,L,Sx,rfl,hpN,by omega,lst_but eLs hpM kN,hlS,fun Tm js aO HO' hTn hTv J laO uaO hpO kO=>?_⟩
       have k0N:=k0M.trans kN
       have k0O:=k0N.trans kO
       have hTO:=hTM.but hpM (kN.trans kO)
       have rxO:=rd_but rx hpN kO
       have hbO:HO' b=some (.lst ys)∨HO' b=some (.tup ys):=hb.imp (fun e=>lst_but e hpN kO) (fun e=>tup_but e hpN kO)
       have hb0:H0 b=none:=free_but k0M hpM hbn
       have hT0:H0 Tm=none:=free_but k0N hpN hTn
       have hyO:∀ v∈ys,PartV H0 HO' v:=fun v hv=>by
        obtain ⟨b',z,rfl,e⟩:=hys v hv
        exact PartV.but ⟨b',z,rfl,e.imp id fun h=>⟨h.1,free_but k0M hpM h.2⟩⟩ hpN kO
       have hyl8:ys.length≤8:=by
        have:ys.length=lds.length:=by
         rcases hb with e | e
         ·cases rx with
          | lst _ e2 _ r=>rw[e] at e2;cases e2;have:=congrArg (fun d=>match d with | PyData.tuple l=>l.length | _=>0) ed;rw[r.len];simpa [tupD] using this
          | tup e2 _ r=>rw[e] at e2;cases e2
          | dct hm _=>cases hm
         ·cases rx with
          | lst _ e2 _ r=>rw[e] at e2;cases e2
          | tup e2 _ r=>rw[e] at e2;cases e2;have:=congrArg (fun d=>match d with | PyData.tuple l=>l.length | _=>0) ed;rw[r.len];simpa [tupD] using this
          | dct hm _=>cases hm
        omega
       obtain ⟨rs',hTh,hrl',hrm⟩:=mix_things hTO hnu hsub ⟨ex,rfl⟩ J
       have hpk:=hTO.pick J
       have hjl:js.length≤160:=by have:=J.len;omega
       have hpkl:(pickV Sx js).length≤160:=by rw[List.length_map];exact hjl
       obtain ⟨es,res,oes⟩:=rds_of (b:=13352) (k:=3) fun y hy=>by obtain ⟨r,⟨d,h1,h2,_⟩,_⟩:=hpk y hy;exact ⟨d,h1,h2⟩
       have hel:es.length≤160:=by rw[← res.len];exact hpkl
       obtain ⟨dm,rdm,odm⟩:∃ dm,RdV true HO' (.ref Tm) dm∧OkD 2200000 4 dm:=by
        rcases hTv with e | e
        ·exact ⟨.list es,.lst rfl e (by omega) res,(OkD.list oes hel).mono (by decide) (by decide)⟩
        ·exact ⟨.tuple es,.tup e (by omega) res,(OkD.tuple oes hel).mono (by decide) (by decide)⟩
       refine ⟨sizeLine_big (by show 2≤1000000;decide),fun G hG=>?_⟩
       have sG:=Same.new (o:=.lst [V.ref b,.ref Tm]) hG
       have eG:upd HO' G (.lst [V.ref b,.ref Tm]) G=some (.lst [V.ref b,.ref Tm]):=upd_same
       generalize upd HO' G (.lst [V.ref b,.ref Tm])=HP at sG eG ⊢
       have hpP:=hpO.same sG
       have rG:RdV true HP (.ref G) (.list [d0,dm]):=.lst rfl eG (by show 2≤1000;decide) (.cons (rxO.same sG) (.cons (rdm.same sG) .nil))
       have oG:OkD 5000000 10 (.list [d0,dm]):=(OkD.list (n:=2) (b:=2200000) (k:=4) (fun d hd=>by
        simp only [List.mem_cons,List.not_mem_nil,or_false] at hd
        rcases hd with rfl | rfl
        ·exact okd.mono (by decide) (by decide)
        ·exact odm) (by show 2≤2;decide)).mono (by decide) (by decide)
       obtain ⟨w1,w2,w3⟩:=rep_big oG (by decide) (by decide)
       generalize PyData.list [d0,dm]=dG at rG w1 w2 w3
       dsimp only [gName]
       refine ⟨_,rfl,G,true,dG,rfl,rG,w1,w2,w3,?_⟩
       have hqP:HP Tm=some (.lst (pickV Sx js))∨HP Tm=some (.tup (pickV Sx js)):=hTv.imp (sG _ _) (sG _ _)
       refine ⟨_,rfl,G,_,0,_,rfl,rfl,SqL.of eG,rfl,_,rfl,G,_,1,_,rfl,rfl,SqL.of eG,rfl,.ref b,Tm,d0,lds,_,rs',us,rfl,rxO.same sG,ed,hlay,hlf,hl8,hqP,by omega,by rw[hhd];exact ⟨hTh.len,fun i z hz=>by obtain ⟨r,a,b,c⟩:=hTh.at' i z hz;exact ⟨r,a,b.same sG,c⟩,hTh.uniq⟩,hnu,hrm,hul,fun t os' HQ sQ hperm hrise rt=>?_⟩
       obtain rfl:os'=os:=riseR_uniq (hperm.trans ho1.symm) hrise ho2
       have kP:KeepBut p H0 HP:=k0O.same sG
       have kQ:KeepBut p H0 HQ:=kP.same sQ
       refine ⟨_,rfl,_,rfl,t,O,lds,_,rfl,rt,rd_but rO0 hp0 kQ,okO,fun HR sR2=>⟨_,rfl,?_⟩⟩
       refine iteF ?_
       have sPR:Same HP HR:=sQ.trans sR2
       refine ⟨_,rfl,G,true,dG,rfl,rG.same sPR,w1,w2,w3,_,rfl,rfl,_,rfl,?_⟩
       rw[decide_eq_true rfl]
       refine iteF ?_
       have hGO:HO' G=none:=hG
       have sOR:Same HO' HR:=sG.trans sPR
       have hbR:HR b=some (.lst ys)∨HR b=some (.tup ys):=hbO.imp (sOR _ _) (sOR _ _)
       have hTR:HR Tm=some (.lst (pickV Sx js))∨HR Tm=some (.tup (pickV Sx js)):=hqP.imp (sPR _ _) (sPR _ _)
       have nb:b≠G:=fun z=>by rw[← z] at hGO;rcases hbO with e | e <;> rw[hGO] at e <;> cases e
       have nT:Tm≠G:=fun z=>by rw[← z] at hGO;rcases hTv with e | e <;> rw[hGO] at e <;> cases e
       have M0:Mut 500 H0 p c ns aO G (.ref b) (.ref Tm) (.ref t) (rollD lds os') HR:=⟨hpP.same sPR,kP.same sPR,sPR _ _ eG,rt.same sR2,
        ⟨b,ys,rfl,hbR,hb0,nb,by omega,fun u hu=>ShV.of (hyO u hu) sOR hGO⟩,
        ⟨Tm,_,rfl,hTR,hT0,nT,by omega,fun u hu=>by obtain ⟨r,_,h⟩:=hpk u hu;exact ShV.of h sOR hGO⟩⟩
       refine ⟨_,rfl,G,rfl,⟨_,SqL.of M0.g⟩,for_list (K:=K) (xs:=[.ref b,.ref Tm]) (fun j σ H'=>Ex1 fun (o17:Option V)=>Aw2 (σ=[some (.ref sc),some (.ref p),some (.int (0 + (iT:Int))),some (.int m),some (.ref l1),some (.ref l2),some (.ref l3),some (.ref l4),some (.ref lD),some (.ref tL),some (.ref lR),some (.ref O),some (.int (0 + (iA:Int))),some (.ref L),some (.ref G),some (.str dG.shown),some (.ref t),o17]) (Mut (500 + j) H0 p c ns aO G (.ref b) (.ref Tm) (.ref t) (rollD lds os') H')) ⟨_,rfl,M0⟩ (fun j σ H' _ z=>by obtain ⟨_,_,z⟩:=z;exact SqL.of z.g) ?_ ?_⟩
       ·rintro j v σ HS hv ⟨o17,rfl,M⟩
        have hj2:j < 2:=(List.getElem?_eq_some_iff.mp hv).1
        have hvm:v=.ref b∨v=.ref Tm:=by
         have:=List.mem_of_getElem? hv
         simpa only [List.mem_cons,List.not_mem_nil,or_false] using this
        have pv':∀ {n:Nat} {H':Hp},Mut n H0 p c ns aO G (.ref b) (.ref Tm) (.ref t) (rollD lds os') H'→PartOk n H0 G H' v:=fun M=>by
         rcases hvm with rfl | rfl
         ·exact M.px
         ·exact M.py
        dsimp only [gName]
        refine ⟨fun σ' H'=>σ'=[some (.ref sc),some (.ref p),some (.int (0 + (iT:Int))),some (.int m),some (.ref l1),some (.ref l2),some (.ref l3),some (.ref l4),some (.ref lD),some (.ref tL),some (.ref lR),some (.ref O),some (.int (0 + (iA:Int))),some (.ref L),some (.ref G),some (.str dG.shown),some (.ref t),some v]∧Mut (500 + (j + 1)) H0 p c ns aO G (.ref b) (.ref Tm) (.ref t) (rollD lds os') H',?_,?_⟩
        ·obtain ⟨bb,zs,rfl,e | e,h0,hg,hl,hu⟩:=pv' M
         ·refine ⟨_,rfl,_,"list",_,_,rfl,TyOf.lst e,kit_lst (.list []),_,rfl,?_⟩
          refine iteT ?_
          refine ⟨_,rfl,.inl ⟨rfl,_,SqL.of e⟩,bb,zs,.non,rfl,rfl,e,sizeLine_big (by omega),?_⟩
          refine ⟨rfl,M.upd hp0 e h0 hg (fun u hz=>?_) (by rw[List.length_append];show zs.length + 1≤_;omega) (by omega)⟩
          rcases List.mem_append.mp hz with h | h
          ·exact hu u h
          ·rw[List.mem_singleton.mp h];exact .inl rfl
         ·refine ⟨_,rfl,_,"list",_,_,rfl,TyOf.tup e,kit_lst (.tuple []),_,rfl,?_⟩
          refine iteF ?_
          exact ⟨rfl,M.hp,M.kb,M.g,M.rt,by obtain ⟨b1,y1,e1,e2,e3,e4,e5,e6⟩:=M.px;exact ⟨b1,y1,e1,e2,e3,e4,by omega,e6⟩,by obtain ⟨b1,y1,e1,e2,e3,e4,e5,e6⟩:=M.py;exact ⟨b1,y1,e1,e2,e3,e4,by omega,e6⟩⟩
        ·rintro σ' HS2 ⟨rfl,M2⟩
         obtain ⟨bb,zs,rfl,e,h0,hg,hl,hu⟩:=pv' M2
         have hsq:SqL K HS2 bb zs∨SqT K HS2 bb zs:=e.imp SqL.of SqT.of
         refine ⟨_,rfl,bb,zs,rfl,hsq,_,_,rfl,rfl,_,rfl,?_⟩
         cases zs with
         | nil=>
          rw[decide_eq_false (show ¬ ((0:Int) < (([]:List V).length:Int)) by simp)]
          refine iteF ?_
          refine iteF ?_
          exact ⟨_,rfl,M2⟩
         | cons u zs=>
          rw[decide_eq_true (show (0:Int) < ((u :: zs).length:Int) by simp only [List.length_cons];omega)]
          refine iteT ?_
          have h0a:atI (u :: zs) 0=some u:=atI_nat (j:=0) rfl
          have hix:∀ Q:VK,Q u HS2→rIx K (.ref bb) (.int 0) HS2 Q:=fun Q q=>by
           rcases hsq with h | h
           ·exact .inl ⟨bb,_,0,u,rfl,rfl,h,h0a,q⟩
           ·exact .inr (.inl ⟨bb,_,0,u,rfl,rfl,h,h0a,q⟩)
          refine ⟨_,rfl,hix _ ?_⟩
          rcases hu u List.mem_cons_self with rfl | ⟨cc,z,rfl,e2 | ⟨e2,n2,g2⟩⟩
          ·refine ⟨_,"list",_,_,rfl,ty_of (RdV.non (m:=true)),kit_lst .none,_,rfl,?_⟩
           refine iteF ?_
           exact ⟨_,rfl,M2⟩
          ·refine ⟨_,"list",_,_,rfl,TyOf.tup e2,kit_lst (.tuple []),_,rfl,?_⟩
           refine iteF ?_
           exact ⟨_,rfl,M2⟩
          ·refine ⟨_,"list",_,_,rfl,TyOf.lst e2,kit_lst (.list []),_,rfl,?_⟩
           refine iteT ?_
           refine ⟨_,rfl,hix _ ?_⟩
           refine ⟨.inl ⟨rfl,_,SqL.of e2⟩,cc,z,rfl,rfl,e2,?_⟩
           exact ⟨_,rfl,M2.upd hp0 e2 n2 g2 (fun u hz=>by simp at hz) (by simp) (Nat.le_refl _)⟩
       ·rintro σ HS ⟨o17,rfl,M⟩
        refine ⟨_,rfl,_,rfl,t,O,lds,_,rfl,M.rt,rd_but rO0 hp0 M.kb,okO,fun HT sT=>⟨_,rfl,?_⟩⟩
        refine iteF ?_
        exact ⟨_,_,_,_,_,_,aO,rfl,M.hp.same sT,by omega,(k0.trans M.kb).same sT⟩
    ·clear o12 o13 o14 o15 o16 o17
     rintro σ H0 ⟨o12,o13,o14,o15,o16,o17,a0,rfl,hp0,ua0,k0⟩
     exact ⟨_,_,_,_,_,_,_,_,_,_,_,_,_,_,_,_,a0,rfl,hp0,by omega⟩
  ·rintro σ H2 ⟨o2,o3,o4,o5,o6,o7,o8,o9,o10,o11,o12,o13,o14,o15,o16,o17,a2,rfl,hp2,ua2⟩
   exact k _
end
end K5
namespace K5
open PySem L2
set_option autoImplicit true in
theorem all_mk {l:PySem.W.OpenLaw}{w:World}{K:W.Frag}{h:Heap}{mg:Str→Option Value}{fa:Addr} (X:K.In h) (G:h.Ns mainGlobals mg) (hfa:mg "law"=some (.ref fa))
  {t_MOST_FIELDS:Tok}
  {t_MOST_FIELD_ACRES:Tok}
  {t_LONGEST:Tok}
  {t_LAST_DAY:Tok}
  {t_FEWEST_LANDS:Tok}
  {t_MOST_LANDS:Tok}
  {t_MOST_PART_ACRES:Tok}
  {t_MOST_INCHES:Tok}
  {t_MOST_PENCE:Tok}
  {t_MOST_SPADES:Tok}
  {t_ROW_DEPTH:Tok}
  {t_LAYING_DEPTH:Tok}
  {t_MOST_ROWS:Tok}
  {t_FORMS:Addr} {eF:Nat} {xk0 xk1 xk2 xk3 xk4 xk5 xk6 xk7:Tok}
  {t_RANKS:Addr} {eR:Nat} {xr0 xr1 xr2 xr3 xr4 xr5 xr6 xr7 yr0 yr1 yr2 yr3 yr4 yr5 yr6 yr7:Tok}
  (aIN:W.nsIn K mainGlobals "is_name"=some (some (.ref fIN))) (lIN:K.lookup fIN=some ⟨ocIN,odIN,.func (W.fnOf "is_name" "is_name" (defArgs sIsName) (defBody sIsName) (defScope sIsName) .none kVIN dcIN pmIN anIN cdIN ctIN),slIN⟩) (cIN:W.codeIn K cdIN "is_name"=true) (kIN:W.keepIn K (.ref fIN)=true)
  (aNB:W.nsIn K mainGlobals "is_number"=some (some (.ref fNB))) (lNB:K.lookup fNB=some ⟨ocNB,odNB,.func (W.fnOf "is_number" "is_number" (defArgs sIsNumber) (defBody sIsNumber) (defScope sIsNumber) .none kVNB dcNB pmNB anNB cdNB ctNB),slNB⟩) (cNB:W.codeIn K cdNB "is_number"=true) (kNB:W.keepIn K (.ref fNB)=true)
  (aIW:W.nsIn K mainGlobals "is_whole"=some (some (.ref fIW))) (lIW:K.lookup fIW=some ⟨ocIW,odIW,.func (W.fnOf "is_whole" "is_whole" (defArgs sIsWhole) (defBody sIsWhole) (defScope sIsWhole) .none kVIW dcIW pmIW anIW cdIW ctIW),slIW⟩) (cIW:W.codeIn K cdIW "is_whole"=true) (kIW:W.keepIn K (.ref fIW)=true)
  (aRI:W.nsIn K mainGlobals "is_rising"=some (some (.ref fRI))) (lRI:K.lookup fRI=some ⟨ocRI,odRI,.func (W.fnOf "is_rising" "is_rising" (defArgs sRising) (defBody sRising) (defScope sRising) .none kVRI dcRI pmRI anRI cdRI ctRI),slRI⟩) (cRI:W.codeIn K cdRI "is_rising"=true) (kRI:W.keepIn K (.ref fRI)=true)
  (aFD:W.nsIn K mainGlobals "is_field"=some (some (.ref fFD))) (lFD:K.lookup fFD=some ⟨ocFD,odFD,.func (W.fnOf "is_field" "is_field" (defArgs sIsField) (defBody sIsField) (defScope sIsField) .none kVFD dcFD pmFD anFD cdFD ctFD),slFD⟩) (cFD:W.codeIn K cdFD "is_field"=true) (kFD:W.keepIn K (.ref fFD)=true)
  (aLY:W.nsIn K mainGlobals "is_laying"=some (some (.ref fLY))) (lLY:K.lookup fLY=some ⟨ocLY,odLY,.func (W.fnOf "is_laying" "is_laying" (defArgs sIsLaying) (defBody sIsLaying) (defScope sIsLaying) .none kVLY dcLY pmLY anLY cdLY ctLY),slLY⟩) (cLY:W.codeIn K cdLY "is_laying"=true) (kLY:W.keepIn K (.ref fLY)=true)
  (aPT:W.nsIn K mainGlobals "is_part"=some (some (.ref fPT))) (lPT:K.lookup fPT=some ⟨ocPT,odPT,.func (W.fnOf "is_part" "is_part" (defArgs sIsPart) (defBody sIsPart) (defScope sIsPart) .none kVPT dcPT pmPT anPT cdPT ctPT),slPT⟩) (cPT:W.codeIn K cdPT "is_part"=true) (kPT:W.keepIn K (.ref fPT)=true)
  (aAP:W.nsIn K mainGlobals "all_parts"=some (some (.ref fAP))) (lAP:K.lookup fAP=some ⟨ocAP,odAP,.func (W.fnOf "all_parts" "all_parts" (defArgs sAllParts) (defBody sAllParts) (defScope sAllParts) .none kVAP dcAP pmAP anAP cdAP ctAP),slAP⟩) (cAP:W.codeIn K cdAP "all_parts"=true) (kAP:W.keepIn K (.ref fAP)=true)
  (aAN:W.nsIn K mainGlobals "all_names"=some (some (.ref fAN))) (lAN:K.lookup fAN=some ⟨ocAN,odAN,.func (W.fnOf "all_names" "all_names" (defArgs sAllNames) (defBody sAllNames) (defScope sAllNames) .none kVAN dcAN pmAN anAN cdAN ctAN),slAN⟩) (cAN:W.codeIn K cdAN "all_names"=true) (kAN:W.keepIn K (.ref fAN)=true)
  (aRP:W.nsIn K mainGlobals "are_parts"=some (some (.ref fRP))) (lRP:K.lookup fRP=some ⟨ocRP,odRP,.func (W.fnOf "are_parts" "are_parts" (defArgs sAreParts) (defBody sAreParts) (defScope sAreParts) .none kVRP dcRP pmRP anRP cdRP ctRP),slRP⟩) (cRP:W.codeIn K cdRP "are_parts"=true) (kRP:W.keepIn K (.ref fRP)=true)
  (aRL:W.nsIn K mainGlobals "are_lands"=some (some (.ref fRL))) (lRL:K.lookup fRL=some ⟨ocRL,odRL,.func (W.fnOf "are_lands" "are_lands" (defArgs sAreLands) (defBody sAreLands) (defScope sAreLands) .none kVRL dcRL pmRL anRL cdRL ctRL),slRL⟩) (cRL:W.codeIn K cdRL "are_lands"=true) (kRL:W.keepIn K (.ref fRL)=true)
  (aIC:W.nsIn K mainGlobals "is_inch"=some (some (.ref fIC))) (lIC:K.lookup fIC=some ⟨ocIC,odIC,.func (W.fnOf "is_inch" "is_inch" (defArgs sIsInch) (defBody sIsInch) (defScope sIsInch) .none kVIC dcIC pmIC anIC cdIC ctIC),slIC⟩) (cIC:W.codeIn K cdIC "is_inch"=true) (kIC:W.keepIn K (.ref fIC)=true)
  (aF0:W.nsIn K mainGlobals "fits_part"=some (some (.ref fF0))) (lF0:K.lookup fF0=some ⟨ocF0,odF0,.func (W.fnOf "fits_part" "fits_part" (defArgs sFPart) (defBody sFPart) (defScope sFPart) .none kVF0 dcF0 pmF0 anF0 cdF0 ctF0),slF0⟩) (cF0:W.codeIn K cdF0 "fits_part"=true) (kF0:W.keepIn K (.ref fF0)=true)
  (aF1:W.nsIn K mainGlobals "fits_join"=some (some (.ref fF1))) (lF1:K.lookup fF1=some ⟨ocF1,odF1,.func (W.fnOf "fits_join" "fits_join" (defArgs sFJoin) (defBody sFJoin) (defScope sFJoin) .none kVF1 dcF1 pmF1 anF1 cdF1 ctF1),slF1⟩) (cF1:W.codeIn K cdF1 "fits_join"=true) (kF1:W.keepIn K (.ref fF1)=true)
  (aF2:W.nsIn K mainGlobals "fits_forfeit"=some (some (.ref fF2))) (lF2:K.lookup fF2=some ⟨ocF2,odF2,.func (W.fnOf "fits_forfeit" "fits_forfeit" (defArgs sFForfeit) (defBody sFForfeit) (defScope sFForfeit) .none kVF2 dcF2 pmF2 anF2 cdF2 ctF2),slF2⟩) (cF2:W.codeIn K cdF2 "fits_forfeit"=true) (kF2:W.keepIn K (.ref fF2)=true)
  (aF3:W.nsIn K mainGlobals "fits_measure"=some (some (.ref fF3))) (lF3:K.lookup fF3=some ⟨ocF3,odF3,.func (W.fnOf "fits_measure" "fits_measure" (defArgs sFMeasure) (defBody sFMeasure) (defScope sFMeasure) .none kVF3 dcF3 pmF3 anF3 cdF3 ctF3),slF3⟩) (cF3:W.codeIn K cdF3 "fits_measure"=true) (kF3:W.keepIn K (.ref fF3)=true)
  (aF4:W.nsIn K mainGlobals "fits_mend"=some (some (.ref fF4))) (lF4:K.lookup fF4=some ⟨ocF4,odF4,.func (W.fnOf "fits_mend" "fits_mend" (defArgs sFMend) (defBody sFMend) (defScope sFMend) .none kVF4 dcF4 pmF4 anF4 cdF4 ctF4),slF4⟩) (cF4:W.codeIn K cdF4 "fits_mend"=true) (kF4:W.keepIn K (.ref fF4)=true)
  (aF5:W.nsIn K mainGlobals "fits_alone"=some (some (.ref fF5))) (lF5:K.lookup fF5=some ⟨ocF5,odF5,.func (W.fnOf "fits_alone" "fits_alone" (defArgs sFAlone) (defBody sFAlone) (defScope sFAlone) .none kVF5 dcF5 pmF5 anF5 cdF5 ctF5),slF5⟩) (cF5:W.codeIn K cdF5 "fits_alone"=true) (kF5:W.keepIn K (.ref fF5)=true)
  (aF6:W.nsIn K mainGlobals "fits_breach"=some (some (.ref fF6))) (lF6:K.lookup fF6=some ⟨ocF6,odF6,.func (W.fnOf "fits_breach" "fits_breach" (defArgs sFBreach) (defBody sFBreach) (defScope sFBreach) .none kVF6 dcF6 pmF6 anF6 cdF6 ctF6),slF6⟩) (cF6:W.codeIn K cdF6 "fits_breach"=true) (kF6:W.keepIn K (.ref fF6)=true)
  (aF7:W.nsIn K mainGlobals "fits_view"=some (some (.ref fF7))) (lF7:K.lookup fF7=some ⟨ocF7,odF7,.func (W.fnOf "fits_view" "fits_view" (defArgs sFView) (defBody sFView) (defScope sFView) .none kVF7 dcF7 pmF7 anF7 cdF7 ctF7),slF7⟩) (cF7:W.codeIn K cdF7 "fits_view"=true) (kF7:W.keepIn K (.ref fF7)=true)
  (aIR:W.nsIn K mainGlobals "is_row"=some (some (.ref fIR))) (lIR:K.lookup fIR=some ⟨ocIR,odIR,.func (W.fnOf "is_row" "is_row" (defArgs sIsRow) (defBody sIsRow) (defScope sIsRow) .none kVIR dcIR pmIR anIR cdIR ctIR),slIR⟩) (cIR:W.codeIn K cdIR "is_row"=true) (kIR:W.keepIn K (.ref fIR)=true)
  (aAT:W.nsIn K mainGlobals "as_tuples"=some (some (.ref fAT))) (lAT:K.lookup fAT=some ⟨ocAT,odAT,.func (W.fnOf "as_tuples" "as_tuples" (defArgs sAsTup) (defBody sAsTup) (defScope sAsTup) .none kVAT dcAT pmAT anAT cdAT ctAT),slAT⟩) (cAT:W.codeIn K cdAT "as_tuples"=true) (kAT:W.keepIn K (.ref fAT)=true)
  (aIO:W.nsIn K mainGlobals "in_order"=some (some (.ref fIO))) (lIO:K.lookup fIO=some ⟨ocIO,odIO,.func (W.fnOf "in_order" "in_order" (defArgs sInOrder) (defBody sInOrder) (defScope sInOrder) .none kVIO dcIO pmIO anIO cdIO ctIO),slIO⟩) (cIO:W.codeIn K cdIO "in_order"=true) (kIO:W.keepIn K (.ref fIO)=true)
  (aRO:W.nsIn K mainGlobals "row_of"=some (some (.ref fRO))) (lRO:K.lookup fRO=some ⟨ocRO,odRO,.func (W.fnOf "row_of" "row_of" (defArgs sRowOfP) (defBody sRowOfP) (defScope sRowOfP) .none kVRO dcRO pmRO anRO cdRO ctRO),slRO⟩) (cRO:W.codeIn K cdRO "row_of"=true) (kRO:W.keepIn K (.ref fRO)=true)
  (aFO:W.nsIn K mainGlobals "field_of"=some (some (.ref fFO))) (lFO:K.lookup fFO=some ⟨ocFO,odFO,.func (W.fnOf "field_of" "field_of" (defArgs sFieldOf) (defBody sFieldOf) (defScope sFieldOf) .none kVFO dcFO pmFO anFO cdFO ctFO),slFO⟩) (cFO:W.codeIn K cdFO "field_of"=true) (kFO:W.keepIn K (.ref fFO)=true)
  (aOr:W.nsIn K mainGlobals "order"=some (some (.ref fOr))) (lOr:K.lookup fOr=some ⟨ocOr,odOr,.func (W.fnOf "order" "order" (defArgs sOrder) (defBody sOrder) (defScope sOrder) .none kVOr dcOr pmOr anOr cdOr ctOr),slOr⟩) (cOr:W.codeIn K cdOr "order"=true) (kOr:W.keepIn K (.ref fOr)=true)
  (aLG:W.nsIn K mainGlobals "laying_of"=some (some (.ref fLG))) (lLG:K.lookup fLG=some ⟨ocLG,odLG,.func (W.fnOf "laying_of" "laying_of" (defArgs sLayingOf) (defBody sLayingOf) (defScope sLayingOf) .none kVLG dcLG pmLG anLG cdLG ctLG),slLG⟩) (cLG:W.codeIn K cdLG "laying_of"=true) (kLG:W.keepIn K (.ref fLG)=true)
  (aRF:W.nsIn K mainGlobals "row_for"=some (some (.ref fRF))) (lRF:K.lookup fRF=some ⟨ocRF,odRF,.func (W.fnOf "row_for" "row_for" (defArgs sRowFor) (defBody sRowFor) (defScope sRowFor) .none kVRF dcRF pmRF anRF cdRF ctRF),slRF⟩) (cRF:W.codeIn K cdRF "row_for"=true) (kRF:W.keepIn K (.ref fRF)=true)
  (aRR:W.nsIn K mainGlobals "row_for_roll"=some (some (.ref fRR))) (lRR:K.lookup fRR=some ⟨ocRR,odRR,.func (W.fnOf "row_for_roll" "row_for_roll" (defArgs sRowForRoll) (defBody sRowForRoll) (defScope sRowForRoll) .none kVRR dcRR pmRR anRR cdRR ctRR),slRR⟩) (cRR:W.codeIn K cdRR "row_for_roll"=true) (kRR:W.keepIn K (.ref fRR)=true)
  (aBN:W.nsIn K mainGlobals "by_names"=some (some (.ref fBN))) (lBN:K.lookup fBN=some ⟨ocBN,odBN,.func (W.fnOf "by_names" "by_names" (defArgs sByNames) (defBody sByNames) (defScope sByNames) .none kVBN dcBN pmBN anBN cdBN ctBN),slBN⟩) (cBN:W.codeIn K cdBN "by_names"=true) (kBN:W.keepIn K (.ref fBN)=true)
  (aRoO:W.nsIn K mainGlobals "roll_of"=some (some (.ref fRoO))) (lRoO:K.lookup fRoO=some ⟨ocRoO,odRoO,.func (W.fnOf "roll_of" "roll_of" (defArgs sRollOf) (defBody sRollOf) (defScope sRollOf) .none kVRoO dcRoO pmRoO anRoO cdRoO ctRoO),slRoO⟩) (cRoO:W.codeIn K cdRoO "roll_of"=true) (kRoO:W.keepIn K (.ref fRoO)=true)
  (aP:W.nsIn K mainGlobals "_law_pen"=some (some (.ref fP))) (lP:K.lookup fP=some ⟨ocP,odP,.func (W.fnOf "_law_pen" "_law_pen" (defArgs sPen) (defBody sPen) (defScope sPen) .none kVP dcP pmP anP cdP ctP),slP⟩) (cP:W.codeIn K cdP "_law_pen"=true) (kP:W.keepIn K (.ref fP)=true)
  (aT:W.nsIn K mainGlobals "_law_take"=some (some (.ref fT))) (lT:K.lookup fT=some ⟨ocT,odT,.func (W.fnOf "_law_take" "_law_take" (defArgs sTake) (defBody sTake) (defScope sTake) .none kVT dcT pmT anT cdT ctT),slT⟩) (cT:W.codeIn K cdT "_law_take"=true) (kT:W.keepIn K (.ref fT)=true)
  (aN:W.nsIn K mainGlobals "_law_names"=some (some (.ref fN))) (lN:K.lookup fN=some ⟨ocN,odN,.func (W.fnOf "_law_names" "_law_names" (defArgs sNames) (defBody sNames) (defScope sNames) .none kVN dcN pmN anN cdN ctN),slN⟩) (cN:W.codeIn K cdN "_law_names"=true) (kN:W.keepIn K (.ref fN)=true)
  (aSo:W.nsIn K mainGlobals "_law_sorts"=some (some (.ref fSo))) (lSo:K.lookup fSo=some ⟨ocSo,odSo,.func (W.fnOf "_law_sorts" "_law_sorts" (defArgs sSorts) (defBody sSorts) (defScope sSorts) .none kVSo dcSo pmSo anSo cdSo ctSo),slSo⟩) (cSo:W.codeIn K cdSo "_law_sorts"=true) (kSo:W.keepIn K (.ref fSo)=true)
  (aD:W.nsIn K mainGlobals "_law_days"=some (some (.ref fD))) (lD:K.lookup fD=some ⟨ocD,odD,.func (W.fnOf "_law_days" "_law_days" (defArgs sDays) (defBody sDays) (defScope sDays) .none kVD dcD pmD anD cdD ctD),slD⟩) (cD:W.codeIn K cdD "_law_days"=true) (kD:W.keepIn K (.ref fD)=true)
  (aNu:W.nsIn K mainGlobals "_law_number"=some (some (.ref fNu))) (lNu:K.lookup fNu=some ⟨ocNu,odNu,.func (W.fnOf "_law_number" "_law_number" (defArgs sNumber) (defBody sNumber) (defScope sNumber) .none kVNu dcNu pmNu anNu cdNu ctNu),slNu⟩) (cNu:W.codeIn K cdNu "_law_number"=true) (kNu:W.keepIn K (.ref fNu)=true)
  (aLO:W.nsIn K mainGlobals "_law_laying"=some (some (.ref fLO))) (lLO:K.lookup fLO=some ⟨ocLO,odLO,.func (W.fnOf "_law_laying" "_law_laying" (defArgs sLayOf) (defBody sLayOf) (defScope sLayOf) .none kVLO dcLO pmLO anLO cdLO ctLO),slLO⟩) (cLO:W.codeIn K cdLO "_law_laying"=true) (kLO:W.keepIn K (.ref fLO)=true)
  (aSm:W.nsIn K mainGlobals "_law_some"=some (some (.ref fSm))) (lSm:K.lookup fSm=some ⟨ocSm,odSm,.func (W.fnOf "_law_some" "_law_some" (defArgs sSome) (defBody sSome) (defScope sSome) .none kVSm dcSm pmSm anSm cdSm ctSm),slSm⟩) (cSm:W.codeIn K cdSm "_law_some"=true) (kSm:W.keepIn K (.ref fSm)=true)
  (aRo:W.nsIn K mainGlobals "_law_row_of"=some (some (.ref fRo))) (lRo:K.lookup fRo=some ⟨ocRo,odRo,.func (W.fnOf "_law_row_of" "_law_row_of" (defArgs sRowOf) (defBody sRowOf) (defScope sRowOf) .none kVRo dcRo pmRo anRo cdRo ctRo),slRo⟩) (cRo:W.codeIn K cdRo "_law_row_of"=true) (kRo:W.keepIn K (.ref fRo)=true)
  (aR:W.nsIn K mainGlobals "_law_row"=some (some (.ref fR))) (lR:K.lookup fR=some ⟨ocR,odR,.func (W.fnOf "_law_row" "_law_row" (defArgs sRow) (defBody sRow) (defScope sRow) .none kVR dcR pmR anR cdR ctR),slR⟩) (cR:W.codeIn K cdR "_law_row"=true) (kR:W.keepIn K (.ref fR)=true)
  (aU:W.nsIn K mainGlobals "_law_turned"=some (some (.ref fU))) (lU:K.lookup fU=some ⟨ocU,odU,.func (W.fnOf "_law_turned" "_law_turned" (defArgs sTurned) (defBody sTurned) (defScope sTurned) .none kVU dcU pmU anU cdU ctU),slU⟩) (cU:W.codeIn K cdU "_law_turned"=true) (kU:W.keepIn K (.ref fU)=true)
  (aLi:W.nsIn K mainGlobals "_law_listed"=some (some (.ref fLi))) (lLi:K.lookup fLi=some ⟨ocLi,odLi,.func (W.fnOf "_law_listed" "_law_listed" (defArgs sListed) (defBody sListed) (defScope sListed) .none kVLi dcLi pmLi anLi cdLi ctLi),slLi⟩) (cLi:W.codeIn K cdLi "_law_listed"=true) (kLi:W.keepIn K (.ref fLi)=true)
  (aK:W.nsIn K mainGlobals "_law_place"=some (some (.ref fK))) (lK:K.lookup fK=some ⟨ocK,odK,.func (W.fnOf "_law_place" "_law_place" (defArgs sPlace) (defBody sPlace) (defScope sPlace) .none kVK dcK pmK anK cdK ctK),slK⟩) (cK:W.codeIn K cdK "_law_place"=true) (kK:W.keepIn K (.ref fK)=true)
  (aM:W.nsIn K mainGlobals "_law_mixed"=some (some (.ref fM))) (lM:K.lookup fM=some ⟨ocM,odM,.func (W.fnOf "_law_mixed" "_law_mixed" (defArgs sMixed) (defBody sMixed) (defScope sMixed) .none kVM dcM pmM anM cdM ctM),slM⟩) (cM:W.codeIn K cdM "_law_mixed"=true) (kM:W.keepIn K (.ref fM)=true)
  (aRi:W.nsIn K mainGlobals "_law_right"=some (some (.ref fRi))) (lRi:K.lookup fRi=some ⟨ocRi,odRi,.func (W.fnOf "_law_right" "_law_right" (defArgs sRight) (defBody sRight) (defScope sRight) .none kVRi dcRi pmRi anRi cdRi ctRi),slRi⟩) (cRi:W.codeIn K cdRi "_law_right"=true) (kRi:W.keepIn K (.ref fRi)=true)
  (aH:W.nsIn K mainGlobals "_law_as_handed"=some (some (.ref fH))) (lH:K.lookup fH=some ⟨ocH,odH,.func (W.fnOf "_law_as_handed" "_law_as_handed" (defArgs sAsHanded) (defBody sAsHanded) (defScope sAsHanded) .none kVH dcH pmH anH cdH ctH),slH⟩) (cH:W.codeIn K cdH "_law_as_handed"=true) (kH:W.keepIn K (.ref fH)=true)
  (aL:W.nsIn K mainGlobals "law"=some (some (.ref fL))) (lL:K.lookup fL=some ⟨ocL,odL,.func (W.fnOf "law" "law" (defArgs sLaw) (defBody sLaw) (defScope sLaw) .none kVL dcL pmL anL cdL ctL),slL⟩) (cL:W.codeIn K cdL "law"=true) (kL:W.keepIn K (.ref fL)=true)
  (z_isinstance:W.nsIn K mainGlobals "isinstance"=some none)
  (z_str:W.nsIn K mainGlobals "str"=some none)
  (z_len:W.nsIn K mainGlobals "len"=some none)
  (z_all:W.nsIn K mainGlobals "all"=some none)
  (z_int:W.nsIn K mainGlobals "int"=some none)
  (z_bool:W.nsIn K mainGlobals "bool"=some none)
  (z_tuple:W.nsIn K mainGlobals "tuple"=some none)
  (z_set:W.nsIn K mainGlobals "set"=some none)
  (z_list:W.nsIn K mainGlobals "list"=some none)
  (z_sorted:W.nsIn K mainGlobals "sorted"=some none)
  (z_abs:W.nsIn K mainGlobals "abs"=some none)
  (z_range:W.nsIn K mainGlobals "range"=some none)
  (z_min:W.nsIn K mainGlobals "min"=some none)
  (z_repr:W.nsIn K mainGlobals "repr"=some none)
  (q_MOST_FIELDS:W.nsIn K mainGlobals "MOST_FIELDS"=some (some (.int 8 t_MOST_FIELDS)))
  (q_MOST_FIELD_ACRES:W.nsIn K mainGlobals "MOST_FIELD_ACRES"=some (some (.int 1000000 t_MOST_FIELD_ACRES)))
  (q_LONGEST:W.nsIn K mainGlobals "LONGEST"=some (some (.int 8 t_LONGEST)))
  (q_LAST_DAY:W.nsIn K mainGlobals "LAST_DAY"=some (some (.int 9999 t_LAST_DAY)))
  (q_FEWEST_LANDS:W.nsIn K mainGlobals "FEWEST_LANDS"=some (some (.int 2 t_FEWEST_LANDS)))
  (q_MOST_LANDS:W.nsIn K mainGlobals "MOST_LANDS"=some (some (.int 6 t_MOST_LANDS)))
  (q_MOST_PART_ACRES:W.nsIn K mainGlobals "MOST_PART_ACRES"=some (some (.int 10000000 t_MOST_PART_ACRES)))
  (q_MOST_INCHES:W.nsIn K mainGlobals "MOST_INCHES"=some (some (.int 10000000 t_MOST_INCHES)))
  (q_MOST_PENCE:W.nsIn K mainGlobals "MOST_PENCE"=some (some (.int 1000000000 t_MOST_PENCE)))
  (q_MOST_SPADES:W.nsIn K mainGlobals "MOST_SPADES"=some (some (.int 1000000 t_MOST_SPADES)))
  (q_ROW_DEPTH:W.nsIn K mainGlobals "ROW_DEPTH"=some (some (.int 3 t_ROW_DEPTH)))
  (q_LAYING_DEPTH:W.nsIn K mainGlobals "LAYING_DEPTH"=some (some (.int 2 t_LAYING_DEPTH)))
  (q_MOST_ROWS:W.nsIn K mainGlobals "MOST_ROWS"=some (some (.int 40 t_MOST_ROWS)))
  (q_FORMS:W.nsIn K mainGlobals "FORMS"=some (some (.ref t_FORMS)))
  (lFm:K.lookup t_FORMS=some { cls:=.type "dict",data:=.dict #[⟨PyData.keyHash w.params "part",.str "part" xk0,.ref fF0⟩,⟨PyData.keyHash w.params "join",.str "join" xk1,.ref fF1⟩,⟨PyData.keyHash w.params "forfeit",.str "forfeit" xk2,.ref fF2⟩,⟨PyData.keyHash w.params "measure",.str "measure" xk3,.ref fF3⟩,⟨PyData.keyHash w.params "mend",.str "mend" xk4,.ref fF4⟩,⟨PyData.keyHash w.params "alone",.str "alone" xk5,.ref fF5⟩,⟨PyData.keyHash w.params "breach",.str "breach" xk6,.ref fF6⟩,⟨PyData.keyHash w.params "view",.str "view" xk7,.ref fF7⟩] eF }) (hzF:(t_FORMS == sysModules)=false)
  (q_RANKS:W.nsIn K mainGlobals "RANKS"=some (some (.ref t_RANKS)))
  (lRk:K.lookup t_RANKS=some { cls:=.type "dict",data:=.dict #[⟨PyData.keyHash w.params "measure",.str "measure" xr0,.int 0 yr0⟩,⟨PyData.keyHash w.params "part",.str "part" xr1,.int 1 yr1⟩,⟨PyData.keyHash w.params "join",.str "join" xr2,.int 1 yr2⟩,⟨PyData.keyHash w.params "forfeit",.str "forfeit" xr3,.int 1 yr3⟩,⟨PyData.keyHash w.params "mend",.str "mend" xr4,.int 2 yr4⟩,⟨PyData.keyHash w.params "alone",.str "alone" xr5,.int 2 yr5⟩,⟨PyData.keyHash w.params "breach",.str "breach" xr6,.int 3 yr6⟩,⟨PyData.keyHash w.params "view",.str "view" xr7,.int 3 yr7⟩] eR })
  :∃ fd:FuncData,(∀ (s:Shared) (v:Value),BindsTo s fd ⟨[v],[]⟩ [("_law_script",v)])∧∀ base:Heap,K.In base→base.Ns mainGlobals mg→FnOk l.prog w K mg base CX0 13 fa fd ["_law_script"] (spLaw K):=by
 have e:=hfa.symm.trans (W.mg_of X G aL)
 cases e
 have FIN:=fun_mk (st:=sIsName) lIN cIN kIN
 have mIN:=W.mg_of X G aIN
 have bIN:=FIN.binds (ps:=["thing"]) fun _ _ _ _ _ _ us hl=>by obtain ⟨_,rfl⟩:=len1 hl;rfl
 have FNB:=fun_mk (st:=sIsNumber) lNB cNB kNB
 have mNB:=W.mg_of X G aNB
 have bNB:=FNB.binds (ps:=["thing"]) fun _ _ _ _ _ _ us hl=>by obtain ⟨_,rfl⟩:=len1 hl;rfl
 have FIW:=fun_mk (st:=sIsWhole) lIW cIW kIW
 have mIW:=W.mg_of X G aIW
 have bIW:=FIW.binds (ps:=["thing","least","most"]) fun _ _ _ _ _ _ us hl=>by obtain ⟨_,_,_,rfl⟩:=len3 hl;rfl
 have FRI:=fun_mk (st:=sRising) lRI cRI kRI
 have mRI:=W.mg_of X G aRI
 have bRI:=FRI.binds (ps:=["things"]) fun _ _ _ _ _ _ us hl=>by obtain ⟨_,rfl⟩:=len1 hl;rfl
 have FFD:=fun_mk (st:=sIsField) lFD cFD kFD
 have mFD:=W.mg_of X G aFD
 have bFD:=FFD.binds (ps:=["thing"]) fun _ _ _ _ _ _ us hl=>by obtain ⟨_,rfl⟩:=len1 hl;rfl
 have FLY:=fun_mk (st:=sIsLaying) lLY cLY kLY
 have mLY:=W.mg_of X G aLY
 have bLY:=FLY.binds (ps:=["thing"]) fun _ _ _ _ _ _ us hl=>by obtain ⟨_,rfl⟩:=len1 hl;rfl
 have FPT:=fun_mk (st:=sIsPart) lPT cPT kPT
 have mPT:=W.mg_of X G aPT
 have bPT:=FPT.binds (ps:=["thing"]) fun _ _ _ _ _ _ us hl=>by obtain ⟨_,rfl⟩:=len1 hl;rfl
 have FAP:=fun_mk (st:=sAllParts) lAP cAP kAP
 have mAP:=W.mg_of X G aAP
 have bAP:=FAP.binds (ps:=["thing"]) fun _ _ _ _ _ _ us hl=>by obtain ⟨_,rfl⟩:=len1 hl;rfl
 have FAN:=fun_mk (st:=sAllNames) lAN cAN kAN
 have mAN:=W.mg_of X G aAN
 have bAN:=FAN.binds (ps:=["thing"]) fun _ _ _ _ _ _ us hl=>by obtain ⟨_,rfl⟩:=len1 hl;rfl
 have FRP:=fun_mk (st:=sAreParts) lRP cRP kRP
 have mRP:=W.mg_of X G aRP
 have bRP:=FRP.binds (ps:=["thing"]) fun _ _ _ _ _ _ us hl=>by obtain ⟨_,rfl⟩:=len1 hl;rfl
 have FRL:=fun_mk (st:=sAreLands) lRL cRL kRL
 have mRL:=W.mg_of X G aRL
 have bRL:=FRL.binds (ps:=["thing"]) fun _ _ _ _ _ _ us hl=>by obtain ⟨_,rfl⟩:=len1 hl;rfl
 have FIC:=fun_mk (st:=sIsInch) lIC cIC kIC
 have mIC:=W.mg_of X G aIC
 have bIC:=FIC.binds (ps:=["thing"]) fun _ _ _ _ _ _ us hl=>by obtain ⟨_,rfl⟩:=len1 hl;rfl
 have FF0:=fun_mk (st:=sFPart) lF0 cF0 kF0
 have mF0:=W.mg_of X G aF0
 have bF0:=FF0.binds (ps:=["rest"]) fun _ _ _ _ _ _ us hl=>by obtain ⟨_,rfl⟩:=len1 hl;rfl
 have FF1:=fun_mk (st:=sFJoin) lF1 cF1 kF1
 have mF1:=W.mg_of X G aF1
 have bF1:=FF1.binds (ps:=["rest"]) fun _ _ _ _ _ _ us hl=>by obtain ⟨_,rfl⟩:=len1 hl;rfl
 have FF2:=fun_mk (st:=sFForfeit) lF2 cF2 kF2
 have mF2:=W.mg_of X G aF2
 have bF2:=FF2.binds (ps:=["rest"]) fun _ _ _ _ _ _ us hl=>by obtain ⟨_,rfl⟩:=len1 hl;rfl
 have FF3:=fun_mk (st:=sFMeasure) lF3 cF3 kF3
 have mF3:=W.mg_of X G aF3
 have bF3:=FF3.binds (ps:=["rest"]) fun _ _ _ _ _ _ us hl=>by obtain ⟨_,rfl⟩:=len1 hl;rfl
 have FF4:=fun_mk (st:=sFMend) lF4 cF4 kF4
 have mF4:=W.mg_of X G aF4
 have bF4:=FF4.binds (ps:=["rest"]) fun _ _ _ _ _ _ us hl=>by obtain ⟨_,rfl⟩:=len1 hl;rfl
 have FF5:=fun_mk (st:=sFAlone) lF5 cF5 kF5
 have mF5:=W.mg_of X G aF5
 have bF5:=FF5.binds (ps:=["rest"]) fun _ _ _ _ _ _ us hl=>by obtain ⟨_,rfl⟩:=len1 hl;rfl
 have FF6:=fun_mk (st:=sFBreach) lF6 cF6 kF6
 have mF6:=W.mg_of X G aF6
 have bF6:=FF6.binds (ps:=["rest"]) fun _ _ _ _ _ _ us hl=>by obtain ⟨_,rfl⟩:=len1 hl;rfl
 have FF7:=fun_mk (st:=sFView) lF7 cF7 kF7
 have mF7:=W.mg_of X G aF7
 have bF7:=FF7.binds (ps:=["rest"]) fun _ _ _ _ _ _ us hl=>by obtain ⟨_,rfl⟩:=len1 hl;rfl
 have FIR:=fun_mk (st:=sIsRow) lIR cIR kIR
 have mIR:=W.mg_of X G aIR
 have bIR:=FIR.binds (ps:=["thing"]) fun _ _ _ _ _ _ us hl=>by obtain ⟨_,rfl⟩:=len1 hl;rfl
 have FAT:=fun_mk (st:=sAsTup) lAT cAT kAT
 have mAT:=W.mg_of X G aAT
 have bAT:=FAT.binds (ps:=["thing","deep"]) fun _ _ _ _ _ _ us hl=>by obtain ⟨_,_,rfl⟩:=len2 hl;rfl
 have FIO:=fun_mk (st:=sInOrder) lIO cIO kIO
 have mIO:=W.mg_of X G aIO
 have bIO:=FIO.binds (ps:=["thing"]) fun _ _ _ _ _ _ us hl=>by obtain ⟨_,rfl⟩:=len1 hl;rfl
 have FRO:=fun_mk (st:=sRowOfP) lRO cRO kRO
 have mRO:=W.mg_of X G aRO
 have bRO:=FRO.binds (ps:=["thing"]) fun _ _ _ _ _ _ us hl=>by obtain ⟨_,rfl⟩:=len1 hl;rfl
 have FFO:=fun_mk (st:=sFieldOf) lFO cFO kFO
 have mFO:=W.mg_of X G aFO
 have bFO:=FFO.binds (ps:=["row"]) fun _ _ _ _ _ _ us hl=>by obtain ⟨_,rfl⟩:=len1 hl;rfl
 have FOr:=fun_mk (st:=sOrder) lOr cOr kOr
 have mOr:=W.mg_of X G aOr
 have bOr:=FOr.binds (ps:=["row"]) fun _ _ _ _ _ _ us hl=>by obtain ⟨_,rfl⟩:=len1 hl;rfl
 have FLG:=fun_mk (st:=sLayingOf) lLG cLG kLG
 have mLG:=W.mg_of X G aLG
 have bLG:=FLG.binds (ps:=["thing"]) fun _ _ _ _ _ _ us hl=>by obtain ⟨_,rfl⟩:=len1 hl;rfl
 have FRF:=fun_mk (st:=sRowFor) lRF cRF kRF
 have mRF:=W.mg_of X G aRF
 have bRF:=FRF.binds (ps:=["laying","thing"]) fun _ _ _ _ _ _ us hl=>by obtain ⟨_,_,rfl⟩:=len2 hl;rfl
 have FRR:=fun_mk (st:=sRowForRoll) lRR cRR kRR
 have mRR:=W.mg_of X G aRR
 have bRR:=FRR.binds (ps:=["laying","thing"]) fun _ _ _ _ _ _ us hl=>by obtain ⟨_,_,rfl⟩:=len2 hl;rfl
 have FBN:=fun_mk (st:=sByNames) lBN cBN kBN
 have mBN:=W.mg_of X G aBN
 have bBN:=FBN.binds (ps:=["laying","things"]) fun _ _ _ _ _ _ us hl=>by obtain ⟨_,_,rfl⟩:=len2 hl;rfl
 have FRoO:=fun_mk (st:=sRollOf) lRoO cRoO kRoO
 have mRoO:=W.mg_of X G aRoO
 have bRoO:=FRoO.binds (ps:=["laying","rows"]) fun _ _ _ _ _ _ us hl=>by obtain ⟨_,_,rfl⟩:=len2 hl;rfl
 have FP:=fun_mk (st:=sPen) lP cP kP
 have mP:=W.mg_of X G aP
 have bP:=FP.binds (ps:=["_law_script"]) fun _ _ _ _ _ _ us hl=>by obtain ⟨_,rfl⟩:=len1 hl;rfl
 have FT:=fun_mk (st:=sTake) lT cT kT
 have mT:=W.mg_of X G aT
 have bT:=FT.binds (ps:=["_law_pen_here","_law_many"]) fun _ _ _ _ _ _ us hl=>by obtain ⟨_,_,rfl⟩:=len2 hl;rfl
 have FN:=fun_mk (st:=sNames) lN cN kN
 have mN:=W.mg_of X G aN
 have bN:=FN.binds (ps:=["_law_pen_here","_law_many"]) fun _ _ _ _ _ _ us hl=>by obtain ⟨_,_,rfl⟩:=len2 hl;rfl
 have FSo:=fun_mk (st:=sSorts) lSo cSo kSo
 have mSo:=W.mg_of X G aSo
 have bSo:=FSo.binds (ps:=["_law_pen_here","_law_fields","_law_rows"]) fun _ _ _ _ _ _ us hl=>by obtain ⟨_,_,_,rfl⟩:=len3 hl;rfl
 have FD:=fun_mk (st:=sDays) lD cD kD
 have mD:=W.mg_of X G aD
 have bD:=FD.binds (ps:=["_law_pen_here","_law_many"]) fun _ _ _ _ _ _ us hl=>by obtain ⟨_,_,rfl⟩:=len2 hl;rfl
 have FNu:=fun_mk (st:=sNumber) lNu cNu kNu
 have mNu:=W.mg_of X G aNu
 have bNu:=FNu.binds (ps:=["_law_pen_here","_law_bottom","_law_most"]) fun _ _ _ _ _ _ us hl=>by obtain ⟨_,_,_,rfl⟩:=len3 hl;rfl
 have FLO:=fun_mk (st:=sLayOf) lLO cLO kLO
 have mLO:=W.mg_of X G aLO
 have bLO:=FLO.binds (ps:=["_law_pen_here","_law_fields","_law_houses"]) fun _ _ _ _ _ _ us hl=>by obtain ⟨_,_,_,rfl⟩:=len3 hl;rfl
 have FSm:=fun_mk (st:=sSome) lSm cSm kSm
 have mSm:=W.mg_of X G aSm
 have bSm:=FSm.binds (ps:=["_law_pen_here","_law_names_here","_law_many"]) fun _ _ _ _ _ _ us hl=>by obtain ⟨_,_,_,rfl⟩:=len3 hl;rfl
 have FRo:=fun_mk (st:=sRowOf) lRo cRo kRo
 have mRo:=W.mg_of X G aRo
 have bRo:=FRo.binds (ps:=["_law_pen_here","_law_word","_law_name","_law_day","_law_sorts_here"]) fun _ _ _ _ _ _ us hl=>by obtain ⟨_,_,_,_,_,rfl⟩:=len5 hl;rfl
 have FR:=fun_mk (st:=sRow) lR cR kR
 have mR:=W.mg_of X G aR
 have bR:=FR.binds (ps:=["_law_pen_here","_law_name","_law_day","_law_sorts_here"]) fun _ _ _ _ _ _ us hl=>by obtain ⟨_,_,_,_,rfl⟩:=len4 hl;rfl
 have FU:=fun_mk (st:=sTurned) lU cU kU
 have mU:=W.mg_of X G aU
 have bU:=FU.binds (ps:=["_law_pen_here","_law_some_here"]) fun _ _ _ _ _ _ us hl=>by obtain ⟨_,_,rfl⟩:=len2 hl;rfl
 have FLi:=fun_mk (st:=sListed) lLi cLi kLi
 have mLi:=W.mg_of X G aLi
 have bLi:=FLi.binds (ps:=["_law_pen_here","_law_row_here"]) fun _ _ _ _ _ _ us hl=>by obtain ⟨_,_,rfl⟩:=len2 hl;rfl
 have FK:=fun_mk (st:=sPlace) lK cK kK
 have mK:=W.mg_of X G aK
 have bK:=FK.binds (ps:=["_law_row_here"]) fun _ _ _ _ _ _ us hl=>by obtain ⟨_,rfl⟩:=len1 hl;rfl
 have FM:=fun_mk (st:=sMixed) lM cM kM
 have mM:=W.mg_of X G aM
 have bM:=FM.binds (ps:=["_law_pen_here","_law_things"]) fun _ _ _ _ _ _ us hl=>by obtain ⟨_,_,rfl⟩:=len2 hl;rfl
 have FRi:=fun_mk (st:=sRight) lRi cRi kRi
 have mRi:=W.mg_of X G aRi
 have bRi:=FRi.binds (ps:=["_law_found","_law_owed"]) fun _ _ _ _ _ _ us hl=>by obtain ⟨_,_,rfl⟩:=len2 hl;rfl
 have FH:=fun_mk (st:=sAsHanded) lH cH kH
 have mH:=W.mg_of X G aH
 have bH:=FH.binds (ps:=["_law_pen_here","_law_laying_here"]) fun _ _ _ _ _ _ us hl=>by obtain ⟨_,_,rfl⟩:=len2 hl;rfl
 have FL:=fun_mk (st:=sLaw) lL cL kL
 have mL:=W.mg_of X G aL
 have bL:=FL.binds (ps:=["_law_script"]) fun _ _ _ _ _ _ us hl=>by obtain ⟨_,rfl⟩:=len1 hl;rfl
 have n_isinstance:=W.mg_none_of X G z_isinstance
 have n_str:=W.mg_none_of X G z_str
 have n_len:=W.mg_none_of X G z_len
 have n_all:=W.mg_none_of X G z_all
 have n_int:=W.mg_none_of X G z_int
 have n_bool:=W.mg_none_of X G z_bool
 have n_tuple:=W.mg_none_of X G z_tuple
 have n_set:=W.mg_none_of X G z_set
 have n_list:=W.mg_none_of X G z_list
 have n_sorted:=W.mg_none_of X G z_sorted
 have n_abs:=W.mg_none_of X G z_abs
 have n_range:=W.mg_none_of X G z_range
 have n_min:=W.mg_none_of X G z_min
 have n_repr:=W.mg_none_of X G z_repr
 have g_MOST_FIELDS:=W.mg_of X G q_MOST_FIELDS
 have g_MOST_FIELD_ACRES:=W.mg_of X G q_MOST_FIELD_ACRES
 have g_LONGEST:=W.mg_of X G q_LONGEST
 have g_LAST_DAY:=W.mg_of X G q_LAST_DAY
 have g_FEWEST_LANDS:=W.mg_of X G q_FEWEST_LANDS
 have g_MOST_LANDS:=W.mg_of X G q_MOST_LANDS
 have g_MOST_PART_ACRES:=W.mg_of X G q_MOST_PART_ACRES
 have g_MOST_INCHES:=W.mg_of X G q_MOST_INCHES
 have g_MOST_PENCE:=W.mg_of X G q_MOST_PENCE
 have g_MOST_SPADES:=W.mg_of X G q_MOST_SPADES
 have g_ROW_DEPTH:=W.mg_of X G q_ROW_DEPTH
 have g_LAYING_DEPTH:=W.mg_of X G q_LAYING_DEPTH
 have g_MOST_ROWS:=W.mg_of X G q_MOST_ROWS
 have g_FORMS:=W.mg_of X G q_FORMS
 have g_RANKS:=W.mg_of X G q_RANKS
 refine ⟨W.fnOf "law" "law" (defArgs sLaw) (defBody sLaw) (defScope sLaw) .none kVL dcL pmL anL cdL ctL,fun s v=>.of_eq rfl,fun base _ _=>?_⟩
 have T:Txt K mg:=⟨n_isinstance,n_str,n_len,n_all,n_int,n_bool,n_tuple,n_set,⟨_,g_MOST_FIELDS⟩,⟨_,g_MOST_FIELD_ACRES⟩,⟨_,g_LONGEST⟩,⟨_,g_LAST_DAY⟩,⟨_,g_FEWEST_LANDS⟩,⟨_,g_MOST_LANDS⟩,⟨_,g_MOST_PART_ACRES⟩,⟨_,g_MOST_INCHES⟩,⟨_,g_MOST_PENCE⟩,⟨_,g_MOST_SPADES⟩⟩
 have RK:RanksAt w K t_RANKS:=⟨_,_,_,_,_,_,_,_,_,_,_,_,_,_,_,_,_,lRk⟩
 have GT:=ok_take (P:=l.prog) (w:=w) (base:=base) FT n_len n_abs
 have GIN:=fn_weak (ok_isName (P:=l.prog) (w:=w) (base:=base) FIN T) name_weak
 have GNB:=ok_numb (P:=l.prog) (w:=w) (base:=base) FNB T
 have GIW:=ok_isWhole FIW GNB mNB kNB bNB
 have GRI:=ok_rising (P:=l.prog) (w:=w) (base:=base) FRI T n_list n_sorted
 have GFD:=ok_field FFD T GIN mIN kIN bIN GIW mIW kIW bIW
 have GLY:=ok_lay FLY T GFD mFD kFD bFD
 have GPT:=ok_part FPT T GIN mIN kIN bIN GIW mIW kIW bIW
 have GIC:=ok_inch FIC T GIW mIW kIW bIW
 have GAP:=ok_allP FAP T GPT mPT kPT bPT
 have GAN:=ok_allN FAN T GIN mIN kIN bIN
 have GRP:=ok_areP FRP T GAP mAP kAP bAP GRI mRI kRI bRI
 have GRL:=ok_areL FRL T GAN mAN kAN bAN GRI mRI kRI bRI
 have GF0:=ok_fPart FF0 T GIN mIN kIN bIN GRP mRP kRP bRP
 have GF1:=ok_fJoin FF1 T GIN mIN kIN bIN GRL mRL kRL bRL
 have GF2:=ok_fForfeit FF2 T GAN mAN kAN bAN
 have GF3:=ok_fMeasure FF3 T GIN mIN kIN bIN GIW mIW kIW bIW
 have GF4:=ok_fMend FF4 T GAN mAN kAN bAN
 have GF5:=ok_fAlone FF5 T GIN mIN kIN bIN
 have GF6:=ok_fBreach FF6 T GIN mIN kIN bIN GIW mIW kIW bIW GIC mIC kIC bIC
 have GF7:=ok_fView FF7 T GIN mIN kIN bIN GIC mIC kIC bIC
 have GIR:=ok_isRow FIR T (fm_dict lFm) (fm_rel fF0 fF1 fF2 fF3 fF4 fF5 fF6 fF7) hzF g_FORMS (fm_in fF0 fF1 fF2 fF3 fF4 fF5 fF6 fF7) (fm_fn GF0 kF0 bF0 GF1 kF1 bF1 GF2 kF2 bF2 GF3 kF3 bF3 GF4 kF4 bF4 GF5 kF5 bF5 GF6 kF6 bF6 GF7 kF7 bF7) GIN mIN kIN bIN GIW mIW kIW bIW
 have GAT2:=ok_asS FAT T n_list mAT kAT bAT (ok_asS FAT T n_list mAT kAT bAT (ok_as0 (P:=l.prog) (w:=w) (base:=base) FAT T n_list mAT kAT bAT))
 have GAT:=ok_asS FAT T n_list mAT kAT bAT GAT2
 have GIO:=ok_ord FIO T n_sorted GAP mAP kAP bAP GAN mAN kAN bAN
 have GRO:=ok_rowOfP FRO ⟨_,g_ROW_DEPTH⟩ GAT mAT kAT bAT GIO mIO kIO bIO GIR mIR kIR bIR
 have GFO:=ok_fieldOf (P:=l.prog) (w:=w) (mg:=mg) (base:=base) FFO
 have GOr:=ok_order (P:=l.prog) (base:=base) FOr RK g_RANKS
 have GLG:=ok_layingOf FLG ⟨_,g_LAYING_DEPTH⟩ GAT2 mAT kAT bAT GLY mLY kLY bLY
 have GRF:=ok_rowFor FRF GRO mRO kRO bRO GFO mFO kFO bFO
 have GRR:=ok_rowForRoll FRR GRF mRF kRF bRF
 have GBN:=ok_byNames FBN GRR mRR kRR bRR
 have GRoO:=ok_rollOf FRoO T n_list n_sorted ⟨_,g_MOST_ROWS⟩ GLG mLG kLG bLG GBN mBN kBN bBN GOr mOr kOr bOr
 have GN:=ok_names FN n_len n_range n_min GT mT kT bT
 have GSo:=ok_sorts FSo GT mT kT bT GN mN kN bN
 have GNu:=ok_num FNu n_min GT mT kT bT
 have GD:=ok_days FD n_range n_len n_int GT mT kT bT
 have GLO:=ok_layOf FLO n_len n_tuple GT mT kT bT GNu mNu kNu bNu
 have GSm:=ok_some FSm n_list n_range n_sorted n_len GT mT kT bT
 have GRo:=ok_rowOf FRo n_len n_tuple GT mT kT bT GNu mNu kNu bNu GSm mSm kSm bSm
 have GR:=ok_row FR GT mT kT bT GRo mRo kRo bRo
 have GU:=ok_turned FU n_list n_range n_len GT mT kT bT
 have GLi:=ok_listed FLi T n_list n_range GT mT kT bT GU mU kU bU
 have GK:=ok_place (P:=l.prog) (w:=w) (mg:=mg) (base:=base) FK
 have GM:=ok_mixed FM n_list n_tuple n_range n_len GT mT kT bT
 have GRi:=ok_right (P:=l.prog) (w:=w) (base:=base) FRi T n_repr
 have GH:=ok_handed FH n_list n_tuple GT mT kT bT
 exact ok_law FL T n_list n_range n_sorted n_repr (ok_pen FP n_list) mP kP bP GT mT kT bT GSo mSo kSo bSo GD mD kD bD GLO mLO kLO bLO GR mR kR bR GK mK kK bK GLi mLi kLi bLi GH mH kH bH GM mM kM bM GRoO mRoO kRoO bRoO GRi mRi kRi bRi
theorem walk {l:PySem.W.OpenLaw}{q:Program}{loose:List Str}{XP:(Str→Option Value)→Heap→Prop}{YP:World→Heap→Prop}{d:DefRec}{K:Params→W.Frag} (hn:l.most=some 63) (hdf:d.params.defaults=[])
  (hY:∀ (w:World) (h:Heap),YP w h→(K w.params).In h)
  (F:∀ (w:World) (mg:Str→Option Value) (fa:Addr) (h:Heap),(K w.params).In h→h.Ns mainGlobals mg→mg d.name=some (.ref fa)→
   ∃ fd:FuncData,(∀ (s:Shared) (u:Value),BindsTo s fd ⟨[u],[]⟩ [("_law_script",u)])∧∀ base:Heap,(K w.params).In base→base.Ns mainGlobals mg→FnOk l.prog w (K w.params) mg base CX0 13 fa fd ["_law_script"] (spLaw (K w.params))):
  PySem.W.WalkO q loose XP YP l.row.toRowW d [] (fun f vs=>PySem.call f vs):=
 L2.walk_of (n:=63) (k:=13) (x:="_law_script") (CX:=fun _=>CX0) (sp:=fun w=>spLaw (K w.params)) hn (by decide) hdf ⟨rfl,by decide,by decide,rfl⟩ hY F (fun _ _ a ns hl _ hS=>⟨a,ns,rfl,hS,hl,fun _=>rfl⟩) fun _ _ _ _ _ z=>z
end K5
end
namespace PySem.W.Fast
def tw8874018613670913085:=0
def tw13581101910480534493:=0
def tw6253859996230118665:=0
def tw9940755103658884123:=0
def tw18331511803059245150:=0
def tw2947385183752565107:=0
def tw14075218999076891919:=0
def tw18424188452045546768:=0
def tw4432543784866517576:=0
def tw9923608840437158226:=0
def tw8313074200471210942:=0
def tw15752727968433855776:=0
def tw2401297438278122687:=0
def tw8764306885453828517:=0
def tw595592440671949000:=0
def tw12229145109916630015:=0
def tw3790545912636810313:=0
def tw16451557881425520131:=0
def tw16801506806454458034:=0
def tw150556830548198893:=0
def tw731504697861722228:=0
def tw354776424693600167:=0
def tw2650131552657006596:=0
def tw15452032508194068021:=0
def tw17205990514897293571:=0
def tw1400887726979878007:=0
def tw12749041685687714155:=0
def tw6398585782492387235:=0
def tw13617246378145390021:=0
def tw1722035051241511157:=0
def tw398617592193858543:=0
def tw17395679307201898825:=0
def tw2864054847760210407:=0
def tw1081556116530103747:=0
def tw10331882971112516637:=0
def tw13493817374103229506:=0
def tw8079242650804067594:=0
def tw17965410893263379821:=0
def tw9812184099676854338:=0
def tw3517286705612792710:=0
def tw9566196174211023541:=0
def tw11542881455974011149:=0
def tw17828013796818370181:=0
def tw11442249208650927046:=0
def tw17840300600747348345:=0
def tw2648581346306537293:=0
def tw9381416650938319847:=0
def tw6368971983429106154:=0
def tw8253706322734821699:=0
def tw7048083518155409425:=0
def tw13434043351733996610:=0
def tw14030104981840025481:=0
def tw5474070516854966106:=0
def tw3679697953732818214:=0
def tw12214231496841894913:=0
def tw854926724600470020:=0
def tw11913507036632988110:=0
def tw15899830467676140178:=0
def tw11487301578324816182:=0
def tw8603090918413547769:=0
def tw9016742596137826895:=0
def tw12072926975125614529:=0
def tw2369220930420449578:=0
def tw6411030392448913033:=0
def tw15409554534480965358:=0
def tw14207021733620592962:=0
def tw11219057680624962616:=0
def tw13921835768271663216:=0
def tw15279176668161423717:=0
def tw2885501579705692129:=0
def tw5392395808554208545:=0
def tw13104870391624484803:=0
def tw18055364962934992707:=0
def tw677809574387747470:=0
def tw8101087929242451027:=0
def tw13822745018386636562:=0
def tw9343620737827001760:=0
def tw14145890677227843643:=0
def tw17240552561135880425:=0
def tw17122020731081535408:=0
def tw5142624841768558823:=0
def tw9320683162562335999:=0
def tw5765500513520695160:=0
def tw17182875722420073334:=0
def tw6297245769623582836:=0
def tw7774230369502780121:=0
def tw10499229787500486533:=0
def tw3574951123251129022:=0
def tw2660391661469092626:=0
def tw12183172919738301714:=0
def tw6945358473609267403:=0
def tw6606230394807716557:=0
def tw11609715440723441362:=0
def tw17732394691452764933:=0
def tw7002387446509253662:=0
def tw16012734560968500373:=0
def tw12120119713792138545:=0
def tw8371967170298755522:=0
def tw2103650069629770788:=0
def tw16761669907457825902:=0
def tw17831283342481844547:=0
def tw11720536781279060062:=0
def tw15339965050574490782:=0
def tw1831461546949882091:=0
def tw7922605111983546661:=0
def tw898025680791109153:=0
def tw16965867778172820243:=0
def tw7157901471424919056:=0
def tw17329532137966385377:=0
def tw12487248420818911240:=0
def tw18152594409094266324:=0
def tw12932827120903667723:=0
def tw6508995307009644824:=0
def tw10749562646686346922:=0
def tw5629422764582957419:=0
def tw4786240231109649297:=0
def tw2351409956448674879:=0
def tw2358287982628331325:=0
def tw4455353946048732368:=0
def tw5070628146493382255:=0
def tw7881772619290455282:=0
def tw5406340743143975326:=0
def tw11806310641583787832:=0
def tw17081085916706871896:=0
def tw5564162748090727679:=0
def tw11675660663110156036:=0
def tw14620527005132276030:=0
def tw12561682842836024023:=0
def tw13291252583146218097:=0
def tw17036236614052426118:=0
def tw15594255294750653596:=0
def tw15606504284759590301:=0
def tw13691357731545782915:=0
def tw3667683040261928408:=0
def tw13332068835070058720:=0
def tw15161753849445201263:=0
def tw5819324582859373776:=0
def tw11620356951841597307:=0
def tw1163422383055222771:=0
def tw11307683417646269528:=0
def tw13773973554500185354:=0
def tw14362645478114335850:=0
def tw2822261255652737025:=0
def tw16177958966915090527:=0
def tw4823724925212157050:=0
def tw17490527772336515035:=0
def tw2464320575609714615:=0
def tw1410415644847466645:=0
def tw10495128232632187368:=0
def tw3195011168555625573:=0
def tw7955482000351601458:=0
def tw4483658813270100903:=0
def tw12950118590720475282:=0
def tw4694473634243524757:=0
def tw14214985658786086641:=0
def tw414883554319866014:=0
def tw17842909039228623922:=0
def tw14999404359738319593:=0
def tw1653937424892886557:=0
def tw9084038169093165604:=0
def tw11575240231085698454:=0
def tw10482860545821933009:=0
def tw13855796790348620933:=0
def tw209320053894218728:=0
def tw3659050842932844673:=0
def tw6709667551539704674:=0
def tw17058585876090824567:=0
def tw6190994657746089867:=0
def tw8791398616503754816:=0
def tw14709151087510449957:=0
def tw1655722971793846467:=0
def tw16670190624223446780:=0
def tw3581795253158262252:=0
def tw11642583656484199952:=0
def tw11006251530507274422:=0
def tw15216453489794849408:=0
def tw4508216193633002693:=0
def tw16797724042486299108:=0
def tw5847889326505676629:=0
def tw11177764927728408924:=0
def tw5614874073502050780:=0
def tw495073494055377560:=0
def tw9825770113037513207:=0
def tw5292240148898444395:=0
def tw14804324438440922667:=0
def tw11980046817431508017:=0
def tw2418667691563074052:=0
def tw18404725735315405835:=0
def tw13905329296727903585:=0
def tw16193659129483635348:=0
def tw11651052731451140666:=0
def tw5671028231835551774:=0
def tw3355827051519650851:=0
def tw544169801673060327:=0
def tw9852063478027004481:=0
def tw17621116458663873720:=0
def tw17058411686123280156:=0
def tw11894191243802761489:=0
def tw16928755553684155973:=0
def tw3867490474973682312:=0
def tw3878510770138648257:=0
def tw10678938433320605864:=0
def tw1827186745742553301:=0
def tw1317810974821494297:=0
def tw11288548921150753183:=0
def tw13668596345761249088:=0
def tw4892231348462359732:=0
def tw18431446505410801738:=0
def tw17648165061544166939:=0
def tw3139163965096355729:=0
def tw18187340212510573325:=0
def tw9181336021358737092:=0
def tw13798382600952948779:=0
def tw1122144954317659684:=0
def tw15751813020998539718:=0
def tw16931159405722456696:=0
def tw9641781760260527363:=0
def tw8770836097720033532:=0
def tw9939612428421552056:=0
def tw14530186818308057069:=0
def tw17957007836474018590:=0
def tw10287718028796185481:=0
def tw4533912306534000:=0
def tw9047891433967209593:=0
def tw4453909734998266099:=0
def tw15691765553695583247:=0
def tw6553139025827422930:=0
def tw11161832108440518026:=0
def tw17458221578779548149:=0
def tw12769375125462701958:=0
def tw15315113412548267269:=0
def tw5720087656411580944:=0
def tw5521733825436112904:=0
def tw8197718302328467044:=0
def tw17155780621081518861:=0
def tw6188509965706960065:=0
def tw2638094558836232365:=0
def tw3754205822951815026:=0
def tw17608679694488881065:=0
def tw1076122937692162114:=0
def tw16779824251540895449:=0
def tw1367989926069758064:=0
def tw2689085913240964831:=0
def tw18208456254388801992:=0
def tw14746789073085121386:=0
def tw13260256853088467257:=0
def tw12920285757789592142:=0
def tw11559506946143831459:=0
def tw7851193244607317464:=0
def tw2422361236534589080:=0
def tw568040510089698019:=0
def tw8195846757032433015:=0
def tw4929459057926327866:=0
def tw13086532708580951291:=0
def tw12765009296532317044:=0
def tw11822597379835907209:=0
def tw1077215671251316551:=0
def tw4498343083618118847:=0
def tw5197190462148605801:=0
def tw13844299909269857434:=0
def tw15309443211001359761:=0
def tw17338864376628874595:=0
def tw1375021012032999790:=0
def tw10034930983322969390:=0
def tw12813150948465427286:=0
def tw11178715295191505230:=0
def tw2498162722950313552:=0
def tw6630853840030721757:=0
def tw11839399818013148974:=0
def tw420565783599839118:=0
def tw12911475137014793476:=0
def tw15014440985993342174:=0
def tw1388721666590256994:=0
def tw16980310731819378695:=0
def tw16800703632662285828:=0
def tw12947381917355117470:=0
def tw7419369904417249785:=0
def tw17008391570047013456:=0
def tw14582641079933773278:=0
def tw6867684442847626992:=0
def tw12610720234821933807:=0
def tw2349911050771582205:=0
def tw8857332658568398106:=0
def tw5357598628132224121:=0
def tw10519356079396727382:=0
def tw11858879911205443916:=0
def tw7237279786349549424:=0
def tw4104803415485941632:=0
def tw5959299729319759233:=0
def tw3180315140980216284:=0
def tw7152262314738328862:=0
def tw12095572540302605079:=0
def tw15582292895261008237:=0
def tw12801519060589610059:=0
def tw9840391642995790886:=0
def tw5373148376535132821:=0
def tw700172425335661794:=0
def tw5066618559755465456:=0
def tw13997386331080667335:=0
def tw8285892136373478480:=0
def tw8745479591068976104:=0
def tw17878317117577741273:=0
def tw15215609911197903459:=0
def tw6241546688896844514:=0
def tw12153895499438973764:=0
def tw2339897164580692702:=0
def tw11571053372688833094:=0
def tw3849915479014232016:=0
def tw9361155850257847129:=0
def tw9179201983815211527:=0
def tw1952562302912135851:=0
def tw6198980738809381904:=0
def tw14508575337391227935:=0
def tw3823190942910409604:=0
def tw1169555046284251825:=0
def tw12655340282782623121:=0
def tw13526459957838460510:=0
def tw7839375555483796844:=0
def tw5132343525984861817:=0
def tw6459536997213363068:=0
def tw10654028915313399569:=0
def tw10387806337924238406:=0
def tw7822192531301138297:=0
def tw219952157766614144:=0
def tw14186491328141868740:=0
def tw15358026283287561357:=0
def tw14592278924648113520:=0
def tw13768701333227974688:=0
def tw2307485587639296713:=0
def tw14325544100285535726:=0
def tw12421787005143844199:=0
def tw17369991030389877821:=0
def tw6408230833981661106:=0
def tw15644513719744332127:=0
def tw17394185018493134620:=0
def tw8571942892670382696:=0
def tw3712925165972038139:=0
def tw670119812865339925:=0
def tw12877226642713345702:=0
def tw12547799850370229722:=0
def tw17657530722965171250:=0
def tw9422304491494753625:=0
def tw16156005110961694451:=0
def tw8295800204140491833:=0
def tw15173377775161422398:=0
def tw9002664135753001091:=0
def tw2639461693867055317:=0
def tw3529718847222647353:=0
def tw7040291212455377196:=0
def tw5255241186128669254:=0
def tw8971434498508592990:=0
def tw399389509776577318:=0
def tw3415723596692772609:=0
def tw16730315923928483044:=0
def tw5499123371559625584:=0
def tw11260418872661435537:=0
def tw308139079655252520:=0
def tw13751749716041255335:=0
def tw11374109351297391408:=0
def tw10732438490374395255:=0
def tw17905460784845409186:=0
def tw17584756055331665296:=0
def tw11412616792115181097:=0
def tw3939610216058649123:=0
def tw10458855653332388510:=0
def tw3242183175837581192:=0
def tw755662235984895616:=0
def tw5673492201606879985:=0
def tw11663101537706187998:=0
def tw6288104866142472932:=0
def tw4819173583670027990:=0
def tw10913946147629024726:=0
def tw11600482060532875252:=0
def tw14209193978085837864:=0
def tw17574366508675568065:=0
def tw15691834204082586903:=0
def tw14242551441187909555:=0
def tw16045931337078076750:=0
def tw2601264356375155027:=0
def tw1373155016633188702:=0
def tw9698559374124551653:=0
def tw4794752221211803871:=0
def tw3512283861818121770:=0
def tw13058889033142761245:=0
def tw63057459930146570:=0
def tw2046728233162070107:=0
def tw10755060473591913348:=0
def tw3294959785906147653:=0
def tw10352005074007535916:=0
end PySem.W.Fast
open PySem PySem.W PyProof.Rows
set_option maxRecDepth 100000 in
set_option maxHeartbeats 0 in
theorem PySem.Challenge.cw_dykelengths_k05_rolls_made_holds : PySem.Challenge.rw_dykelengths_k05_rolls_made.Holds := by
 w_on;o_law;k_head;(case hw=>w_witness2)
 k_fill
 refine K5.walk (l:=PySem.Challenge.rw_dykelengths_k05_rolls_made) rfl rfl (fun w h Y=>PySem.W.kIn_of Y) ?F
 case F=>
  intro w mg fa h KX G hmg
  refine' K5.all_mk KX G hmg ?aIN ?lIN ?cIN ?kIN ?aNB ?lNB ?cNB ?kNB ?aIW ?lIW ?cIW ?kIW ?aRI ?lRI ?cRI ?kRI ?aFD ?lFD ?cFD ?kFD ?aLY ?lLY ?cLY ?kLY ?aPT ?lPT ?cPT ?kPT ?aAP ?lAP ?cAP ?kAP ?aAN ?lAN ?cAN ?kAN ?aRP ?lRP ?cRP ?kRP ?aRL ?lRL ?cRL ?kRL ?aIC ?lIC ?cIC ?kIC ?aF0 ?lF0 ?cF0 ?kF0 ?aF1 ?lF1 ?cF1 ?kF1 ?aF2 ?lF2 ?cF2 ?kF2 ?aF3 ?lF3 ?cF3 ?kF3 ?aF4 ?lF4 ?cF4 ?kF4 ?aF5 ?lF5 ?cF5 ?kF5 ?aF6 ?lF6 ?cF6 ?kF6 ?aF7 ?lF7 ?cF7 ?kF7 ?aIR ?lIR ?cIR ?kIR ?aAT ?lAT ?cAT ?kAT ?aIO ?lIO ?cIO ?kIO ?aRO ?lRO ?cRO ?kRO ?aFO ?lFO ?cFO ?kFO ?aOr ?lOr ?cOr ?kOr ?aLG ?lLG ?cLG ?kLG ?aRF ?lRF ?cRF ?kRF ?aRR ?lRR ?cRR ?kRR ?aBN ?lBN ?cBN ?kBN ?aRoO ?lRoO ?cRoO ?kRoO ?aP ?lP ?cP ?kP ?aT ?lT ?cT ?kT ?aN ?lN ?cN ?kN ?aSo ?lSo ?cSo ?kSo ?aD ?lD ?cD ?kD ?aNu ?lNu ?cNu ?kNu ?aLO ?lLO ?cLO ?kLO ?aSm ?lSm ?cSm ?kSm ?aRo ?lRo ?cRo ?kRo ?aR ?lR ?cR ?kR ?aU ?lU ?cU ?kU ?aLi ?lLi ?cLi ?kLi ?aK ?lK ?cK ?kK ?aM ?lM ?cM ?kM ?aRi ?lRi ?cRi ?kRi ?aH ?lH ?cH ?kH ?aL ?lL ?cL ?kL ?z_isinstance ?z_str ?z_len ?z_all ?z_int ?z_bool ?z_tuple ?z_set ?z_list ?z_sorted ?z_abs ?z_range ?z_min ?z_repr ?q_MOST_FIELDS ?q_MOST_FIELD_ACRES ?q_LONGEST ?q_LAST_DAY ?q_FEWEST_LANDS ?q_MOST_LANDS ?q_MOST_PART_ACRES ?q_MOST_INCHES ?q_MOST_PENCE ?q_MOST_SPADES ?q_ROW_DEPTH ?q_LAYING_DEPTH ?q_MOST_ROWS ?q_FORMS ?lFm ?hzF ?q_RANKS ?lRk
  case aIN|lIN|cIN|kIN|aNB|lNB|cNB|kNB|aIW|lIW|cIW|kIW|aRI|lRI|cRI|kRI|aFD|lFD|cFD|kFD|aLY|lLY|cLY|kLY|aPT|lPT|cPT|kPT|aAP|lAP|cAP|kAP|aAN|lAN|cAN|kAN|aRP|lRP|cRP|kRP|aRL|lRL|cRL|kRL|aIC|lIC|cIC|kIC|aF0|lF0|cF0|kF0|aF1|lF1|cF1|kF1|aF2|lF2|cF2|kF2|aF3|lF3|cF3|kF3|aF4|lF4|cF4|kF4|aF5|lF5|cF5|kF5|aF6|lF6|cF6|kF6|aF7|lF7|cF7|kF7|aIR|lIR|cIR|kIR|aAT|lAT|cAT|kAT|aIO|lIO|cIO|kIO|aRO|lRO|cRO|kRO|aFO|lFO|cFO|kFO|aOr|lOr|cOr|kOr|aLG|lLG|cLG|kLG|aRF|lRF|cRF|kRF|aRR|lRR|cRR|kRR|aBN|lBN|cBN|kBN|aRoO|lRoO|cRoO|kRoO|aP|lP|cP|kP|aT|lT|cT|kT|aN|lN|cN|kN|aSo|lSo|cSo|kSo|aD|lD|cD|kD|aNu|lNu|cNu|kNu|aLO|lLO|cLO|kLO|aSm|lSm|cSm|kSm|aRo|lRo|cRo|kRo|aR|lR|cR|kR|aU|lU|cU|kU|aLi|lLi|cLi|kLi|aK|lK|cK|kK|aM|lM|cM|kM|aRi|lRi|cRi|kRi|aH|lH|cH|kH|aL|lL|cL|kL|z_isinstance|z_str|z_len|z_all|z_int|z_bool|z_tuple|z_set|z_list|z_sorted|z_abs|z_range|z_min|z_repr|q_MOST_FIELDS|q_MOST_FIELD_ACRES|q_LONGEST|q_LAST_DAY|q_FEWEST_LANDS|q_MOST_LANDS|q_MOST_PART_ACRES|q_MOST_INCHES|q_MOST_PENCE|q_MOST_SPADES|q_ROW_DEPTH|q_LAYING_DEPTH|q_MOST_ROWS|q_FORMS|lFm=>k_is
  case hzF=>first | rfl | decide
  case q_RANKS|lRk=>k_is
