import PyProof.Rows.All
import Wide.All
import OpenK.AllK
import Wide.FinOn
import Lean
import PyProof.EqAt
import PyProof.EqKinds
import PyProof.TupleCall
import KE.KIntText
import KE.KDictList
import PyProof.StationsW
import PyProof.ExcClass2
import OpenK.KRaise
import OpenK.KOwn
import KE.KTryMore
import PyProof.NsDelKeeps
import PyProof.Rows.Catch
import PyProof.ExcArgs
import PySem.Challenge.RW_dykelengths_k36_rings_told
set_option linter.all false
set_option maxRecDepth 100000
set_option Elab.async false
set_option maxHeartbeats 16000000
noncomputable section
local macro_rules
|`(tactic|omega)=>`(tactic|lia)
local macro_rules
|`(tactic|decide)=>`(tactic|decide +kernel)
namespace L2
open PySem PySem.Spec PyProof.Rows
theorem xA {α:Type}{us:List α} (h:us.length=1):∃ a0,us=[a0]:=by
 cases us with
 | nil=>simp at h
 | cons a0 r0=>
  cases r0 with
  | nil=>exact ⟨a0,rfl⟩
  | cons _ _=>simp at h
theorem jP {α:Type}{us:List α} (h:us.length=2):∃ a0 a1,us=[a0,a1]:=by
 cases us with
 | nil=>simp at h
 | cons a0 r0=>
  cases r0 with
  | nil=>simp at h
  | cons a1 r1=>
   cases r1 with
   | nil=>exact ⟨a0,a1,rfl⟩
   | cons _ _=>simp at h
theorem aCw {α:Type}{us:List α} (h:us.length=3):∃ a0 a1 a2,us=[a0,a1,a2]:=by
 cases us with
 | nil=>simp at h
 | cons a0 r0=>
  cases r0 with
  | nil=>simp at h
  | cons a1 r1=>
   cases r1 with
   | nil=>simp at h
   | cons a2 r2=>
    cases r2 with
    | nil=>exact ⟨a0,a1,a2,rfl⟩
    | cons _ _=>simp at h
theorem aGE {α:Type}{us:List α} (h:us.length=4):∃ a0 a1 a2 a3,us=[a0,a1,a2,a3]:=by
 cases us with
 | nil=>simp at h
 | cons a0 r0=>
  cases r0 with
  | nil=>simp at h
  | cons a1 r1=>
   cases r1 with
   | nil=>simp at h
   | cons a2 r2=>
    cases r2 with
    | nil=>simp at h
    | cons a3 r3=>
     cases r3 with
     | nil=>exact ⟨a0,a1,a2,a3,rfl⟩
     | cons _ _=>simp at h
theorem aGF {α:Type}{us:List α} (h:us.length=5):∃ a0 a1 a2 a3 a4,us=[a0,a1,a2,a3,a4]:=by
 cases us with
 | nil=>simp at h
 | cons a0 r0=>
  cases r0 with
  | nil=>simp at h
  | cons a1 r1=>
   cases r1 with
   | nil=>simp at h
   | cons a2 r2=>
    cases r2 with
    | nil=>simp at h
    | cons a3 r3=>
     cases r3 with
     | nil=>simp at h
     | cons a4 r4=>
      cases r4 with
      | nil=>exact ⟨a0,a1,a2,a3,a4,rfl⟩
      | cons _ _=>simp at h
abbrev Key:=Sum Int Str
def rL:Key→Value→Bool
 | .inl k,v=>Value.isInt k v
 | .inr x,v=>Value.isStrOf x v
def aFL (w:World):Key→Int
 | .inl k=>hashInt k
 | .inr x=>hashStr w x
theorem dZ:∀ {k:Key}{v:Value},rL k v=true→(∃ i t,k=Sum.inl i∧v=Value.int i t)∨(∃ x t,k=Sum.inr x∧v=Value.str x t)
 | .inl i,v,h=>by
  obtain ⟨t,e⟩:=Value.isInt_shape (k:=i) (v:=v) h
  exact .inl ⟨i,t,rfl,e⟩
 | .inr x,v,h=>by
  obtain ⟨t,e⟩:=Value.isStrOf_shape (x:=x) (v:=v) h
  exact .inr ⟨x,t,rfl,e⟩
theorem aBJ (i:Int) (t:Tok):rL (.inl i) (.int i t)=true:=by simp [rL,Value.isInt]
theorem aBK (x:Str) (t:Tok):rL (.inr x) (.str x t)=true:=by simp [rL,Value.isStrOf]
theorem aFM (a b:Int):decide ((Sum.inl a:Key)=Sum.inl b)=(a == b):=by
 by_cases e:a=b
 ·subst e;simp
 ·have h:¬ (Sum.inl a:Key)=Sum.inl b:=fun q=>e (Sum.inl.inj q)
  rw [decide_eq_false h]
  exact (beq_eq_false_iff_ne.mpr e).symm
theorem aFN (a b:Str):decide ((Sum.inr a:Key)=Sum.inr b)=decide (a=b):=by
 by_cases e:a=b
 ·subst e;simp
 ·have h:¬ (Sum.inr a:Key)=Sum.inr b:=fun q=>e (Sum.inr.inj q)
  rw [decide_eq_false h,decide_eq_false e]
theorem aFO (a:Int) (b:Str):decide ((Sum.inl a:Key)=Sum.inr b)=false:=decide_eq_false (fun q=>nomatch q)
theorem aFP (a:Str) (b:Int):decide ((Sum.inr a:Key)=Sum.inl b)=false:=decide_eq_false (fun q=>nomatch q)
def dM (prog:Program) (w:World):PySem.KeyKind prog w Key where
 is:=rL
 hash:=aFL w
 inj:=fun v a b ha hb=>by
  rcases dZ ha with ⟨i,t,rfl,rfl⟩ | ⟨x,t,rfl,rfl⟩
  ·rcases dZ hb with ⟨j,u,rfl,e⟩ | ⟨y,u,rfl,e⟩
   ·injection e with e1 _;rw [e1]
   ·exact nomatch e
  ·rcases dZ hb with ⟨j,u,rfl,e⟩ | ⟨y,u,rfl,e⟩
   ·exact nomatch e
   ·injection e with e1 _;rw [e1]
 byValue:=fun k v h=>by
  rcases dZ h with ⟨i,t,rfl,rfl⟩ | ⟨x,t,rfl,rfl⟩ <;> rfl
 pyHash:=fun hv h=>by
  rcases dZ hv with ⟨i,t,rfl,rfl⟩ | ⟨x,t,rfl,rfl⟩
  ·exact wpAny_pyHash_int h
  ·exact wpAny_pyHash_str h
 eqBool:=fun hu hv h=>by
  rcases dZ hu with ⟨i,t,rfl,rfl⟩ | ⟨x,t,rfl,rfl⟩
  ·rcases dZ hv with ⟨j,u,rfl,rfl⟩ | ⟨y,u,rfl,rfl⟩
   ·rw [aFM] at h;exact wpAny_eqBool_int h
   ·rw [aFO] at h;exact SeqAt.EqAt.int_str i t y u _ _ _ _ h
  ·rcases dZ hv with ⟨j,u,rfl,rfl⟩ | ⟨y,u,rfl,rfl⟩
   ·rw [aFP] at h;exact SeqAt.EqAt.str_int x t j u _ _ _ _ h
   ·rw [aFN] at h;exact wpAny_eqBool_str h
 «strs»:=fun k x t v h=>by
  rcases dZ h with ⟨i,u,rfl,e⟩ | ⟨y,u,rfl,e⟩
  ·exact nomatch e
  ·injection e with e1 _
   subst e1
   cases v <;> rfl
theorem xB (prog:Program) (w:World) (i:Int) (t:Tok):(dM prog w).is (.inl i) (.int i t)=true:=aBJ i t
theorem xC (prog:Program) (w:World) (x:Str) (t:Tok):(dM prog w).is (.inr x) (.str x t)=true:=aBK x t
end L2
namespace L2
open PySem PySem.Spec PyProof.Rows
inductive V where
 | non | bl (b:Bool) | int (i:Int) | str (x:Str) | byt (b:Array UInt8) | flt (b:UInt64) | ref (a:Addr) | ty (n:String)
 deriving DecidableEq
def cS:V→Value→Prop
 | .non,u=>u=Value.none
 | .bl b,u=>u=Value.bool b
 | .int i,u=>∃ t,u=Value.int i t
 | .str x,u=>∃ t,u=Value.str x t
 | .byt b,u=>∃ t,u=Value.bytes b t
 | .flt b,u=>∃ t,u=Value.float b t
 | .ref a,u=>u=Value.ref a
 | .ty n,u=>u=Value.type n
abbrev cO:List V→List Value→Prop:=Paired cS
theorem cO.length {xs:List V}{us:List Value} (r:cO xs us):xs.length=us.length:=Paired.length r
theorem cO.get:∀ {xs:List V}{us:List Value}{i:Nat}{x:V},cO xs us→xs[i]?=some x→∃ u,us[i]?=some u∧cS x u
 | _,_,_,_,.nil,e=>by simp at e
 | _,_,0,_,.cons r _,e=>by simp at e;subst e;exact ⟨_,rfl,r⟩
 | _,_,i + 1,x,.cons _ t,e=>by
  obtain ⟨u,h1,h2⟩:=cO.get (i:=i) (x:=x) t (by simpa using e)
  exact ⟨u,by simpa using h1,h2⟩
theorem cO.set {x:V}{u:Value} (r:cS x u):∀ {xs:List V}{us:List Value} (i:Nat),cO xs us→cO (xs.set i x) (us.set i u)
 | _,_,_,.nil=>.nil
 | _,_,0,.cons _ t=>.cons r t
 | _,_,i + 1,.cons q t=>.cons q (cO.set r i t)
theorem cO.append:∀ {xs ys:List V}{us ws:List Value},cO xs us→cO ys ws→cO (xs ++ ys) (us ++ ws)
 | _,_,_,_,.nil,s=>s
 | _,_,_,_,.cons r t,s=>.cons r (cO.append t s)
theorem cO.take:∀ {xs:List V}{us:List Value} (n:Nat),cO xs us→cO (xs.take n) (us.take n)
 | _,_,0,_=>.nil
 | _,_,_ + 1,.nil=>.nil
 | _,_,n + 1,.cons r t=>.cons r (cO.take n t)
theorem cO.drop:∀ {xs:List V}{us:List Value} (n:Nat),cO xs us→cO (xs.drop n) (us.drop n)
 | _,_,0,r=>r
 | _,_,_ + 1,.nil=>.nil
 | _,_,n + 1,.cons _ t=>cO.drop n t
def lF:Option V→Option Value→Prop
 | some v,some u=>cS v u
 | none,none=>True
 | _,_=>False
def KV {κ:Type}:List (κ×V)→List (κ×Value)→Prop:=Paired fun (p:κ×V) (q:κ×Value)=>p.1=q.1∧cS p.2 q.2
def kV:Key→V
 | .inl i=>.int i
 | .inr x=>.str x
inductive HO where
  | lst (xs:List V)
  | tup (xs:List V)
  | dK (kvs:List (Key×V)) | dT (kvs:List (List Key×V))
  | set (S:Int→Bool) (n:Nat)
  | ins (C dx:Addr) (fs:List (Str×V))
  | own (x:Addr)
  | xd (fs:List (Str×V))
  | met (f x:Addr)
  | rng (lo hi:Int)
  | frz (o:Obj) (u:HO)
  | tbl (ps:Array Value)
  | ext (φ:Heap→Prop)
abbrev Hp:=Addr→Option HO
def upd (H:Hp) (a:Addr) (o:HO):Hp:=fun b=>if b=a then some o else H b
theorem aF {H:Hp}{a:Addr}{o:HO}:upd H a o a=some o:=by unfold upd;rw [if_pos rfl]
theorem aJ {H:Hp}{a b:Addr}{o:HO} (h:b≠a):upd H a o b=H b:=by unfold upd;rw [if_neg h]
theorem aAA {H:Hp}{a:Addr}{o u:HO}:upd (upd H a o) a u=upd H a u:=by
 funext b;unfold upd;split <;> rfl
theorem dS {H:Hp}{a b:Addr}{o u:HO} (h:H a=some o) (h':H b=some u) (d:o≠u):a≠b:=by
 intro e;subst e;rw [h] at h';exact d (Option.some.inj h')
theorem aO {H:Hp}{a b:Addr}{o:HO} (h:H a=some o) (h':H b=none):a≠b:=by
 intro e;subst e;rw [h] at h';cases h'
section
variable (P:Program) (w:World)
def lG (h:Heap) (a:Addr) (items:Array Value):Prop:=∃ o,h.get? a=some o∧(o.cls=.type "tuple"∧∃ n,o.data=.seq items n)∧o.dict=none
theorem lG.tup {h:Heap}{a:Addr}{items:Array Value} (x:lG h a items):IsTup h a items:=by
 obtain ⟨o,e,c,_⟩:=x
 exact ⟨o,e,c⟩
instance lG.coe {h:Heap} {a:Addr} {items:Array Value}:Coe (lG h a items) (IsTup h a items):=⟨lG.tup⟩
theorem lG.lt {h:Heap}{a:Addr}{items:Array Value} (x:lG h a items):a < h.objs.size:=x.tup.lt
def c6 (H:Hp) (h:Heap) (a:Addr):HO→Prop
 | .lst xs=>xs.length≤sizeLine∧∃ (its:List Value) (n:Nat),cO xs its∧h.get? a=some { cls:=.type "list",data:=.seq its.toArray n }
 | .tup xs=>xs.length≤sizeLine∧∃ its:List Value,cO xs its∧lG h a its.toArray
 | .dK kvs=>kvs.length≤sizeLine∧(a == sysModules)=false∧∃ vs,KV kvs vs∧h.DictOf (dM P w) a vs
 | .dT kvs=>kvs.length≤sizeLine∧(a == sysModules)=false∧∃ xs:List (List Key×Addr×Value),
   Paired (fun (p:List Key×V) (q:List Key×Addr×Value)=>p.1=q.1∧H q.2.1=some (.tup (p.1.map kV))∧cS p.2 q.2.2) kvs xs∧
   ∃ o es ep,h.get? a=some o∧o.ExactDict∧o.data=.dict es ep∧es.toList=xs.map (entryOfKey (tupleKind (dM P w)))∧(xs.map (·.1)).Nodup
 | .set S n=>h.SetOf (intKind P w) a S n
 | .ins C dx fs=>H dx=some (.own a)∧fs.length≤1000∧dx≠a∧h.get? a=some (PySem.W.instObj C dx)∧
   ∃ mA,h.Ns1 dx mA∧(∀ f,lF (fs.lookup f) (mA f))∧PySem.Within mA (fs.map (·.1))
 | .own _=>∃ o,h.get? a=some o
 | .xd fs=>∃ mA,h.Ns1 a mA∧∀ f,lF (fs.lookup f) (mA f)
 | .rng lo hi=>∃ t u v,h.get? a=some { cls:=.type "range",data:=.fields #[.int lo t,.int hi u,.int 1 v] }
 | .frz o u=>h.get? a=some o∧c6 H h a u
 | .tbl ps=>h.get? a=some { cls:=.none,data:=.fields ps }
 | .met f x=>h.get? a=some (PySem.W.methodObj (.ref f) (.ref x))
 | .ext φ=>φ h∧(∃ o,h.get? a=some o)∧∀ h1 h2:Heap,φ h1→(∀ o,h1.get? a=some o→h2.get? a=some o)→φ h2
def HOk (H:Hp) (h:Heap):Prop:=∀ a o,H a=some o→c6 P w H h a o
end
section
variable {P:Program}{w:World}{H H':Hp}{h h':Heap}{a:Addr}{o:HO}
theorem c6.lt (x:c6 P w H h a o):a < h.objs.size:=by
 cases o with
 | lst xs=>obtain ⟨_,_,_,_,e⟩:=x;exact Heap.lt_size e
 | tup xs=>obtain ⟨_,_,_,p⟩:=x;exact p.lt
 | dK kvs=>obtain ⟨_,_,_,_,o,_,_,e,_⟩:=x;exact Heap.lt_size e
 | dT kvs=>obtain ⟨_,_,_,_,o,_,_,e,_⟩:=x;exact Heap.lt_size e
 | set S n=>obtain ⟨o,_,_,_,e,_⟩:=x;exact Heap.lt_size e
 | ins C dx fs=>obtain ⟨_,_,_,e,_⟩:=x;exact Heap.lt_size e
 | own y=>obtain ⟨_,e⟩:=x;exact Heap.lt_size e
 | xd fs=>obtain ⟨_,⟨_,_,_,e,_⟩,_⟩:=x;exact Heap.lt_size e
 | rng lo hi=>obtain ⟨_,_,_,e⟩:=x;exact Heap.lt_size e
 | frz ob u=>obtain ⟨e,_⟩:=x;exact Heap.lt_size e
 | tbl ps=>exact Heap.lt_size (show h.get? a=some _ from x)
 | met f y=>exact Heap.lt_size (show h.get? a=some _ from x)
 | ext φ=>obtain ⟨_,⟨_,e⟩,_⟩:=x;exact Heap.lt_size e
theorem Paired.mapP {α β:Type}{F G:α→β→Prop}:∀ {l₁:List α}{l₂:List β},Paired F l₁ l₂→(∀ a b,F a b→G a b)→Paired G l₁ l₂
 | _,_,.nil,_=>.nil
 | _,_,.cons r t,f=>.cons (f _ _ r) (Paired.mapP t f)
theorem c6.stay (x:c6 P w H h a o) (k:∀ b u,(b=a∨H b=some (.own a))→h.get? b=some u→h'.get? b=some u)
  (ho:∀ b,H b=some (.own a)→H' b=some (.own a)) (ht:∀ b xs,H b=some (.tup xs)→H' b=some (.tup xs)):c6 P w H' h' a o:=by
 induction o with
 | lst xs=>obtain ⟨z,its,n,r,e⟩:=x;exact ⟨z,its,n,r,k _ _ (.inl rfl) e⟩
 | tup xs=>obtain ⟨z,its,r,ob,e,c⟩:=x;exact ⟨z,its,r,ob,k _ _ (.inl rfl) e,c⟩
 | dK kvs=>obtain ⟨z,y,vs,r,ob,es,ep,e,c⟩:=x;exact ⟨z,y,vs,r,ob,es,ep,k _ _ (.inl rfl) e,c⟩
 | dT kvs=>
  obtain ⟨z,y,xs,r,ob,es,ep,e,c⟩:=x
  exact ⟨z,y,xs,Paired.mapP r fun p q z=>⟨z.1,ht _ _ z.2.1,z.2.2⟩,ob,es,ep,k _ _ (.inl rfl) e,c⟩
 | set S n=>obtain ⟨ob,es,ep,t,e,c⟩:=x;exact ⟨ob,es,ep,t,k _ _ (.inl rfl) e,c⟩
 | ins C dx fs=>
  obtain ⟨d,z,ne,e,mA,⟨od,es,ep,e2,c⟩,r⟩:=x
  exact ⟨ho _ d,z,ne,k _ _ (.inl rfl) e,mA,⟨od,es,ep,k _ _ (.inr d) e2,c⟩,r⟩
 | own y=>obtain ⟨ob,e⟩:=x;exact ⟨ob,k _ _ (.inl rfl) e⟩
 | xd fs=>obtain ⟨mA,⟨od,es,ep,e,c⟩,r⟩:=x;exact ⟨mA,⟨od,es,ep,k _ _ (.inl rfl) e,c⟩,r⟩
 | rng lo hi=>obtain ⟨t,u,v,e⟩:=x;exact ⟨t,u,v,k _ _ (.inl rfl) e⟩
 | frz ob u ih=>obtain ⟨e,q⟩:=x;exact ⟨k _ _ (.inl rfl) e,ih q⟩
 | tbl ps=>
  have e:h.get? a=some { cls:=.none,data:=.fields ps }:=x
  show h'.get? a=some { cls:=.none,data:=.fields ps }
  exact k a _ (.inl rfl) e
 | met f y=>
  have e:h.get? a=some (PySem.W.methodObj (.ref f) (.ref y)):=x
  show h'.get? a=some (PySem.W.methodObj (.ref f) (.ref y))
  exact k a _ (.inl rfl) e
 | ext φ=>obtain ⟨p,⟨o,e⟩,st⟩:=x;exact ⟨st _ _ p fun o q=>k _ _ (.inl rfl) q,⟨o,k _ _ (.inl rfl) e⟩,st⟩
theorem HOk.lt (x:HOk P w H h) (e:H a=some o):a < h.objs.size:=(x a o e).lt
theorem HOk.fresh (x:HOk P w H h) (e:h.objs.size≤a):H a=none:=by
 cases q:H a with
 | none=>rfl
 | some u=>exact absurd (Nat.lt_of_lt_of_le (x.lt q) e) (Nat.lt_irrefl _)
theorem HOk.kept (x:HOk P w H h) (k:∀ b u,h.get? b=some u→h'.get? b=some u):HOk P w H h':=fun a o e=>
 (x a o e).stay (fun b u _ q=>k b u q) (fun _ q=>q) fun _ _ q=>q
theorem HOk.laid (x:HOk P w H h) (k:∀ b u,h.get? b=some u→h'.get? b=some u) (hp:h.objs.size≤a) (new:c6 P w (upd H a o) h' a o):HOk P w (upd H a o) h':=fun b u e=>by
 have hn:=x.fresh hp
 by_cases hb:b=a
 ·subst hb;rw [aF] at e;cases e;exact new
 ·rw [aJ hb] at e
  exact (x b u e).stay (fun c v _ q=>k c v q) (fun c q=>by rw [aJ (aO q hn)];exact q) fun c xs q=>by rw [aJ (aO q hn)];exact q
end
def Rd (H:Hp) (a:Addr) (u:HO):Prop:=H a=some u∨∃ o,H a=some (.frz o u)
theorem Rd.ok {P:Program}{w:World}{H:Hp}{h:Heap}{a:Addr}{u:HO} (r:Rd H a u) (x:HOk P w H h):c6 P w H h a u:=by
 rcases r with r | ⟨o,r⟩
 ·exact x a u r
 ·obtain ⟨_,q⟩:=x a _ r
  exact q
def Mut:Option HO→Prop
 | some (.lst _)=>True
 | some (.dK _)=>True
 | some (.dT _)=>True
 | some (.set _ _)=>True
 | some (.ins _ _ _)=>True
 | some (.ext _)=>True
 | _=>False
section
variable {P:Program}{w:World}{H:Hp}{h h':Heap}{x e:Addr}{o':HO}
theorem HOk.write (ok:HOk P w H h) (mu:Mut (H x)) (he:e=x∨H e=some (.own x)) (k:∀ b u,b≠e→h.get? b=some u→h'.get? b=some u) (heo:∃ u,h'.get? e=some u)
  (new:c6 P w (upd H x o') h' x o'):HOk P w (upd H x o') h':=fun b u q=>by
 have nown:∀ c y,H c=some (.own y)→c≠x:=fun c y r z=>by subst z;rw [r] at mu;exact mu
 have ntup:∀ c xs,H c=some (.tup xs)→c≠x:=fun c xs r z=>by subst z;rw [r] at mu;exact mu
 by_cases hb:b=x
 ·subst hb;rw [aF] at q;cases q;exact new
 ·rw [aJ hb] at q
  by_cases hbe:b=e
  ·have q':H b=some (.own x):=by
    rcases he with z | z
    ·exact absurd (hbe.trans z) hb
    ·rw [hbe];exact z
   rw [q] at q';cases q'
   obtain ⟨v,hv⟩:=heo
   exact ⟨v,by rw [hbe];exact hv⟩
  ·refine (ok b u q).stay (fun c v hc r=>k c v ?_ r) (fun c r=>by rw [aJ (nown c b r)];exact r) fun c xs r=>by rw [aJ (ntup c xs r)];exact r
   rcases hc with rfl | hc
   ·exact hbe
   ·rintro rfl
    rcases he with z | z
    ·exact nown c b hc z
    ·rw [hc] at z;cases z;exact hb rfl
end
structure Un (fs ex:List Addr) (H H':Hp) (h h':Heap):Prop where
 keep:∀ b o,h.get? b=some o→H b=none→b ∉ fs→b ∉ ex→h'.get? b=some o
 slot:∀ b o,h.get? b=some o→H b=none→b∈fs→b ∉ ex→∃ sl,h'.get? b=some { o with slots:=sl }
 free:∀ b o,h.get? b=some o→H b=none→b ∉ ex→H' b=none
 there:∀ b o,h.get? b=some o→b ∉ ex→∃ o',h'.get? b=some o'
 tups:∀ b xs,H b=some (.tup xs)→H' b=some (.tup xs)
 frzs:∀ b o u,H b=some (.frz o u)→H' b=some (.frz o u)
 tbls:∀ b ps,H b=some (.tbl ps)→∃ more,H' b=some (.tbl (ps ++ more))
section
variable {fs fs' ex ex':List Addr}{H H1 H2:Hp}{h h1 h2 h':Heap}{a x e:Addr}{o:HO}
theorem Un.any (u:Un fs ex H H1 h h1) {b:Addr}{ob:Obj} (q:h.get? b=some ob) (n:H b=none) (hx:b ∉ ex):∃ sl,h1.get? b=some { ob with slots:=sl }:=by
 by_cases hb:b∈fs
 ·exact u.slot b ob q n hb hx
 ·exact ⟨ob.slots,u.keep b ob q n hb hx⟩
theorem Un.kept (k:∀ b u,h.get? b=some u→h'.get? b=some u):Un fs ex H H h h':=
 ⟨fun b ob q _ _ _=>k b ob q,fun b ob q _ _ _=>⟨ob.slots,k b ob q⟩,fun _ _ _ n _=>n,fun b ob q _=>⟨ob,k b ob q⟩,fun _ _ q=>q,fun _ _ _ q=>q,fun _ ps q=>⟨#[],by rw [q];simp⟩⟩
theorem Un.refl:Un fs ex H H h h:=Un.kept fun _ _ q=>q
theorem Un.laid (k:∀ b u,h.get? b=some u→h'.get? b=some u) (hp:h.objs.size≤a) (hn:H a=none):Un fs ex H (upd H a o) h h' where
 keep:=fun b u q _ _ _=>k b u q
 slot:=fun b u q _ _ _=>⟨u.slots,k b u q⟩
 free:=fun b u q n _=>by rw [aJ (Nat.ne_of_lt (Nat.lt_of_lt_of_le (Heap.lt_size q) hp))];exact n
 there:=fun b u q _=>⟨u,k b u q⟩
 tups:=fun b xs q=>by rw [aJ (aO q hn)];exact q
 frzs:=fun b u xs q=>by rw [aJ (aO q hn)];exact q
 tbls:=fun b ps q=>⟨#[],by rw [aJ (aO q hn),q];simp⟩
theorem Un.write (mu:Mut (H x)) (he:e=x∨H e=some (.own x)) (k:∀ b u,b≠e→h.get? b=some u→h'.get? b=some u) (heo:∃ u,h'.get? e=some u):Un fs ex H (upd H x o) h h':=by
 have hx:∀ b,H b=none→b≠x:=fun b n z=>by subst z;rw [n] at mu;exact mu
 have hb:∀ b,H b=none→b≠e:=fun b n z=>by
  subst z
  rcases he with r | r
  ·exact hx b n r
  ·rw [n] at r;cases r
 have hm:∀ b u,H b=some u→¬ Mut (some u)→b≠x:=fun b u q nm z=>by subst z;rw [q] at mu;exact nm mu
 refine ⟨fun b u q n _ _=>k b u (hb b n) q,fun b u q n _ _=>⟨u.slots,k b u (hb b n) q⟩,fun b u q n _=>by rw [aJ (hx b n)];exact n,fun b u q _=>?_,
  fun b xs q=>by rw [aJ (hm b _ q fun z=>z)];exact q,fun b u xs q=>by rw [aJ (hm b _ q fun z=>z)];exact q,fun b ps q=>⟨#[],by rw [aJ (hm b _ q fun z=>z),q];simp⟩⟩
 by_cases hbe:b=e
 ·subst hbe;exact heo
 ·exact ⟨u,k b u hbe q⟩
end
def trk (h:Heap) (H:Hp):List Addr:=(List.range h.objs.size).filter fun a=>(H a).isSome
def v9 (h:Heap) (H:Hp):Heap:=PySem.W.hideAll h (trk h H)
theorem aBL (h:Heap) (H:Hp):(v9 h H).objs.size=h.objs.size:=PySem.W.hideAll_size _ _
theorem rM {h:Heap}{H:Hp}{b:Addr}{o:Obj} (e:h.get? b=some o) (n:H b=none):(v9 h H).get? b=some o:=
 PySem.W.hideAll_get _ e fun hm=>by
  have q:(H b).isSome=true:=(List.mem_filter.mp hm).2
  rw [n] at q;simp at q
theorem aEz {h:Heap}{H:Hp}{b:Addr}{o:Obj} (e:(v9 h H).get? b=some o):h.get? b=some o∧H b=none:=by
 have e':h.get? b=some o:=PySem.W.of_hideAll (trk h H) e
 refine ⟨e',?_⟩
 cases q:H b with
 | none=>rfl
 | some x=>
  have hm:b∈trk h H:=List.mem_filter.mpr ⟨List.mem_range.mpr (Heap.lt_size e'),by simp [q]⟩
  have z:(v9 h H).get? b=none:=PySem.W.hideAll_none (trk h H) hm
  rw [z] at e;cases e
def aEA (g h:Heap) (L:Addr):List (Addr×Obj):=(List.range h.objs.size).filterMap fun a=>if a=L∨(g.get? a).isSome=true then none else (h.get? a).map fun o=>(a,o)
def b8 (g h:Heap) (L d:Addr):List (Addr×Obj):=(aEA g h L).filter fun p=>decide (p.1≠d)
end L2
namespace L2
open PySem PySem.Spec PyProof.Rows
structure Mod (K:PySem.W.Frag) (mg:Str→Option Value) (base:Heap):Prop where
 kin:K.In base
 glob:base.Ns mainGlobals mg
 blt:∃ mb,base.Ns builtinsNs mb∧∀ x:Str,x≠"__name__"→mb x=bootBuiltins x
 nolimit:base.NoLimit
structure Cx where
 prog:Program
 w:World
 K:PySem.W.Frag
 mg:Str→Option Value
 base:Heap
 A:Around
 N:List Str
 s₀:Shared
 H₀:Hp
 env:Env
 outer:List Env
 stack:List Env
 ex:List Addr
 fn:Str→Bool
 calm:Bool
 pn:List (Addr×Obj)
 xe:Value→Shared→Prop
def frs (l:List Env):List Addr:=l.filterMap (·.frame)
abbrev Cx.fs (X:Cx):List Addr:=frs X.outer
def Vis (sc:Scope) (x:Str):Prop:=sc.names.lookup x=some .local∨sc.names.lookup x=some .cell∨sc.names.lookup x=some .free
def Loc (sc:Scope) (x:Str):Prop:=sc.names.lookup x=some .local∨sc.names.lookup x=some .cell
def aHw (env:Env) (h:Heap) (m:Str→Option Value) (x:Str) (u:Value):Prop:=
 (env.kindOf x=some .local∧m x=some u)∨((env.kindOf x=some .cell∨env.kindOf x=some .free)∧∃ c,env.cells.lookup x=some c∧h.IsCell c (some u))
structure Cx.Ok (X:Cx):Prop where
 mod:Mod X.K X.mg X.base
 kind:X.env.scope.kind=.function
 glob:X.env.globals=mainGlobals
 blt:X.env.builtins=builtinsNs
 above:X.s₀.heap.objs.size≤X.env.locals
 inj:∀ x y c,X.env.cells.lookup x=some c→X.env.cells.lookup y=some c→x=y
 has:∀ x,(X.env.kindOf x=some .cell∨X.env.kindOf x=some .free)→∃ c,X.env.cells.lookup x=some c
 cab:∀ x c,X.fn x=true→X.env.cells.lookup x=some c→X.s₀.heap.objs.size≤c
 hd:X.calm=true→X.A.handled=none
 frames:X.A.frames=some X.stack
 stk:X.stack=X.outer∨(X.stack=X.env :: X.outer∧X.env.frame=some X.env.locals)
 exf:∀ b∈X.ex,b≠X.env.locals∧∀ x c,X.env.cells.lookup x=some c→c≠b
 bs:∀ b o,X.base.get? b=some o→X.s₀.heap.get? b=some o∧X.H₀ b=none
 bsz:X.base.objs.size≤X.s₀.heap.objs.size
 noex:∀ b o,X.base.get? b=some o→b ∉ X.ex
 exfs:∀ b∈X.ex,b ∉ X.fs
 funs:X.s₀.heap.FunFrames X.base X.outer
 frf:∀ b∈X.fs,X.H₀ b=none
structure Inv (X:Cx) (pins:List (Addr×Obj)) (σ:List (Option V)) (H:Hp) (s:Shared):Prop where
 ok:X.Ok
 os:s.os=X.s₀.os
 bare:AllBare s.gens
 base:Un X.fs X.ex X.H₀ H X.s₀.heap s.heap
 loc:∃ m,s.heap.Ns X.env.locals m∧∀ (i:Nat) (x:Str) (v:V),X.N[i]?=some x→σ[i]?=some (some v)→Vis X.env.scope x→∃ u,cS v u∧aHw X.env s.heap m x u
 cell:∀ x c,X.env.cells.lookup x=some c→∃ v,s.heap.IsCell c v
 free:H X.env.locals=none
 freeC:∀ x c,X.env.cells.lookup x=some c→H c=none
 pin:∀ p∈X.pn ++ pins,s.heap.get? p.1=some p.2∧H p.1=none∧p.1≠X.env.locals∧p.1 ∉ X.fs∧∀ v,p.2.data≠.cell v
 hok:HOk X.prog X.w H s.heap
 len:σ.length=X.N.length
section
variable {X:Cx}{pins:List (Addr×Obj)}{σ:List (Option V)}{H H':Hp}{s:Shared}{h':Heap}
theorem Cx.Ok.nofr (ok:X.Ok) {b:Addr}{o:Obj} (e:X.base.get? b=some o):b ∉ X.fs:=fun hb=>by
 have:=(ok.funs.mem hb).1
 rw [e] at this;cases this
theorem Inv.bs (I:Inv X pins σ H s):∀ b o,X.base.get? b=some o→s.heap.get? b=some o∧H b=none:=fun b o e=>
 ⟨I.base.keep b o (I.ok.bs b o e).1 (I.ok.bs b o e).2 (I.ok.nofr e) (I.ok.noex b o e),I.base.free b o (I.ok.bs b o e).1 (I.ok.bs b o e).2 (I.ok.noex b o e)⟩
theorem Inv.bk (I:Inv X pins σ H s):∀ b o,X.base.get? b=some o→s.heap.get? b=some o:=fun b o e=>(I.bs b o e).1
theorem Inv.mod (I:Inv X pins σ H s):Mod X.K X.mg X.base:=I.ok.mod
theorem Inv.kIn (I:Inv X pins σ H s):X.K.In s.heap:=I.ok.mod.kin.keeps I.bk
theorem Inv.nolimit (I:Inv X pins σ H s):s.heap.NoLimit:=I.ok.mod.nolimit.keeps I.bk
theorem Inv.lt (I:Inv X pins σ H s):X.env.locals < s.heap.objs.size:=let ⟨_,hn,_⟩:=I.loc;hn.lt
theorem Inv.sz (I:Inv X pins σ H s):X.s₀.heap.objs.size≤s.heap.objs.size:=Nat.le_trans I.ok.above (Nat.le_of_lt I.lt)
theorem Inv.nofs (I:Inv X pins σ H s) {a:Addr} (h:s.heap.objs.size≤a):a ∉ X.fs:=fun hb=>by
 obtain ⟨_,o,ho,_⟩:=I.ok.funs.mem hb
 exact absurd (Nat.lt_of_lt_of_le (Heap.lt_size ho) (Nat.le_trans I.sz h)) (Nat.lt_irrefl _)
theorem Inv.cne (I:Inv X pins σ H s):∀ x c,X.env.cells.lookup x=some c→c≠X.env.locals:=fun x c e z=>by
 obtain ⟨v,o,ho,hd⟩:=I.cell x c e
 obtain ⟨m,⟨o',es,ep,ho',hd',_⟩,_⟩:=I.loc
 rw [z,ho'] at ho;cases ho;rw [hd'] at hd;cases hd
theorem Inv.funs (I:Inv X pins σ H s):s.heap.FunFrames X.base X.outer:=by
 have all:∀ (l:List Env),(∀ b∈frs l,b∈X.fs)→X.s₀.heap.FunFrames X.base l→s.heap.FunFrames X.base l:=by
  intro l
  induction l with
  | nil=>intro _ _;trivial
  | cons env r ih=>
   intro hs hl
   obtain ⟨hk,⟨L,o,hf,hn,ho,hd⟩,hr⟩:=hl
   have hL:L∈X.fs:=hs L (by unfold frs;rw [List.filterMap_cons,hf];exact List.mem_cons_self)
   obtain ⟨sl,e⟩:=I.base.slot L o ho (I.ok.frf L hL) hL fun z=>I.ok.exfs L z hL
   exact ⟨hk,⟨L,_,hf,hn,e,hd⟩,ih (fun b hb=>hs b (by unfold frs;rw [List.filterMap_cons,hf];exact List.mem_cons_of_mem _ hb)) hr⟩
 exact all X.outer (fun _ hb=>hb) I.ok.funs
theorem Inv.stack (I:Inv X pins σ H s):s.heap.FunFrames X.base X.stack:=by
 rcases I.ok.stk with e | ⟨e,hf⟩
 ·rw [e];exact I.funs
 ·rw [e]
  obtain ⟨m,hn,_⟩:=I.loc
  refine .cons (by rw [I.ok.kind];decide) hf hn ?_ I.funs
  exact Heap.get?_none_of_le (Nat.le_trans I.ok.bsz I.ok.above)
theorem Inv.stkSub (I:Inv X pins σ H s):∀ b∈frs X.stack,b∈X.env.locals :: X.fs:=fun b hb=>by
 rcases I.ok.stk with e | ⟨e,hf⟩
 ·rw [e] at hb;exact List.mem_cons_of_mem _ hb
 ·rw [e] at hb
  unfold frs at hb
  rw [List.filterMap_cons,hf] at hb
  exact hb
theorem Inv.stkFree (I:Inv X pins σ H s):∀ b∈frs X.stack,H b=none:=fun b hb=>by
 rcases List.mem_cons.mp (I.stkSub b hb) with e | hb
 ·rw [e];exact I.free
 ·obtain ⟨_,o,ho,_⟩:=I.ok.funs.mem hb
  exact I.base.free b o ho (I.ok.frf b hb) fun z=>I.ok.exfs b z hb
theorem Inv.step {g':Array GenState}{t':Nat}{d':Drawn}{ch:List Addr} (I:Inv X pins σ H s)
  (hch:∀ b∈ch,(b∈X.ex∨X.s₀.heap.objs.size≤b)∧b≠X.env.locals∧(∀ x c,X.env.cells.lookup x=some c→c≠b)∧∀ p∈X.pn ++ pins,p.1≠b)
  (keep:∀ b o,b≠X.env.locals→b ∉ X.fs→b ∉ ch→s.heap.get? b=some o→H b=none→h'.get? b=some o)
  (slot:∀ b o,b≠X.env.locals→b∈X.fs→b ∉ ch→s.heap.get? b=some o→H b=none→∃ sl,h'.get? b=some { o with slots:=sl }) (free:∀ b o,b ∉ ch→s.heap.get? b=some o→H b=none→H' b=none)
  (there:∀ b o,b ∉ ch→s.heap.get? b=some o→∃ o',h'.get? b=some o')
  (tups:∀ b xs,H b=some (.tup xs)→H' b=some (.tup xs)) (frzs:∀ b o u,H b=some (.frz o u)→H' b=some (.frz o u)) (tbls:∀ b ps,H b=some (.tbl ps)→∃ more,H' b=some (.tbl (ps ++ more)))
  (ns:∀ m,s.heap.Ns X.env.locals m→h'.Ns X.env.locals m) (hok:HOk X.prog X.w H' h') (hg:AllBare g'):
  Inv X pins σ H' { s with heap:=h',gens:=g',drawn:=d',toks:=t' }:=by
 have neL:∀ b o,X.s₀.heap.get? b=some o→b≠X.env.locals:=fun b o e=>Nat.ne_of_lt (Nat.lt_of_lt_of_le (Heap.lt_size e) I.ok.above)
 have neC:∀ b o,X.s₀.heap.get? b=some o→b ∉ X.ex→b ∉ ch:=fun b o e hx hb=>by
  rcases (hch b hb).1 with z | z
  ·exact hx z
  ·exact absurd (Nat.lt_of_lt_of_le (Heap.lt_size e) z) (Nat.lt_irrefl _)
 have cellK:∀ x c,X.env.cells.lookup x=some c→∀ v,s.heap.IsCell c v→h'.IsCell c v:=fun x c e v ⟨o,ho,hd⟩=>by
  have nch:c ∉ ch:=fun z=>(hch c z).2.2.1 x c e rfl
  by_cases hc:c∈X.fs
  ·obtain ⟨sl,q⟩:=slot c o (I.cne x c e) hc nch ho (I.freeC x c e)
   exact ⟨_,q,hd⟩
  ·exact ⟨o,keep c o (I.cne x c e) hc nch ho (I.freeC x c e),hd⟩
 refine ⟨I.ok,I.os,hg,⟨fun b o e n hb hx=>?_,fun b o e n hb hx=>?_,fun b o e n hx=>?_,fun b o e hx=>?_,fun b xs e=>tups b xs (I.base.tups b xs e),fun b o xs e=>frzs b o xs (I.base.frzs b o xs e),fun b ps e=>?_⟩,?_,fun x c e=>?_,?_,fun x c e=>?_,fun p hp=>?_,hok,I.len⟩
 ·exact keep b o (neL b o e) hb (neC b o e hx) (I.base.keep b o e n hb hx) (I.base.free b o e n hx)
 ·obtain ⟨sl,e1⟩:=I.base.slot b o e n hb hx
  obtain ⟨sl',e2⟩:=slot b _ (neL b o e) hb (neC b o e hx) e1 (I.base.free b o e n hx)
  exact ⟨sl',e2⟩
 ·obtain ⟨o',e1⟩:=I.base.there b o e hx
  exact free b o' (neC b o e hx) e1 (I.base.free b o e n hx)
 ·obtain ⟨o',e1⟩:=I.base.there b o e hx
  exact there b o' (neC b o e hx) e1
 ·obtain ⟨m1,e1⟩:=I.base.tbls b ps e
  obtain ⟨m2,e2⟩:=tbls b _ e1
  exact ⟨m1 ++ m2,by rw [e2,Array.append_assoc]⟩
 ·obtain ⟨m,hn,hl⟩:=I.loc
  refine ⟨m,ns m hn,fun i x v e1 e2 e3=>?_⟩
  obtain ⟨u,r,l⟩:=hl i x v e1 e2 e3
  refine ⟨u,r,?_⟩
  rcases l with l | ⟨k,c,e,z⟩
  ·exact .inl l
  ·exact .inr ⟨k,c,e,cellK x c e _ z⟩
 ·obtain ⟨v,z⟩:=I.cell x c e
  exact ⟨v,cellK x c e v z⟩
 ·obtain ⟨m,⟨o,_,_,ho,_⟩,_⟩:=I.loc
  exact free _ o (fun z=>(hch _ z).2.1 rfl) ho I.free
 ·obtain ⟨v,o,ho,hd⟩:=I.cell x c e
  exact free c o (fun z=>(hch c z).2.2.1 x c e rfl) ho (I.freeC x c e)
 ·obtain ⟨e,n,ne,nf,d⟩:=I.pin p hp
  have nch:p.1 ∉ ch:=fun z=>(hch p.1 z).2.2.2 p hp rfl
  exact ⟨keep p.1 p.2 ne nf nch e n,free p.1 p.2 nch e n,ne,nf,d⟩
theorem Inv.un {t':Nat} (I:Inv X pins σ H s) (u:Un X.fs [] H H' s.heap h') (hok:HOk X.prog X.w H' h'):Inv X pins σ H' { s with heap:=h',toks:=t' }:=by
 obtain ⟨m,⟨o,es,ep,ho,r⟩,_⟩:=id I.loc
 obtain ⟨sl,hL⟩:=u.any ho I.free (by simp)
 exact I.step (g':=s.gens) (d':=s.drawn) (ch:=[]) (fun _ z=>nomatch z) (fun b o _ hb _ e n=>u.keep b o e n hb (by simp)) (fun b o _ hb _ e n=>u.slot b o e n hb (by simp)) (fun b o _ e n=>u.free b o e n (by simp)) (fun b o _ e=>u.there b o e (by simp)) u.tups u.frzs u.tbls (fun m' hm=>by
  obtain ⟨o',es',ep',ho',r'⟩:=hm
  rw [ho] at ho';cases ho'
  exact ⟨_,es',ep',hL,r'⟩) hok I.bare
theorem Inv.call {g':Array GenState}{t':Nat}{d':Drawn}{ch:List Addr} (I:Inv X pins σ H s) (u:Un (frs X.stack) ch H H' s.heap h') (hok:HOk X.prog X.w H' h') (hg:AllBare g')
  (hch:∀ b∈ch,(b∈X.ex∨X.s₀.heap.objs.size≤b)∧b≠X.env.locals∧(∀ x c,X.env.cells.lookup x=some c→c≠b)∧∀ p∈X.pn ++ pins,p.1≠b):
  Inv X pins σ H' { s with heap:=h',gens:=g',drawn:=d',toks:=t' }:=by
 obtain ⟨m,⟨o,es,ep,ho,r⟩,_⟩:=id I.loc
 obtain ⟨sl,hL⟩:=u.any ho I.free fun z=>(hch _ z).2.1 rfl
 exact I.step (ch:=ch) hch (fun b o hL hb hc e n=>u.keep b o e n (fun z=>(List.mem_cons.mp (I.stkSub b z)).elim hL hb) hc) (fun b o _ _ hc e n=>u.any e n hc) (fun b o hc e n=>u.free b o e n hc) (fun b o hc e=>u.there b o e hc) u.tups u.frzs u.tbls (fun m' hm=>by
  obtain ⟨o',es',ep',ho',r'⟩:=hm
  rw [ho] at ho';cases ho'
  exact ⟨_,es',ep',hL,r'⟩) hok hg
theorem Inv.turned {t':Nat}{it:Addr} (I:Inv X pins σ H s) (k:∀ b o,b≠it→s.heap.get? b=some o→h'.get? b=some o) (hn:H it=none) (hL:it≠X.env.locals)
  (h1:it∈X.ex∨X.s₀.heap.objs.size≤it) (h2:∀ x c,X.env.cells.lookup x=some c→c≠it) (h3:∀ p∈X.pn ++ pins,p.1≠it):Inv X pins σ H { s with heap:=h',toks:=t' }:=by
 have nit:∀ b u,H b=some u→b≠it:=fun b u e z=>by rw [z,hn] at e;cases e
 refine I.step (g':=s.gens) (d':=s.drawn) (ch:=[it]) (fun b hb=>?_) (fun b o _ _ hc e _=>k b o (fun z=>hc (by simp [z])) e) (fun b o _ _ hc e _=>⟨o.slots,k b o (fun z=>hc (by simp [z])) e⟩) (fun _ _ _ _ n=>n)
  (fun b o hc e=>⟨o,k b o (fun z=>hc (by simp [z])) e⟩) (fun _ _ e=>e) (fun _ _ _ e=>e) (fun b ps e=>⟨#[],by rw [e];simp⟩) (fun m hm=>?_) (fun b u e=>?_) I.bare
 ·have e:b=it:=by simpa using hb
  subst e
  exact ⟨h1,hL,h2,h3⟩
 ·obtain ⟨o,es,ep,ho,r⟩:=hm
  exact ⟨o,es,ep,k _ o (Ne.symm hL) ho,r⟩
 ·refine (I.hok b u e).stay (fun c v hc q=>k c v ?_ q) (fun _ q=>q) fun _ _ q=>q
  rcases hc with z | z
  ·rw [z];exact nit b u e
  ·exact nit c _ z
theorem Inv.tok (I:Inv X pins σ H s) (t:Nat):Inv X pins σ H { s with toks:=t }:=I.un (h':=s.heap) (t':=t) Un.refl I.hok
theorem Inv.kept {t':Nat} (I:Inv X pins σ H s) (k:∀ b u,s.heap.get? b=some u→h'.get? b=some u):Inv X pins σ H { s with heap:=h',toks:=t' }:=I.un (Un.kept k) (I.hok.kept k)
theorem Inv.laid {a:Addr}{o:HO}{t':Nat} (I:Inv X pins σ H s) (k:∀ b u,s.heap.get? b=some u→h'.get? b=some u) (hp:s.heap.objs.size≤a) (new:c6 X.prog X.w (upd H a o) h' a o):
  Inv X pins σ (upd H a o) { s with heap:=h',toks:=t' }:=I.un (Un.laid k hp (I.hok.fresh hp)) (I.hok.laid k hp new)
theorem Inv.write {x e:Addr}{o:HO}{t':Nat} (I:Inv X pins σ H s) (mu:Mut (H x)) (he:e=x∨H e=some (.own x)) (k:∀ b u,b≠e→s.heap.get? b=some u→h'.get? b=some u) (heo:∃ u,h'.get? e=some u)
  (new:c6 X.prog X.w (upd H x o) h' x o):Inv X pins σ (upd H x o) { s with heap:=h',toks:=t' }:=I.un (Un.write mu he k heo) (I.hok.write mu he k heo new)
theorem Inv.pins_of {pins':List (Addr×Obj)} (I:Inv X pins σ H s) (h:∀ p∈pins',s.heap.get? p.1=some p.2∧H p.1=none∧p.1≠X.env.locals∧p.1 ∉ X.fs∧∀ v,p.2.data≠.cell v):Inv X pins' σ H s:=
 ⟨I.ok,I.os,I.bare,I.base,I.loc,I.cell,I.free,I.freeC,fun p hp=>(List.mem_append.mp hp).elim (fun z=>I.pin p (List.mem_append_left _ z)) (h p),I.hok,I.len⟩
theorem rN {N:List Str} (hN:N.Nodup) {i j:Nat}{x:Str} (a:N[i]?=some x) (b:N[j]?=some x):i=j:=by
 obtain ⟨h1,e1⟩:=List.getElem?_eq_some_iff.mp a
 obtain ⟨h2,e2⟩:=List.getElem?_eq_some_iff.mp b
 exact (List.getElem_inj hN).mp (e1.trans e2.symm)
theorem uI {M:Model}{A:Around}{E:Value→Shared→Prop}{i:Nat}{x:Str}{v:V}{u:Value}{Q:Unit→Shared→Prop} (I:Inv X pins σ H s) (hN:X.N.Nodup) (hi:X.N[i]?=some x) (hx:Loc X.env.scope x) (r:cS v u)
  (h:∀ s',Inv X pins (σ.set i (some v)) H s'→(∃ a,Heap.SameBut a s.heap s'.heap∧(a=X.env.locals∨X.env.cells.lookup x=some a))→Q () s') (hf:X.fn x=true∨X.env.scope.names.lookup x=some .local:=by first | exact .inl rfl | exact .inr rfl | assumption):wpAny M A (storeName X.env x u) Q E s:=by
 obtain ⟨m,hn,hl⟩:=id I.loc
 have hcls:(X.env.scope.kind == .class || (X.env.scope.kind == .module && X.env.locals != X.env.globals))=false:=by rw [I.ok.kind];rfl
 have hiσ:i < σ.length:=by rw [I.len];exact (List.getElem?_eq_some_iff.mp hi).1
 have cne:=I.cne
 have tracked:∀ {a:Addr} {h':Heap},(∃ o,s.heap.get? a=some o∧H a=none)→Heap.SameBut a s.heap h'→HOk X.prog X.w H h':=fun {a h'} ha hs b ob e=>by
  obtain ⟨_,_,hfree⟩:=ha
  refine (I.hok b ob e).stay (fun c w' hc q=>(hs.2 c ?_).trans q) (fun _ q=>q) fun _ _ q=>q
  rintro rfl
  rcases hc with rfl | hc
  ·rw [hfree] at e;cases e
  ·rw [hfree] at hc;cases hc
 rcases hx with hk | hk
 ·refine wpAny_storeName_local hk hn (fun h' hn' hs=>?_) hcls
  obtain ⟨oL,_,_,hoL,_⟩:=id hn
  refine h _ ⟨I.ok,I.os,I.bare,⟨fun b o e n hb hx=>?_,fun b o e n hb hx=>?_,I.base.free,fun b o e hx=>?_,I.base.tups,I.base.frzs,I.base.tbls⟩,⟨_,hn',fun j y v' e1 e2 e3=>?_⟩,fun y c e=>?_,I.free,I.freeC,fun p hp=>?_,tracked ⟨oL,hoL,I.free⟩ hs,by simpa using I.len⟩ ⟨_,hs,.inl rfl⟩
  ·exact (hs.2 b (Nat.ne_of_lt (Nat.lt_of_lt_of_le (Heap.lt_size e) I.ok.above))).trans (I.base.keep b o e n hb hx)
  ·obtain ⟨sl,e1⟩:=I.base.slot b o e n hb hx
   exact ⟨sl,(hs.2 b (Nat.ne_of_lt (Nat.lt_of_lt_of_le (Heap.lt_size e) I.ok.above))).trans e1⟩
  ·obtain ⟨o',e1⟩:=I.base.there b o e hx
   exact ⟨o',(hs.2 b (Nat.ne_of_lt (Nat.lt_of_lt_of_le (Heap.lt_size e) I.ok.above))).trans e1⟩
  ·by_cases hj:j=i
   ·subst hj
    rw [hi] at e1;cases e1
    rw [List.getElem?_set_self hiσ] at e2
    cases e2
    exact ⟨u,r,.inl ⟨hk,by simp⟩⟩
   ·rw [List.getElem?_set_ne (Ne.symm hj)] at e2
    obtain ⟨u',r',q⟩:=hl j y v' e1 e2 e3
    refine ⟨u',r',?_⟩
    rcases q with ⟨k,e⟩ | ⟨k,c,e,z⟩
    ·refine .inl ⟨k,?_⟩
     have:y≠x:=fun e=>hj (rN hN e1 (e ▸ hi))
     simp [this,e]
    ·exact .inr ⟨k,c,e,z.sameBut hs (cne y c e)⟩
  ·obtain ⟨w',z⟩:=I.cell y c e
   exact ⟨w',z.sameBut hs (cne y c e)⟩
  ·obtain ⟨e,n,ne,nf,d⟩:=I.pin p hp
   exact ⟨(hs.2 p.1 ne).trans e,n,ne,nf,d⟩
 ·have hfn:X.fn x=true:=by
   rcases hf with z | z
   ·exact z
   ·rw [z] at hk;cases hk
  obtain ⟨c,hc⟩:=I.ok.has x (.inl hk)
  obtain ⟨w',z⟩:=I.cell x c hc
  refine wpAny_storeName_cell I.ok.kind hk hc z (fun h' hc' hs=>?_)
  obtain ⟨oc,hoc,hocd⟩:=id z
  refine h { s with heap:=h' } ⟨I.ok,I.os,I.bare,⟨fun b o e n hb hx=>?_,fun b o e n hb hx=>?_,I.base.free,fun b o e hx=>?_,I.base.tups,I.base.frzs,I.base.tbls⟩,⟨m,hn.sameBut hs (Ne.symm (cne x c hc)),fun j y v' e1 e2 e3=>?_⟩,fun y c' e=>?_,I.free,I.freeC,fun p hp=>?_,tracked ⟨oc,hoc,I.freeC x c hc⟩ hs,by simpa using I.len⟩ ⟨c,hs,.inr hc⟩
  ·exact (hs.2 b (Nat.ne_of_lt (Nat.lt_of_lt_of_le (Heap.lt_size e) (I.ok.cab x c hfn hc)))).trans (I.base.keep b o e n hb hx)
  ·obtain ⟨sl,e1⟩:=I.base.slot b o e n hb hx
   exact ⟨sl,(hs.2 b (Nat.ne_of_lt (Nat.lt_of_lt_of_le (Heap.lt_size e) (I.ok.cab x c hfn hc)))).trans e1⟩
  ·obtain ⟨o',e1⟩:=I.base.there b o e hx
   exact ⟨o',(hs.2 b (Nat.ne_of_lt (Nat.lt_of_lt_of_le (Heap.lt_size e) (I.ok.cab x c hfn hc)))).trans e1⟩
  ·by_cases hj:j=i
   ·subst hj
    rw [hi] at e1;cases e1
    rw [List.getElem?_set_self hiσ] at e2
    cases e2
    exact ⟨u,r,.inr ⟨.inl hk,c,hc,hc'⟩⟩
   ·rw [List.getElem?_set_ne (Ne.symm hj)] at e2
    obtain ⟨u',r',q⟩:=hl j y v' e1 e2 e3
    refine ⟨u',r',?_⟩
    rcases q with q | ⟨k,c',e,z'⟩
    ·exact .inl q
    ·refine .inr ⟨k,c',e,z'.sameBut hs ?_⟩
     rintro rfl
     exact hj (rN hN e1 (I.ok.inj _ _ _ e hc ▸ hi))
  ·by_cases hcc:c'=c
   ·subst hcc;exact ⟨_,hc'⟩
   ·obtain ⟨w2,z2⟩:=I.cell y c' e
    exact ⟨w2,z2.sameBut hs hcc⟩
  ·obtain ⟨e,n,ne,nf,d⟩:=I.pin p hp
   refine ⟨(hs.2 p.1 ?_).trans e,n,ne,nf,d⟩
   intro q
   rw [q,hoc] at e
   have q':oc=p.2:=Option.some.inj e
   exact d w' (by rw [← q'];exact hocd)
theorem iX {M:Model}{A:Around}{E:Value→Shared→Prop}{i:Nat}{x:Str}{v:V}{u:Value}{Q:Unit→Shared→Prop} (I:Inv X pins σ H s) (hN:X.N.Nodup) (hi:X.N[i]?=some x) (hx:Loc X.env.scope x) (r:cS v u)
  (h:∀ s',Inv X pins (σ.set i (some v)) H s'→Q () s') (hf:X.fn x=true∨X.env.scope.names.lookup x=some .local:=by first | exact .inl rfl | exact .inr rfl | assumption):wpAny M A (storeName X.env x u) Q E s:=
 uI I hN hi hx r (fun s' I' _=>h s' I') hf
theorem Inv.call' {s':Shared}{ch:List Addr} (I:Inv X pins σ H s) (ho:s'.os=s.os) (u:Un (frs X.stack) ch H H' s.heap s'.heap) (hok:HOk X.prog X.w H' s'.heap) (hg:AllBare s'.gens)
  (hch:∀ b∈ch,(b∈X.ex∨X.s₀.heap.objs.size≤b)∧b≠X.env.locals∧(∀ x c,X.env.cells.lookup x=some c→c≠b)∧∀ p∈X.pn ++ pins,p.1≠b):Inv X pins σ H' s':=by
 obtain ⟨h',g',d',t',o'⟩:=s'
 have e:o'=s.os:=ho
 subst e
 exact I.call (g':=g') (t':=t') (d':=d') u hok hg hch
end
abbrev XK:=Value→Option Addr→Hp→Prop
abbrev St:=List (Option V)
abbrev VK:=V→Hp→Prop
abbrev TE:=St→Hp→VK→Prop
abbrev TT:=St→Hp→(Bool→Hp→Prop)→Prop
abbrev TA:=St→Hp→(List V→Hp→Prop)→Prop
structure dW where
 nx:St→Hp→Prop
 rt:VK
 bk:St→Hp→Prop:=fun _ _=>False
 ct:St→Hp→Prop:=fun _ _=>False
abbrev TS:=dW→St→Hp→Prop
inductive aGG (X:Cx) (pins:List (Addr×Obj)) (σ:St) (Q:VK) (u:Value) (s':Shared):Prop
 | mk (v:_) (H':_) (q0:Inv X pins σ H' s') (q1:cS v u) (q2:Q v H'):aGG X pins σ Q u s'
def EP (X:Cx) (pins:List (Addr×Obj)) (σ:St) (Q:VK) (u:Value) (s':Shared):Prop:=aGG X pins σ Q u s'
def TP (X:Cx) (pins:List (Addr×Obj)) (σ:St) (Q:Bool→Hp→Prop) (b:Bool) (s':Shared):Prop:=∃ H',Inv X pins σ H' s'∧Q b H'
inductive aGH (X:Cx) (pins:List (Addr×Obj)) (σ:St) (Q:List V→Hp→Prop) (us:List Value) (s':Shared):Prop
 | mk (vs:_) (H':_) (q0:Inv X pins σ H' s') (q1:cO vs us) (q2:Q vs H'):aGH X pins σ Q us s'
def AP (X:Cx) (pins:List (Addr×Obj)) (σ:St) (Q:List V→Hp→Prop) (us:List Value) (s':Shared):Prop:=aGH X pins σ Q us s'
def SP (X:Cx) (pins:List (Addr×Obj)) (D:dW) (f:Flow) (s':Shared):Prop:=
 match f with
 | .next=>∃ σ' H',Inv X pins σ' H' s'∧D.nx σ' H'
 | .brk=>∃ σ' H',Inv X pins σ' H' s'∧D.bk σ' H'
 | .cont=>∃ σ' H',Inv X pins σ' H' s'∧D.ct σ' H'
 | .ret u=>∃ v σ' H',Inv X pins σ' H' s'∧cS v u∧D.rt v H'
structure PE (X:Cx) (e:Expr) (t:TE):Prop where
 run:
  ∀ (pins:List (Addr×Obj)) (s:Shared) (σ:St) (H:Hp) (Q:VK),Inv X pins σ H s→t σ H Q→wpAny (model X.prog X.w) X.A (eval e X.env) (EP X pins σ Q) X.xe s
instance {X:Cx} {e:Expr} {t:TE}:CoeFun (PE X e t) (fun _=>
 ∀ (pins:List (Addr×Obj)) (s:Shared) (σ:St) (H:Hp) (Q:VK),Inv X pins σ H s→t σ H Q→wpAny (model X.prog X.w) X.A (eval e X.env) (EP X pins σ Q) X.xe s):=⟨fun h=>h.run⟩
structure PT (X:Cx) (e:Expr) (t:TT):Prop where
 run:
  ∀ (pins:List (Addr×Obj)) (s:Shared) (σ:St) (H:Hp) (Q:Bool→Hp→Prop),Inv X pins σ H s→t σ H Q→wpAny (model X.prog X.w) X.A (isTrue e X.env (eval e X.env)) (TP X pins σ Q) X.xe s
instance {X:Cx} {e:Expr} {t:TT}:CoeFun (PT X e t) (fun _=>
 ∀ (pins:List (Addr×Obj)) (s:Shared) (σ:St) (H:Hp) (Q:Bool→Hp→Prop),Inv X pins σ H s→t σ H Q→wpAny (model X.prog X.w) X.A (isTrue e X.env (eval e X.env)) (TP X pins σ Q) X.xe s):=⟨fun h=>h.run⟩
structure PW (X:Cx) (e:Expr) (t:TT):Prop where
 run:
  ∀ (whole:Sem Value) (pins:List (Addr×Obj)) (s:Shared) (σ:St) (H:Hp) (Q:Bool→Hp→Prop),Inv X pins σ H s→t σ H Q→wpAny (model X.prog X.w) X.A (isTrue e X.env whole) (TP X pins σ Q) X.xe s
instance {X:Cx} {e:Expr} {t:TT}:CoeFun (PW X e t) (fun _=>
 ∀ (whole:Sem Value) (pins:List (Addr×Obj)) (s:Shared) (σ:St) (H:Hp) (Q:Bool→Hp→Prop),Inv X pins σ H s→t σ H Q→wpAny (model X.prog X.w) X.A (isTrue e X.env whole) (TP X pins σ Q) X.xe s):=⟨fun h=>h.run⟩
theorem PW.pt {X:Cx}{e:Expr}{t:TT} (h:PW X e t):PT X e t:=⟨h.run _⟩
structure PA (X:Cx) (es:List Expr) (t:TA):Prop where
 run:
  ∀ (pos:Pos) (pins:List (Addr×Obj)) (s:Shared) (σ:St) (H:Hp) (Q:List V→Hp→Prop),Inv X pins σ H s→t σ H Q→wpAny (model X.prog X.w) X.A (spliced (backTo pos (starEach es X.env))) (AP X pins σ Q) X.xe s
instance {X:Cx} {es:List Expr} {t:TA}:CoeFun (PA X es t) (fun _=>
 ∀ (pos:Pos) (pins:List (Addr×Obj)) (s:Shared) (σ:St) (H:Hp) (Q:List V→Hp→Prop),Inv X pins σ H s→t σ H Q→wpAny (model X.prog X.w) X.A (spliced (backTo pos (starEach es X.env))) (AP X pins σ Q) X.xe s):=⟨fun h=>h.run⟩
structure PS (X:Cx) (st:Stmt) (t:TS):Prop where
 run:
  ∀ (pins:List (Addr×Obj)) (s:Shared) (σ:St) (H:Hp) (D:dW),Inv X pins σ H s→t D σ H→wpAny (model X.prog X.w) X.A (exec st X.env) (SP X pins D) X.xe s
instance {X:Cx} {st:Stmt} {t:TS}:CoeFun (PS X st t) (fun _=>
 ∀ (pins:List (Addr×Obj)) (s:Shared) (σ:St) (H:Hp) (D:dW),Inv X pins σ H s→t D σ H→wpAny (model X.prog X.w) X.A (exec st X.env) (SP X pins D) X.xe s):=⟨fun h=>h.run⟩
structure PSs (X:Cx) (st:List Stmt) (t:TS):Prop where
 run:
  ∀ (pins:List (Addr×Obj)) (s:Shared) (σ:St) (H:Hp) (D:dW),Inv X pins σ H s→t D σ H→wpAny (model X.prog X.w) X.A (execs st X.env) (SP X pins D) X.xe s
instance {X:Cx} {st:List Stmt} {t:TS}:CoeFun (PSs X st t) (fun _=>
 ∀ (pins:List (Addr×Obj)) (s:Shared) (σ:St) (H:Hp) (D:dW),Inv X pins σ H s→t D σ H→wpAny (model X.prog X.w) X.A (execs st X.env) (SP X pins D) X.xe s):=⟨fun h=>h.run⟩
theorem thn {α:Type}{t:Sem α}{Q Q':α→Shared→Prop}{M:Model}{A:Around}{E:Value→Shared→Prop}{s:Shared} (h:wpAny M A t Q E s) (hQ:∀ a s,Q a s→Q' a s):wpAny M A t Q' E s:=wpAny_mono h hQ fun _ _ x=>x
end L2
namespace L2
open PySem PySem.Spec PyProof.Rows
section
variable {X:Cx}
inductive aCx (i:Nat) (σ:St) (H:Hp) (Q:VK):Prop
 | mk (v:_) (q0:σ[i]?=some (some v)) (q1:Q v H):aCx i σ H Q
def aGI (i:Nat):TE:=fun σ H Q=>aCx i σ H Q
def tC (v:V):TE:=fun _ H Q=>Q v H
theorem aFQ {i:Nat}{x:Str}{pos:Pos} (hN:X.N[i]?=some x) (hv:Vis X.env.scope x) (hd:(x == ("__debug__":Str))=false:=by decide) (hcd:(x == ("__classdict__":Str))=false:=by decide):PE X (.Name x pos) (aGI i):=by
 constructor
 intro pins s σ H Q I h
 obtain ⟨v,e,h⟩:=h
 obtain ⟨m,hn,hl⟩:=I.loc
 obtain ⟨u,r,l⟩:=hl i x v hN e hv
 have fin:EP X pins σ Q u s:=⟨v,H,I,r,h⟩
 rcases l with ⟨hk,hm⟩ | ⟨hk,c,hc,hcell⟩
 ·exact wpAny_Name (wpAny_loadName_local I.ok.kind hk hn hm fin) hd
 ·rcases hk with hk | hk
  ·exact wpAny_Name (wpAny_loadName_cell I.ok.kind hk hc hcell fin) hd
  ·exact wpAny_Name (wpAny_loadName_free I.ok.kind hk hc hcell fin hcd) hd
theorem aG {i j pos}:PE X (.Constant (.int i) j pos) (tC (.int i)):=⟨fun _ _ _ H _ I h=>wpAny_Constant_int ⟨.int i,H,I.tok _,⟨_,rfl⟩,h⟩⟩
theorem uJ {b j pos}:PE X (.Constant (.bool b) j pos) (tC (.bl b)):=⟨fun _ _ _ H _ I h=>Constant_bool ⟨.bl b,H,I,rfl,h⟩⟩
theorem rO {j pos}:PE X (.Constant .none j pos) (tC .non):=⟨fun _ _ _ H _ I h=>Constant_none ⟨.non,H,I,rfl,h⟩⟩
theorem aV {x j pos}:PE X (.Constant (.str x) j pos) (tC (.str x)):=⟨fun _ _ _ H _ I h=>Calls.Constant_str ⟨.str x,H,I.tok _,⟨_,rfl⟩,h⟩⟩
def Gl (X:Cx) (x:Str):Prop:=X.env.kindOf x=some .globalImplicit
theorem nX {E:Value→Shared→Prop}{pins:List (Addr×Obj)}{s:Shared}{σ:St}{H:Hp}{x:Str}{u:Value}{pos:Pos}{Q:Value→Shared→Prop} (I:Inv X pins σ H s) (hg:Gl X x) (hm:X.mg x=some u) (h:Q u s)
  (hd:(x == ("__debug__":Str))=false:=by decide):wpAny (model X.prog X.w) X.A (eval (.Name x pos) X.env) Q E s:=
 Calls.Name_function_global I.ok.kind hg (Calls.loadGlobal_global (by rw [I.ok.glob];exact I.mod.glob.keeps I.bk) hm h) hd
theorem pA {E:Value→Shared→Prop}{pins:List (Addr×Obj)}{s:Shared}{σ:St}{H:Hp}{x:Str}{u:Value}{pos:Pos}{Q:Value→Shared→Prop} (I:Inv X pins σ H s) (hg:Gl X x) (hm:X.mg x=none) (hv:bootBuiltins x=some u) (h:Q u s)
  (hn:x≠"__name__":=by decide) (hd:(x == ("__debug__":Str))=false:=by decide):wpAny (model X.prog X.w) X.A (eval (.Name x pos) X.env) Q E s:=by
 obtain ⟨mb,h1,h2⟩:=I.mod.blt
 exact Calls.Name_function_global I.ok.kind hg (Calls.loadGlobal_builtin (by rw [I.ok.glob];exact I.mod.glob.keeps I.bk) hm (by rw [I.ok.blt];exact h1.keeps I.bk) ((h2 x hn).trans hv) h) hd
theorem d8 {x:Str}{v:V}{u:Value}{pos:Pos} (hg:Gl X x) (hm:X.mg x=some u) (r:cS v u) (hd:(x == ("__debug__":Str))=false:=by decide):PE X (.Name x pos) (tC v):=
 ⟨fun _ _ _ H _ I h=>nX I hg hm ⟨v,H,I,r,h⟩ hd⟩
theorem aAB {x:Str}{v:V}{u:Value}{pos:Pos} (hg:Gl X x) (hm:X.mg x=none) (hv:bootBuiltins x=some u) (r:cS v u) (hn:x≠"__name__":=by decide) (hd:(x == ("__debug__":Str))=false:=by decide):PE X (.Name x pos) (tC v):=
 ⟨fun _ _ _ H _ I h=>pA I hg hm hv ⟨v,H,I,r,h⟩ hn hd⟩
variable {a b:Expr}{ta tb:TE}{pos:Pos}
structure PC (X:Cx) (op:CmpOp) (a b:Expr) (t:TE):Prop where
 run:
  ∀ (pins:List (Addr×Obj)) (s:Shared) (σ:St) (H:Hp) (Q:VK),Inv X pins σ H s→t σ H Q→
   wpAny (model X.prog X.w) X.A (eval a X.env) (fun v s₁=>wpAny (model X.prog X.w) X.A (eval b X.env) (fun u s₂=>wpAny (model X.prog X.w) X.A (compareOp op v u) (EP X pins σ Q) X.xe s₂) X.xe s₁) X.xe s
instance {X:Cx} {op:CmpOp} {a b:Expr} {t:TE}:CoeFun (PC X op a b t) (fun _=>
 ∀ (pins:List (Addr×Obj)) (s:Shared) (σ:St) (H:Hp) (Q:VK),Inv X pins σ H s→t σ H Q→
  wpAny (model X.prog X.w) X.A (eval a X.env) (fun v s₁=>wpAny (model X.prog X.w) X.A (eval b X.env) (fun u s₂=>wpAny (model X.prog X.w) X.A (compareOp op v u) (EP X pins σ Q) X.xe s₂) X.xe s₁) X.xe s):=⟨fun h=>h.run⟩
theorem xD (b:Expr) {op:CmpOp} (h:op≠.In) (h2:op≠.NotIn):behindInMarks op b=false:=by
 have e1:(op == CmpOp.In)=false:=by cases op <;> first | rfl | exact absurd rfl h
 have e2:(op == CmpOp.NotIn)=false:=by cases op <;> first | rfl | exact absurd rfl h2
 cases b <;> simp [behindInMarks,e1,e2]
def aHx (ta:TE):TE:=fun σ H Q=>ta σ H fun x H1=>Q (.bl (decide (x=.non))) H1
def aGJ (ta:TE):TE:=fun σ H Q=>ta σ H fun x H1=>Q (.bl (!decide (x=.non))) H1
theorem cS.none_iff {x:V}{v:Value} (r:cS x v):(v == Value.none)=decide (x=.non):=by
 cases x with
 | non=>cases r;rfl
 | bl _=>cases r;rfl
 | int _=>obtain ⟨t,rfl⟩:=r;rfl
 | str _=>obtain ⟨t,rfl⟩:=r;rfl
 | byt _=>obtain ⟨t,rfl⟩:=r;rfl
 | flt _=>obtain ⟨t,rfl⟩:=r;rfl
 | ref _=>cases r;rfl
 | ty _=>cases r;rfl
theorem aCy {j pos'} (ha:PE X a ta):PC X .Is a (.Constant .none j pos') (aHx ta):=by
 constructor
 intro pins s σ H Q I h
 refine thn (ha pins s σ H _ I h) fun v s1 ⟨x,H1,I1,r1,q1⟩=>?_
 exact Constant_none (is_none_gen ⟨.bl _,H1,I1,by rw [r1.none_iff];rfl,q1⟩)
theorem rA {j pos'} (ha:PE X a ta):PC X .IsNot a (.Constant .none j pos') (aGJ ta):=by
 constructor
 intro pins s σ H Q I h
 refine thn (ha pins s σ H _ I h) fun v s1 ⟨x,H1,I1,r1,q1⟩=>?_
 exact Constant_none (isnot_none_gen ⟨.bl _,H1,I1,by rw [r1.none_iff];rfl,q1⟩)
inductive As {α:Type} (f:α→V) (x:V) (Q:α→Prop):Prop
 | mk (c:α) (h:x=f c) (q:Q c):As f x Q
def tB (t:TE):TT:=fun σ H Q=>t σ H fun x H1=>As V.bl x fun c=>Q c H1
theorem aCz {op:CmpOp}{t:TE} (h:PC X op a b t) (h1:behindInMarks op b=false:=by first | exact xD _ (by decide) (by decide) | rfl):PE X (.Compare a [op] [b] pos) t:=⟨fun pins s σ H Q I hw=>wpAny_Compare1 (h pins s σ H Q I hw) h1⟩
theorem gX {op:CmpOp}{t:TE} (h:PC X op a b t) (h1:behindInMarks op b=false:=by first | exact xD _ (by decide) (by decide) | rfl):PT X (.Compare a [op] [b] pos) (tB t):=by
 constructor
 intro pins s σ H Q I hw
 refine wpAny_isTrue_Compare1 (thn (h pins s σ H _ I hw) fun v s1 h1=>thn h1 fun u s2 h2=>thn h2 fun c s3 ⟨x,H1,I1,r1,q1⟩=>?_) h1
 obtain ⟨d,rfl,q⟩:=q1
 cases r1
 exact wpAny_truthy_bool ⟨H1,I1,q⟩
theorem gJ {e:Expr}{t:TE} (h:PE X e t) (he:∀ whole,isTrue e X.env whole=(do let v ← whole;standAt e.pos;holding [v] (truthy v)):=by intro _;rfl):PT X e (tB t):=by
 constructor
 intro pins s σ H Q I hw
 refine isTrue_plain (thn (h pins s σ H _ I hw) fun v s1 ⟨x,H1,I1,r1,q1⟩=>?_) (he _)
 obtain ⟨d,rfl,q⟩:=q1
 cases r1
 exact wpAny_truthy_bool ⟨H1,I1,q⟩
variable {tA tB':TT}{b8:List Expr}
def aHy (t u:TT):TT:=fun σ H Q=>t σ H fun c H1=>if c=true then u σ H1 Q else Q false H1
def tOr (t u:TT):TT:=fun σ H Q=>t σ H fun c H1=>if c=true then Q true H1 else u σ H1 Q
def aHz (t:TT):TT:=fun σ H Q=>t σ H fun c H1=>Q (!c) H1
theorem gC (ha:PT X a tA):PW X (.BoolOp .And [a] pos) tA:=by
 constructor
 intro wh pins s σ H Q I h
 refine isTrue_and (thn (ha pins s σ H Q I h) fun c s1 e=>?_)
 cases c with
 | true=>exact isTrue_and_nil e
 | false=>exact e
theorem aCA (ha:PT X a tA):PW X (.BoolOp .Or [a] pos) tA:=by
 constructor
 intro wh pins s σ H Q I h
 refine isTrue_or (thn (ha pins s σ H Q I h) fun c s1 e=>?_)
 cases c with
 | false=>exact isTrue_or_nil e
 | true=>exact e
theorem f6 (ha:PT X a tA) (hb:PW X (.BoolOp .And (b :: b8) pos) tB'):PW X (.BoolOp .And (a :: b :: b8) pos) (aHy tA tB'):=by
 constructor
 intro wh pins s σ H Q I h
 refine isTrue_and (thn (ha pins s σ H _ I h) fun c s1 ⟨H1,I1,q1⟩=>?_)
 cases c with
 | true=>exact hb wh pins s1 σ H1 Q I1 q1
 | false=>exact ⟨H1,I1,q1⟩
theorem aFr (ha:PT X a tA) (hb:PW X (.BoolOp .Or (b :: b8) pos) tB'):PW X (.BoolOp .Or (a :: b :: b8) pos) (tOr tA tB'):=by
 constructor
 intro wh pins s σ H Q I h
 refine isTrue_or (thn (ha pins s σ H _ I h) fun c s1 ⟨H1,I1,q1⟩=>?_)
 cases c with
 | true=>exact ⟨H1,I1,q1⟩
 | false=>exact hb wh pins s1 σ H1 Q I1 q1
theorem wA (ha:PT X a tA):PT X (.UnaryOp .Not a pos) (aHz tA):=by
 constructor
 intro pins s σ H Q I h
 exact isTrue_not (ha pins s σ H (fun c H1=>Q (!c) H1) I h)
def aGK (ta tb:TE):TE:=fun σ H Q=>ta σ H fun x H1=>As V.bl x fun c=>if c=true then tb σ H1 Q else Q (.bl false) H1
theorem aFR {op}{t:TE} (h:PE X a t):PE X (.BoolOp op [a] pos) t:=⟨fun pins s σ H Q I hw=>BoolOp_one (h pins s σ H Q I hw)⟩
theorem aFS (ha:PE X a ta) (hb:PE X (.BoolOp .And (b :: b8) pos) tb):PE X (.BoolOp .And (a :: b :: b8) pos) (aGK ta tb):=by
 constructor
 intro pins s σ H Q I h
 refine BoolOp_and (thn (ha pins s σ H _ I h) fun v s1 ⟨x,H1,I1,r1,q1⟩=>?_)
 obtain ⟨c,rfl,q1⟩:=q1
 cases r1
 refine wpAny_truthy_bool ?_
 cases c with
 | true=>exact hb pins s1 σ H1 Q I1 q1
 | false=>exact ⟨.bl false,H1,I1,rfl,q1⟩
def tIf (t:TT) (ta tb:TE):TE:=fun σ H Q=>t σ H fun c H1=>if c=true then ta σ H1 Q else tb σ H1 Q
theorem aCB {c:Expr} (hc:PT X c tA) (ha:PE X a ta) (hb:PE X b tb):PE X (.IfExp c a b pos) (tIf tA ta tb):=by
 constructor
 intro pins s σ H Q I h
 refine wpAny_IfExp (thn (hc pins s σ H _ I h) fun d s1 ⟨H1,I1,q1⟩=>?_)
 cases d with
 | true=>exact ha pins s1 σ H1 Q I1 q1
 | false=>exact hb pins s1 σ H1 Q I1 q1
end
end L2
namespace L2
open PySem PySem.Spec PyProof.Rows
def SqL (K:PySem.W.Frag) (H:Hp) (a:Addr) (xs:List V):Prop:=
 Rd H a (.lst xs)∨
  ∃ (o:Obj) (its:Array Value) (n:Nat),K.lookup a=some o∧o.cls=.type "list"∧o.dict=none∧o.data=.seq its n∧its.size≤sizeLine∧cO xs its.toList
def SqT (K:PySem.W.Frag) (H:Hp) (a:Addr) (xs:List V):Prop:=
 Rd H a (.tup xs)∨
  ∃ (o:Obj) (its:Array Value) (n:Nat),K.lookup a=some o∧o.cls=.type "tuple"∧o.data=.seq its n∧its.size≤sizeLine∧cO xs its.toList
def aHA:Value→Option V
 | .none=>some .non
 | .bool b=>some (.bl b)
 | .int i _=>some (.int i)
 | .str x _=>some (.str x)
 | .bytes b _=>some (.byt b)
 | .float b _=>some (.flt b)
 | .ref a=>some (.ref a)
 | .type n=>some (.ty n)
 | _=>none
theorem cS.abs {x:V}{u:Value} (r:cS x u):aHA u=some x:=by
 cases x with
 | non=>cases r;rfl
 | bl _=>cases r;rfl
 | int _=>obtain ⟨t,rfl⟩:=r;rfl
 | str _=>obtain ⟨t,rfl⟩:=r;rfl
 | byt _=>obtain ⟨t,rfl⟩:=r;rfl
 | flt _=>obtain ⟨t,rfl⟩:=r;rfl
 | ref _=>cases r;rfl
 | ty _=>cases r;rfl
theorem cS.inj {x y:V}{u:Value} (r:cS x u) (q:cS y u):x=y:=Option.some.inj (r.abs.symm.trans q.abs)
theorem cO.inj:∀ {xs ys:List V}{us:List Value},cO xs us→cO ys us→xs=ys
 | _,_,_,.nil,.nil=>rfl
 | _,_,_,.cons r t,.cons r' t'=>by rw [r.inj r',cO.inj t t']
section
variable {X:Cx}{pins:List (Addr×Obj)}{σ:St}{H:Hp}{s:Shared}{a:Addr}{xs ys:List V}
theorem SqL.of {K:PySem.W.Frag} (h:H a=some (.lst xs)):SqL K H a xs:=.inl (.inl h)
theorem SqT.of {K:PySem.W.Frag} (h:H a=some (.tup xs)):SqT K H a xs:=.inl (.inl h)
theorem Inv.list (I:Inv X pins σ H s) (h:SqL X.K H a xs):∃ its:List Value,cO xs its∧PlainL s.heap a its.toArray∧xs.length≤sizeLine:=by
 rcases h with h | ⟨o,its,n,hk,hc,hd,hs,hz,r⟩
 ·obtain ⟨z,its,n,r,e⟩:=h.ok I.hok
  exact ⟨its,r,⟨_,n,e,rfl,rfl,rfl⟩,z⟩
 ·refine ⟨its.toList,r,⟨o,n,I.kIn a o hk,hc,hd,by simpa using hs⟩,?_⟩
  have e:=r.length
  simp only [Array.length_toList] at e
  omega
theorem Inv.tuple (I:Inv X pins σ H s) (h:SqT X.K H a xs):∃ its:List Value,cO xs its∧IsTup s.heap a its.toArray∧xs.length≤sizeLine:=by
 rcases h with h | ⟨o,its,n,hk,hc,hs,hz,r⟩
 ·obtain ⟨z,its,r,p⟩:=h.ok I.hok
  exact ⟨its,r,p.tup,z⟩
 ·refine ⟨its.toList,r,⟨o,I.kIn a o hk,hc,n,by simpa using hs⟩,?_⟩
  have e:=r.length
  simp only [Array.length_toList] at e
  omega
theorem Inv.list_inj (I:Inv X pins σ H s) (h:SqL X.K H a xs) (h':SqL X.K H a ys):xs=ys:=by
 obtain ⟨its,r,⟨o,n,e,_,_,d⟩,_⟩:=I.list h
 obtain ⟨its',r',⟨o',n',e',_,_,d'⟩,_⟩:=I.list h'
 rw [e] at e';cases e'
 rw [d] at d'
 injection d' with d1 _
 have:its=its':=by simpa using congrArg Array.toList d1
 subst this
 exact r.inj r'
theorem Inv.tuple_inj (I:Inv X pins σ H s) (h:SqT X.K H a xs) (h':SqT X.K H a ys):xs=ys:=by
 obtain ⟨its,r,⟨o,e,_,n,d⟩,_⟩:=I.tuple h
 obtain ⟨its',r',⟨o',e',_,n',d'⟩,_⟩:=I.tuple h'
 rw [e] at e';cases e'
 rw [d] at d'
 injection d' with d1 _
 have:its=its':=by simpa using congrArg Array.toList d1
 subst this
 exact r.inj r'
end
abbrev Cx.wish (X:Cx) (E:Value→Shared→Prop):Cx:={ X with xe:=E }
abbrev Cx.nox (X:Cx):Cx:=X.wish fun _ _=>False
theorem Cx.Ok.wish {X:Cx} (ok:X.Ok) (E:Value→Shared→Prop):(X.wish E).Ok:=
 ⟨ok.mod,ok.kind,ok.glob,ok.blt,ok.above,ok.inj,ok.has,ok.cab,ok.hd,ok.frames,ok.stk,ok.exf,ok.bs,ok.bsz,ok.noex,ok.exfs,ok.funs,ok.frf⟩
theorem Cx.Ok.unwish {X:Cx}{E:Value→Shared→Prop} (ok:(X.wish E).Ok):X.Ok:=
 ⟨ok.mod,ok.kind,ok.glob,ok.blt,ok.above,ok.inj,ok.has,ok.cab,ok.hd,ok.frames,ok.stk,ok.exf,ok.bs,ok.bsz,ok.noex,ok.exfs,ok.funs,ok.frf⟩
section
variable {X:Cx}{pins:List (Addr×Obj)}{σ:St}{H:Hp}{s:Shared}{E:Value→Shared→Prop}
theorem Inv.wish (I:Inv X pins σ H s) (E:Value→Shared→Prop):Inv (X.wish E) pins σ H s:=⟨I.ok.wish E,I.os,I.bare,I.base,I.loc,I.cell,I.free,I.freeC,I.pin,I.hok,I.len⟩
theorem Inv.unwish (I:Inv (X.wish E) pins σ H s):Inv X pins σ H s:=⟨I.ok.unwish,I.os,I.bare,I.base,I.loc,I.cell,I.free,I.freeC,I.pin,I.hok,I.len⟩
theorem SP.unwish {D:dW}{f:Flow}{s':Shared} (h:SP (X.wish E) pins D f s'):SP X pins D f s':=by
 cases f with
 | next=>obtain ⟨σ',H',I,q⟩:=h;exact ⟨σ',H',I.unwish,q⟩
 | brk=>obtain ⟨σ',H',I,q⟩:=h;exact ⟨σ',H',I.unwish,q⟩
 | cont=>obtain ⟨σ',H',I,q⟩:=h;exact ⟨σ',H',I.unwish,q⟩
 | ret u=>obtain ⟨v,σ',H',I,r,q⟩:=h;exact ⟨v,σ',H',I.unwish,r,q⟩
theorem PSs.nox {st:List Stmt}{t:TS} (h:PSs X.nox st t):PSs X st t:=⟨fun pins s σ H D I hw=>
 wpAny_mono (h pins s σ H D (I.wish _) hw) (fun _ _ q=>q.unwish) fun _ _ z=>False.elim z⟩
end
section
variable {X:Cx}{st:Stmt}{b8:List Stmt}{t u:TS}{e:Expr}{te:TE}{pos:Pos}
def aGL:TS:=fun D σ H=>D.nx σ H
def aHB (t u:TS):TS:=fun D σ H=>t { D with nx:=u D } σ H
theorem bH:PSs X [] aGL:=⟨fun _ _ σ H _ I h=>wpAny_execs_nil ⟨σ,H,I,h⟩⟩
theorem aA (h1:PS X st t) (h2:PSs X b8 u):PSs X (st :: b8) (aHB t u):=by
 constructor
 intro pins s σ H D I h
 refine wpAny_execs_cons (thn (h1 pins s σ H { D with nx:=u D } I h) fun f s1 q=>?_)
 cases f with
 | next=>
  obtain ⟨σ',H',I',q⟩:=q
  exact h2 pins s1 σ' H' D I' q
 | ret v=>exact q
 | brk=>exact q
 | cont=>exact q
theorem aQ (h1:PS X st t):PSs X [st] t:=by
 constructor
 intro pins s σ H D I h
 refine wpAny_execs_cons (thn (h1 pins s σ H D I h) fun f s1 q=>?_)
 cases f with
 | next=>exact wpAny_execs_nil q
 | ret v=>exact q
 | brk=>exact q
 | cont=>exact q
theorem Inv.quiet {pins:List (Addr×Obj)}{σ:St}{H:Hp}{s:Shared} (I:Inv X pins σ H s):interactive X.env=false:=by simp [interactive,I.ok.kind]
def aGM (te:TE):TS:=fun D σ H=>te σ H fun _ H1=>D.nx σ H1
theorem dJ (he:PE X e te) (hs:swapsWith e none pos.line X.env=pure false:=by rfl):PS X (.Expr e pos) (aGM te):=by
 constructor
 intro pins s σ H D I h
 exact wpAny_Expr_any (thn (he pins s σ H _ I h) fun v s1 ⟨x,H1,I1,r1,q1⟩=>⟨σ,H1,I1,q1⟩) I.quiet hs
def aHC (te:TE):TS:=fun D σ H=>te σ H D.rt
theorem bE (he:PE X e te):PS X (.Return (some e) pos) (aHC te):=by
 constructor
 intro pins s σ H D I h
 exact wpAny_Return_some (thn (he pins s σ H _ I h) fun v s1 ⟨x,H1,I1,r1,q1⟩=>⟨x,σ,H1,I1,r1,q1⟩)
def aHD (c:TT) (t u:TS):TS:=fun D σ H=>c σ H fun b H1=>if b=true then t D σ H1 else u D σ H1
theorem cU {c:Expr}{a b:List Stmt}{tc:TT} (hc:PT X c tc) (ha:PSs X a t) (hb:PSs X b u):PS X (.If c a b pos) (aHD tc t u):=by
 constructor
 intro pins s σ H D I h
 refine wpAny_If (thn (hc pins s σ H _ I h) fun d s1 ⟨H1,I1,q1⟩=>?_)
 cases d with
 | true=>exact ha pins s1 σ H1 D I1 q1
 | false=>exact hb pins s1 σ H1 D I1 q1
end
abbrev TG:=V→St→Hp→(St→Hp→Prop)→Prop
abbrev TGs:=List V→St→Hp→(St→Hp→Prop)→Prop
structure PG (X:Cx) (target:Expr) (t:TG):Prop where
 run:
  ∀ (pins:List (Addr×Obj)) (s:Shared) (σ:St) (H:Hp) (v:V) (u:Value) (Q:St→Hp→Prop),Inv X pins σ H s→cS v u→t v σ H Q→
   wpAny (model X.prog X.w) X.A (assign target X.env u) (fun _ s'=>∃ σ' H',Inv X pins σ' H' s'∧Q σ' H') X.xe s
instance {X:Cx} {target:Expr} {t:TG}:CoeFun (PG X target t) (fun _=>
 ∀ (pins:List (Addr×Obj)) (s:Shared) (σ:St) (H:Hp) (v:V) (u:Value) (Q:St→Hp→Prop),Inv X pins σ H s→cS v u→t v σ H Q→
  wpAny (model X.prog X.w) X.A (assign target X.env u) (fun _ s'=>∃ σ' H',Inv X pins σ' H' s'∧Q σ' H') X.xe s):=⟨fun h=>h.run⟩
structure PGs (X:Cx) (ts:List Expr) (t:TGs):Prop where
 run:
  ∀ (pins:List (Addr×Obj)) (s:Shared) (σ:St) (H:Hp) (vs:List V) (us:List Value) (Q:St→Hp→Prop),Inv X pins σ H s→cO vs us→t vs σ H Q→
   wpAny (model X.prog X.w) X.A (assignInOrder ((assignEach ts X.env).map (·.2)) us) (fun _ s'=>∃ σ' H',Inv X pins σ' H' s'∧Q σ' H') X.xe s
instance {X:Cx} {ts:List Expr} {t:TGs}:CoeFun (PGs X ts t) (fun _=>
 ∀ (pins:List (Addr×Obj)) (s:Shared) (σ:St) (H:Hp) (vs:List V) (us:List Value) (Q:St→Hp→Prop),Inv X pins σ H s→cO vs us→t vs σ H Q→
  wpAny (model X.prog X.w) X.A (assignInOrder ((assignEach ts X.env).map (·.2)) us) (fun _ s'=>∃ σ' H',Inv X pins σ' H' s'∧Q σ' H') X.xe s):=⟨fun h=>h.run⟩
abbrev aFT:=V→V→V→Hp→(Hp→Prop)→Prop
def aGN (X:Cx) (t:aFT):Prop:=
 ∀ (pins:List (Addr×Obj)) (s:Shared) (σ:St) (H:Hp) (o i v:V) (ov iv u:Value) (Q:Hp→Prop),Inv X pins σ H s→cS o ov→cS i iv→cS v u→t o i v H Q→
  wpAny (model X.prog X.w) X.A (setItem ov iv u) (fun _ s'=>∃ H',Inv X pins σ H' s'∧Q H') X.xe s
abbrev TIp:=V→V→Hp→VK→Prop
def PIp (X:Cx) (op:Operator) (t:TIp):Prop:=
 ∀ (pins:List (Addr×Obj)) (s:Shared) (σ:St) (H:Hp) (x y:V) (v u:Value) (Q:VK),Inv X pins σ H s→cS x v→cS y u→t x y H Q→
  wpAny (model X.prog X.w) X.A (inplaceOp op v u) (EP X pins σ Q) X.xe s
section
variable {X:Cx}{pos:Pos}
def cY (i:Nat):TG:=fun v σ H Q=>Q (σ.set i (some v)) H
theorem bG {i:Nat}{x:Str} (hN:X.N.Nodup) (hi:X.N[i]?=some x) (hx:Loc X.env.scope x) (hf:X.fn x=true∨X.env.scope.names.lookup x=some .local:=by first | exact .inl rfl | exact .inr rfl | assumption):PG X (.Name x pos) (cY i):=by
 constructor
 intro pins s σ H v u Q I r h
 exact wpAny_assign_Name (iX I hN hi hx r (fun s' I'=>⟨_,H,I',h⟩) hf)
def aBM:TGs:=fun vs σ H Q=>vs=[]∧Q σ H
inductive aAC (t:TG) (u:TGs) (vs:List V) (σ:St) (H:Hp) (Q:(St→Hp→Prop)):Prop
 | mk (v:_) (r:_) (q0:vs=v :: r) (q1:t v σ H fun σ' H'=>u r σ' H' Q):aAC t u vs σ H Q
def iE (t:TG) (u:TGs):TGs:=fun vs σ H Q=>aAC t u vs σ H Q
theorem gL:PGs X [] aBM:=by
 constructor
 intro pins s σ H vs us Q I r h
 obtain ⟨e,h⟩:=h
 subst e
 cases r
 exact assignInOrder_nil ⟨σ,H,I,h⟩
theorem cH {e:Expr}{es:List Expr}{t:TG}{u:TGs} (h1:PG X e t) (h2:PGs X es u)
  (hs:(assignEach (e :: es) X.env).map (·.2)=assign e X.env :: (assignEach es X.env).map (·.2):=by rfl):PGs X (e :: es) (iE t u):=by
 constructor
 intro pins s σ H vs us Q I r h
 obtain ⟨v,vr,e1,h⟩:=h
 subst e1
 cases r with
 | cons r rr=>
  rw [hs]
  refine assignInOrder_cons (thn (h1 pins s σ H _ _ _ I r h) fun _ s1 ⟨σ1,H1,I1,q1⟩=>?_)
  exact h2 pins s1 σ1 H1 _ _ Q I1 rr q1
inductive aCC (K:PySem.W.Frag) (n:Nat) (t:TGs) (v:V) (σ:St) (H:Hp) (Q:(St→Hp→Prop)):Prop
 | mk (a:_) (xs:_) (q0:v=.ref a) (q1:SqT K H a xs) (q2:xs.length=n) (q3:t xs σ H Q):aCC K n t v σ H Q
def aBN (K:PySem.W.Frag) (n:Nat) (t:TGs):TG:=fun v σ H Q=>aCC K n t v σ H Q
theorem iY {es:List Expr}{k:Nat}{t:TGs}{n:Nat} (hc:X.calm=true) (h:PGs X es t)
  (hn:(assignEach es X.env).length=n:=by rfl) (hst:(assignEach es X.env).findIdx? (·.1)=none:=by rfl):PG X (.Tuple es k pos) (aBN X.K n t):=by
 constructor
 intro pins s σ H v u Q I r hw
 obtain ⟨a,xs,e1,hq,hl,hw⟩:=hw
 subst e1
 cases r
 obtain ⟨its,rv,ht,hz⟩:=I.tuple hq
 refine assign_Tuple_tuple (I.ok.hd hc) ht (by simp [hn,← hl,rv.length]) hst fun h' hx=>?_
 have I1:Inv X pins σ H { s with heap:=h' }:=I.kept (t':=s.toks) fun b o e=>hx b o (Nat.ne_of_lt (Heap.lt_size e)) e
 exact h pins _ σ H xs _ Q I1 (by simpa using rv) hw
def aHE (to ti:TE) (t:aFT):TG:=fun v σ H Q=>to σ H fun o H1=>ti σ H1 fun i H2=>t o i v H2 fun H3=>Q σ H3
theorem aCD {o i:Expr}{to ti:TE}{t:aFT} (ho:PE X o to) (hi:PE X i ti) (hs:aGN X t)
  (ha:∀ v,assign (.Subscript o i pos) X.env v=(do
   let ov ← holding [v] (eval o X.env)
   let iv ← holding [v,ov] (eval i X.env)
   standAt pos
   holding [v,ov,iv] (setItem ov iv v)
   release [v,ov,iv] []):=by intro _;rfl):PG X (.Subscript o i pos) (aHE to ti t):=by
 constructor
 intro pins s σ H v u Q I r h
 rw [ha]
 refine wpAny_bind (wpAny_holding (thn (ho pins s σ H _ I h) fun ov s1 ⟨x,H1,I1,r1,q1⟩=>?_))
 refine wpAny_bind (wpAny_holding (thn (hi pins s1 σ H1 _ I1 q1) fun iv s2 ⟨y,H2,I2,r2,q2⟩=>?_))
 refine wpAny_bind (wpAny_standAt (wpAny_bind (wpAny_holding (thn (hs pins s2 σ H2 x y v ov iv u _ I2 r1 r2 r q2) fun _ s3 ⟨H3,I3,q3⟩=>?_))))
 exact wpAny_release ⟨σ,H3,I3,q3⟩
def aFU (te:TE) (g:TG):TS:=fun D σ H=>te σ H fun x H1=>g x σ H1 D.nx
theorem lH {tg e:Expr}{te:TE}{g:TG} (he:PE X e te) (hg:PG X tg g) (hs:swapsWithSole [tg] e pos.line X.env=pure false:=by rfl) (hw:swappedStores [tg] e X.env=pure none:=by rfl)
  (h1:(assignEach [tg] X.env).map (·.2)=[assign tg X.env]:=by rfl):PS X (.Assign [tg] e pos) (aFU te g):=by
 constructor
 intro pins s σ H D I h
 refine wpAny_Assign_stores (thn (he pins s σ H _ I h) fun v s1 ⟨x,H1,I1,r1,q1⟩=>?_) hs hw
 rw [h1]
 exact thn (hg pins s1 σ H1 x v _ I1 r1 q1) fun _ s2 q=>q
theorem aW {i:Nat}{x:Str}{e:Expr}{te:TE}{pos':Pos} (hN:X.N.Nodup) (hi:X.N[i]?=some x) (hx:Loc X.env.scope x) (he:PE X e te) (hs:swapsWith e (some (.Name x pos')) pos.line X.env=pure false:=by rfl) (hf:X.fn x=true∨X.env.scope.names.lookup x=some .local:=by first | exact .inl rfl | exact .inr rfl | assumption):
  PS X (.Assign [.Name x pos'] e pos) (aFU te (cY i)):=by
 constructor
 intro pins s σ H D I h
 refine wpAny_Assign_Name (thn (he pins s σ H _ I h) fun v s1 ⟨y,H1,I1,r1,q1⟩=>?_) hs
 exact iX I1 hN hi hx r1 (fun s2 I2=>⟨_,H1,I2,q1⟩) hf
def aHF (i j:Nat) (ta:TA):TS:=fun D σ H=>ta σ H fun vs H1=>∃ v w,vs=[v,w]∧D.nx ((σ.set i (some v)).set j (some w)) H1
theorem wB {i j:Nat}{x y:Str}{a b:Expr}{ta:TA}{px py pt:Pos}{kt k2 pt2} (hc:X.calm=true) (hN:X.N.Nodup) (hi:X.N[i]?=some x) (hj:X.N[j]?=some y) (hij:i≠j)
  (hx:X.env.scope.names.lookup x=some .local) (hy:X.env.scope.names.lookup y=some .local) (ha:PA X [a,b] ta)
  (hw:swappedStores [.Tuple [.Name x px,.Name y py] kt pt] (.Tuple [a,b] k2 pt2) X.env=pure (some [x,y]))
  (hs:swapsWithSole [.Tuple [.Name x px,.Name y py] kt pt] (.Tuple [a,b] k2 pt2) pos.line X.env=pure false:=by rfl):
  PS X (.Assign [.Tuple [.Name x px,.Name y py] kt pt] (.Tuple [a,b] k2 pt2) pos) (aHF i j ta):=by
 constructor
 intro pins s σ H D I h
 rw [exec_Assign_arm]
 refine wpAny_bind (wpAny_standAt ?_)
 rw [hs]
 refine wpAny_bind (wpAny_pure ?_)
 rw [if_neg (by decide)]
 refine wpAny_bind (Tuple_ (thn (ha _ pins s σ H _ I h) fun us s1 ⟨vs,H1,I1,r1,q1⟩=>?_))
 obtain ⟨v,w,e1,q1⟩:=q1
 subst e1
 obtain ⟨u1,u2,rfl,rv,rw'⟩:∃ u1 u2,us=[u1,u2]∧cS v u1∧cS w u2:=by
  cases r1 with
  | cons p q=>
   cases q with
   | cons p' q'=>
    cases q'
    exact ⟨_,_,rfl,p,p'⟩
 refine wpAny_newObj_type ?_ (by show 2≤sizeLine;decide)
 have I2:Inv X pins σ H1 { s1 with heap:=s1.heap.push { cls:=.type "tuple",data:=.seq [u1,u2].toArray } }:=I1.kept (t':=s1.toks) fun b o e=>Heap.get?_push_of_some _ e
 rw [hw]
 refine wpAny_bind (wpAny_pure ?_)
 show wpAny (model X.prog X.w) X.A (do rule "assign.swapped-stores";let items ← unpackItems (.ref s1.heap.objs.size) 2 none;assignInOrder [fun v=>bindName X.env y v,fun v=>bindName X.env x v] items.reverse;pure Flow.next) _ _ _
 refine wpAny_bind (wpAny_rule (wpAny_bind (unpackItems_tuple (items:=#[u1,u2]) (I.ok.hd hc) (IsTup.new s1.heap _) fun h' hx'=>?_)))
 have I3:=I2.kept (h':=h') (t':=s1.toks) fun b o e=>hx' b o (Nat.ne_of_lt (Heap.lt_size e)) e
 show wpAny _ _ (assignInOrder [fun v=>bindName X.env y v,fun v=>bindName X.env x v] [u2,u1] >>= fun _=>pure Flow.next) _ _ _
 refine wpAny_bind (assignInOrder_cons (wpAny_bindName (iX I3 hN hj (.inl hy) rw' (fun s2 I4=>?_) (.inr hy))))
 refine assignInOrder_cons (wpAny_bindName (iX I4 hN hi (.inl hx) rv (fun s3 I5=>assignInOrder_nil (wpAny_pure ?_)) (.inr hx)))
 rw [List.set_comm _ _ (Ne.symm hij)] at I5
 exact ⟨_,H1,I5,q1⟩
inductive aCE (i:Nat) (te:TE) (ti:TIp) (D:dW) (σ:St) (H:Hp):Prop
 | mk (x:_) (q0:σ[i]?=some (some x)) (q1:te σ H fun y H1=>ti x y H1 fun z H2=>D.nx (σ.set i (some z)) H2):aCE i te ti D σ H
def aHG (i:Nat) (te:TE) (ti:TIp):TS:=fun D σ H=>aCE i te ti D σ H
theorem aCF {i:Nat}{x:Str}{e:Expr}{te:TE}{op:Operator}{ti:TIp}{pos':Pos} (hN:X.N.Nodup) (hi:X.N[i]?=some x) (hx:Loc X.env.scope x) (he:PE X e te) (ho:PIp X op ti) (hf:X.fn x=true∨X.env.scope.names.lookup x=some .local:=by first | exact .inl rfl | exact .inr rfl | assumption):
  PS X (.AugAssign (.Name x pos') op e pos) (aHG i te ti):=by
 constructor
 intro pins s σ H D I h
 obtain ⟨v,e1,h⟩:=h
 obtain ⟨m,hn,hl⟩:=I.loc
 have vis:Vis X.env.scope x:=by rcases hx with k | k;exact .inl k;exact .inr (.inl k)
 obtain ⟨u,r,l⟩:=hl i x v hi e1 vis
 refine wpAny_AugAssign_Name ?_
 have go:wpAny (model X.prog X.w) X.A (eval e X.env) (fun w s₂=>wpAny (model X.prog X.w) X.A (inplaceOp op u w) (fun r s₃=>wpAny (model X.prog X.w) X.A (storeName X.env x r) (fun _=>SP X pins D .next) X.xe s₃) X.xe s₂) X.xe s:=by
  refine thn (he pins s σ H _ I h) fun w s1 ⟨y,H1,I1,r1,q1⟩=>?_
  refine thn (ho pins s1 σ H1 v y u w _ I1 r r1 q1) fun z s2 ⟨zv,H2,I2,r2,q2⟩=>?_
  exact iX I2 hN hi hx r2 (fun s3 I3=>⟨_,H2,I3,q2⟩) hf
 rcases l with ⟨hk,hm⟩ | ⟨hk,c,hc,hcell⟩
 ·exact wpAny_loadName_local I.ok.kind hk hn hm go
 ·rcases hk with hk | hk
  ·exact wpAny_loadName_cell I.ok.kind hk hc hcell go
  ·rcases hx with k | k
   ·have:X.env.scope.names.lookup x=some .free:=hk
    rw [k] at this;cases this
   ·have:X.env.scope.names.lookup x=some .free:=hk
    rw [k] at this;cases this
def ipI (f:Int→Int→Int):TIp:=fun x y H Q=>∃ i j,x=.int i∧y=.int j∧Q (.int (f i j)) H
theorem aCG:PIp X .Add (ipI fun i j=>i + j):=by
 intro pins s σ H x y v u Q I r1 r2 h
 obtain ⟨i,j,e1,e2,q⟩:=h
 subst e1;subst e2
 obtain ⟨t,rfl⟩:=r1
 obtain ⟨t',rfl⟩:=r2
 exact iadd_int ⟨.int _,H,I.tok _,⟨_,rfl⟩,q⟩
end
section
variable {X:Cx}{pos:Pos}
inductive xE (c:TT) (tb:TS) (D:dW) (σ:St) (H:Hp):Prop
 | mk (W:Nat→St→Hp→Prop) (q0:(∃ m,W m σ H)) (q1:∀ m σ H,W m σ H→
 c σ H fun b H1=>if b=true then ∃ N:St→Hp→Prop,(∀ σ' H',N σ' H'→∃ m',m' < m∧W m' σ' H')∧tb { D with nx:=N,ct:=N,bk:=D.nx } σ H1 else D.nx σ H1):xE c tb D σ H
def aFV (c:TT) (tb:TS):TS:=fun D σ H=>xE c tb D σ H
theorem rP {c:Expr}{body:List Stmt}{tc:TT}{tb:TS} (hp:PassesOwn (model X.prog X.w) X.A X.env X.xe) (hc:PT X c tc) (hb:PSs X body tb):PS X (.While c body [] pos) (aFV tc tb):=by
 constructor
 intro pins s σ H D I h
 obtain ⟨W,⟨m0,w0⟩,turn⟩:=h
 refine wpAny_While (codeAny_whileLoop (fun n s'=>∃ σ' H',Inv X pins σ' H' s'∧W n σ' H') ?_ m0 ⟨σ,H,I,w0⟩)
 rintro n s1 ⟨σ1,H1,I1,w1⟩
 refine wpAny_passesOwn hp (thn (hc pins s1 σ1 H1 _ I1 (turn n σ1 H1 w1)) fun b s2 ⟨H2,I2,q2⟩=>?_)
 cases b with
 | true=>
  obtain ⟨N,hN,q2⟩:=q2
  rw [if_pos rfl]
  refine wpAny_passesOwn hp (thn (hb pins s2 σ1 H2 _ I2 q2) fun f s3 q3=>?_)
  cases f with
  | next=>
   obtain ⟨σ3,H3,I3,n3⟩:=q3
   obtain ⟨m',hm,w3⟩:=hN σ3 H3 n3
   exact ⟨m',hm,σ3,H3,I3,w3⟩
  | cont=>
   obtain ⟨σ3,H3,I3,n3⟩:=q3
   obtain ⟨m',hm,w3⟩:=hN σ3 H3 n3
   exact ⟨m',hm,σ3,H3,I3,w3⟩
  | brk=>exact q3
  | ret v=>exact q3
 | false=>
  rw [if_neg Bool.false_ne_true]
  exact wpAny_execs_nil ⟨σ1,H2,I2,q2⟩
end
structure It where
 go:Nat→Hp→Prop
 yld:Nat→Hp→V→Hp→Prop
 stop:Nat→Hp→Prop
def jA (X:Cx) (pins:List (Addr×Obj)) (H:Hp) (b:Addr):Prop:=
 H b=none∧b≠X.env.locals∧b ∉ X.fs∧(b∈X.ex∨X.s₀.heap.objs.size≤b)∧(∀ x c,X.env.cells.lookup x=some c→c≠b)∧∀ p∈X.pn ++ pins,p.1≠b
theorem Inv.fpOk {X:Cx}{pins:List (Addr×Obj)}{σ:St}{H H':Hp}{s:Shared}{b:Addr} (I:Inv X pins σ H s) (hb:s.heap.objs.size≤b) (hn:H' b=none):jA X pins H' b:=by
 refine ⟨hn,Nat.ne_of_gt (Nat.lt_of_lt_of_le I.lt hb),I.nofs hb,.inr (Nat.le_trans I.sz hb),fun x c e z=>?_,fun p hp z=>?_⟩
 ·obtain ⟨v,q⟩:=I.cell x c e
  exact absurd (Nat.lt_of_lt_of_le q.lt (by rw [z];exact hb)) (Nat.lt_irrefl _)
 ·exact absurd (Nat.lt_of_lt_of_le (Heap.lt_size (I.pin p hp).1) (by rw [z];exact hb)) (Nat.lt_irrefl _)
structure aCH (P:Program) (w:World) (K:PySem.W.Frag) (tg:Expr) (J:It) (fp:List Addr) (it:Addr) (tn:Nat→Heap→Prop):Prop where
 mem:it∈fp
 obj:∀ i h,tn i h→∀ b∈fp,∃ o,h.get? b=some o∧∀ v,o.data≠.cell v
 keep:∀ i h h',tn i h→(∀ b∈fp,∀ o,h.get? b=some o→h'.get? b=some o)→tn i h'
 item:∀ (X:Cx),X.prog=P→X.w=w→X.K=K→X.calm=true→∀ (i:Nat) (pins:List (Addr×Obj)) (s:Shared) (σ:St) (H:Hp) (E:Value→Shared→Prop),Inv X pins σ H s→(∀ b∈fp,jA X pins H b)→tn i s.heap→J.go i H→
  wpAny (model P w) X.A (pyNext (.ref it)) (fun r s1=>∃ u,r=some u∧
   wpAny (model P w) X.A (letOwnedTupleGo tg (.ref it) u) (fun _ s2=>∃ x H',Inv X pins σ H' s2∧cS x u∧J.yld i H x H'∧tn (i + 1) s2.heap∧∀ b∈fp,H' b=none) E s1) E s
 done:∀ (X:Cx),X.prog=P→X.w=w→X.K=K→X.calm=true→∀ (i:Nat) (pins:List (Addr×Obj)) (s:Shared) (σ:St) (H:Hp) (E:Value→Shared→Prop),Inv X pins σ H s→(∀ b∈fp,jA X pins H b)→tn i s.heap→J.stop i H→
  wpAny (model P w) X.A (pyNext (.ref it)) (fun r s1=>r=none∧Inv X pins σ H s1) E s
 self:∀ (A:Around) (i:Nat) (s:Shared) (Q:Value→Shared→Prop) (E:Value→Shared→Prop),tn i s.heap→Q (.ref it) s→wpAny (model P w) A (pyIter (.ref it)) Q E s
abbrev TI:=St→Hp→(It→Hp→Prop)→Prop
inductive aFs (X:Cx) (pins:List (Addr×Obj)) (σ:St) (tg:Expr) (R:It→Hp→Prop) (itv:Value) (s2:Shared):Prop
 | mk (it:Addr) (fp:List Addr) (tn:Nat→Heap→Prop) (J:It) (H':Hp) (q0:itv=.ref it) (q1:Inv X pins σ H' s2) (q2:aCH X.prog X.w X.K tg J fp it tn) (q3:tn 0 s2.heap) (q4:(∀ b∈fp,jA X pins H' b)) (q5:R J H'):aFs X pins σ tg R itv s2
def PIE (X:Cx) (pins:List (Addr×Obj)) (σ:St) (tg:Expr) (R:It→Hp→Prop) (itv:Value) (s2:Shared):Prop:=aFs X pins σ tg R itv s2
structure PI (X:Cx) (tg iter:Expr) (wi:TI):Prop where
 run:
  ∀ (pins:List (Addr×Obj)) (s:Shared) (σ:St) (H:Hp) (R:It→Hp→Prop),Inv X pins σ H s→wi σ H R→
   wpAny (model X.prog X.w) X.A (eval iter X.env) (fun v s1=>wpAny (model X.prog X.w) X.A (pyIter v) (PIE X pins σ tg R) X.xe s1) X.xe s
instance {X:Cx} {tg iter:Expr} {wi:TI}:CoeFun (PI X tg iter wi) (fun _=>
 ∀ (pins:List (Addr×Obj)) (s:Shared) (σ:St) (H:Hp) (R:It→Hp→Prop),Inv X pins σ H s→wi σ H R→
  wpAny (model X.prog X.w) X.A (eval iter X.env) (fun v s1=>wpAny (model X.prog X.w) X.A (pyIter v) (PIE X pins σ tg R) X.xe s1) X.xe s):=⟨fun h=>h.run⟩
theorem aCI {M : Model}{A : Around}{E : Value → Shared → Prop}{s : Shared}{tg : Expr}{it : Addr}{u : Value}{o : Obj}{n : String}{vs : Array Value}{Q : Unit → Shared → Prop} (ho : s.heap.get? it = some o) (hc : o.cls = .type n) (hd : o.data = .fields vs)
    (hn : ["enumerate", "zip", "dict_itemiterator", "dict_reverseitemiterator", "odict_iterator", "itertools.zip_longest", "itertools.pairwise"].contains n = false) (hQ : Q () s) : wpAny M A (letOwnedTupleGo tg (.ref it) u) Q E s := by
  unfold letOwnedTupleGo
  cases tg <;> first
    | exact wpAny_pure hQ
    | (cases u <;> first
        | exact wpAny_pure hQ
        | (refine wpAny_bind (wpAny_load ho ?_)
           rw [hc, hd]
           show wpAny M A (if (["enumerate", "zip", "dict_itemiterator", "dict_reverseitemiterator", "odict_iterator", "itertools.zip_longest", "itertools.pairwise"].contains n && vs[0]? == some (rawInt _)) = true then _ else _) Q E s
           rw [if_neg (by intro h;rw [hn, Bool.false_and] at h;cases h)]
           exact wpAny_pure hQ))
def Itl (K:PySem.W.Frag) (a:Addr):It:=
 ⟨fun i H=>∃ xs x,SqL K H a xs∧xs[i]?=some x,fun i H x H'=>H'=H∧∀ xs,SqL K H a xs→xs[i]?=some x,fun i H=>∃ xs,SqL K H a xs∧xs.length≤i⟩
def Itt (K:PySem.W.Frag) (a:Addr):It:=
 ⟨fun i H=>∃ xs x,SqT K H a xs∧xs[i]?=some x,fun i H x H'=>H'=H∧∀ xs,SqT K H a xs→xs[i]?=some x,fun i H=>∃ xs,SqT K H a xs∧xs.length≤i⟩
def Itr (lo:Int) (n:Nat):It:=⟨fun i _=>i < n,fun i H x H'=>H'=H∧x=.int (lo + i),fun i _=>n≤i⟩
theorem aBO {P:Program}{w:World}{K:PySem.W.Frag}{tg:Expr} (a it:Addr):aCH P w K tg (Itl K a) [it] it (fun i h=>h.IsListIter it a i) where
 mem:=by simp
 obj:=fun i h st b hb=>by
  have e:b=it:=by simpa using hb
  subst e
  obtain ⟨o,e,c,d⟩:=st
  exact ⟨o,e,fun v z=>by rw [d] at z;cases z⟩
 keep:=fun i h h' st k=>st.at fun o e=>k it (by simp) o e
 item:=by
  intro X hP hw hK hc i pins s σ H E I hf st hg
  subst hP hw hK
  obtain ⟨xs,x,hq,hx⟩:=hg
  obtain ⟨its,rv,p,hz⟩:=I.list hq
  obtain ⟨u,hu,ru⟩:=rv.get hx
  obtain ⟨f0,f1,f2,f3,f4,f5⟩:=hf it (by simp)
  refine wpAny_pyNext_list_item st p.isList (x:=u) (by simpa using hu) fun h' st' sb=>?_
  have I1:Inv X pins σ H { s with heap:=h' }:=I.turned (t':=s.toks) (fun b o hb e=>(sb.2 b hb).trans e) f0 f1 f3 f4 f5
  obtain ⟨o,e,c,d⟩:=id st'
  exact ⟨u,rfl,aCI (s:={ s with heap:=h' }) e c d (by decide) ⟨x,H,I1,ru,⟨rfl,fun ys hy=>by rw [I.list_inj hy hq];exact hx⟩,st',fun b hb=>(hf b hb).1⟩⟩
 done:=by
  intro X hP hw hK hc i pins s σ H E I hf st hg
  subst hP hw hK
  obtain ⟨xs,hq,hx⟩:=hg
  obtain ⟨its,rv,p,hz⟩:=I.list hq
  obtain ⟨f0,f1,f2,f3,f4,f5⟩:=hf it (by simp)
  have hl:=rv.length
  exact wpAny_pyNext_list_end (I.ok.hd hc) st p.isList (by simp;omega) fun h' eb=>⟨rfl,I.turned (t':=s.toks) (fun b o hb e=>eb b o hb e) f0 f1 f3 f4 f5⟩
 self:=fun _ _ _ _ _ st h=>wpAny_pyIter_listiter st h
theorem zG {P:Program}{w:World}{K:PySem.W.Frag}{tg:Expr} (a it:Addr):aCH P w K tg (Itt K a) [it] it (fun i h=>h.IsTupleIter it a i) where
 mem:=by simp
 obj:=fun i h st b hb=>by
  have e:b=it:=by simpa using hb
  subst e
  obtain ⟨o,e,c,d⟩:=st
  exact ⟨o,e,fun v z=>by rw [d] at z;cases z⟩
 keep:=fun i h h' st k=>st.at fun o e=>k it (by simp) o e
 item:=by
  intro X hP hw hK hc i pins s σ H E I hf st hg
  subst hP hw hK
  obtain ⟨xs,x,hq,hx⟩:=hg
  obtain ⟨its,rv,p,hz⟩:=I.tuple hq
  obtain ⟨u,hu,ru⟩:=rv.get hx
  obtain ⟨f0,f1,f2,f3,f4,f5⟩:=hf it (by simp)
  refine wpAny_pyNext_tuple_item st (show s.heap.IsTuple a its.toArray from p) (x:=u) (by simpa using hu) fun h' st' sb=>?_
  have I1:Inv X pins σ H { s with heap:=h' }:=I.turned (t':=s.toks) (fun b o hb e=>(sb.2 b hb).trans e) f0 f1 f3 f4 f5
  obtain ⟨o,e,c,d⟩:=id st'
  exact ⟨u,rfl,aCI (s:={ s with heap:=h' }) e c d (by decide) ⟨x,H,I1,ru,⟨rfl,fun ys hy=>by rw [I.tuple_inj hy hq];exact hx⟩,st',fun b hb=>(hf b hb).1⟩⟩
 done:=by
  intro X hP hw hK hc i pins s σ H E I hf st hg
  subst hP hw hK
  obtain ⟨xs,hq,hx⟩:=hg
  obtain ⟨its,rv,p,hz⟩:=I.tuple hq
  obtain ⟨f0,f1,f2,f3,f4,f5⟩:=hf it (by simp)
  have hl:=rv.length
  exact wpAny_pyNext_tuple_end (I.ok.hd hc) st (show s.heap.IsTuple a its.toArray from p) (by simp;omega) fun h' eb=>⟨rfl,I.turned (t':=s.toks) (fun b o hb e=>eb b o hb e) f0 f1 f3 f4 f5⟩
 self:=fun _ _ _ _ _ st h=>wpAny_pyIter_tupleiter st h
theorem zH {P:Program}{w:World}{K:PySem.W.Frag}{tg:Expr} (it:Addr) (lo:Int) (n:Nat):aCH P w K tg (Itr lo n) [it] it (fun i h=>IsRangeIter h it (lo + (i:Nat) * 1) ((n:Int) - (i:Nat)) 1) where
 mem:=by simp
 obj:=fun i h st b hb=>by
  have e:b=it:=by simpa using hb
  subst e
  exact ⟨_,st,fun v z=>by
   have z':Data.fields _=Data.cell v:=z
   cases z'⟩
 keep:=fun i h h' st k=>k it (by simp) _ st
 item:=by
  intro X hP hw hK hc i pins s σ H E I hf st hg
  subst hP hw hK
  obtain ⟨f0,f1,f2,f3,f4,f5⟩:=hf it (by simp)
  have W:=Walks.range (prog:=X.prog) (w:=X.w) (I.ok.hd hc) it lo 1 n
  refine W.item i s _ _ hg st fun v h' tk hv st' kk=>?_
  obtain ⟨t,rfl⟩:=hv
  have I1:Inv X pins σ H { s with heap:=h',toks:=tk }:=I.turned (fun b o hb e=>kk b o (by simpa using hb) e) f0 f1 f3 f4 f5
  refine ⟨_,rfl,aCI (s:={ s with heap:=h',toks:=tk }) (n:="range_iterator") st' rfl rfl (by decide) ⟨.int (lo + i),H,I1,⟨t,?_⟩,⟨rfl,rfl⟩,st',fun b hb=>(hf b hb).1⟩⟩
  rw [Int.mul_one]
 done:=by
  intro X hP hw hK hc i pins s σ H E I hf st hg
  subst hP hw hK
  obtain ⟨f0,f1,f2,f3,f4,f5⟩:=hf it (by simp)
  exact wpAny_pyNext_range_end (I.ok.hd hc) st (by have:n≤i:=hg;omega) fun h' eb=>⟨rfl,I.turned (t':=s.toks) (fun b o hb e=>eb b o hb e) f0 f1 f3 f4 f5⟩
 self:=fun _ _ _ _ _ st h=>wpAny_pyIter_rangeiter st h
end L2
namespace L2
open PySem PySem.Spec PyProof.Rows
section
variable {X:Cx}{tg:Expr}
def aGO (K:PySem.W.Frag) (tl:TE):TI:=fun σ H R=>tl σ H fun x H1=>As V.ref x fun a=>(∃ xs,SqL K H1 a xs)∧R (Itl K a) H1
def aHH (K:PySem.W.Frag) (tl:TE):TI:=fun σ H R=>tl σ H fun x H1=>As V.ref x fun a=>(∃ xs,SqT K H1 a xs)∧R (Itt K a) H1
theorem nY {l:Expr}{tl:TE} (hl:PE X l tl):PI X tg l (aGO X.K tl):=by
 constructor
 intro pins s σ H R I h
 refine thn (hl pins s σ H _ I h) fun v s1 ⟨x,H1,I1,r1,q1⟩=>?_
 obtain ⟨a,e,⟨xs,hq⟩,q⟩:=q1
 subst e
 cases r1
 obtain ⟨its,rv,p,hz⟩:=I1.list hq
 refine wpAny_pyIter_list p.isList ?_
 refine ⟨s1.heap.objs.size,[s1.heap.objs.size],_,_,H1,rfl,I1.kept (t':=s1.toks) fun b o e=>Heap.get?_push_of_some _ e,aBO a _,⟨_,Heap.get?_push_size _ rfl,rfl,rfl⟩,fun b hb=>?_,q⟩
 have e:b=s1.heap.objs.size:=by simpa using hb
 subst e
 exact I1.fpOk (Nat.le_refl _) (I1.hok.fresh (Nat.le_refl _))
theorem gY {l:Expr}{tl:TE} (hl:PE X l tl):PI X tg l (aHH X.K tl):=by
 constructor
 intro pins s σ H R I h
 refine thn (hl pins s σ H _ I h) fun v s1 ⟨x,H1,I1,r1,q1⟩=>?_
 obtain ⟨a,e,⟨xs,hq⟩,q⟩:=q1
 subst e
 cases r1
 obtain ⟨its,rv,p,hz⟩:=I1.tuple hq
 refine wpAny_pyIter_tuple (show s1.heap.IsTuple a its.toArray from p) ?_
 refine ⟨s1.heap.objs.size,[s1.heap.objs.size],_,_,H1,rfl,I1.kept (t':=s1.toks) fun b o e=>Heap.get?_push_of_some _ e,zG a _,⟨_,Heap.get?_push_size _ rfl,rfl,rfl⟩,fun b hb=>?_,q⟩
 have e:b=s1.heap.objs.size:=by simpa using hb
 subst e
 exact I1.fpOk (Nat.le_refl _) (I1.hok.fresh (Nat.le_refl _))
theorem aCJ {pins:List (Addr×Obj)}{σ:St}{H:Hp}{s:Shared}{R:It→Hp→Prop}{E:Value→Shared→Prop}{lo hi:Int}{t u v:Tok}{tk:Nat} (I:Inv X pins σ H s) (h1:-(2 ^ 62)≤lo) (h2:lo < 2 ^ 62) (h3:-(2 ^ 62)≤hi) (h4:hi < 2 ^ 62)
  (q:R (Itr lo (hi - lo).toNat) H):wpAny (model X.prog X.w) X.A (pyIter (.ref s.heap.objs.size)) (PIE X pins σ tg R) E { s with heap:=s.heap.push { cls:=.type "range",data:=.fields #[.int lo t,.int hi u,.int 1 v] },toks:=tk }:=by
 refine wpAny_pyIter_range (IsRange.new ..) (small_one h1 h2 h3 h4) ?_
 have I1:Inv X pins σ H { s with heap:=s.heap.push { cls:=.type "range",data:=.fields #[.int lo t,.int hi u,.int 1 v] },toks:=tk }:=I.kept fun b o e=>Heap.get?_push_of_some _ e
 refine ⟨(s.heap.push { cls:=.type "range",data:=.fields #[.int lo t,.int hi u,.int 1 v] }).objs.size,[(s.heap.push { cls:=.type "range",data:=.fields #[.int lo t,.int hi u,.int 1 v] }).objs.size],_,_,H,rfl,
  I1.kept (t':=tk) fun b o e=>Heap.get?_push_of_some _ e,zH _ lo (hi - lo).toNat,?_,fun b hb=>?_,q⟩
 ·have e1:lo + ((0:Nat):Int) * 1=lo:=by simp
  have e2:(((hi - lo).toNat:Nat):Int) - ((0:Nat):Int)=Builtin.Range.rangeSize lo hi 1:=by rw [rangeSize_one];split <;> omega
  show IsRangeIter _ _ (lo + ((0:Nat):Int) * 1) ((((hi - lo).toNat:Nat):Int) - ((0:Nat):Int)) 1
  rw [e1,e2]
  exact Heap.get?_push_size _ rfl
 ·have e:b=(s.heap.push { cls:=.type "range",data:=.fields #[.int lo t,.int hi u,.int 1 v] }).objs.size:=by simpa using hb
  subst e
  exact I1.fpOk (Nat.le_refl _) (I1.hok.fresh (Nat.le_refl _))
def aGP (ta:TA):TI:=fun σ H R=>ta σ H fun vs H1=>∃ j:Int,vs=[.int j]∧-(2 ^ 62)≤j∧j < 2 ^ 62∧R (Itr 0 j.toNat) H1
theorem eV {a:Expr}{ta:TA}{p pos:Pos} (hg:Gl X "range") (hm:X.mg "range"=none) (ha:PA X [a] ta) (hs:starEach [a] X.env=[(false,eval a X.env)]:=by rfl):PI X tg (.Call (.Name "range" p) [a] [] pos) (aGP ta):=by
 constructor
 intro pins s σ H R I h
 refine Call_ (pA I hg hm boot_range (PyProof.Rows.callWith_type1 (thn (ha pos pins s σ H _ I h) fun us s1 ⟨vs,H1,I1,r1,q1⟩=>?_) hs rfl))
 obtain ⟨j,e,q1,q2,q⟩:=q1
 subst e
 cases r1 with
 | cons r rr=>
  cases rr
  obtain ⟨t,rfl⟩:=r
  exact call_range_1 (aCJ I1 (by omega) (by omega) q1 q2 (by simpa using q))
def aHI (wi:TI) (g:TG) (tb:TS):TS:=fun D σ H=>wi σ H fun J H1=>∃ W:Nat→Nat→St→Hp→Prop,(∃ m,W 0 m σ H1)∧∀ i m σ H,W i m σ H→
 (J.stop i H∧D.nx σ H)∨(J.go i H∧∃ N:St→Hp→Prop,(∀ σ' H',N σ' H'→∃ m',m' < m∧W (i + 1) m' σ' H')∧∀ x H',J.yld i H x H'→g x σ H' fun σ2 H2=>tb { D with nx:=N,ct:=N,bk:=D.nx } σ2 H2)
def nB (fp:List Addr) (h:Heap):List (Addr×Obj):=fp.filterMap fun b=>(h.get? b).map fun o=>(b,o)
theorem kE {fp:List Addr}{h:Heap}{b:Addr}{o:Obj} (hb:b∈fp) (e:h.get? b=some o):(b,o)∈nB fp h:=List.mem_filterMap.mpr ⟨b,hb,by rw [e];rfl⟩
theorem uK {fp:List Addr}{h:Heap}{p:Addr×Obj} (hp:p∈nB fp h):p.1∈fp∧h.get? p.1=some p.2:=by
 obtain ⟨b,hb,e⟩:=List.mem_filterMap.mp hp
 cases q:h.get? b with
 | none=>rw [q] at e;cases e
 | some o=>
  rw [q] at e
  have e':(b,o)=p:=Option.some.inj e
  subst e'
  exact ⟨hb,q⟩
theorem Inv.pinned {pins:List (Addr×Obj)}{σ:St}{H:Hp}{s:Shared}{fp:List Addr} (I:Inv X pins σ H s) (hf:∀ b∈fp,jA X pins H b) (ho:∀ b∈fp,∃ o,s.heap.get? b=some o∧∀ v,o.data≠.cell v):Inv X (pins ++ nB fp s.heap) σ H s:=
 I.pins_of fun p hp=>(List.mem_append.mp hp).elim (fun z=>I.pin p (List.mem_append_right _ z)) fun z=>by
  obtain ⟨hb,e⟩:=uK z
  obtain ⟨f0,f1,f2,_⟩:=hf p.1 hb
  obtain ⟨o,e',d⟩:=ho p.1 hb
  rw [e] at e';cases e'
  exact ⟨e,f0,f1,f2,d⟩
theorem Inv.unpinned {pins pl:List (Addr×Obj)}{σ:St}{H:Hp}{s:Shared} (I:Inv X (pins ++ pl) σ H s):Inv X pins σ H s:=I.pins_of fun p hp=>I.pin p (List.mem_append_right _ (List.mem_append_left _ hp))
theorem f7 {iter:Expr}{body:List Stmt}{wi:TI}{g:TG}{tb:TS}{pos:Pos} (hp:PassesOwn (model X.prog X.w) X.A X.env X.xe) (hc:X.calm=true) (hi:PI X tg iter wi) (hg:PG X tg g) (hb:PSs X body tb)
  (hs:∀ x,foldedSetIterable iter X.env x=pure x:=by intro _;rfl):PS X (.For tg iter body [] pos) (aHI wi g tb):=by
 constructor
 intro pins s σ H D I h
 refine wpAny_For (thn (hi pins s σ H _ I h) fun v s1 h1=>thn h1 fun itv s2 h2=>?_) hs
 obtain ⟨it,fp,tn,J,H2,e,I2,T,st2,f2,W,⟨m0,w0⟩,turn⟩:=h2
 subst e
 have stat:∀ {H':Hp},(∀ b∈fp,H' b=none)→∀ b∈fp,jA X pins H' b:=fun hn b hb=>⟨hn b hb,(f2 b hb).2⟩
 refine codeAny_forLoop_any (fun n s'=>∃ i σ' H',Inv X pins σ' H' s'∧tn i s'.heap∧(∀ b∈fp,H' b=none)∧W i n σ' H') ?_ m0 ⟨0,σ,H2,I2,st2,fun b hb=>(f2 b hb).1,w0⟩
 rintro n s3 ⟨i,σ3,H3,I3,st3,fr3,w3⟩
 rcases turn i n σ3 H3 w3 with ⟨stop,qn⟩ | ⟨go,N,hN,step⟩
 ·refine wpAny_passesOwn hp (thn (T.done X rfl rfl rfl hc i pins s3 σ3 H3 X.xe I3 (stat fr3) st3 stop) fun r s4 ⟨hr,I4⟩=>?_)
  subst hr
  exact wpAny_execs_nil ⟨σ3,H3,I4,qn⟩
 ·refine wpAny_passesOwn hp (thn (T.item X rfl rfl rfl hc i pins s3 σ3 H3 X.xe I3 (stat fr3) st3 go) fun r s4 ⟨u,hr,h4⟩=>?_)
  subst hr
  refine wpAny_passesOwn hp (thn h4 fun _ s5 ⟨x,H5,I5,r5,y5,st5,fr5⟩=>?_)
  have I5':=I5.pinned (stat fr5) (T.obj _ _ st5)
  refine wpAny_passesOwn hp (thn (hg _ s5 σ3 H5 x u _ I5' r5 (step x H5 y5)) fun _ s6 ⟨σ6,H6,I6,q6⟩=>?_)
  refine wpAny_passesOwn hp (thn (hb _ s6 σ6 H6 _ I6 q6) fun f s7 q7=>?_)
  have again:∀ {σ7:St} {H7:Hp},Inv X (pins ++ nB fp s5.heap) σ7 H7 s7→N σ7 H7→∃ m,m < n∧∃ i σ' H',Inv X pins σ' H' s7∧tn i s7.heap∧(∀ b∈fp,H' b=none)∧W i m σ' H':=fun {σ7 H7} I7 n7=>by
   obtain ⟨m',hm,w7⟩:=hN σ7 H7 n7
   refine ⟨m',hm,i + 1,σ7,H7,I7.unpinned,T.keep _ _ _ st5 fun b hb o e=>(I7.pin (b,o) (List.mem_append_right _ (List.mem_append_right _ (kE hb e)))).1,fun b hb=>?_,w7⟩
   obtain ⟨o,e,d⟩:=T.obj _ _ st5 b hb
   exact (I7.pin (b,o) (List.mem_append_right _ (List.mem_append_right _ (kE hb e)))).2.1
  cases f with
  | next=>obtain ⟨σ7,H7,I7,n7⟩:=q7;exact again I7 n7
  | cont=>obtain ⟨σ7,H7,I7,n7⟩:=q7;exact again I7 n7
  | brk=>obtain ⟨σ7,H7,I7,q7⟩:=q7;exact ⟨σ7,H7,I7.unpinned,q7⟩
  | ret v=>obtain ⟨x7,σ7,H7,I7,r7,q7⟩:=q7;exact ⟨x7,σ7,H7,I7.unpinned,r7,q7⟩
end
theorem rQ {K:PySem.W.Frag}{a:Addr}{xs:List V}{g:TG}{tb:TS}{D:dW}{σ:St}{H:Hp} (Pv:Nat→St→Hp→Prop) (h0:Pv 0 σ H) (hl:∀ i σ H,i≤xs.length→Pv i σ H→SqL K H a xs)
  (hs:∀ i x σ H,xs[i]?=some x→Pv i σ H→g x σ H fun σ2 H2=>tb { D with nx:=Pv (i + 1),ct:=Pv (i + 1),bk:=D.nx } σ2 H2) (hd:∀ σ H,Pv xs.length σ H→D.nx σ H):
  ∃ W:Nat→Nat→St→Hp→Prop,(∃ m,W 0 m σ H)∧∀ i m σ H,W i m σ H→
   ((Itl K a).stop i H∧D.nx σ H)∨((Itl K a).go i H∧∃ N:St→Hp→Prop,(∀ σ' H',N σ' H'→∃ m',m' < m∧W (i + 1) m' σ' H')∧∀ x H',(Itl K a).yld i H x H'→g x σ H' fun σ2 H2=>tb { D with nx:=N,ct:=N,bk:=D.nx } σ2 H2):=by
 refine ⟨fun i m σ H=>m=xs.length - i∧i≤xs.length∧Pv i σ H,⟨xs.length,by simp,Nat.zero_le _,h0⟩,?_⟩
 rintro i m σ H ⟨rfl,hi,p⟩
 have q:=hl i σ H hi p
 by_cases hlt:i < xs.length
 ·refine .inr ⟨⟨xs,xs[i],q,by simp [hlt]⟩,Pv (i + 1),fun σ' H' p'=>⟨xs.length - (i + 1),by omega,rfl,hlt,p'⟩,fun x H' y=>?_⟩
  obtain ⟨e,y⟩:=y
  subst e
  exact hs i x σ _ (y xs q) p
 ·have e:i=xs.length:=by omega
  subst e
  exact .inl ⟨⟨xs,q,Nat.le_refl _⟩,hd σ H p⟩
theorem kF {K:PySem.W.Frag}{a:Addr}{xs:List V}{g:TG}{tb:TS}{D:dW}{σ:St}{H:Hp} (Pv:Nat→St→Hp→Prop) (h0:Pv 0 σ H) (hl:∀ i σ H,i≤xs.length→Pv i σ H→SqT K H a xs)
  (hs:∀ i x σ H,xs[i]?=some x→Pv i σ H→g x σ H fun σ2 H2=>tb { D with nx:=Pv (i + 1),ct:=Pv (i + 1),bk:=D.nx } σ2 H2) (hd:∀ σ H,Pv xs.length σ H→D.nx σ H):
  ∃ W:Nat→Nat→St→Hp→Prop,(∃ m,W 0 m σ H)∧∀ i m σ H,W i m σ H→
   ((Itt K a).stop i H∧D.nx σ H)∨((Itt K a).go i H∧∃ N:St→Hp→Prop,(∀ σ' H',N σ' H'→∃ m',m' < m∧W (i + 1) m' σ' H')∧∀ x H',(Itt K a).yld i H x H'→g x σ H' fun σ2 H2=>tb { D with nx:=N,ct:=N,bk:=D.nx } σ2 H2):=by
 refine ⟨fun i m σ H=>m=xs.length - i∧i≤xs.length∧Pv i σ H,⟨xs.length,by simp,Nat.zero_le _,h0⟩,?_⟩
 rintro i m σ H ⟨rfl,hi,p⟩
 have q:=hl i σ H hi p
 by_cases hlt:i < xs.length
 ·refine .inr ⟨⟨xs,xs[i],q,by simp [hlt]⟩,Pv (i + 1),fun σ' H' p'=>⟨xs.length - (i + 1),by omega,rfl,hlt,p'⟩,fun x H' y=>?_⟩
  obtain ⟨e,y⟩:=y
  subst e
  exact hs i x σ _ (y xs q) p
 ·have e:i=xs.length:=by omega
  subst e
  exact .inl ⟨⟨xs,q,Nat.le_refl _⟩,hd σ H p⟩
theorem gZ {lo:Int}{n:Nat}{g:TG}{tb:TS}{D:dW}{σ:St}{H:Hp} (Pv:Nat→St→Hp→Prop) (h0:Pv 0 σ H)
  (hs:∀ i σ H,i < n→Pv i σ H→g (.int (lo + i)) σ H fun σ2 H2=>tb { D with nx:=Pv (i + 1),ct:=Pv (i + 1),bk:=D.nx } σ2 H2) (hd:∀ σ H,Pv n σ H→D.nx σ H):
  ∃ W:Nat→Nat→St→Hp→Prop,(∃ m,W 0 m σ H)∧∀ i m σ H,W i m σ H→
   ((Itr lo n).stop i H∧D.nx σ H)∨((Itr lo n).go i H∧∃ N:St→Hp→Prop,(∀ σ' H',N σ' H'→∃ m',m' < m∧W (i + 1) m' σ' H')∧∀ x H',(Itr lo n).yld i H x H'→g x σ H' fun σ2 H2=>tb { D with nx:=N,ct:=N,bk:=D.nx } σ2 H2):=by
 refine ⟨fun i m σ H=>m=n - i∧i≤n∧Pv i σ H,⟨n,by simp,Nat.zero_le _,h0⟩,?_⟩
 rintro i m σ H ⟨rfl,hi,p⟩
 by_cases hlt:i < n
 ·refine .inr ⟨hlt,Pv (i + 1),fun σ' H' p'=>⟨n - (i + 1),by omega,rfl,hlt,p'⟩,fun x H' y=>?_⟩
  obtain ⟨e,y⟩:=y
  subst e y
  exact hs i σ _ hlt p
 ·have e:i=n:=by omega
  subst e
  exact .inl ⟨Nat.le_refl _,hd σ H p⟩
end L2
namespace L2
open PySem PySem.Spec PyProof.Rows
abbrev R2:=V→V→Hp→VK→Prop
def OpR (X:Cx) (f:Value→Value→Sem Value) (r:R2):Prop:=
 ∀ (pins:List (Addr×Obj)) (s:Shared) (σ:St) (H:Hp) (x y:V) (v u:Value) (Q:VK),Inv X pins σ H s→cS x v→cS y u→r x y H Q→
  wpAny (model X.prog X.w) X.A (f v u) (EP X pins σ Q) X.xe s
def UnR (X:Cx) (f:Value→Sem Value) (r:V→Hp→VK→Prop):Prop:=
 ∀ (pins:List (Addr×Obj)) (s:Shared) (σ:St) (H:Hp) (x:V) (v:Value) (Q:VK),Inv X pins σ H s→cS x v→r x H Q→
  wpAny (model X.prog X.w) X.A (f v) (EP X pins σ Q) X.xe s
def gW (X:Cx) (f:Value) (r:List V→Hp→VK→Prop):Prop:=
 ∀ (pins:List (Addr×Obj)) (s:Shared) (σ:St) (H:Hp) (xs:List V) (us:List Value) (Q:VK),Inv X pins σ H s→cO xs us→r xs H Q→
  wpAny (model X.prog X.w) X.A (call f us) (EP X pins σ Q) X.xe s
def aHJ (X:Cx) (r:V→Hp→(Bool→Hp→Prop)→Prop):Prop:=
 ∀ (pins:List (Addr×Obj)) (s:Shared) (σ:St) (H:Hp) (x:V) (v:Value) (Q:Bool→Hp→Prop),Inv X pins σ H s→cS x v→r x H Q→
  wpAny (model X.prog X.w) X.A (truthy v) (TP X pins σ Q) X.xe s
def tOp (r:R2) (ta tb:TE):TE:=fun σ H Q=>ta σ H fun x H1=>tb σ H1 fun y H2=>r x y H2 Q
def tUn (r:V→Hp→VK→Prop) (ta:TE):TE:=fun σ H Q=>ta σ H fun x H1=>r x H1 Q
inductive aGQ (C:Int→Int→Prop) (g:Int→Int→V) (x:V) (y:V) (H:Hp) (Q:VK):Prop
 | mk (i:_) (j:_) (q0:x=.int i) (q1:y=.int j) (q2:C i j) (q3:Q (g i j) H):aGQ C g x y H Q
def rI (C:Int→Int→Prop) (g:Int→Int→V):R2:=fun x y H Q=>aGQ C g x y H Q
inductive aFt (g:Int→Int→V) (x:V) (y:V) (H:Hp) (Q:VK):Prop
 | mk (i:_) (j:_) (q0:x=.int i) (q1:y=.int j) (q2:Q (g i j) H):aFt g x y H Q
def rI0 (g:Int→Int→V):R2:=fun x y H Q=>aFt g x y H Q
inductive aGR (g:Int→V) (x:V) (H:Hp) (Q:VK):Prop
 | mk (i:_) (q0:x=.int i) (q1:Q (g i) H):aGR g x H Q
def rU (g:Int→V):V→Hp→VK→Prop:=fun x H Q=>aGR g x H Q
section
variable {X:Cx}{a b c:Expr}{ta tb tc:TE}{pos:Pos}
theorem aFW (ha:PE X a ta) (hb:PE X b tb) {pins:List (Addr×Obj)}{s:Shared}{σ:St}{H:Hp}{R:V→V→Hp→Prop} (I:Inv X pins σ H s)
  (h:ta σ H fun x H1=>tb σ H1 fun y H2=>R x y H2) {Q:Value→Shared→Prop} {f:Value→Value→Sem Value}
  (hf:∀ v u s2 x y H2,Inv X pins σ H2 s2→cS x v→cS y u→R x y H2→wpAny (model X.prog X.w) X.A (f v u) Q X.xe s2):
  wpAny (model X.prog X.w) X.A (eval a X.env) (fun v s₁=>wpAny (model X.prog X.w) X.A (eval b X.env) (fun u s₂=>wpAny (model X.prog X.w) X.A (f v u) Q X.xe s₂) X.xe s₁) X.xe s:=by
 refine thn (ha pins s σ H _ I h) fun v s1 ⟨x,H1,I1,r1,q1⟩=>?_
 refine thn (hb pins s1 σ H1 _ I1 q1) fun u s2 ⟨y,H2,I2,r2,q2⟩=>?_
 exact hf v u s2 x y H2 I2 r1 r2 q2
theorem aZ {op:Operator}{r:R2} (ho:OpR X (binaryOp op) r) (ha:PE X a ta) (hb:PE X b tb):PE X (.BinOp a op b pos) (tOp r ta tb):=by
 constructor
 intro pins s σ H Q I h
 exact wpAny_BinOp (aFW ha hb I h fun v u s2 x y H2 I2 rx ry q=>ho pins s2 σ H2 x y v u Q I2 rx ry q)
theorem iR {op:UnaryOp}{r:V→Hp→VK→Prop} (ho:UnR X (unaryOp op) r) (ha:PE X a ta):PE X (.UnaryOp op a pos) (tUn r ta):=by
 constructor
 intro pins s σ H Q I h
 exact UnaryOp_ (thn (ha pins s σ H _ I h) fun v s1 ⟨x,H1,I1,r1,q1⟩=>ho pins s1 σ H1 x v Q I1 r1 q1)
theorem opI {f:Value→Value→Sem Value}{C:Int→Int→Prop}{g:Int→Int→Int}
  (rule:∀ (i j:Int) (t u:Tok) (s:Shared) (Q:Value→Shared→Prop) (E:Value→Shared→Prop),C i j→Q (.int (g i j) s.toks) { s with toks:=s.toks + 1 }→wpAny (model X.prog X.w) X.A (f (.int i t) (.int j u)) Q E s):
  OpR X f (rI C fun i j=>.int (g i j)):=by
 intro pins s σ H x y v u Q I rx ry h
 obtain ⟨i,j,rfl,rfl,hc,q⟩:=h
 obtain ⟨t,rfl⟩:=rx
 obtain ⟨t',rfl⟩:=ry
 exact rule i j t t' s _ _ hc ⟨.int (g i j),H,I.tok _,⟨_,rfl⟩,q⟩
theorem aGS {f:Value→Value→Sem Value}{g:Int→Int→Int}
  (rule:∀ (i j:Int) (t u:Tok) (s:Shared) (Q:Value→Shared→Prop) (E:Value→Shared→Prop),Q (.int (g i j) s.toks) { s with toks:=s.toks + 1 }→wpAny (model X.prog X.w) X.A (f (.int i t) (.int j u)) Q E s):
  OpR X f (rI0 fun i j=>.int (g i j)):=by
 intro pins s σ H x y v u Q I rx ry h
 obtain ⟨i,j,rfl,rfl,q⟩:=h
 obtain ⟨t,rfl⟩:=rx
 obtain ⟨t',rfl⟩:=ry
 exact rule i j t t' s _ _ ⟨.int (g i j),H,I.tok _,⟨_,rfl⟩,q⟩
theorem aFX {f:Value→Value→Sem Value}{g:Int→Int→Bool}
  (rule:∀ (i j:Int) (t u:Tok) (s:Shared) (Q:Value→Shared→Prop) (E:Value→Shared→Prop),Q (.bool (g i j)) s→wpAny (model X.prog X.w) X.A (f (.int i t) (.int j u)) Q E s):
  OpR X f (rI0 fun i j=>.bl (g i j)):=by
 intro pins s σ H x y v u Q I rx ry h
 obtain ⟨i,j,rfl,rfl,q⟩:=h
 obtain ⟨t,rfl⟩:=rx
 obtain ⟨t',rfl⟩:=ry
 exact rule i j t t' s _ _ ⟨.bl (g i j),H,I,rfl,q⟩
def aHK (i j:Int):Prop:=0 < j∧j < 1073741824
def aFY (i j:Int):Prop:=0≤j∧j≤1000000∧i.natAbs < 2 ^ 64
def aFZ (i j:Int):Prop:=(-(2 ^ 64) < i∧i < 2 ^ 64)∨(-(2 ^ 64) < j∧j < 2 ^ 64)
theorem aFZ.ok {i j:Int} (h:aFZ i j):IntMulOk i j:=by
 rcases h with ⟨h1,h2⟩ | ⟨h1,h2⟩
 ·exact .of_left (intBits_le_64 h1 h2)
 ·exact .of_right (intBits_le_64 h1 h2)
theorem c8:OpR X (binaryOp .Add) (rI0 fun i j=>.int (i + j)):=aGS fun _ _ _ _ _ _ _ q=>add_int q
theorem iZ:OpR X (binaryOp .Sub) (rI0 fun i j=>.int (i - j)):=aGS fun _ _ _ _ _ _ _ q=>sub_int q
theorem jM:OpR X (binaryOp .Mult) (rI aFZ fun i j=>.int (i * j)):=opI fun _ _ _ _ _ _ _ hc q=>mul_int q hc.ok
theorem aAD:OpR X (binaryOp .FloorDiv) (rI aHK fun i j=>.int (i / j)):=opI fun i j _ _ _ _ _ hc q=>by
 have h1:(0:Int) < j:=hc.1
 have h2:j < 1073741824:=hc.2
 exact floordiv_int (by omega) (by rw [Int.fdiv_eq_ediv_of_nonneg i (by omega)];exact q) (.inl (PyProof.noPylong_small (by omega)))
theorem f8:OpR X (binaryOp .Mod) (rI (fun _ j=>0 < j) fun i j=>.int (i % j)):=opI fun i j _ _ _ _ _ hc q=>by
 have h1:(0:Int) < j:=hc
 exact mod_int' (by omega) (by rw [Int.fmod_eq_emod_of_nonneg i (by omega)];exact q)
theorem jN:OpR X (binaryOp .Pow) (rI aFY fun i j=>.int (i ^ j.toNat)):=opI fun _ _ _ _ _ _ _ hc q=>pow_int_small hc.1 hc.2.1 hc.2.2 q
theorem unI {f:Value→Sem Value}{g:Int→Int}
  (rule:∀ (i:Int) (t:Tok) (s:Shared) (Q:Value→Shared→Prop) (E:Value→Shared→Prop),Q (.int (g i) s.toks) { s with toks:=s.toks + 1 }→wpAny (model X.prog X.w) X.A (f (.int i t)) Q E s):
  UnR X f (rU fun i=>.int (g i)):=by
 intro pins s σ H x v Q I rx h
 obtain ⟨i,rfl,q⟩:=h
 obtain ⟨t,rfl⟩:=rx
 exact rule i t s _ _ ⟨.int (g i),H,I.tok _,⟨_,rfl⟩,q⟩
theorem f9:UnR X (unaryOp .USub) (rU fun i=>.int (-i)):=unI fun _ _ _ _ _ q=>neg_int q
end
def aF0:V→V→Bool
 | .non,.non=>true | .non,.int _=>true | .int _,.non=>true | .non,.bl _=>true | .bl _,.non=>true | .non,.str _=>true | .str _,.non=>true
 | .int _,.int _=>true | .bl _,.bl _=>true | .str _,.str _=>true | .byt _,.byt _=>true
 | .int _,.str _=>true | .str _,.int _=>true | .bl _,.str _=>true | .str _,.bl _=>true
 | _,_=>false
def rEq:R2:=fun x y H Q=>aF0 x y=true∧Q (.bl (decide (x=y))) H
def rNe:R2:=fun x y H Q=>aF0 x y=true∧Q (.bl (!decide (x=y))) H
theorem aAE {i j:Int}:decide (V.int i=V.int j)=(i == j):=by
 rw [Bool.eq_iff_iff]
 simp
theorem aCK {i j:Bool}:decide (V.bl i=V.bl j)=(i == j):=by
 rw [Bool.eq_iff_iff]
 simp
theorem aAF {i j:Str}:decide (V.str i=V.str j)=(i == j):=by
 rw [Bool.eq_iff_iff]
 simp
theorem aAG {i j:Array UInt8}:decide (V.byt i=V.byt j)=(i.toList == j.toList):=by
 rw [Bool.eq_iff_iff]
 cases i
 cases j
 simp
section
variable {X:Cx}{a b c:Expr}{ta tb tc:TE}{pos:Pos}
theorem dI {pins:List (Addr×Obj)}{σ:St}{H:Hp}{s:Shared}{Q:VK}{k k':Bool} (I:Inv X pins σ H s) (q:Q (.bl k) H) (e:k=k'):EP X pins σ Q (.bool k') s:=by
 subst e
 exact ⟨.bl k,H,I,rfl,q⟩
theorem e7:OpR X (compareOp .Eq) rEq:=by
 intro pins s σ H x y v u Q I rx ry h
 obtain ⟨hs,q⟩:=h
 cases x with
 | non=>
  cases rx
  cases y with
  | non=>cases ry;exact PySem.EqNone.eq_none_none (dI I q (by simp))
  | bl j=>cases ry;exact PySem.EqNone.eq_none_bool (dI I q (by simp))
  | int j=>obtain ⟨t',rfl⟩:=ry;exact PySem.EqNone.eq_none_int (dI I q (by simp))
  | str j=>obtain ⟨t',rfl⟩:=ry;exact PySem.EqNone.eq_none_str (dI I q (by simp))
  | _=>exact absurd (show false=true from hs) Bool.false_ne_true
 | bl i=>
  cases rx
  cases y with
  | non=>cases ry;exact PySem.EqNone.eq_bool_none (dI I q (by simp))
  | bl j=>cases ry;exact eq_bool (dI I q aCK)
  | str j=>obtain ⟨t',rfl⟩:=ry;exact PySem.EqMixed.eq_bool_str (dI I q (by simp))
  | _=>exact absurd (show false=true from hs) Bool.false_ne_true
 | int i=>
  obtain ⟨t,rfl⟩:=rx
  cases y with
  | non=>cases ry;exact PySem.EqNone.eq_int_none (dI I q (by simp))
  | int j=>obtain ⟨t',rfl⟩:=ry;exact eq_int (dI I q aAE)
  | str j=>obtain ⟨t',rfl⟩:=ry;exact PySem.EqMixed.eq_int_str (dI I q (by simp))
  | _=>exact absurd (show false=true from hs) Bool.false_ne_true
 | str i=>
  obtain ⟨t,rfl⟩:=rx
  cases y with
  | non=>cases ry;exact PySem.EqNone.eq_str_none (dI I q (by simp))
  | bl j=>cases ry;exact PySem.EqMixed.eq_str_bool (dI I q (by simp))
  | int j=>obtain ⟨t',rfl⟩:=ry;exact PySem.EqMixed.eq_str_int (dI I q (by simp))
  | str j=>obtain ⟨t',rfl⟩:=ry;exact eq_str (dI I q aAF)
  | _=>exact absurd (show false=true from hs) Bool.false_ne_true
 | byt i=>
  obtain ⟨t,rfl⟩:=rx
  cases y with
  | byt j=>obtain ⟨t',rfl⟩:=ry;exact PySem.W.eq_bytes (dI I q aAG)
  | _=>exact absurd (show false=true from hs) Bool.false_ne_true
 | _=>cases y <;> exact absurd (show false=true from hs) Bool.false_ne_true
theorem qB:OpR X (compareOp .NotEq) rNe:=by
 intro pins s σ H x y v u Q I rx ry h
 obtain ⟨hs,q⟩:=h
 cases x with
 | non=>
  cases rx
  cases y with
  | non=>cases ry;exact PySem.EqNone.ne_none_none (dI I q (by simp))
  | bl j=>cases ry;exact PySem.EqNone.ne_none_bool (dI I q (by simp))
  | int j=>obtain ⟨t',rfl⟩:=ry;exact PySem.EqNone.ne_none_int (dI I q (by simp))
  | str j=>obtain ⟨t',rfl⟩:=ry;exact PySem.EqNone.ne_none_str (dI I q (by simp))
  | _=>exact absurd (show false=true from hs) Bool.false_ne_true
 | bl i=>
  cases rx
  cases y with
  | non=>cases ry;exact PySem.EqNone.ne_bool_none (dI I q (by simp))
  | bl j=>cases ry;exact ne_bool (dI I q (congrArg not aCK))
  | str j=>obtain ⟨t',rfl⟩:=ry;exact PySem.EqMixed.ne_bool_str (dI I q (by simp))
  | _=>exact absurd (show false=true from hs) Bool.false_ne_true
 | int i=>
  obtain ⟨t,rfl⟩:=rx
  cases y with
  | non=>cases ry;exact PySem.EqNone.ne_int_none (dI I q (by simp))
  | int j=>obtain ⟨t',rfl⟩:=ry;exact ne_int (dI I q (congrArg not aAE))
  | str j=>obtain ⟨t',rfl⟩:=ry;exact PySem.EqMixed.ne_int_str (dI I q (by simp))
  | _=>exact absurd (show false=true from hs) Bool.false_ne_true
 | str i=>
  obtain ⟨t,rfl⟩:=rx
  cases y with
  | non=>cases ry;exact PySem.EqNone.ne_str_none (dI I q (by simp))
  | bl j=>cases ry;exact PySem.EqMixed.ne_str_bool (dI I q (by simp))
  | int j=>obtain ⟨t',rfl⟩:=ry;exact PySem.EqMixed.ne_str_int (dI I q (by simp))
  | str j=>obtain ⟨t',rfl⟩:=ry;exact ne_str (dI I q (congrArg not aAF))
  | _=>exact absurd (show false=true from hs) Bool.false_ne_true
 | byt i=>
  obtain ⟨t,rfl⟩:=rx
  cases y with
  | byt j=>obtain ⟨t',rfl⟩:=ry;exact PySem.W.ne_bytes (dI I q (congrArg not aAG))
  | _=>exact absurd (show false=true from hs) Bool.false_ne_true
 | _=>cases y <;> exact absurd (show false=true from hs) Bool.false_ne_true
theorem aAH:OpR X (compareOp .Lt) (rI0 fun i j=>.bl (decide (i < j))):=aFX fun _ _ _ _ _ _ _ q=>lt_int q
theorem aFu:OpR X (compareOp .Gt) (rI0 fun i j=>.bl (decide (j < i))):=aFX fun _ _ _ _ _ _ _ q=>gt_int q
theorem aGT:OpR X (compareOp .GtE) (rI0 fun i j=>.bl (decide (j≤i))):=aFX fun _ _ _ _ _ _ _ q=>ge_int q
theorem cM (b:Expr) {op:CmpOp} (h:op≠.In:=by decide) (h2:op≠.NotIn:=by decide):behindInMarks op b=false:=by
 have e1:(op == CmpOp.In)=false:=by cases op <;> first | rfl | exact absurd rfl h
 have e2:(op == CmpOp.NotIn)=false:=by cases op <;> first | rfl | exact absurd rfl h2
 cases b <;> simp [behindInMarks,e1,e2]
theorem rB {op:CmpOp}{r:R2} (ho:OpR X (compareOp op) r) (ha:PE X a ta) (hb:PE X b tb) (hm:behindInMarks op b=false):PE X (.Compare a [op] [b] pos) (tOp r ta tb):=by
 constructor
 intro pins s σ H Q I h
 exact wpAny_Compare1 (aFW ha hb I h fun v u s2 x y H2 I2 rx ry q=>ho pins s2 σ H2 x y v u Q I2 rx ry q) hm
def aGU (t:TE):TT:=fun σ H Q=>t σ H fun x H'=>As V.bl x fun k=>Q k H'
theorem bV {op:CmpOp}{r:R2} (ho:OpR X (compareOp op) r) (ha:PE X a ta) (hb:PE X b tb) (hm:behindInMarks op b=false):PT X (.Compare a [op] [b] pos) (aGU (tOp r ta tb)):=by
 constructor
 intro pins s σ H Q I h
 refine wpAny_isTrue_Compare1 (thn (ha pins s σ H _ I h) fun v s1 ⟨x,H1,I1,r1,q1⟩=>thn (hb pins s1 σ H1 _ I1 q1) fun u s2 ⟨y,H2,I2,r2,q2⟩=>
  thn (ho pins s2 σ H2 x y v u _ I2 r1 r2 q2) fun c s3 ⟨z,H3,I3,r3,k,e,q3⟩=>?_) hm
 subst e
 cases r3
 exact wpAny_truthy_bool ⟨H3,I3,q3⟩
def aGV (K:PySem.W.Frag) (x:V) (H:Hp) (k:Bool):Prop:=
 match x with
 | .non=>k=false
 | .bl b=>k=b
 | .int i=>k=(i != 0)
 | .str y=>y.length≤sizeLine∧k=((y.length:Int) != 0)
 | .byt y=>y.size≤sizeLine∧k=((y.size:Int) != 0)
 | .ref p=>(∃ xs,SqL K H p xs∧k=!xs.isEmpty)∨(∃ xs,SqT K H p xs∧k=!xs.isEmpty)∨∃ kvs,H p=some (.dK kvs)∧k=!kvs.isEmpty
 | _=>False
theorem zI {κ:Type}{kvs:List (κ×V)}{vs:List (κ×Value)} (r:KV kvs vs):(!vs.isEmpty)=!kvs.isEmpty:=by
 cases r <;> rfl
theorem rS {xs:List V}{its:List Value} (r:cO xs its):(!its.toArray.isEmpty)=!xs.isEmpty:=by
 cases r <;> simp
theorem nC:(sizeLine:Nat) < 2 ^ 63:=by rw [sizeLine_eq];decide
theorem aF1:aHJ X (fun x H Q=>∃ k,aGV X.K x H k∧Q k H):=by
 intro pins s σ H x v Q I rx h
 obtain ⟨k,e,q⟩:=h
 have hl:=nC
 have hs:sizeLine=16777216:=sizeLine_eq
 cases x with
 | non=>
  cases rx
  have e':k=false:=e
  subst e'
  exact truthy_none ⟨H,I,q⟩
 | bl b=>
  cases rx
  have e':k=b:=e
  subst e'
  exact wpAny_truthy_bool ⟨H,I,q⟩
 | int i=>
  obtain ⟨t,rfl⟩:=rx
  have e':k=(i != 0):=e
  subst e'
  exact PySem.P.truthy_int ⟨H,I,q⟩
 | str y=>
  obtain ⟨t,rfl⟩:=rx
  obtain ⟨hy,e'⟩:y.length≤sizeLine∧k=((y.length:Int) != 0):=e
  subst e'
  exact PySem.P.truthy_str (by omega) ⟨H,I.tok _,q⟩
 | byt y=>
  obtain ⟨t,rfl⟩:=rx
  obtain ⟨hy,e'⟩:y.size≤sizeLine∧k=((y.size:Int) != 0):=e
  subst e'
  exact PySem.W.truthy_bytes (by omega) ⟨H,I.tok _,q⟩
 | ref p=>
  cases rx
  have e':(∃ xs,SqL X.K H p xs∧k=!xs.isEmpty)∨(∃ xs,SqT X.K H p xs∧k=!xs.isEmpty)∨∃ kvs,H p=some (.dK kvs)∧k=!kvs.isEmpty:=e
  rcases e' with ⟨xs,hx,e'⟩ | ⟨xs,hx,e'⟩ | ⟨kvs,hx,e'⟩
  ·subst e'
   obtain ⟨its,r,pl,hz⟩:=I.list hx
   have hlen:=r.length
   exact wpAny_truthy_list pl.isList (by simp only [List.size_toArray];omega) ⟨H,I.tok _,by rw [rS r];exact q⟩
  ·subst e'
   obtain ⟨its,r,pl,hz⟩:=I.tuple hx
   have hlen:=r.length
   exact truthy_tuple pl (by simp only [List.size_toArray];omega) ⟨H,I.tok _,by rw [rS r];exact q⟩
  ·subst e'
   obtain ⟨hz,hS,vs,r,m⟩:kvs.length≤sizeLine∧(p == sysModules)=false∧∃ vs,KV kvs vs∧s.heap.DictOf (dM X.prog X.w) p vs:=I.hok p _ hx
   have hlen:kvs.length=vs.length:=Paired.length r
   exact wpAny_truthy_dict hS m (by omega) ⟨H,I.tok _,by rw [zI r];exact q⟩
 | _=>exact (show False from e).elim
theorem aCL (ha:PE X a ta) (he:∀ whole,isTrue a X.env whole=(do let v ← whole;standAt a.pos;holding [v] (truthy v))):
  PT X a (fun σ H Q=>ta σ H fun x H'=>∃ k,aGV X.K x H' k∧Q k H'):=by
 constructor
 intro pins s σ H Q I h
 exact isTrue_plain (thn (ha pins s σ H _ I h) fun v s1 ⟨x,H1,I1,r1,q1⟩=>aF1 pins s1 σ H1 x v Q I1 r1 q1) (he _)
inductive lJ (x:V) (y:V) (H:Hp) (Q:VK):Prop
 | mk (i:_) (j:_) (q0:x=.str i) (q1:y=.str j) (q2:i.length + j.length≤sizeLine) (q3:Q (.str (i ++ j)) H):lJ x y H Q
def wC:V→V→Hp→VK→Prop:=fun x y H Q=>lJ x y H Q
theorem kG:OpR X (binaryOp .Add) wC:=by
 intro pins s σ H x y v u Q I rx ry h
 obtain ⟨i,j,rfl,rfl,hz,q⟩:=h
 obtain ⟨t,rfl⟩:=rx
 obtain ⟨t',rfl⟩:=ry
 exact add_str (fun t' tk=>⟨.str (i ++ j),H,I.tok _,⟨_,rfl⟩,q⟩) hz
theorem i0 {x:V}{us:List Value} (r:cO [x] us):∃ u,us=[u]∧cS x u:=by
 cases r with
 | cons r1 r2=>cases r2;exact ⟨_,rfl,r1⟩
theorem aCM {x y:V}{us:List Value} (r:cO [x,y] us):∃ u w',us=[u,w']∧cS x u∧cS y w':=by
 cases r with
 | cons r1 r2=>
  cases r2 with
  | cons r3 r4=>cases r4;exact ⟨_,_,rfl,r1,r3⟩
inductive nZ (xs:List V) (H:Hp) (Q:VK):Prop
 | mk (i:_) (q0:xs=[.int i]) (q1:Q (.int (if i < 0 then -i else i)) H):nZ xs H Q
def zJ:List V→Hp→VK→Prop:=fun xs H Q=>nZ xs H Q
theorem rT:gW X (.builtin "abs") zJ:=by
 intro pins s σ H xs us Q I r h
 obtain ⟨i,rfl,q⟩:=h
 obtain ⟨u,rfl,t,rfl⟩:=i0 r
 exact call_abs_int fun u tk=>⟨.int (if i < 0 then -i else i),H,I.tok _,⟨_,rfl⟩,q⟩
inductive mV (xs:List V) (H:Hp) (Q:VK):Prop
 | mk (i:_) (j:_) (q0:xs=[.int i,.int j]) (q1:Q (.int (if j > i then j else i)) H):mV xs H Q
def xF:List V→Hp→VK→Prop:=fun xs H Q=>mV xs H Q
theorem aBP (hc:X.calm=true):gW X (.builtin "max") xF:=by
 intro pins s σ H xs us Q I r h
 obtain ⟨i,j,rfl,q⟩:=h
 obtain ⟨u,w',rfl,⟨t,rfl⟩,⟨t',rfl⟩⟩:=aCM r
 refine max_two_ints (I.ok.hd hc) fun h' tk k=>⟨_,H,I.kept k,?_,q⟩
 by_cases hj:j > i
 ·rw [if_pos hj,if_pos hj];exact ⟨_,rfl⟩
 ·rw [if_neg hj,if_neg hj];exact ⟨_,rfl⟩
inductive mY (xs:List V) (H:Hp) (Q:VK):Prop
 | mk (i:_) (j:_) (q0:xs=[.int i,.int j]) (q1:Q (.int (if j < i then j else i)) H):mY xs H Q
def xG:List V→Hp→VK→Prop:=fun xs H Q=>mY xs H Q
theorem pB (hc:X.calm=true):gW X (.builtin "min") xG:=by
 intro pins s σ H xs us Q I r h
 obtain ⟨i,j,rfl,q⟩:=h
 obtain ⟨u,w',rfl,⟨t,rfl⟩,⟨t',rfl⟩⟩:=aCM r
 refine min_two_ints (I.ok.hd hc) fun h' tk k=>⟨_,H,I.kept k,?_,q⟩
 by_cases hj:j < i
 ·rw [if_pos hj,if_pos hj];exact ⟨_,rfl⟩
 ·rw [if_neg hj,if_neg hj];exact ⟨_,rfl⟩
theorem aBQ:gW X (.type "int") (fun xs H Q=>(∃ i,xs=[.int i]∧Q (.int i) H)∨∃ k,xs=[.bl k]∧Q (.int (if k then 1 else 0)) H):=by
 intro pins s σ H xs us Q I r h
 rcases h with ⟨i,rfl,q⟩ | ⟨k,rfl,q⟩
 ·obtain ⟨u,rfl,t,rfl⟩:=i0 r
  exact call_int_int ⟨.int i,H,I,⟨_,rfl⟩,q⟩
 ·obtain ⟨u,rfl,r1⟩:=i0 r
  cases r1
  exact call_int_bool ⟨.int (if k then 1 else 0),H,I.tok _,⟨_,rfl⟩,q⟩
end
end L2
namespace L2
open PySem PySem.Spec PyProof.Rows
structure aBR (h:Heap) (x dx C:Addr) (mA:Str→Option Value):Prop where
 obj:h.get? x=some (PySem.W.instObj C dx)
 ns:h.Ns1 dx mA
 ne:dx≠x
theorem aBS {h:Heap}{dx:Addr}{mA:Str→Option Value} (n:h.Ns1 dx mA):∃ od,h.get? dx=some od∧∀ name,PySem.W.lookIn name od=some (mA name):=by
 obtain ⟨o,es,ep,ho,hd,hk,_,hm⟩:=n
 refine ⟨o,ho,fun name=>?_⟩
 have e:=hm name
 unfold nsFind findBy at e
 rw [← Array.find?_toList] at e
 unfold PySem.W.lookIn
 rw [hd]
 dsimp only
 split
 ·rename_i y q
  rw [q] at e
  exact congrArg some e
 ·rename_i q
  rw [q] at e
  have a:es.toList.any (·.refKey)=false:=by
   rw [List.any_eq_false]
   intro y hy
   obtain ⟨z,t,hkey⟩:=hk y (Array.mem_toList_iff.mp hy)
   simp [DictEntry.refKey,hkey]
  have a':¬ es.toList.any (·.refKey)=true:=by rw [a];exact Bool.false_ne_true
  rw [if_neg a']
  exact congrArg some e
theorem aBR.look {h:Heap}{x dx C:Addr}{mA:Str→Option Value} (I:aBR h x dx C mA):∃ od,PySem.W.InstAt h x (PySem.W.instObj C dx) C (some od)∧∀ name,PySem.W.lookIn name od=some (mA name):=
 let ⟨od,ho,hl⟩:=aBS I.ns
 ⟨od,⟨I.obj,rfl,rfl,ho⟩,hl⟩
section
variable {prog:Program}{w:World}{A:Around}{E:Value→Shared→Prop}{s:Shared}{K:PySem.W.Frag}{x dx C f:Addr}{mA:Str→Option Value}{name:Str}{v:Value}
theorem aEB {expr:Bool}{Q:Value→Shared→Prop} (X:K.In s.heap) (I:aBR s.heap x dx C mA) (hg:PySem.W.plainGet K C name=true) (hh:PySem.W.hasDictIn K C=true)
  (ha:PySem.W.findIn K (.ref C) name=some none) (hv:mA name=some v) (hv':PySem.W.handedIn v=true) (h:Q v { s with toks:=s.toks + 1 }):
  wpAny (model prog w) A (getAttr (.ref x) name expr) Q E s:=by
 obtain ⟨od,J,hl⟩:=I.look
 exact PySem.W.get_value X J (PySem.W.plainGet_of hg).1 (PySem.W.findObj_own hh ha rfl (by rw [hl,hv])) hv' h
theorem aEC {ns:List Str}{Q:Unit→Shared→Prop} (X:K.In s.heap) (I:aBR s.heap x dx C mA)
  (hs:PySem.W.findIn K (.ref C) "__setattr__"=some (some (.builtin "object.__setattr__"))) (hp:PySem.W.plainOver K C=true) (ht:PySem.W.takerIn K C name=some none) (hh:PySem.W.hasDictIn K C=true)
  (hw:PySem.Within mA ns) (hsz:ns.length≤sizeLine)
  (h:∀ h',aBR h' x dx C (fun y=>if y=name then some v else mA y)→Heap.SameBut dx s.heap h'→Q () { s with heap:=h',toks:=s.toks + 2 }):
  wpAny (model prog w) A (setAttr (.ref x) name v) Q E s:=by
 obtain ⟨od,J,hl⟩:=I.look
 refine PySem.W.set_plain X J hs (PySem.W.osa_open (s:={ s with toks:=s.toks + 1 }) (r:=none) X J hp ht fun b=>?_)
 obtain ⟨cd,hc,hd'⟩:=PySem.W.any_some hh
 have hx:s.heap.get? x=some ⟨.ref C,some dx,.plain,#[]⟩:=I.obj
 refine wpAny_bind (wpAny_pure (wpAny_bind (wpAny_bind (wpAny_loadPart hx (wpAny_bind (PySem.W.Looks.here (s:={ s with toks:=s.toks + 1 }) (PySem.W.looks_clsIn X hc) ?_))))))
 rw [hd']
 refine wpAny_pure (a:=some dx) (wpAny_bind (wpAny_pure (wpAny_bind ?_)))
 refine wpAny_nsSet1 (s:={ s with toks:=s.toks + 1 }) I.ns fun h' hn2 hs2=>?_
 obtain ⟨oD,esD,epD,hoD,hdD,hcD⟩:=hn2.count (PySem.Within.cons name v hw)
 refine wpAny_bind (wpAny_lookBehind hoD (by rw [hdD];exact pastItsLine_dict (Nat.le_trans hcD (by rw [List.length_cons];omega))) ?_)
 exact wpAny_pure (h _ ⟨(hs2.2 _ (Ne.symm I.ne)).trans I.obj,hn2,I.ne⟩ hs2)
theorem aCN {R:Result→Shared→Prop}{vs:List Value}{kw:List (Str×Value)} (X:K.In s.heap) (hm:PySem.W.makesIn K C=true)
  (hi:PySem.W.findIn K (.ref C) "__init__"=some (some (.ref f))) (hf:PySem.W.typeIn K (.ref f)=some (.type "function"))
  (h:codeAny (model prog w) (A.under (.builtin "type.__call__" ⟨.ref C :: vs,kw⟩)) (.call (.ref f) ⟨.ref (s.heap.objs.size + 1) :: vs,kw⟩) (PySem.W.InitBack (s.heap.objs.size + 1) R)
   { s with heap:=(s.heap.push PySem.W.emptyDict).push (PySem.W.instObj C s.heap.objs.size) }):
  codeAny (model prog w) A (.call (.ref C) ⟨vs,kw⟩) R s:=by
 obtain ⟨hh,g,d,t,os⟩:=s
 exact PySem.W.make_core (PySem.W.makes_of X hm) (PySem.W.looks_findIn X hi) (fun self=>PySem.W.bind_fn X self hf) (.inl rfl) h
end
def gE (f:Str) (v:V):List (Str×V)→List (Str×V)
 | []=>[(f,v)]
 | (g,x) :: r=>if g=f then (g,v) :: r else (g,x) :: gE f v r
theorem qC (f g:Str) (v:V):∀ fs:List (Str×V),(gE f v fs).lookup g=if g=f then some v else fs.lookup g
 | []=>by
  show List.lookup g [(f,v)]=_
  by_cases h:g=f
  ·have hb:(g == f)=true:=beq_iff_eq.mpr h
   simp only [List.lookup,hb,if_pos h]
  ·have hb:(g == f)=false:=beq_eq_false_iff_ne.mpr h
   simp only [List.lookup,hb,if_neg h]
 | (k,x) :: r=>by
  have ih:=qC f g v r
  rw [show gE f v ((k,x) :: r)=(if k=f then (k,v) :: r else (k,x) :: gE f v r) from rfl]
  by_cases hk:k=f
  ·rw [if_pos hk]
   by_cases h:g=k
   ·have hb:(g == k)=true:=beq_iff_eq.mpr h
    simp only [List.lookup,hb,if_pos (h.trans hk)]
   ·have hb:(g == k)=false:=beq_eq_false_iff_ne.mpr h
    simp only [List.lookup,hb,if_neg (fun e:g=f=>h (e.trans hk.symm))]
  ·rw [if_neg hk]
   by_cases h:g=k
   ·have hb:(g == k)=true:=beq_iff_eq.mpr h
    simp only [List.lookup,hb,if_neg (fun e:g=f=>hk (h.symm.trans e))]
   ·have hb:(g == k)=false:=beq_eq_false_iff_ne.mpr h
    simp only [List.lookup,hb]
    exact ih
theorem pC (f:Str) (v:V):∀ fs:List (Str×V),f∈(gE f v fs).map (·.1)∧∀ g,g∈fs.map (·.1)→g∈(gE f v fs).map (·.1)
 | []=>⟨by simp [gE],fun g h=>by simp at h⟩
 | (k,x) :: r=>by
  obtain ⟨i1,i2⟩:=pC f v r
  rw [show gE f v ((k,x) :: r)=(if k=f then (k,v) :: r else (k,x) :: gE f v r) from rfl]
  by_cases hk:k=f
  ·rw [if_pos hk]
   subst hk
   exact ⟨by simp,fun g h=>by simpa using h⟩
  ·rw [if_neg hk]
   refine ⟨?_,fun g h=>?_⟩
   ·rw [List.map_cons]
    exact List.mem_cons_of_mem _ i1
   ·rw [List.map_cons] at h ⊢
    rcases List.mem_cons.mp h with e | e
    ·exact List.mem_cons.mpr (.inl e)
    ·exact List.mem_cons_of_mem _ (i2 g e)
theorem qE (f:Str) (v:V):∀ fs:List (Str×V),(gE f v fs).length≤fs.length + 1
 | []=>by simp [gE]
 | (k,x) :: r=>by
  have ih:=qE f v r
  rw [show gE f v ((k,x) :: r)=(if k=f then (k,v) :: r else (k,x) :: gE f v r) from rfl]
  by_cases hk:k=f
  ·rw [if_pos hk,List.length_cons,List.length_cons];omega
  ·rw [if_neg hk,List.length_cons,List.length_cons];omega
theorem lF.some_of {v:V}{o:Option Value} (r:lF (some v) o):∃ u,o=some u∧cS v u:=by
 cases o with
 | none=>exact (show False from r).elim
 | some u=>exact ⟨u,rfl,r⟩
theorem aBT {v:V}{u:Value} (r:cS v u):PySem.W.handedIn u=true:=by
 cases v with
 | non=>cases (show u=Value.none from r);rfl
 | bl b=>cases (show u=Value.bool b from r);rfl
 | int i=>obtain ⟨t,e⟩:=(show ∃ t,u=Value.int i t from r);cases e;rfl
 | str x=>obtain ⟨t,e⟩:=(show ∃ t,u=Value.str x t from r);cases e;rfl
 | byt b=>obtain ⟨t,e⟩:=(show ∃ t,u=Value.bytes b t from r);cases e;rfl
 | flt b=>obtain ⟨t,e⟩:=(show ∃ t,u=Value.float b t from r);cases e;rfl
 | ref a=>cases (show u=Value.ref a from r);rfl
 | ty n=>cases (show u=Value.type n from r);rfl
section
variable {P:Program}{w:World}{H H':Hp}{h h':Heap}{a C dx:Addr}{fs fs':List (Str×V)}
theorem wD (hok:HOk P w H h) (e:H a=some (.ins C dx fs)):∃ mA,aBR h a dx C mA∧(∀ f,lF (fs.lookup f) (mA f))∧PySem.Within mA (fs.map (·.1))∧fs.length≤1000∧H dx=some (.own a):=by
 obtain ⟨d,z,ne,ob,mA,n,r,q⟩:=(show c6 P w H h a (.ins C dx fs) from hok a _ e)
 exact ⟨mA,⟨ob,n,ne⟩,r,q,z,d⟩
end
structure Cls (K:PySem.W.Frag) (C:Addr):Prop where
 pg:PySem.W.plainGet K C Str.empty=true
 hd:PySem.W.hasDictIn K C=true
 po:PySem.W.plainOver K C=true
 sa:PySem.W.findIn K (.ref C) "__setattr__"=some (some (.builtin "object.__setattr__"))
theorem Cls.get {K:PySem.W.Frag}{C:Addr} (c:Cls K C) (f:Str):PySem.W.plainGet K C f=true:=c.pg
def i4 (K:PySem.W.Frag) (C:Addr) (f:Str):Prop:=PySem.W.findIn K (.ref C) f=some none
theorem i4.taker {K:PySem.W.Frag}{C:Addr}{f:Str} (n:i4 K C f):PySem.W.takerIn K C f=some none:=by
 unfold PySem.W.takerIn
 rw [show PySem.W.findIn K (.ref C) f=some none from n]
 rfl
structure Con (K:PySem.W.Frag) (C:Addr) (f:Str) (v:V) (u:Value):Prop where
 at_:PySem.W.findIn K (.ref C) f=some (some u)
 rel:cS v u
 get:PySem.W.specialIn K u "__get__"=some none
 cp:PySem.W.copiedNames.contains f=false
structure aIe (K:PySem.W.Frag) (C:Addr) (m:Str) (f:Addr):Prop where
 at_:PySem.W.findIn K (.ref C) m=some (some (.ref f))
 fn:PySem.W.isFn K (.ref f)=true
 kp:PySem.W.keepIn K (.ref f)=true
section
variable {X:Cx}{pins:List (Addr×Obj)}{σ:St}{H:Hp}{s:Shared}{a C dx:Addr}{fs:List (Str×V)}{f:Str}{v:V}{A:Around}{E:Value→Shared→Prop}
theorem zK {b:Bool}{Q:Value→Shared→Prop} (I:Inv X pins σ H s) (e:H a=some (.ins C dx fs)) (c:Cls X.K C) (n:i4 X.K C f) (l:fs.lookup f=some v)
  (h:∀ u s',Inv X pins σ H s'→cS v u→Q u s'):wpAny (model X.prog X.w) A (getAttr (.ref a) f b) Q E s:=by
 obtain ⟨mA,O,r,_,_,_⟩:=wD I.hok e
 obtain ⟨u,hu,ru⟩:=lF.some_of (v:=v) (o:=mA f) (by rw [← l];exact r f)
 exact aEB I.kIn O (c.get f) c.hd n hu (aBT ru) (h u _ (I.tok _) ru)
theorem zL {y:V}{u:Value}{Q:Unit→Shared→Prop} (I:Inv X pins σ H s) (e:H a=some (.ins C dx fs)) (c:Cls X.K C) (n:i4 X.K C f) (hl:fs.length < 1000) (ry:cS y u)
  (h:∀ s',Inv X pins σ (upd H a (.ins C dx (gE f y fs))) s'→Q () s'):wpAny (model X.prog X.w) A (setAttr (.ref a) f u) Q E s:=by
 obtain ⟨mA,O,r,wi,_,ho⟩:=wD I.hok e
 have hz:(fs.map (·.1)).length≤sizeLine:=by rw [List.length_map,sizeLine_eq];omega
 refine aEC I.kIn O c.sa c.po n.taker c.hd wi hz fun h' O' sb=>h _ ?_
 have hd:∃ o,h'.get? dx=some o:=let ⟨o,_,_,e',_⟩:=O'.ns;⟨o,e'⟩
 refine I.write (x:=a) (e:=dx) (by rw [e];exact True.intro) (.inr ho) (fun b q hb z=>(sb.2 b hb).trans z) hd ?_
 refine ⟨by rw [aJ O.ne];exact ho,?_,O.ne,O'.obj,_,O'.ns,fun g=>?_,fun g hg=>?_⟩
 ·have:=qE f y fs;omega
 ·show lF ((gE f y fs).lookup g) (if g=f then some u else mA g)
  rw [qC]
  by_cases q:g=f
  ·rw [if_pos q,if_pos q];exact ry
  ·rw [if_neg q,if_neg q];exact r g
 ·by_cases q:g=f
  ·rw [q];exact (pC f y fs).1
  ·refine (pC f y fs).2 g (wi g fun z=>hg ?_)
   show (if g=f then some u else mA g)=none
   rw [if_neg q];exact z
theorem Inv.made (I:Inv X pins σ H s):Inv X pins σ (upd (upd H s.heap.objs.size (.own (s.heap.objs.size + 1))) (s.heap.objs.size + 1) (.ins C s.heap.objs.size []))
  { s with heap:=(s.heap.push PySem.W.emptyDict).push (PySem.W.instObj C s.heap.objs.size) }:=by
 have e1:(s.heap.push PySem.W.emptyDict).get? s.heap.objs.size=some PySem.W.emptyDict:=Heap.get?_push_size s.heap rfl
 have e2:((s.heap.push PySem.W.emptyDict).push (PySem.W.instObj C s.heap.objs.size)).get? (s.heap.objs.size + 1)=some (PySem.W.instObj C s.heap.objs.size):=by
  have:=Heap.get?_push_size (s.heap.push PySem.W.emptyDict) (o:=PySem.W.instObj C s.heap.objs.size) rfl
  rwa [Heap.size_push] at this
 have e3:(s.heap.push PySem.W.emptyDict).Ns s.heap.objs.size (fun _=>none):=⟨PySem.W.emptyDict,#[],_,e1,rfl,(fun e he=>absurd he (by simp)),fun _=>rfl⟩
 have I1:=I.laid (a:=s.heap.objs.size) (o:=.own (s.heap.objs.size + 1)) (h':=s.heap.push PySem.W.emptyDict) (t':=s.toks) (fun b u q=>Heap.get?_push_of_some _ q) (Nat.le_refl _) ⟨_,e1⟩
 refine I1.laid (a:=s.heap.objs.size + 1) (o:=.ins C s.heap.objs.size []) (t':=s.toks) (fun b u q=>Heap.get?_push_of_some _ q) (Nat.le_of_eq (Heap.size_push _ _)) ?_
 have ne:s.heap.objs.size≠s.heap.objs.size + 1:=Nat.ne_of_lt (Nat.lt_succ_self _)
 refine ⟨by rw [aJ ne,aF],Nat.zero_le _,ne,e2,fun _=>none,(Heap.Ns1.of_empty e3).at fun o q=>Heap.get?_push_of_some _ q,fun _=>True.intro,fun y hy=>absurd rfl hy⟩
theorem aED {prog:Program}{w:World}{env:Env}{e:Expr}{f:Str}{pos:Pos}{s:Shared}{Q:Value→Shared→Prop} (hb:attributeBase e f env (eval e env)=eval e env)
  (h:wpAny (model prog w) A (eval e env) (fun o s₁=>wpAny (model prog w) A (getAttr o f true) Q E s₁) E s):wpAny (model prog w) A (eval (.Attribute e f pos) env) Q E s:=
 Attribute_any_ h (by rw [arm_eval_Attribute,hb])
end
def aGW (K:PySem.W.Frag) (ta:TE) (f:Str):TE:=fun σ H Q=>ta σ H fun x H1=>∃ a C dx fs v,x=.ref a∧H1 a=some (.ins C dx fs)∧Cls K C∧i4 K C f∧fs.lookup f=some v∧Q v H1
def aHL (K:PySem.W.Frag) (ta tv:TE) (f:Str):TS:=fun D σ H=>tv σ H fun y H1=>ta σ H1 fun x H2=>∃ a C dx fs,x=.ref a∧H2 a=some (.ins C dx fs)∧Cls K C∧i4 K C f∧fs.length < 1000∧
 D.nx σ (upd H2 a (.ins C dx (gE f y fs)))
section
variable {X:Cx}{o e value:Expr}{f:Str}{pos pos' tpos:Pos}{ta tv:TE}
theorem dR (he:PE X e ta) (hb:attributeBase e f X.env (eval e X.env)=eval e X.env):PE X (.Attribute e f pos) (aGW X.K ta f):=by
 constructor
 intro pins s σ H Q I h
 refine aED hb (thn (he pins s σ H _ I h) fun u s1 ⟨x,H1,I1,rx,a,C,dx,fs,v,ex,ea,c,n,l,q⟩=>?_)
 subst ex
 obtain rfl:u=Value.ref a:=rx
 exact zK I1 ea c n l fun u' s2 I2 ru=>⟨v,H1,I2,ru,q⟩
theorem rV (ha:PE X o ta) (hv:PE X value tv) (hs:swapsWith value (some (.Attribute o f pos')) pos.line X.env=pure false):PS X (.Assign [.Attribute o f pos'] value pos) (aHL X.K ta tv f):=by
 constructor
 intro pins s σ H D I h
 refine plainObj_wpAny_Assign_Attribute (thn (hv pins s σ H _ I h) fun u s1 ⟨y,H1,I1,ry,q⟩=>thn (ha pins s1 σ H1 _ I1 q) fun ov s2 ⟨x,H2,I2,rx,a,C,dx,fs,ex,ea,c,n,l,q2⟩=>?_) hs
 subst ex
 obtain rfl:ov=Value.ref a:=rx
 exact zL I2 ea c n l ry fun s3 I3=>⟨σ,_,I3,q2⟩
end
section
variable {X:Cx}{pins:List (Addr×Obj)}{σ:St}{H:Hp}{s:Shared}{A:Around}{E:Value→Shared→Prop}{Q:Value→Shared→Prop}{c:Value}{b:Bool}
inductive n5 (K:PySem.W.Frag) (H:Hp):V→Value→Prop where
 | non:n5 K H .non (.type "NoneType")
 | bl (x:Bool):n5 K H (.bl x) (.type "bool")
 | int (i:Int):n5 K H (.int i) (.type "int")
 | str (x:Str):n5 K H (.str x) (.type "str")
 | flt (x:UInt64):n5 K H (.flt x) (.type "float")
 | lst {a:Addr} {xs:List V} (e:H a=some (.lst xs)):n5 K H (.ref a) (.type "list")
 | frz {a:Addr} {o:Obj} {xs:List V} (e:H a=some (.frz o (.lst xs))):n5 K H (.ref a) (.type "list")
 | tup {a:Addr} {xs:List V} (e:H a=some (.tup xs)):n5 K H (.ref a) (.type "tuple")
 | dK {a:Addr} {kvs:List (Key×V)} (e:H a=some (.dK kvs)):n5 K H (.ref a) (.type "dict")
 | dT {a:Addr} {kvs:List (List Key×V)} (e:H a=some (.dT kvs)):n5 K H (.ref a) (.type "dict")
 | ins {a C dx:Addr} {fs:List (Str×V)} (e:H a=some (.ins C dx fs)) (cl:Cls K C) (ha:PySem.W.findIn K (.ref C) "__class__"=some (some (.builtin "object.__class__")))
   (hn:PySem.W.specialIn K (.builtin "object.__class__") "__get__"=some (some (.builtin "getset_descriptor.__get__"))) (htk:PySem.W.takesIn K (.builtin "object.__class__")=some true)
   (hm:PySem.W.mroIn K C (.type "object")=some true):n5 K H (.ref a) (.ref C)
theorem aBU {x:V}{u t:Value} (I:Inv X pins σ H s) (rx:cS x u) (ty:n5 X.K H x t) (e:PySem.W.kitOne X.K t c=some b) (h:∀ tk,Q (.bool b) { s with toks:=tk }):
  wpAny (model X.prog X.w) A (call (.builtin "isinstance") [u,c]) Q E s:=by
 cases ty with
 | non=>cases (show u=Value.none from rx);exact PySem.W.kia_one PySem.W.kitx_none I.kIn True.intro e (fun z=>nomatch z) h
 | bl y=>cases (show u=Value.bool y from rx);exact PySem.W.kia_one PySem.W.kitx_bool I.kIn True.intro e (fun z=>nomatch z) h
 | int i=>obtain ⟨t,q⟩:=(show ∃ t,u=Value.int i t from rx);cases q;exact PySem.W.kia_one PySem.W.kitx_int I.kIn True.intro e (fun z=>nomatch z) h
 | str y=>obtain ⟨t,q⟩:=(show ∃ t,u=Value.str y t from rx);cases q;exact PySem.W.kia_one PySem.W.kitx_str I.kIn True.intro e (fun z=>nomatch z) h
 | flt y=>obtain ⟨t,q⟩:=(show ∃ t,u=Value.float y t from rx);cases q;exact PySem.W.kia_one PySem.W.kitx_float I.kIn True.intro e (fun z=>nomatch z) h
 | @lst a xs ea=>
  cases (show u=Value.ref a from rx)
  obtain ⟨_,_,n,_,h1⟩:=(show c6 X.prog X.w H s.heap a (.lst xs) from I.hok a _ ea)
  exact PySem.W.kia_one PySem.W.kitx_list I.kIn ⟨_,h1,rfl⟩ e (fun z=>nomatch z) h
 | @frz a ob xs ea=>
  cases (show u=Value.ref a from rx)
  obtain ⟨_,_,_,n,_,h1⟩:=(show c6 X.prog X.w H s.heap a (.frz ob (.lst xs)) from I.hok a _ ea)
  exact PySem.W.kia_one PySem.W.kitx_list I.kIn ⟨_,h1,rfl⟩ e (fun z=>nomatch z) h
 | @tup a xs ea=>
  cases (show u=Value.ref a from rx)
  obtain ⟨_,_,_,p⟩:=(show c6 X.prog X.w H s.heap a (.tup xs) from I.hok a _ ea)
  obtain ⟨o,h1,h2,_⟩:=p
  exact PySem.W.kia_one PySem.W.kitx_tuple I.kIn ⟨o,h1,h2.1⟩ e (fun z=>nomatch z) h
 | @dK a kvs ea=>
  cases (show u=Value.ref a from rx)
  obtain ⟨_,_,vs,_,p⟩:=(show c6 X.prog X.w H s.heap a (.dK kvs) from I.hok a _ ea)
  obtain ⟨o,es,ep,h1,h2,_⟩:=p
  exact PySem.W.kia_one PySem.W.kitx_dict I.kIn ⟨o,h1,h2.1⟩ e (fun z=>nomatch z) h
 | @dT a kvs ea=>
  cases (show u=Value.ref a from rx)
  obtain ⟨_,_,xs,_,o,es,ep,h1,h2,_⟩:=(show c6 X.prog X.w H s.heap a (.dT kvs) from I.hok a _ ea)
  exact PySem.W.kia_one PySem.W.kitx_dict I.kIn ⟨o,h1,h2.1⟩ e (fun z=>nomatch z) h
 | @ins a C dx fs ea cl ha hn htk hm=>
  cases (show u=Value.ref a from rx)
  obtain ⟨mA,O,_⟩:=wD I.hok ea
  obtain ⟨od,J,_⟩:=O.look
  exact PySem.W.kia_one (PySem.W.kitx_own (cl.get _) cl.hd ha hn htk hm) I.kIn J e (fun z=>nomatch z) h
end
end L2
namespace L2
open PySem PySem.Spec PyProof.Rows
structure dF (k:Nat) (A:Around):Prop where
 hd:A.handled=none
 dp:A.depth + 3 * k + 5 < recursionLimit
 un:A.units + 16 * k + 200 < cLine
 gd:A.guards=some []
theorem dF.mono {j k:Nat}{A:Around} (r:dF k A) (h:j≤k):dF j A:=⟨r.hd,by have:=r.dp;omega,by have:=r.un;omega,r.gd⟩
theorem dF.deeper {k:Nat}{A:Around} (r:dF (k + 1) A) (env:Env):dF k (A.deeper env):=
 ⟨r.hd,by have:=r.dp;show A.depth + 1 + 3 * k + 5 < _;omega,by have:=r.un;show A.units + 3 + 16 * k + 200 < _;omega,r.gd⟩
theorem dF.in1 {k:Nat}{A:Around} (r:dF (k + 1) A):dF k A.in1:=
 ⟨r.hd,by have:=r.dp;show A.depth + 3 * k + 5 < _;omega,by have:=r.un;show A.units + 1 + 16 * k + 200 < _;omega,r.gd⟩
theorem zM {A:Around}{C:Addr}{us:List Value}{kw:List (Str×Value)}:(A.under (.builtin "type.__call__" ⟨.ref C :: us,kw⟩)).depth=A.depth + 1:=by
 first | rfl | simp [Around.under,Code.weight,Code.isCreation,Code.isGuard,Code.isCaller,Code.frames,Code.isFrame,guardIds]
theorem zN {A:Around}{C:Addr}{us:List Value}{kw:List (Str×Value)}:(A.under (.builtin "type.__call__" ⟨.ref C :: us,kw⟩)).units=A.units + 1:=by
 first | rfl | simp [Around.under,Code.cUnits,Code.frames,Code.isFrame]
theorem xH {A:Around}{C:Addr}{us:List Value}{kw:List (Str×Value)}:(A.under (.builtin "type.__call__" ⟨.ref C :: us,kw⟩)).guards=A.guards:=by
 first | rfl | (cases A;rename_i a b c g e;cases g <;> first | rfl | simp [Around.under,Code.guards,Code.isGuard,guardIds,pushGuards])
theorem dF.make {k:Nat}{A:Around} (r:dF (k + 1) A) (C:Addr) (us:List Value) (kw:List (Str×Value)):dF k (A.under (.builtin "type.__call__" ⟨.ref C :: us,kw⟩)):=
 ⟨r.hd,by have:=r.dp;rw [zM];omega,by have:=r.un;rw [zN];omega,xH.trans r.gd⟩
theorem dF.depth {k:Nat}{A:Around} (r:dF k A):A.depth < recursionLimit:=by have:=r.dp;omega
theorem dF.units {k:Nat}{A:Around} (r:dF k A):A.units + 64 < cLine:=by have:=r.un;omega
theorem dF.units0 {k:Nat}{A:Around} (r:dF k A):A.units < cLine:=by have:=r.un;omega
def aCO:TA:=fun _ H Q=>Q [] H
def uM (ta:TE) (tr:TA):TA:=fun σ H Q=>ta σ H fun x H1=>tr σ H1 fun xs H2=>Q (x :: xs) H2
section
variable {X:Cx}{e:Expr}{es:List Expr}{te:TE}{t:TA}{pos:Pos}
theorem aB:PA X [] aCO:=⟨fun _ _ _ _ H Q I h=>Calls.spliced_nil ⟨[],H,I,.nil,h⟩⟩
theorem jC (ha:PE X e te) (hr:PA X es t) (hs:starEach (e :: es) X.env=(false,eval e X.env) :: starEach es X.env:=by rfl):PA X (e :: es) (uM te t):=by
 constructor
 intro pos pins s σ H Q I h
 rw [hs]
 show wpAny _ _ (spliced ((false,eval e X.env) :: backTo pos (starEach es X.env))) _ _ s
 refine Calls.spliced_cons (thn (ha pins s σ H _ I h) fun u s1 ⟨x,H1,I1,r1,q1⟩=>?_)
 exact thn (hr pos pins s1 σ H1 _ I1 q1) fun us s2 ⟨xs,H2,I2,r2,q2⟩=>⟨x :: xs,H2,I2,.cons r1 r2,q2⟩
def aHM (t:TA):TE:=fun σ H Q=>t σ H fun xs H1=>xs.length≤sizeLine∧∀ p,H1 p=none→Q (.ref p) (upd H1 p (.tup xs))
def aHN (t:TA):TE:=fun σ H Q=>t σ H fun xs H1=>xs.length≤sizeLine∧∀ p,H1 p=none→Q (.ref p) (upd H1 p (.lst xs))
theorem c0 {x1} (h:PA X es t):PE X (.Tuple es x1 pos) (aHM t):=by
 constructor
 intro pins s σ H Q I hq
 refine wpAny_Tuple_spliced (thn (h pos pins s σ H _ I hq) fun us s1 ⟨xs,H1,I1,r,z,q⟩=>⟨by rw [← r.length];exact z,?_⟩)
 have hf:H1 s1.heap.objs.size=none:=I1.hok.fresh (Nat.le_refl _)
 refine ⟨.ref s1.heap.objs.size,upd H1 s1.heap.objs.size (.tup xs),I1.laid (t':=s1.toks) (fun b u e=>Heap.get?_push_of_some _ e) (Nat.le_refl _) ?_,rfl,q _ hf⟩
 exact ⟨z,us,r,⟨_,Heap.get?_push_size _ rfl,⟨rfl,_,rfl⟩,rfl⟩⟩
theorem dA (h:PA X es t):PE X (.List es pos) (aHN t):=by
 constructor
 intro pins s σ H Q I hq
 refine wpAny_List_spliced (thn (h pos pins s σ H _ I hq) fun us s1 ⟨xs,H1,I1,r,z,q⟩=>⟨by rw [← r.length];exact z,?_⟩)
 have hf:H1 s1.heap.objs.size=none:=I1.hok.fresh (Nat.le_refl _)
 refine ⟨.ref s1.heap.objs.size,upd H1 s1.heap.objs.size (.lst xs),I1.laid (t':=s1.toks) (fun b u e=>Heap.get?_push_of_some _ e) (Nat.le_refl _) ?_,rfl,q _ hf⟩
 exact ⟨z,us,0,r,Heap.get?_push_size _ rfl⟩
end
abbrev Sp:=List V→Hp→VK→XK→Prop
abbrev CXT:=List Env→Hp→Shared→XK→Value→Shared→Prop
structure qU (P:Program) (w:World) (K:PySem.W.Frag) (mg:Str→Option Value) (base:Heap) (A:Around) (outer:List Env) (s:Shared) (H:Hp):Prop where
 frames:A.frames=some outer
 mod:Mod K mg base
 bs:∀ b o,base.get? b=some o→s.heap.get? b=some o∧H b=none
 bsz:base.objs.size≤s.heap.objs.size
 funs:s.heap.FunFrames base outer
 frf:∀ b∈frs outer,H b=none
 hok:HOk P w H s.heap
 bare:AllBare s.gens
inductive aGX (outer:List Env) (P:Program) (w:World) (H:Hp) (s:Shared) (Q:VK) (u:Value) (s':Shared):Prop
 | mk (v:_) (H':_) (q0:s'.os=s.os) (q1:AllBare s'.gens) (q2:Un (frs outer) [] H H' s.heap s'.heap) (q3:HOk P w H' s'.heap) (q4:cS v u) (q5:Q v H'):aGX outer P w H s Q u s'
def CE (outer:List Env) (P:Program) (w:World) (H:Hp) (s:Shared) (Q:VK) (u:Value) (s':Shared):Prop:=aGX outer P w H s Q u s'
def CR (CX:CXT) (outer:List Env) (P:Program) (w:World) (H:Hp) (s:Shared) (Q:VK) (E:XK) (r:Result) (s':Shared):Prop:=
 match r with
 | .ok (.ret u)=>CE outer P w H s Q u s'
 | .ok _=>False
 | .error e=>CX outer H s E e s'
structure cC (P:Program) (w:World) (K:PySem.W.Frag) (mg:Str→Option Value) (base:Heap) (CX:CXT) (k:Nat) (f:Addr) (fd:FuncData) (ps:List Str) (sp:Sp):Prop where
 len:∀ vs H Q E,sp vs H Q E→vs.length=ps.length
 run:∀ (A:Around) (outer:List Env) (s:Shared) (H:Hp) (args:Args) (us:List Value) (vs:List V) (Q:VK) (E:XK),dF k A→qU P w K mg base A outer s H→BindsTo s fd args (ps.zip us)→cO vs us→sp vs H Q E→
  codeAny (model P w) A (.call (.ref f) args) (CR CX outer P w H s Q E) s
theorem cC.mono {P:Program}{w:World}{K:PySem.W.Frag}{mg:Str→Option Value}{base:Heap}{CX:CXT}{j k:Nat}{f:Addr}{fd:FuncData}{ps:List Str}{sp:Sp} (F:cC P w K mg base CX j f fd ps sp) (h:j≤k):
  cC P w K mg base CX k f fd ps sp:=⟨F.len,fun A outer s H args us vs Q E hr=>F.run A outer s H args us vs Q E (hr.mono h)⟩
theorem qU.make {P:Program}{w:World}{K:PySem.W.Frag}{mg:Str→Option Value}{base:Heap}{A:Around}{outer:List Env}{s:Shared}{H:Hp} (e:qU P w K mg base A outer s H) (C:Addr) (us:List Value) (kw:List (Str×Value)):
  qU P w K mg base (A.under (.builtin "type.__call__" ⟨.ref C :: us,kw⟩)) outer s H:=⟨by first | exact e.frames | (simpa [Around.under,Code.envs,Code.isFrame,pushEnvs] using e.frames),e.mod,e.bs,e.bsz,e.funs,e.frf,e.hok,e.bare⟩
section
variable {X:Cx}{pins:List (Addr×Obj)}{σ:St}{H:Hp}{s s':Shared}
theorem Inv.env0 (I:Inv X pins σ H s):qU X.prog X.w X.K X.mg X.base X.A X.stack s H:=
 ⟨I.ok.frames,I.ok.mod,I.bs,Nat.le_trans I.ok.bsz I.sz,I.stack,I.stkFree,I.hok,I.bare⟩
theorem Inv.after {Q:VK}{u:Value} (I:Inv X pins σ H s) (h:CE X.stack X.prog X.w H s Q u s'):EP X pins σ Q u s':=by
 obtain ⟨v,H',os,bare,un,hok,r,q⟩:=h
 obtain ⟨hh,g,d,t,os'⟩:=s'
 obtain rfl:os'=s.os:=os
 exact ⟨v,H',I.call (h':=hh) (g':=g) (d':=d) (t':=t) (ch:=[]) un hok bare (fun b z=>absurd z (by simp)),r,q⟩
end
def aGY (sp:Sp) (dvs:List V) (E:XK) (t:TA):TE:=fun σ H Q=>t σ H fun vs H1=>sp (vs ++ dvs) H1 Q E
def aGZ (C:Addr) (sp:Sp) (dvs:List V) (E:XK) (t:TA):TE:=fun σ H Q=>t σ H fun vs H1=>∀ x dx,H1 x=none→H1 dx=none→dx≠x→
 sp (.ref x :: (vs ++ dvs)) (upd (upd H1 dx (.own x)) x (.ins C dx [])) (fun v H2=>v=.non∧Q (.ref x) H2) E
def cQ (K:PySem.W.Frag) (fd:FuncData) (ps:List Str) (ds:List Value):Prop:=
 ∀ (s:Shared) (us:List Value),K.In s.heap→(us ++ ds).length=ps.length→BindsTo s fd ⟨us,[]⟩ (ps.zip (us ++ ds))
theorem cQ.all {K:PySem.W.Frag}{fd:FuncData}{ps:List Str} (h:∀ us:List Value,us.length=ps.length→bindArgs fd ⟨us,[]⟩=pure (ps.zip us)):cQ K fd ps []:=fun s us _ hl=>by
 rw [List.append_nil] at hl ⊢
 exact .of_eq (h us hl)
def lM (CX:CXT) (X:Cx) (E:XK):Prop:=∀ (pins:List (Addr×Obj)) (σ:St) (H:Hp) (s:Shared) (e:Value) (s':Shared),Inv X pins σ H s→CX X.stack H s E e s'→X.xe e s'
section
variable {X:Cx}{CX:CXT}{k:Nat}{f C:Addr}{fd:FuncData}{ps:List Str}{sp:Sp}{dvs:List V}{ds:List Value}{E:XK}{x m:Str}{p pos apos:Pos}{e o:Expr}{es:List Expr}{ta:TE}{t:TA}
theorem aCP {pins:List (Addr×Obj)}{σ:St}{H:Hp}{s:Shared}{Q:VK}{us:List Value}{vs:List V} (F:cC X.prog X.w X.K X.mg X.base CX k f fd ps sp) (hr:dF k X.A) (hb:cQ X.K fd ps ds) (hd:cO dvs ds) (hx:lM CX X E)
  (I:Inv X pins σ H s) (r:cO vs us) (h:sp (vs ++ dvs) H Q E):wpAny (model X.prog X.w) X.A (call (.ref f) us) (EP X pins σ Q) X.xe s:=by
 have r2:cO (vs ++ dvs) (us ++ ds):=r.append hd
 have hl:(us ++ ds).length=ps.length:=by rw [← r2.length];exact F.len _ _ _ _ h
 refine wpAny_call (codeAny_mono (F.run X.A X.stack s H ⟨us,[]⟩ (us ++ ds) (vs ++ dvs) Q E hr I.env0 (hb s us I.kIn hl) r2 h) fun r s' hq=>?_)
 cases r with
 | error e=>exact hx pins σ H s e s' I hq
 | ok fl=>
  cases fl with
  | ret u=>exact I.after hq
  | next=>exact False.elim hq
  | brk=>exact False.elim hq
  | cont=>exact False.elim hq
theorem aS (F:cC X.prog X.w X.K X.mg X.base CX k f fd ps sp) (hr:dF k X.A) (hg:Gl X x) (hm:X.mg x=some (.ref f)) (hk:PySem.W.keepIn X.K (.ref f)=true) (hb:cQ X.K fd ps ds) (hd:cO dvs ds) (hx:lM CX X E)
  (ha:PA X (e :: es) t) (hdb:(x == ("__debug__":Str))=false:=by decide) (he:starEach (e :: es) X.env=(false,eval e X.env) :: starEach es X.env:=by rfl) (hpl:(backTo pos (starEach es X.env)).any (·.1)=false:=by rfl):
  PE X (.Call (.Name x p) (e :: es) [] pos) (aGY sp dvs E t):=by
 constructor
 intro pins s σ H Q I h
 refine wpAny_Call_Name_kw (nX I hg hm ?_ hdb)
 refine PySem.W.callWith_K (h₀:=X.base) I.ok.mod.kin hk (thn (ha pos pins s σ H _ I h) fun us s1 ⟨vs,H1,I1,r,q⟩=>⟨I1.kIn,?_⟩) he hpl
 exact aCP F hr hb hd hx I1 r q
structure Mk (K:PySem.W.Frag) (C f:Addr):Prop where
 makes:PySem.W.makesIn K C=true
 init:PySem.W.findIn K (.ref C) "__init__"=some (some (.ref f))
 fn:PySem.W.isFn K (.ref f)=true
 kp:PySem.W.keepIn K (.ref C)=true
theorem aCQ {pins:List (Addr×Obj)}{σ:St}{H:Hp}{s:Shared}{Q:VK}{us:List Value}{vs:List V} (M:Mk X.K C f) (F:cC X.prog X.w X.K X.mg X.base CX k f fd ps sp) (hr:dF (k + 1) X.A) (hb:cQ X.K fd ps ds) (hd:cO dvs ds)
  (hx:lM CX X E) (I:Inv X pins σ H s) (r:cO vs us)
  (h:∀ x dx,H x=none→H dx=none→dx≠x→sp (.ref x :: (vs ++ dvs)) (upd (upd H dx (.own x)) x (.ins C dx [])) (fun v H2=>v=.non∧Q (.ref x) H2) E):
  wpAny (model X.prog X.w) X.A (call (.ref C) us) (EP X pins σ Q) X.xe s:=by
 have hq:=h (s.heap.objs.size + 1) s.heap.objs.size (I.hok.fresh (Nat.le_succ _)) (I.hok.fresh (Nat.le_refl _)) (Nat.ne_of_lt (Nat.lt_succ_self _))
 have I2:=Inv.made (C:=C) I
 have r2:cO (V.ref (s.heap.objs.size + 1) :: (vs ++ dvs)) (Value.ref (s.heap.objs.size + 1) :: (us ++ ds)):=.cons rfl (r.append hd)
 have hl:(Value.ref (s.heap.objs.size + 1) :: us ++ ds).length=ps.length:=by
  have e:=r2.length
  rw [F.len _ _ _ _ hq] at e
  exact e.symm
 refine wpAny_call (aCN (f:=f) I.kIn M.makes M.init (beq_iff_eq.mp M.fn) (codeAny_mono (F.run _ X.stack _ _ ⟨Value.ref (s.heap.objs.size + 1) :: us,[]⟩ (Value.ref (s.heap.objs.size + 1) :: (us ++ ds)) _ _ E (hr.make C us [])
  (I2.env0.make C us []) (hb _ (Value.ref (s.heap.objs.size + 1) :: us) I2.kIn hl) r2 hq) fun r s' hq'=>?_))
 cases r with
 | error e=>exact hx pins σ _ _ e s' I2 hq'
 | ok fl=>
  cases fl with
  | ret u=>
   obtain ⟨v,H',I3,rv,ev,q3⟩:=I2.after hq'
   subst ev
   exact ⟨rv,⟨V.ref (s.heap.objs.size + 1),H',I3,rfl,q3⟩⟩
  | next=>exact False.elim hq'
  | brk=>exact False.elim hq'
  | cont=>exact False.elim hq'
theorem aEE (M:Mk X.K C f) (F:cC X.prog X.w X.K X.mg X.base CX k f fd ps sp) (hr:dF (k + 1) X.A) (hg:Gl X x) (hm:X.mg x=some (.ref C)) (hb:cQ X.K fd ps ds) (hd:cO dvs ds) (hx:lM CX X E)
  (ha:PA X (e :: es) t) (hdb:(x == ("__debug__":Str))=false:=by decide) (he:starEach (e :: es) X.env=(false,eval e X.env) :: starEach es X.env:=by rfl) (hpl:(backTo pos (starEach es X.env)).any (·.1)=false:=by rfl):
  PE X (.Call (.Name x p) (e :: es) [] pos) (aGZ C sp dvs E t):=by
 constructor
 intro pins s σ H Q I h
 refine wpAny_Call_Name_kw (nX I hg hm ?_ hdb)
 refine PySem.W.callWith_K (h₀:=X.base) I.ok.mod.kin M.kp (thn (ha pos pins s σ H _ I h) fun us s1 ⟨vs,H1,I1,r,q⟩=>⟨I1.kIn,?_⟩) he hpl
 exact aCQ M F hr hb hd hx I1 r q
end
structure PK (X:Cx) (kws:List Keyword) (t:TA):Prop where
 run:
  ∀ (pos:Pos) (pins:List (Addr×Obj)) (s:Shared) (σ:St) (H:Hp) (Q:List V→Hp→Prop),Inv X pins σ H s→t σ H Q→wpAny (model X.prog X.w) X.A (evalAll ((backToKw pos (keywordEach kws X.env)).map (·.2))) (AP X pins σ Q) X.xe s
instance {X:Cx} {kws:List Keyword} {t:TA}:CoeFun (PK X kws t) (fun _=>
 ∀ (pos:Pos) (pins:List (Addr×Obj)) (s:Shared) (σ:St) (H:Hp) (Q:List V→Hp→Prop),Inv X pins σ H s→t σ H Q→wpAny (model X.prog X.w) X.A (evalAll ((backToKw pos (keywordEach kws X.env)).map (·.2))) (AP X pins σ Q) X.xe s):=⟨fun h=>h.run⟩
section
variable {X:Cx}{CX:CXT}{k:Nat}{f C:Addr}{fd:FuncData}{ps ks:List Str}{sp:Sp}{E:XK}{x m:Str}{p pos apos kpos:Pos}{e o:Expr}{es:List Expr}{kws:List Keyword}{te ta:TE}{t tk:TA}{nm:Option Str}
theorem aCR:PK X [] aCO:=⟨fun _ _ _ _ H Q I h=>wpAny_evalAll_nil ⟨[],H,I,.nil,h⟩⟩
theorem aAI (ha:PE X e te) (hr:PK X kws t):PK X (⟨nm,e,kpos⟩ :: kws) (uM te t):=by
 constructor
 intro pos pins s σ H Q I h
 show wpAny _ _ (evalAll ((do let v ← eval e X.env;standAt pos;pure v) :: (backToKw pos (keywordEach kws X.env)).map (·.2))) _ _ s
 refine wpAny_evalAll_cons (wpAny_bind (thn (ha pins s σ H _ I h) fun u s1 ⟨x,H1,I1,r1,q1⟩=>wpAny_bind (wpAny_standAt (wpAny_pure ?_))))
 exact thn (hr pos pins s1 σ H1 _ I1 q1) fun us s2 ⟨xs,H2,I2,r2,q2⟩=>⟨x :: xs,H2,I2,.cons r1 r2,q2⟩
structure aHO (K:PySem.W.Frag) (fd:FuncData) (ps ks:List Str) (g:List Value→List Value→List Value) (gV:List V→List V→List V):Prop where
 to:∀ (s:Shared) (us ws:List Value),K.In s.heap→(g us ws).length=ps.length→BindsTo s fd ⟨us,ks.zip ws⟩ (ps.zip (g us ws))
 rel:∀ {vs:List V} {us:List Value} {zs:List V} {ws:List Value},cO vs us→cO zs ws→cO (gV vs zs) (g us ws)
variable {g:List Value→List Value→List Value}{gV:List V→List V→List V}
end
structure cA (N P:List Str) (sc:Scope):Prop where
 kind:sc.kind=.function
 co:sc.isCoroutine=false
 gen:sc.isGenerator=false
 nd:N.Nodup
 pre:N.take P.length=P
 par:∀ x∈P,sc.names.lookup x=some .local∨sc.names.lookup x=some .cell
 nofree:∀ y∈sc.names,y.2≠.free
theorem uN {kindOf:Str→Option NameKind}{x:Str}:∀ {binds:List (Str×Value)}{m:Str→Option Value},(∀ v,(x,v) ∉ binds)→bindL kindOf binds m x=m x
 | [],_,_=>rfl
 | (n,v) :: r,m,h=>by
  unfold bindL
  rw [uN fun w hw=>h w (List.mem_cons_of_mem _ hw)]
  split
  ·have:x≠n:=by rintro rfl;exact h v List.mem_cons_self
   simp [this]
  ·rfl
theorem uO {kindOf:Str→Option NameKind}{x:Str}:∀ {binds:List (Str×Value)}{m:Str→Option Value},(∀ v,(x,v) ∉ binds)→bindC kindOf binds m x=m x
 | [],_,_=>rfl
 | (n,v) :: r,m,h=>by
  unfold bindC
  rw [uO fun w hw=>h w (List.mem_cons_of_mem _ hw)]
  split
  ·rfl
  ·have:x≠n:=by rintro rfl;exact h v List.mem_cons_self
   simp [this]
theorem pE {kindOf:Str→Option NameKind}{x:Str}{v:Value}:∀ {P:List Str}{vs:List Value}{i:Nat}{m:Str→Option Value},P.Nodup→P[i]?=some x→vs[i]?=some v→kindOf x=some .local→
  bindL kindOf (P.zip vs) m x=some v
 | [],_,_,_,_,h,_,_=>by simp at h
 | _ :: _,[],_,_,_,_,h,_=>by simp at h
 | p :: P,w :: vs,0,m,nd,h1,h2,hk=>by
  simp at h1 h2;subst h1;subst h2
  show bindL kindOf ((p,w) :: P.zip vs) m p=_
  unfold bindL
  rw [uN fun v hv=>(List.nodup_cons.mp nd).1 (List.of_mem_zip hv).1,if_pos hk]
  simp
 | p :: P,w :: vs,i + 1,m,nd,h1,h2,hk=>by
  show bindL kindOf ((p,w) :: P.zip vs) m x=_
  unfold bindL
  exact pE (i:=i) (List.nodup_cons.mp nd).2 (by simpa using h1) (by simpa using h2) hk
theorem uP {kindOf:Str→Option NameKind}{x:Str}{v:Value}:∀ {P:List Str}{vs:List Value}{i:Nat}{m:Str→Option Value},P.Nodup→P[i]?=some x→vs[i]?=some v→kindOf x≠some .local→
  bindC kindOf (P.zip vs) m x=some v
 | [],_,_,_,_,h,_,_=>by simp at h
 | _ :: _,[],_,_,_,_,h,_=>by simp at h
 | p :: P,w :: vs,0,m,nd,h1,h2,hk=>by
  simp at h1 h2;subst h1;subst h2
  show bindC kindOf ((p,w) :: P.zip vs) m p=_
  unfold bindC
  rw [uO fun v hv=>(List.nodup_cons.mp nd).1 (List.of_mem_zip hv).1,if_neg hk]
  simp
 | p :: P,w :: vs,i + 1,m,nd,h1,h2,hk=>by
  show bindC kindOf ((p,w) :: P.zip vs) m x=_
  unfold bindC
  exact uP (i:=i) (List.nodup_cons.mp nd).2 (by simpa using h1) (by simpa using h2) hk
def start (N:List Str) (vs:List V):St:=vs.map some ++ List.replicate (N.length - vs.length) none
def iL (CX:CXT) (P:Program) (w:World) (K:PySem.W.Frag) (mg:Str→Option Value) (base:Heap) (N:List Str) (qual:Str) (scope:Scope) (f:Addr) (cd:Value) (A:Around) (outer:List Env) (s:Shared) (H:Hp) (E:XK):Cx where
 prog:=P
 w:=w
 K:=K
 mg:=mg
 base:=base
 A:=A.deeper (envOfC qual scope s.heap.objs.size f cd)
 N:=N
 s₀:=s
 H₀:=H
 env:=envOfC qual scope s.heap.objs.size f cd
 outer:=outer
 stack:=envOfC qual scope s.heap.objs.size f cd :: outer
 ex:=[]
 calm:=true
 fn:=fun _=>true
 pn:=[]
 xe:=fun e s'=>wpAny (model P w) (A.deeper (envOfC qual scope s.heap.objs.size f cd)) (leaving (envOfC qual scope s.heap.objs.size f cd) e) (fun _ s''=>CX outer H s E e s'') (fun e' s''=>CX outer H s E e' s'') s'
theorem xI {sc:Scope}{n:Nat}{x:Str} (h:sc.names.lookup x=some .cell):∃ c,(cellsFrom n sc.names []).lookup x=some c:=by
 have q:=PySem.W.cellsFrom_some sc.names n [] (.inl h)
 exact Option.isSome_iff_exists.mp q
theorem aBV {CX:CXT}{P:Program}{w:World}{K:PySem.W.Frag}{mg:Str→Option Value}{base:Heap}{N ps:List Str}{qual:Str}{scope:Scope}{f:Addr}{cd:Value}{A:Around}{outer:List Env}{s s1:Shared}{H:Hp}{E:XK}{us:List Value}{vs:List V}
  (S:cA N ps scope) (hd:A.handled=none) (e0:qU P w K mg base A outer s H) (hl:vs.length=ps.length) (r:cO vs us)
  (x:InCallC s s.heap.objs.size (bindL (envOfC qual scope s.heap.objs.size f cd).kindOf (ps.zip us) fun _=>none) (cellsFrom (s.heap.objs.size + 1) scope.names []) (bindC (envOfC qual scope s.heap.objs.size f cd).kindOf (ps.zip us) fun _=>none) s1):
  Inv (iL CX P w K mg base N qual scope f cd A outer s H E) [] (start N vs) H s1:=by
 have hpl:ps.length≤N.length:=by have:=congrArg List.length S.pre;rw [List.length_take] at this;omega
 obtain ⟨h1,tk,rfl,hk⟩:=x.done
 have noA:∀ b:Addr,b ∉ (iL CX P w K mg base N qual scope f cd A outer s H E).ex:=fun b z=>absurd (show b∈([]:List Addr) from z) (by simp)
 refine ⟨⟨e0.mod,S.kind,rfl,rfl,Nat.le_refl _,fun y z c h1 h2=>?_,fun y hy=>?_,fun y c _ h=>?_,fun _=>hd,Around.frames_deeper e0.frames,.inr ⟨rfl,rfl⟩,fun b z=>absurd z (noA b),e0.bs,e0.bsz,fun b _ _=>noA b,fun b z=>absurd z (noA b),e0.funs,e0.frf⟩,
  rfl,e0.bare,Un.kept hk,⟨_,x.toInCall.ns,fun i y v h1 h2 h3=>?_⟩,fun y c h=>⟨_,x.cell y c h⟩,e0.hok.fresh (Nat.le_refl _),fun y c h=>?_,fun p hp=>absurd (show p∈([]:List (Addr×Obj)) from hp) (by simp),e0.hok.kept hk,?_⟩
 ·exact name_of_addr x.apart (PySem.mem_of_lookup h1) (PySem.mem_of_lookup h2)
 ·have hy:scope.names.lookup y=some .cell∨scope.names.lookup y=some .free:=hy
  rcases hy with hy | hy
  ·exact xI hy
  ·exact absurd rfl (S.nofree _ (PySem.mem_of_lookup hy))
 ·exact Nat.le_of_lt (x.above y c (PySem.mem_of_lookup h))
 ·have hi:i < vs.length:=by
   unfold start at h2
   by_cases hi:i < vs.length
   ·exact hi
   ·rw [List.getElem?_append_right (by simpa using hi)] at h2
    rw [List.getElem?_replicate] at h2
    split at h2 <;> cases h2
  have ha:vs[i]?=some v:=by
   unfold start at h2
   rw [List.getElem?_append_left (by simpa using hi),List.getElem?_map] at h2
   cases e:vs[i]? with
   | none=>rw [e] at h2;cases h2
   | some a=>rw [e] at h2;cases h2;rfl
  obtain ⟨u,hu,rv⟩:=r.get ha
  have hp:ps[i]?=some y:=by
   rw [← S.pre,List.getElem?_take_of_lt (by omega)];exact h1
  have ndP:ps.Nodup:=by rw [← S.pre];exact S.nd.sublist (List.take_sublist _ _)
  refine ⟨u,rv,?_⟩
  rcases S.par y (List.mem_of_getElem? hp) with k | k
  ·exact .inl ⟨k,pE ndP hp hu k⟩
  ·obtain ⟨c,e⟩:=xI (n:=s.heap.objs.size + 1) k
   refine .inr ⟨.inl k,c,e,?_⟩
   have q:=x.cell y c e
   rw [uP ndP hp hu (by show scope.names.lookup y≠_;rw [k];decide)] at q
   exact q
 ·exact e0.hok.fresh (Nat.le_of_lt (x.above y c (PySem.mem_of_lookup h)))
 ·unfold start
  show _=N.length
  rw [List.length_append,List.length_map,List.length_replicate]
  omega
theorem aCS {CX:CXT}{P:Program}{w:World}{K:PySem.W.Frag}{mg:Str→Option Value}{base:Heap}{k:Nat}{f:Addr}{name qual:Str}{params:Arguments}{body:List Stmt}{scope:Scope}{dV kV doc pm cdv ct oc:Value}{an od:Option Addr}
  {osl:Array (Option Value)} {N ps:List Str} {sp:Sp} (lk:K.lookup f=some ⟨oc,od,.func (PySem.W.fnOf name qual params body scope dV kV doc pm an cdv ct),osl⟩) (hcd:PySem.W.codeIn K cdv qual=true) (S:cA N ps scope)
  (len:∀ vs H Q E,sp vs H Q E→vs.length=ps.length)
  (hbody:∀ (A:Around) (outer:List Env) (s:Shared) (H:Hp) (vs:List V) (Q:VK) (E:XK),dF k (A.deeper (envOfC qual scope s.heap.objs.size f cdv))→sp vs H Q E→
   ∃ t,PSs (iL CX P w K mg base N qual scope f cdv A outer s H E) body t∧t { nx:=fun _ H'=>Q .non H',rt:=Q } (start N vs) H):
  cC P w K mg base CX (k + 1) f (PySem.W.fnOf name qual params body scope dV kV doc pm an cdv ct) ps sp:=by
 refine ⟨len,fun A outer s H args us vs Q E hr e0 hb r hsp=>?_⟩
 have hl:=len _ _ _ _ hsp
 have KX:K.In s.heap:=e0.mod.kin.keeps fun b o e=>(e0.bs b o e).1
 have lim:s.heap.NoLimit:=e0.mod.nolimit.keeps fun b o e=>(e0.bs b o e).1
 have hkind:∀ y∈ps.zip us,scope.names.lookup y.1=some .local∨(scope.names.lookup y.1=some .cell∧((cellsFrom (s.heap.objs.size + 1) scope.names []).lookup y.1).isSome=true):=fun ⟨n,v⟩ hy=>by
  rcases S.par n (List.of_mem_zip hy).1 with q | q
  ·exact .inl q
  ·exact .inr ⟨q,PySem.W.cellsFrom_some _ _ _ (.inl q)⟩
 refine codeAny_call_function hr.depth (KX _ _ lk) rfl S.co S.gen rfl (PySem.W.codeRec_of KX hcd) (hb _ _ _ _ ?_)
 refine wpAny_newFunctionEnv_cells S.kind hkind fun env he s1 x=>?_
 subst he
 refine ⟨lim.keeps x.toInCall.keep,codeAny_func ?_⟩
 obtain ⟨t,ht,hq⟩:=hbody A outer s H vs Q E (hr.deeper _) hsp
 have I:Inv (iL CX P w K mg base N qual scope f cdv A outer s H E) [] (start N vs) H s1:=aBV S hr.hd e0 hl r x
 refine wpAny_mono (ht [] s1 (start N vs) H _ I hq) (fun fl s' hs=>?_) fun e s' hs=>hs
 have fin:∀ {σ':St} {H':Hp} {v:V} {u:Value},Inv (iL CX P w K mg base N qual scope f cdv A outer s H E) [] σ' H' s'→cS v u→Q v H'→CE outer P w H s Q u s':=
  fun {σ' H' v u} J rv q=>⟨v,H',J.os,J.bare,J.base,J.hok,rv,q⟩
 cases fl with
 | ret u=>
  obtain ⟨v,σ',H',J,rv,q⟩:=hs
  exact fin J rv q
 | next=>
  obtain ⟨σ',H',J,q⟩:=hs
  exact fin (v:=V.non) (u:=Value.none) J rfl q
 | brk=>
  obtain ⟨_,_,_,q⟩:=hs
  exact False.elim q
 | cont=>
  obtain ⟨_,_,_,q⟩:=hs
  exact False.elim q
end L2
namespace L2
open PySem PySem.Spec PyProof.Rows
section
variable {X:Cx}{x:Str}{p pos:Pos}{e:Expr}{es:List Expr}{t:TA}{id T:String}{r:List V→Hp→VK→Prop}
def tCB (r:List V→Hp→VK→Prop) (t:TA):TE:=fun σ H Q=>t σ H fun vs H1=>r vs H1 Q
theorem bF (hc:gW X (.builtin id) r) (hg:Gl X x) (hm:X.mg x=none) (hv:bootBuiltins x=some (.builtin id)) (ha:PA X (e :: es) t) (hn:x≠"__name__":=by decide) (hdb:(x == ("__debug__":Str))=false:=by decide)
  (he:starEach (e :: es) X.env=(false,eval e X.env) :: starEach es X.env:=by rfl) (hpl:(backTo pos (starEach es X.env)).any (·.1)=false:=by rfl):PE X (.Call (.Name x p) (e :: es) [] pos) (tCB r t):=by
 constructor
 intro pins s σ H Q I h
 refine wpAny_Call_Name_kw (pA I hg hm hv ?_ hn hdb)
 exact PyProof.Rows.callWith_builtin1 (thn (ha pos pins s σ H _ I h) fun us s1 ⟨vs,H1,I1,r1,q1⟩=>hc pins s1 σ H1 vs us Q I1 r1 q1) he hpl
theorem fJ (hc:gW X (.type T) r) (hg:Gl X x) (hm:X.mg x=none) (hv:bootBuiltins x=some (.type T)) (ha:PA X (e :: es) t) (hn:x≠"__name__":=by decide) (hdb:(x == ("__debug__":Str))=false:=by decide)
  (he:starEach (e :: es) X.env=(false,eval e X.env) :: starEach es X.env:=by rfl) (hpl:(backTo pos (starEach es X.env)).any (·.1)=false:=by rfl):PE X (.Call (.Name x p) (e :: es) [] pos) (tCB r t):=by
 constructor
 intro pins s σ H Q I h
 refine wpAny_Call_Name_kw (pA I hg hm hv ?_ hn hdb)
 exact PyProof.Rows.callWith_type1 (thn (ha pos pins s σ H _ I h) fun us s1 ⟨vs,H1,I1,r1,q1⟩=>hc pins s1 σ H1 vs us Q I1 r1 q1) he hpl
end
end L2
namespace HT
open PySem PyProof.Rows
theorem eqAt_int (A:Around) (s:Shared) (a:Int) (t:Tok) (c:Int) (u:Tok):∃ e,SeqAt.EqAt A s (.int a t) (.int c u) e∧(e=true↔a=c):=
 ⟨(a == c),SeqAt.EqAt.int_int a t c u,by simp⟩
section
open PySem.SeqAt
open PySem.AutoSeq1 (wpAny_loadPart')
open PySem.MeetsSeq PySem.MeetsSeq2 PySem.MeetsSeq3
end
section
variable {prog:Program}{w:World}{A:Around}{E:Value→Shared→Prop}{s:Shared}
theorem cat_tup {t b:Addr}{vs ws:List Value}{Q:Value→Shared→Prop} (ht:IsTup s.heap t vs.toArray) (hb:IsTup s.heap b ws.toArray) (hv:vs≠[])
  (h1:ws=[]→Q (.ref t) s) (h2:ws≠[]→Q (.ref s.heap.objs.size) { s with heap:=s.heap.push { cls:=.type "tuple",data:=.seq (vs ++ ws).toArray } })
  (hsz:vs.length + ws.length≤sizeLine):wpAny (model prog w) A (binaryOp .Add (.ref t) (.ref b)) Q E s:=by
 obtain ⟨⟨cls,dd,data,sl⟩,ho,hc,n,hd⟩:=id ht
 obtain ⟨⟨cls2,dd2,data2,sl2⟩,ho2,hc2,n2,hd2⟩:=id hb
 simp only at hc hd hc2 hd2
 subst hc hd hc2 hd2
 have e:vs.toArray ++ ws.toArray=(vs ++ ws).toArray:=by simp
 by_cases hw:ws=[]
 ·exact concat_meets ⟨_,ho,rfl⟩ ⟨_,ho2,rfl⟩ noFill_tuple_add seq_tuple_add PySem.F.slot_tuple_add PySem.F.entry_tuple_add (PySem.F.args_tuple_add_2 _ _)
   (tuple_addW1 t b vs.toArray ws.toArray n n2 dd dd2 sl sl2 (by simpa using hv) (by simp [hw])) ⟨ho,ho2,h1 hw⟩
 ·refine concat_meets ⟨_,ho,rfl⟩ ⟨_,ho2,rfl⟩ noFill_tuple_add seq_tuple_add PySem.F.slot_tuple_add PySem.F.entry_tuple_add (PySem.F.args_tuple_add_2 _ _)
   (tuple_addW2 t b vs.toArray ws.toArray n n2 dd dd2 sl sl2 (by simpa using hv) (by simpa using hw) (by rw [List.size_toArray,List.size_toArray];exact hsz)) ⟨ho,ho2,?_⟩
  rw [e]
  exact h2 hw
def sIx (n d:Nat):Option Int→Nat
 | none=>d
 | some v=>if v < 0 then (v + (n:Int)).toNat else min v.toNat n
theorem sIx_none (n d:Nat):sIx n d none=d:=rfl
theorem sIx_nat (n d k:Nat):sIx n d (some (k:Int))=min k n:=by
 show (if (k:Int) < 0 then ((k:Int) + (n:Int)).toNat else min (k:Int).toNat n)=min k n
 rw [if_neg (by omega),Int.toNat_natCast]
theorem aF2 (n d:Nat) (hd:d≤n) (o:Option Int):sIx n d o≤n:=by
 cases o with
 | none=>exact hd
 | some v=>
  show (if v < 0 then (v + (n:Int)).toNat else min v.toNat n)≤n
  by_cases hv:v < 0
  ·rw [if_pos hv];omega
  ·rw [if_neg hv];exact Nat.min_le_right _ _
theorem aAJ (v:Int) (n d:Nat):(if v < 0 then max (v + (n:Int)) 0 else min v (n:Int))=((sIx n d (some v):Nat):Int):=by
 show (if v < 0 then max (v + (n:Int)) 0 else min v (n:Int))=(((if v < 0 then (v + (n:Int)).toNat else min v.toNat n):Nat):Int)
 by_cases hv:v < 0
 ·simp only [if_pos hv];omega
 ·simp only [if_neg hv];omega
theorem zO (lo hi:Option Int) (n:Nat):Builtin.Slice.sliceAdjust lo hi 1 (n:Int)=(((sIx n 0 lo:Nat):Int),((sIx n n hi:Nat):Int)):=by
 have h1:¬ ((1:Int) < 0):=by omega
 unfold Builtin.Slice.sliceAdjust
 simp only [h1,if_false]
 refine Prod.ext ?_ ?_
 ·cases lo with
  | none=>rfl
  | some v=>exact aAJ v n 0
 ·cases hi with
  | none=>rfl
  | some v=>exact aAJ v n n
theorem zP (i j:Nat):Builtin.Slice.slicePlaces (i:Int) (j:Int) 1=j - i:=by
 unfold Builtin.Slice.slicePlaces
 have h1:(1:Int) > 0:=by omega
 simp only [h1,if_true,Int.ediv_one]
 split <;> omega
theorem rW {v:Value}{o:Option Int}{Q:Option Int→Shared→Prop} (p:IsPart v o) (h:Q o s):wpAny (model prog w) A (Builtin.Slice.slicePartIndex v) Q E s:=by
 cases p with
 | none=>exact slicePart_none h
 | int i t=>exact slicePart_int h
theorem sliceApplied_gen {sl:Addr}{vl vu:Value}{lo hi:Option Int}{n:Nat}{Q:Int×Int×Nat→Shared→Prop} (hs:s.heap.IsSliceOf sl vl vu .none) (pl:IsPart vl lo) (pu:IsPart vu hi)
  (h:Q (((sIx n 0 lo:Nat):Int),1,sIx n n hi - sIx n 0 lo) s):wpAny (model prog w) A (Builtin.Slice.sliceApplied (.ref sl) (pure (n:Int))) Q E s:=by
 obtain ⟨os,hos,hcs,hds⟩:=id hs
 unfold Builtin.Slice.sliceApplied Builtin.Slice.sliceFields
 refine wpAny_bind (wpAny_bind (wpAny_field hos hds (x:=vl) rfl (wpAny_bind (wpAny_field hos hds (x:=vu) rfl (wpAny_bind (wpAny_field hos hds (x:=.none) rfl (wpAny_pure ?_)))))))
 refine wpAny_bind (slicePart_none ?_)
 show wpAny _ _ (if ((1:Int) == 0)=true then _ else _) _ _ s
 rw [if_neg (by decide)]
 refine wpAny_bind (rW pl (wpAny_bind (rW pu (wpAny_bind (wpAny_pure ?_)))))
 show wpAny _ _ (match Builtin.Slice.sliceAdjust lo hi 1 (n:Int) with | (lo,hi)=>pure (lo,(1:Int),Builtin.Slice.slicePlaces lo hi 1)) _ _ s
 rw [zO lo hi n]
 show wpAny _ _ (pure (((sIx n 0 lo:Nat):Int),(1:Int),Builtin.Slice.slicePlaces ((sIx n 0 lo:Nat):Int) ((sIx n n hi:Nat):Int) 1)) _ _ s
 rw [zP]
 exact wpAny_pure h
theorem aCT (xs:Array Value) (i k:Nat):((List.range k).filterMap fun (m:Nat)=>xs[((i:Int) + (m:Int) * 1).toNat]?).toArray=((xs.toList.drop i).take k).toArray:=by
 have e:(fun (m:Nat)=>xs[((i:Int) + (m:Int) * 1).toNat]?)=fun m=>xs[i + m]?:=by
  funext m
  have:((i:Int) + (m:Int) * 1).toNat=i + m:=by omega
  rw [this]
 rw [e]
 have:=pick_run xs i k
 rw [List.filterMap_map] at this
 have e2:((fun x=>xs[x]?) ∘ fun x=>i + x)=fun m=>xs[i + m]?:=rfl
 rw [e2] at this
 rw [this]
theorem getItem_tuple_cut {t sl:Addr}{items:Array Value}{vl vu:Value}{lo hi:Option Int}{Q:Value→Shared→Prop} (ht:IsTup s.heap t items) (hs:s.heap.IsSliceOf sl vl vu .none) (pl:IsPart vl lo) (pu:IsPart vu hi)
  (hw:¬ (sIx items.size 0 lo=0∧sIx items.size items.size hi=items.size))
  (h:Q (.ref s.heap.objs.size) { s with heap:=s.heap.push { cls:=.type "tuple",data:=.seq ((items.toList.drop (sIx items.size 0 lo)).take (sIx items.size items.size hi - sIx items.size 0 lo)).toArray } })
  (hsz:items.size≤sizeLine):wpAny (model prog w) A (getItem (.ref t) (.ref sl)) Q E s:=by
 have htake:sizeOk (.seq ((items.toList.drop (sIx items.size 0 lo)).take (sIx items.size items.size hi - sIx items.size 0 lo)).toArray):=by
  show ((items.toList.drop (sIx items.size 0 lo)).take (sIx items.size items.size hi - sIx items.size 0 lo)).toArray.size≤sizeLine
  rw [List.size_toArray,List.length_take,List.length_drop,Array.length_toList]
  omega
 have hj:sIx items.size items.size hi≤items.size:=aF2 _ _ (Nat.le_refl _) hi
 obtain ⟨os,hos,hcs,hds⟩:=id hs
 have hTs:s.TypeIs (.ref sl) "slice":=⟨os,hos,hcs⟩
 unfold getItem
 try with_reducible refine wpAny_holding ?_
 first | refine wpAny_bind (wpAny_pure ?_) | skip
 refine wpAny_bind (wpAny_sequenceKey ht.typeIs (by decide) ?_)
 refine wpAny_bind (wpAny_callSpecial?_slot (name:=Str.ofString "__getitem__") ht.typeIs PyProof.Rows.slot_tuple_getitem
  (wpAny_call_entry PyProof.Rows.slot_tuple_getitem ht.typeIs entry_tuple_getitem ?_ (args_tuple_getitem _ _)))
 show wpAny _ _ (Builtin.Tuple.tupleItemsOf (.ref t) >>= _) _ _ s
 refine wpAny_bind (tupleItemsOf_ ht ?_)
 refine wpAny_bind (wpAny_typeOf hTs ?_)
 rw [if_pos (by decide)]
 refine wpAny_bind (sliceApplied_gen hs pl pu ?_)
 have hno:¬ ((((sIx items.size 0 lo:Nat):Int) == 0 && (1:Int) == 1 && (sIx items.size items.size hi - sIx items.size 0 lo) == items.size)=true):=by
  intro q
  rw [Bool.and_eq_true,Bool.and_eq_true] at q
  have q1:((sIx items.size 0 lo:Nat):Int)=0:=eq_of_beq q.1.1
  have q2:sIx items.size items.size hi - sIx items.size 0 lo=items.size:=eq_of_beq q.2
  exact hw ⟨by omega,by omega⟩
 show wpAny _ _ (if (((sIx items.size 0 lo:Nat):Int) == 0 && (1:Int) == 1 && (sIx items.size items.size hi - sIx items.size 0 lo) == items.size)=true then _ else _) _ _ s
 rw [if_neg hno,aCT]
 first
  | exact wpAny_bind (m:=Builtin.Tuple.tupleExact _) (wpAny_newObj_type (wpAny_pure ⟨_,rfl,wpAny_pure h⟩) htake)
  | exact wpAny_bind (m:=Builtin.Tuple.tupleExact _) (wpAny_newObj_type (wpAny_bind (wpAny_pure (wpAny_pure ⟨_,rfl,wpAny_pure h⟩))) htake)
  | exact wpAny_bind (wpAny_bind (m:=Builtin.Tuple.tupleExact _) (wpAny_newObj_type (wpAny_pure (wpAny_pure ⟨_,rfl,wpAny_pure h⟩)) htake))
  | exact wpAny_bind (wpAny_bind (m:=Builtin.Tuple.tupleExact _) (wpAny_newObj_type (wpAny_pure ⟨_,rfl,wpAny_pure h⟩) htake))
end
end HT
namespace L2
open PySem PySem.Spec PyProof.Rows
abbrev TO:=St→Hp→(Option Int→Hp→Prop)→Prop
structure PO (X:Cx) (e:Option Expr) (t:TO):Prop where
 run:
  ∀ (pins:List (Addr×Obj)) (s:Shared) (σ:St) (H:Hp) (Q:Option Int→Hp→Prop),Inv X pins σ H s→t σ H Q→
   wpAny (model X.prog X.w) X.A (evalPart e X.env) (fun u s'=>∃ o H',Inv X pins σ H' s'∧IsPart u o∧Q o H') X.xe s
instance {X:Cx} {e:Option Expr} {t:TO}:CoeFun (PO X e t) (fun _=>
 ∀ (pins:List (Addr×Obj)) (s:Shared) (σ:St) (H:Hp) (Q:Option Int→Hp→Prop),Inv X pins σ H s→t σ H Q→
  wpAny (model X.prog X.w) X.A (evalPart e X.env) (fun u s'=>∃ o H',Inv X pins σ H' s'∧IsPart u o∧Q o H') X.xe s):=⟨fun h=>h.run⟩
def aEF:TO:=fun _ H Q=>Q none H
def aG0 (t:TE):TO:=fun σ H Q=>t σ H fun x H1=>As V.int x fun i=>Q (some i) H1
theorem zQ {ns:List Int}:∀ {us:List Value},cO (ns.map V.int) us→IntsAre us ns:=by
 induction ns with
 | nil=>intro us r;rw [List.map_nil] at r;cases r;exact .nil
 | cons n ns ih=>
  intro us r
  rw [List.map_cons] at r
  cases r with
  | cons r1 r2=>
   obtain ⟨t,e⟩:=r1
   subst e
   exact .cons n t (ih r2)
section
variable {X:Cx}{e:Expr}{te:TE}{lo hi:Option Expr}{tl th:TO}{pos p2:Pos}
theorem fQ:PO X none aEF:=by
 constructor
 intro pins s σ H Q I h
 rw [evalPart_none]
 exact wpAny_pure ⟨none,H,I,.none,h⟩
theorem fU (h:PE X e te):PO X (some e) (aG0 te):=by
 constructor
 intro pins s σ H Q I hw
 rw [evalPart_some]
 refine thn (h pins s σ H _ I hw) fun u s1 ⟨x,H1,I1,r1,q1⟩=>?_
 obtain ⟨i,rfl,q⟩:=q1
 obtain ⟨t,rfl⟩:=r1
 exact ⟨some i,H1,I1,.int i t,q⟩
def SlR (X:Cx) (r:V→Option Int→Option Int→Hp→VK→Prop):Prop:=
 ∀ (pins:List (Addr×Obj)) (s:Shared) (σ:St) (H:Hp) (x:V) (v vl vu:Value) (lo hi:Option Int) (sl:Addr) (Q:VK),Inv X pins σ H s→cS x v→s.heap.IsSliceOf sl vl vu .none→IsPart vl lo→IsPart vu hi→r x lo hi H Q→
  ∃ T id,typeLookup (.type T) "__getitem__"=pure (some (.builtin id))∧s.TypeIs v T∧wpAny (model X.prog X.w) X.A (getItem v (.ref sl)) (EP X pins σ Q) X.xe s
def tSl (r:V→Option Int→Option Int→Hp→VK→Prop) (te:TE) (tl th:TO):TE:=fun σ H Q=>te σ H fun x H1=>tl σ H1 fun l H2=>th σ H2 fun u H3=>r x l u H3 Q
theorem eB {r:V→Option Int→Option Int→Hp→VK→Prop} (hr:SlR X r) (he:PE X e te) (hl:PO X lo tl) (hu:PO X hi th):PE X (.Subscript e (.Slice lo hi none p2) pos) (tSl r te tl th):=by
 constructor
 intro pins s σ H Q I h
 refine Subscript_ (thn (he pins s σ H _ I h) fun v s1 ⟨x,H1,I1,r1,q1⟩=>?_)
 refine wpAny_Slice (thn (hl pins s1 σ H1 _ I1 q1) fun vl s2 ⟨l,H2,I2,pl,q2⟩=>thn (hu pins s2 σ H2 _ I2 q2) fun vu s3 ⟨u,H3,I3,pu,q3⟩=>?_)
 rw [evalPart_none]
 refine wpAny_pure ?_
 have I4:Inv X pins σ H3 { s3 with heap:=s3.heap.push { cls:=.type "slice",data:=.fields #[vl,vu,.none] } }:=I3.kept (t':=s3.toks) fun b ob q=>Heap.get?_push_of_some _ q
 obtain ⟨T,id,hT,ht,hg⟩:=hr pins { s3 with heap:=s3.heap.push { cls:=.type "slice",data:=.fields #[vl,vu,.none] } } σ H3 x v vl vu l u s3.heap.objs.size Q I4 r1 (Heap.IsSliceOf.new ..) pl pu q3
 show wpAny (model X.prog X.w) X.A (subscriptTail e (.Slice lo hi none p2) v (.ref s3.heap.objs.size)) (EP X pins σ Q) X.xe { s3 with heap:=s3.heap.push { cls:=.type "slice",data:=.fields #[vl,vu,.none] } }
 exact tail_any (ops:=[.ref s3.heap.objs.size,v]) ht hT hg (by with_unfolding_all rfl)
def lC (xs:List V) (lo hi:Option Int):List V:=(xs.drop (HT.sIx xs.length 0 lo)).take (HT.sIx xs.length xs.length hi - HT.sIx xs.length 0 lo)
theorem qF (xs:List V) (lo hi:Option Int):(lC xs lo hi).length≤xs.length:=by
 unfold lC
 rw [List.length_take,List.length_drop]
 omega
inductive aCU (K:PySem.W.Frag) (x:V) (lo:Option Int) (hi:Option Int) (H:Hp) (Q:VK):Prop
 | mk (a:_) (xs:_) (q0:x=.ref a) (q1:SqT K H a xs) (q2:¬ (HT.sIx xs.length 0 lo=0∧HT.sIx xs.length xs.length hi=xs.length)) (q3:∀ p,H p=none→Q (.ref p) (upd H p (.tup (lC xs lo hi)))):aCU K x lo hi H Q
def aHP (K:PySem.W.Frag):V→Option Int→Option Int→Hp→VK→Prop:=fun x lo hi H Q=>aCU K x lo hi H Q
theorem aF3:SlR X (aHP X.K):=by
 intro pins s σ H x v vl vu lo hi sl Q I rx hs pl pu h
 obtain ⟨a,xs,rfl,hx,hw,q⟩:=h
 cases rx
 obtain ⟨its,r,ht,hz⟩:=I.tuple hx
 have hlen:its.toArray.size=xs.length:=by rw [List.size_toArray];exact r.length.symm
 refine ⟨"tuple",_,PyProof.Rows.slot_tuple_getitem.lookup,ht.typeIs,?_⟩
 refine HT.getItem_tuple_cut ht hs pl pu (by rw [hlen];exact hw) ?_ (by rw [hlen];exact hz)
 rw [hlen]
 refine ⟨.ref s.heap.objs.size,_,I.laid (t':=s.toks) (o:=.tup (lC xs lo hi)) (fun b ob q=>Heap.get?_push_of_some _ q) (Nat.le_refl _) ?_,rfl,q _ (I.hok.fresh (Nat.le_refl _))⟩
 exact ⟨Nat.le_trans (qF xs lo hi) hz,_,(r.drop (HT.sIx xs.length 0 lo)).take (HT.sIx xs.length xs.length hi - HT.sIx xs.length 0 lo),⟨_,Heap.get?_push_size _ rfl,⟨rfl,_,rfl⟩,rfl⟩⟩
inductive aAK (K:PySem.W.Frag) (x:V) (y:V) (H:Hp) (Q:VK):Prop
 | mk (a:_) (b:_) (xs:_) (ys:_) (q0:x=.ref a) (q1:y=.ref b) (q2:SqT K H a xs) (q3:SqT K H b ys) (q4:xs≠[]) (q5:xs.length + ys.length≤sizeLine) (q6:(ys=[]→Q (.ref a) H)) (q7:(ys≠[]→∀ p,H p=none→Q (.ref p) (upd H p (.tup (xs ++ ys))))):aAK K x y H Q
def aG1 (K:PySem.W.Frag):R2:=fun x y H Q=>aAK K x y H Q
theorem cO.nil_iff {xs:List V}{us:List Value} (r:cO xs us):us=[]↔xs=[]:=by
 cases r with
 | nil=>simp
 | cons _ _=>simp
theorem aEG:OpR X (binaryOp .Add) (aG1 X.K):=by
 intro pins s σ H x y v u Q I rx ry h
 obtain ⟨a,b,xs,ys,rfl,rfl,ha,hb,hx,hz,q1,q2⟩:=h
 cases rx
 cases ry
 obtain ⟨its,r1,p1,_⟩:=I.tuple ha
 obtain ⟨its2,r2,p2,_⟩:=I.tuple hb
 refine HT.cat_tup p1 p2 (fun z=>hx (r1.nil_iff.mp z)) (fun z=>⟨.ref a,H,I,rfl,q1 (r2.nil_iff.mp z)⟩) (fun z=>?_) (by rw [← r1.length,← r2.length];exact hz)
 refine ⟨.ref s.heap.objs.size,_,I.laid (t':=s.toks) (o:=.tup (xs ++ ys)) (fun b ob q=>Heap.get?_push_of_some _ q) (Nat.le_refl _) ?_,rfl,q2 (fun w=>z (r2.nil_iff.mpr w)) _ (I.hok.fresh (Nat.le_refl _))⟩
 exact ⟨by rw [List.length_append];exact hz,_,r1.append r2,⟨_,Heap.get?_push_size _ rfl,⟨rfl,_,rfl⟩,rfl⟩⟩
end
end L2
namespace L2
open PySem PySem.Spec PyProof.Rows
def ixN (n:Nat) (i:Int):Option Nat:=if 0≤i then (if i < n then some i.toNat else none) else if -(n:Int)≤i then some (i + n).toNat else none
def atI {α:Type} (xs:List α) (i:Int):Option α:=(ixN xs.length i).bind fun j=>xs[j]?
theorem aAL {n:Nat}{i:Int}{j:Nat} (h:ixN n i=some j):seqIndex? i n=some j∧j < n∧-(n:Int)≤i∧i < n:=by
 unfold ixN at h
 by_cases h0:0≤i
 ·rw [if_pos h0] at h
  by_cases h1:i < n
  ·rw [if_pos h1] at h
   have e:i.toNat=j:=Option.some.inj h
   exact ⟨by rw [seqIndex_of h0 h1,e],by omega,by omega,h1⟩
  ·rw [if_neg h1] at h;cases h
 ·rw [if_neg h0] at h
  by_cases h1:-(n:Int)≤i
  ·rw [if_pos h1] at h
   have e:(i + n).toNat=j:=Option.some.inj h
   exact ⟨by rw [seqIndex_neg (by omega) h1,e],by omega,h1,by omega⟩
  ·rw [if_neg h1] at h;cases h
theorem wE {α:Type}{xs:List α}{i:Int}{v:α} (h:atI xs i=some v):∃ j,seqIndex? i xs.length=some j∧xs[j]?=some v∧j < xs.length∧-(xs.length:Int)≤i∧i < xs.length:=by
 unfold atI at h
 cases e:ixN xs.length i with
 | none=>rw [e] at h;cases h
 | some j=>
  rw [e] at h
  obtain ⟨h1,h2,h3,h4⟩:=aAL e
  exact ⟨j,h1,h,h2,h3,h4⟩
theorem gM {α:Type}{xs:List α}{j:Nat}{v:α} (h:xs[j]?=some v):atI xs (j:Int)=some v:=by
 have hj:j < xs.length:=(List.getElem?_eq_some_iff.mp h).1
 have e:ixN xs.length (j:Int)=some j:=by
  unfold ixN
  rw [if_pos (by omega),if_pos (by omega)];simp
 unfold atI;rw [e];exact h
theorem iF {α:Type} (xs:List α) (v:α):atI (xs ++ [v]) (-1)=some v:=by
 have hl:(xs ++ [v]).length=xs.length + 1:=by simp
 have e:ixN (xs ++ [v]).length (-1)=some xs.length:=by
  unfold ixN
  rw [hl,if_neg (by decide),if_pos (by omega)]
  congr 1
  omega
 unfold atI
 rw [e]
 show (xs ++ [v])[xs.length]?=some v
 simp
def aEH (b:Expr):Prop:=∀ o i,subscripted b false o i=operate [o,i] (getItem o i)
def IxR (X:Cx) (r:R2):Prop:=
 ∀ (value slice:Expr) (pins:List (Addr×Obj)) (s:Shared) (σ:St) (H:Hp) (x y:V) (v u:Value) (Q:VK),Inv X pins σ H s→cS x v→cS y u→r x y H Q→
  subscripted slice false v u=operate [v,u] (getItem v u)→wpAny (model X.prog X.w) X.A (subscriptTail value slice v u) (EP X pins σ Q) X.xe s
def MtR (X:Cx) (id:String) (r:V→List V→Hp→VK→Prop):Prop:=
 ∀ (pins:List (Addr×Obj)) (s:Shared) (σ:St) (H:Hp) (x:V) (xs:List V) (v:Value) (us:List Value) (Q:VK),Inv X pins σ H s→cS x v→cO xs us→r x xs H Q→
  wpAny (model X.prog X.w) X.A (call (.builtin id) (v :: us)) (EP X pins σ Q) X.xe s
section
variable {X:Cx}{a b:Expr}{ta tb:TE}{pos:Pos}
theorem aX {r:R2} (hr:IxR X r) (ha:PE X a ta) (hb:PE X b tb) (hs:aEH b):PE X (.Subscript a b pos) (tOp r ta tb):=by
 constructor
 intro pins s σ H Q I h
 exact Subscript_ (aFW ha hb I h fun v u s2 x y H2 I2 rx ry q=>hr a b pins s2 σ H2 x y v u Q I2 rx ry q (hs _ _))
inductive aCV (K:PySem.W.Frag) (x:V) (y:V) (H:Hp) (Q:VK):Prop
 | mk (p:_) (xs:_) (i:_) (v:_) (q0:x=.ref p) (q1:y=.int i) (q2:SqL K H p xs) (q3:atI xs i=some v) (q4:Q v H):aCV K x y H Q
def aF4 (K:PySem.W.Frag):R2:=fun x y H Q=>aCV K x y H Q
inductive aCW (K:PySem.W.Frag) (x:V) (y:V) (H:Hp) (Q:VK):Prop
 | mk (p:_) (xs:_) (i:_) (v:_) (q0:x=.ref p) (q1:y=.int i) (q2:SqT K H p xs) (q3:atI xs i=some v) (q4:Q v H):aCW K x y H Q
def wF (K:PySem.W.Frag):R2:=fun x y H Q=>aCW K x y H Q
inductive aCX (x:V) (y:V) (H:Hp) (Q:VK):Prop
 | mk (z:_) (i:_) (c:_) (q0:x=.str z) (q1:y=.int i) (q2:z.length≤sizeLine) (q3:atI z.cps.toList i=some c) (q4:Q (.str ⟨#[c]⟩) H):aCX x y H Q
def aHQ:R2:=fun x y H Q=>aCX x y H Q
theorem cF:IxR X (aF4 X.K):=by
 intro value slice pins s σ H x y v u Q I rx ry h hs
 obtain ⟨p,xs,i,z,rfl,rfl,hq,he,q⟩:=h
 cases rx
 obtain ⟨t,rfl⟩:=ry
 obtain ⟨its,r,pl,hz⟩:=I.list hq
 obtain ⟨j,h1,h2,h3,h4,h5⟩:=wE he
 obtain ⟨w,ew,rw'⟩:=r.get h2
 have hl:=r.length
 have hn:=nC
 have fin:EP X pins σ Q w s:=⟨z,H,I,rw',q⟩
 by_cases h0:0≤i
 ·have hj:i.toNat=j:=by
   rw [seqIndex_of h0 h5] at h1
   exact Option.some.inj h1
  exact item_listR pl.isList h0 (by omega) (by rw [hj];simpa using ew) fin hs
 ·have hj:(i + (its.toArray.size:Int)).toNat=j:=by
   rw [seqIndex_neg (by omega) h4] at h1
   rw [List.size_toArray,← hl]
   exact Option.some.inj h1
  exact subscriptTail_builtinR (x:=w) pl.isList.typeIs slot_list_getitem.lookup
   (wpAny_getItem_list_neg (Q:=fun r s'=>r=w∧EP X pins σ Q r s') pl.isList (by omega) (by rw [List.size_toArray] <;> omega) (by omega) (by rw [hj];simpa using ew) ⟨rfl,fin⟩) hs
theorem bJ:IxR X (wF X.K):=by
 intro value slice pins s σ H x y v u Q I rx ry h hs
 obtain ⟨p,xs,i,z,rfl,rfl,hq,he,q⟩:=h
 cases rx
 obtain ⟨t,rfl⟩:=ry
 obtain ⟨its,r,pl,hz⟩:=I.tuple hq
 obtain ⟨j,h1,h2,h3,h4,h5⟩:=wE he
 obtain ⟨w,ew,rw'⟩:=r.get h2
 have hl:=r.length
 have hn:=nC
 have fin:EP X pins σ Q w s:=⟨z,H,I,rw',q⟩
 exact subscriptTail_builtinR (x:=w) pl.typeIs slot_tuple_getitem.lookup
  (getItem_tuple (j:=j) (Q:=fun r s'=>r=w∧EP X pins σ Q r s') pl (by omega) (by omega) (by rw [List.size_toArray,← hl];exact h1) (by simpa using ew) ⟨rfl,fin⟩) hs
theorem wG:IxR X aHQ:=by
 intro value slice pins s σ H x y v u Q I rx ry h hs
 obtain ⟨z,i,c,rfl,rfl,hz,he,q⟩:=h
 obtain ⟨t,rfl⟩:=rx
 obtain ⟨t',rfl⟩:=ry
 obtain ⟨j,h1,h2,h3,h4,h5⟩:=wE he
 have hl:z.cps.toList.length=z.length:=by simp [Str.length]
 rw [hl] at h1 h4 h5
 have hn:=nC
 exact tail_any (typeIs_str s z t) slot_str_getitem.lookup (getItem_str (c:=c) (by
  have e1:decide (i < -(2 ^ 63:Int))=false:=decide_eq_false (by omega)
  have e2:decide (i ≥ 2 ^ 63)=false:=decide_eq_false (by omega)
  rw [e1,e2,Bool.or_false]) (by rw [h1];simpa using h2) ⟨.str ⟨#[c]⟩,H,I.tok _,⟨_,rfl⟩,q⟩) hs
theorem zR (its:List Value) (n j:Nat) (u:Value):Obj.mapSeq (·.setIfInBounds j u) { cls:=.type "list",data:=.seq its.toArray n }={ cls:=.type "list",data:=.seq (its.set j u).toArray n }:=by
 simp [Obj.mapSeq]
theorem Inv.lst {pins:List (Addr×Obj)}{σ:St}{H:Hp}{s:Shared}{p:Addr}{xs:List V} (I:Inv X pins σ H s) (h:H p=some (.lst xs)):
  ∃ (its:List Value) (n:Nat),cO xs its∧s.heap.get? p=some { cls:=.type "list",data:=.seq its.toArray n }∧xs.length≤sizeLine:=by
 obtain ⟨z,its,n,r,e⟩:=I.hok p _ h
 exact ⟨its,n,r,e,z⟩
theorem Inv.lstUpd {pins:List (Addr×Obj)}{σ:St}{H:Hp}{s:Shared}{p:Addr}{xs ys:List V}{its its':List Value}{n n':Nat}{f:Obj→Obj} (I:Inv X pins σ H s) (h:H p=some (.lst xs))
  (ho:s.heap.get? p=some { cls:=.type "list",data:=.seq its.toArray n }) (hf:f { cls:=.type "list",data:=.seq its.toArray n }={ cls:=.type "list",data:=.seq its'.toArray n' }) (r:cO ys its') (hz:ys.length≤sizeLine) (t:Nat):
  Inv X pins σ (upd H p (.lst ys)) { s with heap:=s.heap.update p f,toks:=t }:=by
 have e:(s.heap.update p f).get? p=some { cls:=.type "list",data:=.seq its'.toArray n' }:=by
  rw [Heap.get?_update_self f ho (by rw [hf] <;> rfl),hf]
 refine I.write (x:=p) (e:=p) (by rw [h];trivial) (.inl rfl) (fun b u hb q=>(Heap.get?_update_other _ _ (Ne.symm hb)).trans q) ⟨_,e⟩ ?_
 exact ⟨hz,its',n',r,e⟩
inductive aAM (o:V) (i:V) (v:V) (H:Hp) (Q:(Hp→Prop)):Prop
 | mk (p:_) (xs:_) (k:_) (j:_) (q0:o=.ref p) (q1:i=.int k) (q2:H p=some (.lst xs)) (q3:ixN xs.length k=some j) (q4:Q (upd H p (.lst (xs.set j v)))):aAM o i v H Q
def aG2:V→V→V→Hp→(Hp→Prop)→Prop:=fun o i v H Q=>aAM o i v H Q
theorem xJ:aGN X aG2:=by
 intro pins s σ H o i v ov iv u Q I ro ri rv h
 obtain ⟨p,xs,k,j,rfl,rfl,hp,hj,q⟩:=h
 cases ro
 obtain ⟨t,rfl⟩:=ri
 obtain ⟨its,n,r,ho,hz⟩:=I.lst hp
 obtain ⟨h1,h2,h3,h4⟩:=aAL hj
 have hl:=r.length
 have hn:=nC
 have I':Inv X pins σ (upd H p (.lst (xs.set j v))) { s with heap:=s.heap.update p (Obj.mapSeq (·.setIfInBounds j u)) }:=
  I.lstUpd hp ho (zR its n j u) (r.set rv j) (by rw [List.length_set];exact hz) s.toks
 by_cases h0:0≤k
 ·have hk:k.toNat=j:=by
   rw [seqIndex_of h0 h4] at h1
   exact Option.some.inj h1
  exact PySem.W.ki_setAt ho h0 (by omega) (by rw [List.size_toArray,← hl];exact h4) (by rw [hk];exact ⟨_,I',q⟩)
 ·have hk:(k + (its.toArray.size:Int)).toNat=j:=by
   rw [seqIndex_neg (by omega) h3] at h1
   rw [List.size_toArray,← hl]
   exact Option.some.inj h1
  exact PySem.W.ki_setBack ho (by omega) (by rw [List.size_toArray,← hl];exact h3) (by omega) (by rw [hk];exact ⟨_,I',q⟩)
theorem wH (lo hi:Option Int) (n:Nat):(sliceBounds lo hi none n).1=((HT.sIx n 0 lo:Nat):Int)∧(sliceBounds lo hi none n).2.1=((HT.sIx n n hi:Nat):Int)∧(sliceBounds lo hi none n).2.2=1:=by
 refine ⟨?_,?_,rfl⟩
 ·cases lo with
  | none=>simp [sliceBounds,HT.sIx]
  | some i=>
   simp only [sliceBounds,HT.sIx,Option.getD_none,show (1:Int) > 0 by decide,if_true]
   by_cases h:i < 0
   ·simp only [h,if_true] <;> omega
   ·simp only [h,if_false] <;> omega
 ·cases hi with
  | none=>simp [sliceBounds,HT.sIx]
  | some i=>
   simp only [sliceBounds,HT.sIx,Option.getD_none,show (1:Int) > 0 by decide,if_true]
   by_cases h:i < 0
   ·simp only [h,if_true] <;> omega
   ·simp only [h,if_false] <;> omega
theorem uE (its:List Value) (lo hi:Option Int):slicePick its.toArray lo hi none=((its.drop (HT.sIx its.length 0 lo)).take (HT.sIx its.length its.length hi - HT.sIx its.length 0 lo)).toArray:=by
 obtain ⟨h1,h2,h3⟩:=wH lo hi its.toArray.size
 unfold slicePick
 rw [h1,h2,h3]
 simp only [sliceRange_one,pick_run,List.size_toArray] <;> rfl
inductive aCY (K:PySem.W.Frag) (x:V) (lo:Option Int) (hi:Option Int) (H:Hp) (Q:VK):Prop
 | mk (a:_) (xs:_) (q0:x=.ref a) (q1:SqL K H a xs) (q2:∀ p,H p=none→Q (.ref p) (upd H p (.lst (lC xs lo hi)))):aCY K x lo hi H Q
def aHR (K:PySem.W.Frag):V→Option Int→Option Int→Hp→VK→Prop:=fun x lo hi H Q=>aCY K x lo hi H Q
theorem kH:SlR X (aHR X.K):=by
 intro pins s σ H x v vl vu lo hi sl Q I rx hs pl pu h
 obtain ⟨a,xs,rfl,hx,q⟩:=h
 cases rx
 obtain ⟨its,r,ht,hz⟩:=I.list hx
 have hlen:=r.length
 refine ⟨"list",_,slot_list_getitem.lookup,ht.isList.typeIs,?_⟩
 refine wpAny_getItem_list_slice ht.isList hs pl pu .none (by simp) ?_ (by rw [List.size_toArray] <;> omega)
 rw [uE,← hlen]
 refine ⟨.ref s.heap.objs.size,_,I.laid (t':=s.toks) (o:=.lst (lC xs lo hi)) (fun b ob q=>Heap.get?_push_of_some _ q) (Nat.le_refl _) ?_,rfl,q _ (I.hok.fresh (Nat.le_refl _))⟩
 exact ⟨Nat.le_trans (qF xs lo hi) hz,_,0,(r.drop (HT.sIx xs.length 0 lo)).take (HT.sIx xs.length xs.length hi - HT.sIx xs.length 0 lo),Heap.get?_push_size _ rfl⟩
def iG:V→Bool
 | .non=>true
 | .bl _=>true
 | .int _=>true
 | .str _=>true
 | _=>false
def eqV:V→V→Bool
 | .non,.non=>true
 | .bl a,.bl b=>a == b
 | .bl a,.int b=>(if a then 1 else 0) == b
 | .int a,.bl b=>a == (if b then 1 else 0)
 | .int a,.int b=>a == b
 | .str a,.str b=>a == b
 | _,_=>false
theorem aCZ {A:Around}{s:Shared}{y x:V}{u v:Value} (ry:cS y u) (rx:cS x v) (fy:iG y=true) (fx:iG x=true):SeqAt.EqAt A s u v (eqV y x):=by
 cases y with
 | non=>
  cases ry
  cases x with
  | non=>cases rx;exact SeqAt.EqAt.same _
  | bl b=>cases rx;exact SeqAt.EqAt.none_bool b
  | int b=>obtain ⟨t,rfl⟩:=rx;exact SeqAt.EqAt.none_int b t
  | str b=>obtain ⟨t,rfl⟩:=rx;exact SeqAt.EqAt.none_str b t
  | _=>exact absurd (show false=true from fx) Bool.false_ne_true
 | bl a=>
  cases ry
  cases x with
  | non=>cases rx;exact SeqAt.EqAt.bool_none a
  | bl b=>cases rx;exact SeqAt.EqAt.bool_bool a b
  | int b=>obtain ⟨t,rfl⟩:=rx;exact SeqAt.EqAt.bool_int a b t
  | str b=>obtain ⟨t,rfl⟩:=rx;exact SeqAt.EqAt.bool_str a b t
  | _=>exact absurd (show false=true from fx) Bool.false_ne_true
 | int a=>
  obtain ⟨t',rfl⟩:=ry
  cases x with
  | non=>cases rx;exact SeqAt.EqAt.int_none a t'
  | bl b=>cases rx;exact SeqAt.EqAt.int_bool a t' b
  | int b=>obtain ⟨t,rfl⟩:=rx;exact SeqAt.EqAt.int_int a t' b t
  | str b=>obtain ⟨t,rfl⟩:=rx;exact SeqAt.EqAt.int_str a t' b t
  | _=>exact absurd (show false=true from fx) Bool.false_ne_true
 | str a=>
  obtain ⟨t',rfl⟩:=ry
  cases x with
  | non=>cases rx;exact SeqAt.EqAt.str_none a t'
  | bl b=>cases rx;exact SeqAt.EqAt.str_bool a t' b
  | int b=>obtain ⟨t,rfl⟩:=rx;exact SeqAt.EqAt.str_int a t' b t
  | str b=>obtain ⟨t,rfl⟩:=rx;exact SeqAt.EqAt.str_str a t' b t
  | _=>exact absurd (show false=true from fx) Bool.false_ne_true
 | _=>exact absurd (show false=true from fy) Bool.false_ne_true
def eqU (x:V) (u:Value):Bool:=match u with
 | .none=>eqV .non x
 | .bool b=>eqV (.bl b) x
 | .int i _=>eqV (.int i) x
 | .str z _=>eqV (.str z) x
 | _=>false
theorem aC0 {x y:V}{u:Value} (r:cS y u) (f:iG y=true):eqU x u=eqV y x:=by
 cases y with
 | non=>cases r;rfl
 | bl b=>cases r;rfl
 | int i=>obtain ⟨t,rfl⟩:=r;rfl
 | str z=>obtain ⟨t,rfl⟩:=r;rfl
 | _=>exact absurd (show false=true from f) Bool.false_ne_true
theorem n6 {x:V}:∀ {xs:List V}{us:List Value},cO xs us→xs.all iG=true→us.any (eqU x)=xs.any fun y=>eqV y x
 | _,_,.nil,_=>rfl
 | y :: xs,u :: us,.cons r t,f=>by
  rw [List.all_cons,Bool.and_eq_true] at f
  rw [List.any_cons,List.any_cons,aC0 r f.1,n6 t f.2]
theorem lO {A:Around}{s:Shared}{x:V}{v:Value} (rx:cS x v) (fx:iG x=true):∀ {xs:List V}{us:List Value},cO xs us→xs.all iG=true→∀ u∈us,SeqAt.EqAt A s u v (eqU x u)
 | _,_,.nil,_=>fun u hu=>by cases hu
 | y :: xs,u :: us,.cons r t,f=>fun u' hu=>by
  rw [List.all_cons,Bool.and_eq_true] at f
  rcases List.mem_cons.mp hu with rfl | hu
  ·rw [aC0 r f.1];exact aCZ r rx f.1 fx
  ·exact lO rx fx t f.2 u' hu
def inV (x:V) (xs:List V):Bool:=xs.any fun y=>eqV y x
inductive aFv (K:PySem.W.Frag) (neg:Bool) (x:V) (y:V) (H:Hp) (Q:VK):Prop
 | mk (p:_) (xs:_) (q0:y=.ref p) (q1:(SqL K H p xs∨SqT K H p xs)) (q2:iG x=true) (q3:xs.all iG=true) (q4:Q (.bl (if neg then !inV x xs else inV x xs)) H):aFv K neg x y H Q
def rIn (K:PySem.W.Frag) (neg:Bool):R2:=fun x y H Q=>aFv K neg x y H Q
theorem uQ:OpR X (compareOp .In) (rIn X.K false):=by
 intro pins s σ H x y v u Q I rx ry h
 obtain ⟨p,xs,rfl,hq,fx,fs,q⟩:=h
 cases ry
 rcases hq with hq | hq
 ·obtain ⟨its,r,pl,hz⟩:=I.list hq
  refine SeqAt.in_listAt (eqU x) pl.isList (fun w hw=>lO rx fx r fs w (by simpa using hw)) ⟨.bl _,H,I,rfl,?_⟩
  rw [show its.toArray.any (eqU x)=its.any (eqU x) by simp,n6 r fs]
  exact q
 ·obtain ⟨its,r,pl,hz⟩:=I.tuple hq
  refine SeqAt.in_tupleAt (eqU x) pl (fun w hw=>lO rx fx r fs w (by simpa using hw)) ⟨.bl _,H,I,rfl,?_⟩
  rw [show its.toArray.any (eqU x)=its.any (eqU x) by simp,n6 r fs]
  exact q
theorem gN:OpR X (compareOp .NotIn) (rIn X.K true):=by
 intro pins s σ H x y v u Q I rx ry h
 obtain ⟨p,xs,rfl,hq,fx,fs,q⟩:=h
 cases ry
 rcases hq with hq | hq
 ·obtain ⟨its,r,pl,hz⟩:=I.list hq
  refine SeqAt.notIn_listAt (eqU x) pl.isList (fun w hw=>lO rx fx r fs w (by simpa using hw)) ⟨.bl _,H,I,rfl,?_⟩
  rw [show its.toArray.any (eqU x)=its.any (eqU x) by simp,n6 r fs]
  exact q
 ·obtain ⟨its,r,pl,hz⟩:=I.tuple hq
  refine SeqAt.notIn_tupleAt (eqU x) pl (fun w hw=>lO rx fx r fs w (by simpa using hw)) ⟨.bl _,H,I,rfl,?_⟩
  rw [show its.toArray.any (eqU x)=its.any (eqU x) by simp,n6 r fs]
  exact q
inductive jQ (K:PySem.W.Frag) (xs:List V) (H:Hp) (Q:VK):Prop
 | mk (p:_) (ys:_) (q0:xs=[.ref p]) (q1:(SqL K H p ys∨SqT K H p ys)) (q2:Q (.int ys.length) H):jQ K xs H Q
def i5 (K:PySem.W.Frag):List V→Hp→VK→Prop:=fun xs H Q=>jQ K xs H Q
theorem cG:gW X (.builtin "len") (i5 X.K):=by
 intro pins s σ H xs us Q I r h
 obtain ⟨p,ys,rfl,hq,q⟩:=h
 obtain ⟨u,rfl,rx⟩:=i0 r
 cases rx
 have hn:=nC
 rcases hq with hq | hq
 ·obtain ⟨its,r',pl,hz⟩:=I.list hq
  have hlen:=r'.length
  exact Calls.call_len_list pl.isList (by simp only [List.size_toArray] <;> omega) ⟨.int ys.length,H,I.tok _,⟨s.toks + 1,by rw [List.size_toArray,hlen]⟩,q⟩
 ·obtain ⟨its,r',pl,hz⟩:=I.tuple hq
  have hlen:=r'.length
  exact len_tuple pl (by simp only [List.size_toArray] <;> omega) ⟨.int ys.length,H,I.tok _,⟨s.toks + 1,by rw [List.size_toArray,hlen]⟩,q⟩
inductive jR (xs:List V) (H:Hp) (Q:VK):Prop
 | mk (z:_) (q0:xs=[.str z]) (q1:z.length≤sizeLine) (q2:Q (.int z.length) H):jR xs H Q
def rX:List V→Hp→VK→Prop:=fun xs H Q=>jR xs H Q
theorem wI:gW X (.builtin "len") rX:=by
 intro pins s σ H xs us Q I r h
 obtain ⟨z,rfl,hz,q⟩:=h
 obtain ⟨u,rfl,t,rfl⟩:=i0 r
 have hn:=nC
 exact len_str (by omega) ⟨.int z.length,H,I.tok _,⟨_,rfl⟩,q⟩
inductive jS (K:PySem.W.Frag) (xs:List V) (H:Hp) (Q:VK):Prop
 | mk (p:_) (ys:_) (q0:xs=[.ref p]) (q1:(SqL K H p ys∨SqT K H p ys)) (q2:∀ l,H l=none→Q (.ref l) (upd H l (.lst ys))):jS K xs H Q
def rY (K:PySem.W.Frag):List V→Hp→VK→Prop:=fun xs H Q=>jS K xs H Q
theorem n8:gW X (.type "list") (rY X.K):=by
 intro pins s σ H xs us Q I r h
 obtain ⟨p,ys,rfl,hq,q⟩:=h
 obtain ⟨u,rfl,rx⟩:=i0 r
 cases rx
 have fin:∀ (its:List Value),cO ys its→ys.length≤sizeLine→∀ (h':Heap) (c':Nat),(∀ b o',s.heap.get? b=some o'→h'.get? b=some o')→
   h'.get? s.heap.objs.size=some { cls:=.type "list",dict:=none,data:=.seq its.toArray c',slots:=#[] }→EP X pins σ Q (.ref s.heap.objs.size) { s with heap:=h' }:=fun its r' hz h' c' kp e=>
  ⟨.ref s.heap.objs.size,_,I.laid (t':=s.toks) kp (Nat.le_refl _) (show c6 X.prog X.w _ h' _ (.lst ys) from ⟨hz,its,c',r',e⟩),rfl,q _ (I.hok.fresh (Nat.le_refl _))⟩
 rcases hq with hq | hq
 ·obtain ⟨its,r',pl,hz⟩:=I.list hq
  have hlen:=r'.length
  obtain ⟨o,ho,hc,n,hd⟩:=pl.isList
  exact call_list_seq p (.inl rfl) ho hc hd (fun h' c' kp e=>fin its r' hz h' c' kp e) (by simp only [List.size_toArray] <;> omega)
 ·obtain ⟨its,r',pl,hz⟩:=I.tuple hq
  have hlen:=r'.length
  obtain ⟨o,ho,hc,n,hd⟩:=pl
  exact call_list_seq p (.inr rfl) ho hc hd (fun h' c' kp e=>fin its r' hz h' c' kp e) (by simp only [List.size_toArray] <;> omega)
inductive jD (K:PySem.W.Frag) (xs:List V) (H:Hp) (Q:VK):Prop
 | mk (p:_) (ys:_) (q0:xs=[.ref p]) (q1:((SqL K H p ys∧∀ l,H l=none→Q (.ref l) (upd H l (.tup ys)))∨(SqT K H p ys∧Q (.ref p) H))):jD K xs H Q
def qV (K:PySem.W.Frag):List V→Hp→VK→Prop:=fun xs H Q=>jD K xs H Q
theorem eY:gW X (.type "tuple") (qV X.K):=by
 intro pins s σ H xs us Q I r h
 obtain ⟨p,ys,rfl,h⟩:=h
 obtain ⟨u,rfl,rx⟩:=i0 r
 cases rx
 rcases h with ⟨hq,q⟩ | ⟨hq,q⟩
 ·obtain ⟨its,r',pl,hz⟩:=I.list hq
  have hlen:=r'.length
  refine call_tuple_list pl.isList (fun h' kp=>?_) (by simp only [List.size_toArray] <;> omega)
  have I1:Inv X pins σ H { s with heap:=h' }:=I.kept (t':=s.toks) kp
  have I2:Inv X pins σ (upd H h'.objs.size (.tup ys)) { s with heap:=h'.push { cls:=.type "tuple",data:=.seq its.toArray } }:=
   I1.laid (t':=s.toks) (fun b o e=>Heap.get?_push_of_some _ e) (Nat.le_refl _) (show c6 X.prog X.w _ _ _ (.tup ys) from ⟨hz,its,r',⟨_,Heap.get?_push_size _ rfl,⟨rfl,_,rfl⟩,rfl⟩⟩)
  exact ⟨.ref h'.objs.size,_,I2,rfl,q _ (I1.hok.fresh (Nat.le_refl _))⟩
 ·obtain ⟨its,r',pl,hz⟩:=I.tuple hq
  exact call_tuple_same pl ⟨.ref p,H,I,rfl,q⟩
def tyV (K:PySem.W.Frag) (T:String) (x:V) (H:Hp):Prop:=match x with
 | .str _=>T="str"
 | .int _=>T="int"
 | .ref p=>(T="list"∧∃ xs,SqL K H p xs)∨(T="tuple"∧∃ o,K.lookup p=some o∧o.cls=.type "tuple"∧o.dict=none)∨
   (T="dict"∧((∃ kvs,H p=some (.dK kvs))∨∃ kvs,H p=some (.dT kvs)))∨(T="set"∧∃ S n,H p=some (.set S n))∨(T="tuple"∧∃ xs,H p=some (.tup xs))
 | _=>False
theorem aC1 {pins:List (Addr×Obj)}{σ:St}{H:Hp}{s:Shared}{T:String}{x:V}{v:Value} (I:Inv X pins σ H s) (r:cS x v) (ty:tyV X.K T x H):
  s.TypeIs v T∧∀ a,v=.ref a→∃ ob,s.heap.get? a=some ob∧ob.dict=none:=by
 cases x with
 | str z=>
  obtain ⟨t,rfl⟩:=r
  cases (show T="str" from ty)
  exact ⟨typeIs_str s z t,fun _ e=>nomatch e⟩
 | int i=>
  obtain ⟨t,rfl⟩:=r
  cases (show T="int" from ty)
  exact ⟨typeIs_int s i t,fun _ e=>nomatch e⟩
 | ref p=>
  cases r
  rcases ty with ⟨rfl,xs,hq⟩ | ⟨rfl,o,hk,hc,hd⟩ | ⟨rfl,hk⟩ | ⟨rfl,S,n,hk⟩ | ⟨rfl,xs,hq⟩
  ·obtain ⟨its,_,pl,_⟩:=I.list hq
   refine ⟨pl.isList.typeIs,fun a e=>?_⟩
   cases e
   obtain ⟨o,n,e,c,hd,_⟩:=pl
   exact ⟨o,e,hd⟩
  ·refine ⟨⟨o,I.kIn p o hk,hc⟩,fun a e=>?_⟩
   cases e
   exact ⟨o,I.kIn _ o hk,hd⟩
  ·have z:∃ o,s.heap.get? p=some o∧o.ExactDict:=by
    rcases hk with ⟨kvs,hk⟩ | ⟨kvs,hk⟩
    ·obtain ⟨_,_,_,_,o,_,_,e,ex,_⟩:=I.hok p _ hk
     exact ⟨o,e,ex⟩
    ·obtain ⟨_,_,_,_,o,_,_,e,ex,_⟩:=I.hok p _ hk
     exact ⟨o,e,ex⟩
   obtain ⟨o,e,ex⟩:=z
   refine ⟨⟨o,e,ex.1⟩,fun a e2=>?_⟩
   cases e2
   exact ⟨o,e,ex.2.1⟩
  ·obtain ⟨o,_,_,_,e,ex,_⟩:=I.hok p _ hk
   refine ⟨⟨o,e,ex.1⟩,fun a e2=>?_⟩
   cases e2
   exact ⟨o,e,ex.2.1⟩
  ·obtain ⟨_,_,_,o,e,⟨c,_⟩,hd⟩:=(show c6 X.prog X.w H s.heap p (.tup xs) from I.hok p _ hq)
   refine ⟨⟨o,e,c⟩,fun a e2=>?_⟩
   cases e2
   exact ⟨o,e,hd⟩
 | _=>exact False.elim ty
def aHS (K:PySem.W.Frag) (T:String) (r:V→List V→Hp→VK→Prop) (to:TE):TE:=fun σ H Q=>to σ H fun x H1=>tyV K T x H1∧r x [] H1 Q
def tBM (K:PySem.W.Frag) (T:String) (r:V→List V→Hp→VK→Prop) (to:TE) (t:TA):TE:=fun σ H Q=>to σ H fun x H1=>tyV K T x H1∧t σ H1 fun xs H2=>r x xs H2 Q
variable {o e:Expr}{es:List Expr}{to:TE}{t:TA}{name:Str}{apos cpos:Pos}{T id:String}{r:V→List V→Hp→VK→Prop}
theorem aF5 (pa:PlainAttrs T) (slot:Slot T name id) (hty:typeOf (.builtin id)=pure (.type "method_descriptor")) (hm:MtR X id r) (ho:PE X o to)
  (hbase:attributeBase o name X.env (eval o X.env)=eval o X.env:=by rfl) (hline:(apos.endLine == cpos.line)=true:=by rfl):PE X (.Call (.Attribute o name apos) [] [] cpos) (aHS X.K T r to):=by
 constructor
 intro pins s σ H Q I h
 refine wpAny_Call_method0_late hbase hline (thn (ho pins s σ H _ I h) fun v s1 ⟨x,H1,I1,r1,ty,q1⟩=>?_)
 obtain ⟨h1,h2⟩:=aC1 I1 r1 ty
 exact ⟨T,id,pa,slot,hty,h1,h2,Calls.callWith_builtin rfl (PySem.evalArgs_none (hm pins s1 σ H1 x [] v [] Q I1 r1 .nil q1))⟩
theorem fF (pa:PlainAttrs T) (slot:Slot T name id) (hty:typeOf (.builtin id)=pure (.type "method_descriptor")) (hm:MtR X id r) (ho:PE X o to) (ha:PA X (e :: es) t)
  (hbase:attributeBase o name X.env (eval o X.env)=eval o X.env:=by rfl)
  (hfew:((backTo cpos (starEach (e :: es) X.env)).all (fun x=>!x.1) && (backToKw cpos (keywordEach [] X.env)).all (fun x=>x.1.isSome)
   && decide ((e :: es).length + ([]:List Keyword).length + (if ([]:List Keyword).isEmpty then 0 else 1) < 30))=true:=by rfl)
  (hline:(apos.endLine == cpos.line)=true:=by rfl) (hs:starEach (e :: es) X.env=(false,eval e X.env) :: starEach es X.env:=by rfl) (hplain:(backTo cpos (starEach es X.env)).any (·.1)=false:=by rfl):
  PE X (.Call (.Attribute o name apos) (e :: es) [] cpos) (tBM X.K T r to t):=by
 constructor
 intro pins s σ H Q I h
 refine wpAny_Call_method_late hbase hfew hline rfl (thn (ho pins s σ H _ I h) fun v s1 ⟨x,H1,I1,r1,ty,q1⟩=>?_)
 obtain ⟨h1,h2⟩:=aC1 I1 r1 ty
 refine ⟨T,id,pa,slot,hty,h1,h2,?_⟩
 have hA:=ha cpos pins s1 σ H1 _ I1 q1
 rw [hs] at hA ⊢
 refine Calls.callWith_builtin (by show (false || (backTo cpos (starEach es X.env)).any (·.1))=false;rw [hplain] <;> rfl) (Calls.evalArgs_plain ?_)
 exact thn hA fun us s2 ⟨vs,H2,I2,r2,q2⟩=>hm pins s2 σ H2 x vs v us Q I2 r1 r2 q2
end
end L2
namespace L2
open PySem PySem.Spec PyProof.Rows
def MtM (X:Cx) (id:String) (r:V→List V→Hp→VK→Prop):Prop:=
 ∀ (pins:List (Addr×Obj)) (s:Shared) (σ:St) (H:Hp) (x:V) (xs:List V) (v:Value) (us:List Value) (Q:VK),Inv X pins σ H s→cS x v→cO xs us→r x xs H Q→
  wpAny (model X.prog X.w) X.A (call (.builtin id) (v :: us)) (EP X pins σ Q) X.xe s
theorem cO.one:∀ {x:V}{us:List Value},cO [x] us→∃ u,us=[u]∧cS x u
 | _,_,.cons r .nil=>⟨_,rfl,r⟩
theorem cO.zero:∀ {us:List Value},cO [] us→us=[]
 | _,.nil=>rfl
theorem cO.eraseIdx:∀ {xs:List V}{us:List Value} (i:Nat),cO xs us→cO (xs.eraseIdx i) (us.eraseIdx i)
 | _,_,_,.nil=>.nil
 | _,_,0,.cons _ t=>t
 | _,_,i + 1,.cons r t=>.cons r (cO.eraseIdx i t)
theorem uS {α:Type}:∀ (l:List α) (i:Nat),(l.eraseIdx i).length≤l.length
 | [],_=>Nat.le_refl _
 | _ :: _,0=>Nat.le_succ _
 | _ :: r,i + 1=>Nat.succ_le_succ (uS r i)
section
variable {X:Cx}{pins:List (Addr×Obj)}{σ:St}{H:Hp}{s:Shared}{l b:Addr}{xs ys zs:List V}
theorem Inv.lset {its its':List Value}{n:Nat}{f:Array Value→Array Value}{t':Nat} (I:Inv X pins σ H s) (hH:H l=some (.lst xs))
  (e:s.heap.get? l=some { cls:=.type "list",data:=.seq its.toArray n }) (hf:f its.toArray=its'.toArray) (hv:cO ys its') (hz:ys.length≤sizeLine):
  Inv X pins σ (upd H l (.lst ys)) { s with heap:=s.heap.update l (Obj.mapSeq f),toks:=t' }:=by
 have q:=PySem.IsL.update e f
 rw [hf] at q
 refine I.write (x:=l) (e:=l) (by rw [hH];exact trivial) (.inl rfl) (fun b' u hb hu=>(Heap.get?_update_other s.heap (Obj.mapSeq f) (Ne.symm hb)).trans hu) ⟨_,q⟩ ?_
 exact ⟨hz,its',_,hv,q⟩
theorem Inv.lnew {its:List Value}{t':Nat} (I:Inv X pins σ H s) (hv:cO ys its) (hz:ys.length≤sizeLine):
  Inv X pins σ (upd H s.heap.objs.size (.lst ys)) { s with heap:=s.heap.push { cls:=.type "list",data:=.seq its.toArray },toks:=t' }:=
 I.laid (fun _ _ q=>Heap.get?_push_of_some _ q) (Nat.le_refl _) ⟨hz,its,0,hv,Heap.get?_push_size _ rfl⟩
theorem Inv.fresh (I:Inv X pins σ H s):H s.heap.objs.size=none:=I.hok.fresh (Nat.le_refl _)
theorem Inv.lstM (I:Inv X pins σ H s) (hH:H l=some (.lst xs)):xs.length≤sizeLine∧∃ (its:List Value) (n:Nat),cO xs its∧xs.length=its.length∧s.heap.get? l=some { cls:=.type "list",data:=.seq its.toArray n }:=by
 obtain ⟨z,its,n,r,e⟩:=I.hok l _ hH
 exact ⟨z,its,n,r,r.length,e⟩
theorem aC2 {n:Nat} (h:n≤sizeLine):Builtin.List.listTooLong n=false:=by
 unfold Builtin.List.listTooLong
 exact decide_eq_false (by omega)
end
section
variable {X:Cx}
inductive uT (x:V) (vs:List V) (H:Hp) (Q:VK):Prop
 | mk (l:_) (xs:_) (y:_) (q0:x=.ref l) (q1:vs=[y]) (q2:H l=some (.lst xs)) (q3:xs.length < sizeLine) (q4:Q .non (upd H l (.lst (xs ++ [y])))):uT x vs H Q
def aEI:V→List V→Hp→VK→Prop:=fun x vs H Q=>uT x vs H Q
theorem dG:MtM X "list.append" aEI:=by
 intro pins s σ H x vs v us Q I rx rv h
 obtain ⟨l,xs,y,rfl,rfl,hH,hz,q⟩:=h
 cases rx
 obtain ⟨u,rfl,ru⟩:=rv.one
 obtain ⟨z,its,n,r,hl,e⟩:=I.lstM hH
 refine call_meets F.slot_list_append ⟨_,e,rfl⟩ F.entry_list_append (F.args_list_append_2 _ _) (PySem.list_append l its.toArray n u (by rw [List.size_toArray];omega)) ⟨e,?_⟩
 refine ⟨.non,_,I.lset (its':=its ++ [u]) hH e (by simp) (r.append (.cons ru .nil)) ?_,rfl,q⟩
 rw [List.length_append,List.length_singleton]
 omega
inductive xK (x:V) (vs:List V) (H:Hp) (Q:VK):Prop
 | mk (l:_) (xs:_) (i:_) (k:_) (y:_) (q0:x=.ref l) (q1:vs=[.int i]) (q2:H l=some (.lst xs)) (q3:-(2 ^ 63)≤i) (q4:i < 2 ^ 63) (q5:seqIndex? i xs.length=some k) (q6:xs[k]?=some y) (q7:Q y (upd H l (.lst (xs.eraseIdx k)))):xK x vs H Q
def aF6:V→List V→Hp→VK→Prop:=fun x vs H Q=>xK x vs H Q
theorem aC3:MtM X "list.pop" aF6:=by
 intro pins s σ H x vs v us Q I rx rv h
 obtain ⟨l,xs,i,k,y,rfl,rfl,hH,h1,h2,hk,hy,q⟩:=h
 cases rx
 obtain ⟨u,rfl,ru⟩:=rv.one
 obtain ⟨t,rfl⟩:=ru
 obtain ⟨z,its,n,r,hl,e⟩:=I.lstM hH
 obtain ⟨w,hw,rw'⟩:=r.get hy
 refine call_meets F.slot_list_pop ⟨_,e,rfl⟩ F.entry_list_pop (F.args_list_pop_2 _ _)
  (MeetsSeq.list_pop_at l its.toArray n i t k w (fitsIndex_both h1 h2) (by rw [List.size_toArray,← hl];exact hk) (by rw [← Array.getElem?_toList];exact hw) (by rw [List.size_toArray];omega)) ⟨e,?_⟩
 refine ⟨y,_,I.lset (its':=its.eraseIdx k) hH e ?_ (r.eraseIdx k) ?_,rw',q⟩
 ·show its.toArray.eraseIdxIfInBounds k=(its.eraseIdx k).toArray
  rw [List.eraseIdxIfInBounds_toArray]
 ·have:=uS xs k
  omega
inductive xL (x:V) (vs:List V) (H:Hp) (Q:VK):Prop
 | mk (l:_) (xs:_) (q0:x=.ref l) (q1:vs=[]) (q2:H l=some (.lst xs)) (q3:Q .non (upd H l (.lst []))):xL x vs H Q
def aF7:V→List V→Hp→VK→Prop:=fun x vs H Q=>xL x vs H Q
theorem aC4:MtM X "list.clear" aF7:=by
 intro pins s σ H x vs v us Q I rx rv h
 obtain ⟨l,xs,rfl,rfl,hH,q⟩:=h
 cases rx
 have hus:=rv.zero
 subst hus
 obtain ⟨z,its,n,r,hl,e⟩:=I.lstM hH
 refine call_meets F.slot_list_clear ⟨_,e,rfl⟩ F.entry_list_clear (F.args_list_clear_1 _) (AutoSeq1.list_clear_list_0 l its.toArray n (by rw [List.size_toArray];omega)) ⟨e,?_⟩
 exact ⟨.non,_,I.lset (its':=[]) (ys:=[]) hH e rfl .nil (Nat.zero_le _),rfl,q⟩
inductive aC5 (x:V) (y:V) (H:Hp) (Q:VK):Prop
 | mk (l:_) (b:_) (xs:_) (zs:_) (q0:x=.ref l) (q1:y=.ref b) (q2:H l=some (.lst xs)) (q3:H b=some (.lst zs)) (q4:xs.length + zs.length≤sizeLine) (q5:∀ p,H p=none→Q (.ref p) (upd H p (.lst (xs ++ zs)))):aC5 x y H Q
def aHT:R2:=fun x y H Q=>aC5 x y H Q
theorem wJ:OpR X (binaryOp .Add) aHT:=by
 intro pins s σ H x y v u Q I rx ry h
 obtain ⟨l,b,xs,zs,rfl,rfl,hH,hB,hz,q⟩:=h
 cases rx
 cases ry
 obtain ⟨z,its,n,r,hl,e⟩:=I.lstM hH
 obtain ⟨z2,its2,n2,r2,hl2,e2⟩:=I.lstM hB
 refine PySem.P.add_list e e2 ?_ (by rw [List.size_toArray,List.size_toArray];omega)
 have ea:its.toArray ++ its2.toArray=(its ++ its2).toArray:=by simp
 rw [ea]
 exact ⟨.ref _,_,I.lnew (t':=s.toks) (r.append r2) (by rw [List.length_append];omega),rfl,q _ I.fresh⟩
end
section
variable {prog:Program}{w:World}{A:Around}{E:Value→Shared→Prop}{s:Shared}
end
section
variable {X:Cx}
end
end L2
namespace L2
open PySem PySem.Spec PyProof.Rows
section
variable {κ:Type} [DecidableEq κ]
def dH (kvs:List (κ×V)) (k:κ):Option V:=(kvs.find? fun kv=>decide (kv.1=k)).map (·.2)
def c5 (kvs:List (κ×V)) (k:κ) (v:V):List (κ×V):=
 if (kvs.any fun kv=>decide (kv.1=k))=true then kvs.map (fun kv=>if kv.1=k then (kv.1,v) else kv) else kvs ++ [(k,v)]
def dC (kvs:List (κ×V)) (k:κ):List (κ×V):=kvs.filter fun kv=>decide (kv.1≠k)
theorem rZ {k:κ}:dH ([]:List (κ×V)) k=none:=rfl
theorem dN {p:κ×V}{r:List (κ×V)}{k:κ} (e:p.1=k):dH (p :: r) k=some p.2:=by simp [dH,List.find?_cons,e]
theorem c7 {p:κ×V}{r:List (κ×V)}{k:κ} (e:¬ p.1=k):dH (p :: r) k=dH r k:=by simp [dH,List.find?_cons,e]
theorem gO (k:κ):∀ kvs:List (κ×V),(kvs.any fun kv=>decide (kv.1=k))=(dH kvs k).isSome
 | []=>rfl
 | p :: r=>by
  rw [List.any_cons]
  by_cases e:p.1=k
  ·simp only [dN e,decide_eq_true e,Bool.true_or,Option.isSome_some]
  ·rw [c7 e,decide_eq_false e,Bool.false_or];exact gO k r
theorem xO (k j:κ) (y:V):∀ kvs:List (κ×V),dH (kvs.map fun kv=>if kv.1=k then (kv.1,y) else kv) j=(dH kvs j).map fun x=>if j=k then y else x
 | []=>rfl
 | p :: r=>by
  have ih:=xO k j y r
  rw [List.map_cons]
  by_cases h:p.1=k
  ·rw [if_pos h]
   by_cases e:p.1=j
   ·rw [dN (p:=(p.1,y)) e,dN e,Option.map_some,if_pos (e.symm.trans h)]
   ·rw [c7 (p:=(p.1,y)) e,c7 e,ih]
  ·rw [if_neg h]
   by_cases e:p.1=j
   ·rw [dN (p:=p) e,dN e,Option.map_some,if_neg (fun z=>h (e.trans z))]
   ·rw [c7 (p:=p) e,c7 e,ih]
theorem uU (k j:κ) (y:V):∀ kvs:List (κ×V),dH kvs k=none→dH (kvs ++ [(k,y)]) j=if j=k then some y else dH kvs j
 | [],_=>by
  by_cases e:k=j
  ·rw [if_pos e.symm];exact dN (p:=(k,y)) e
  ·rw [if_neg (fun z=>e z.symm)];exact c7 (p:=(k,y)) e
 | p :: r,hn=>by
  rw [List.cons_append]
  have hk:¬ p.1=k:=fun z=>by rw [dN z] at hn;cases hn
  rw [c7 hk] at hn
  have ih:=uU k j y r hn
  by_cases e:p.1=j
  ·rw [dN e,dN e,if_neg (fun z=>hk (e.trans z))]
  ·rw [c7 e,c7 e,ih]
theorem sA (kvs:List (κ×V)) (k j:κ) (y:V):dH (c5 kvs k y) j=if j=k then some y else dH kvs j:=by
 unfold c5
 by_cases a:(kvs.any fun kv=>decide (kv.1=k))=true
 ·rw [if_pos a,xO]
  rw [gO] at a
  by_cases e:j=k
  ·obtain ⟨x,hx⟩:=Option.isSome_iff_exists.mp a
   rw [if_pos e,e,hx,Option.map_some,if_pos rfl]
  ·rw [if_neg e]
   cases dH kvs j with
   | none=>rfl
   | some x=>rw [Option.map_some,if_neg e]
 ·rw [if_neg a]
  refine uU k j y kvs ?_
  rw [gO] at a
  cases q:dH kvs k with
  | none=>rfl
  | some x=>rw [q] at a;exact (a rfl).elim
theorem dL (kvs:List (κ×V)) (k:κ) (v:V):(c5 kvs k v).length≤kvs.length + 1:=by
 unfold c5
 split
 ·rw [List.length_map];omega
 ·rw [List.length_append,List.length_cons,List.length_nil];omega
theorem oA {kvs:List (κ×V)}{k:κ} (v:V) (h:dH kvs k=none):c5 kvs k v=kvs ++ [(k,v)]:=by
 unfold c5
 rw [gO,h]
 exact if_neg (by decide)
theorem lF.isSome_eq {o:Option V}{u:Option Value} (r:lF o u):o.isSome=u.isSome:=by
 cases o with
 | none=>cases u with
  | none=>rfl
  | some _=>exact (show False from r).elim
 | some _=>cases u with
  | none=>exact (show False from r).elim
  | some _=>rfl
theorem lF.getD {o:Option V}{u:Option Value}{d:V}{d':Value} (r:lF o u) (rd:cS d d'):cS (o.getD d) (u.getD d'):=by
 cases o with
 | none=>cases u with
  | none=>exact rd
  | some _=>exact (show False from r).elim
 | some _=>cases u with
  | none=>exact (show False from r).elim
  | some _=>exact r
theorem KV.val {kvs:List (κ×V)}{vs:List (κ×Value)} (r:KV kvs vs) (k:κ):lF (dH kvs k) (valueAt vs k):=by
 unfold KV at r
 induction r with
 | nil=>exact True.intro
 | @cons p q ps qs h t ih=>
  obtain ⟨h1,h2⟩:=h
  by_cases e:p.1=k
  ·have e':q.1=k:=h1.symm.trans e
   have b:valueAt (q :: qs) k=some q.2:=by simp [valueAt,List.find?_cons,e']
   rw [dN e,b];exact h2
  ·have e':¬ q.1=k:=fun z=>e (h1.trans z)
   have b:valueAt (q :: qs) k=valueAt qs k:=by simp [valueAt,List.find?_cons,e']
   rw [c7 e,b];exact ih
theorem KV.any {kvs:List (κ×V)}{vs:List (κ×Value)} (r:KV kvs vs) (k:κ):(kvs.any fun kv=>decide (kv.1=k))=vs.any fun kv=>decide (kv.1=k):=by
 unfold KV at r
 induction r with
 | nil=>rfl
 | cons h t ih=>rw [List.any_cons,List.any_cons,ih,h.1]
theorem KV.repl {kvs:List (κ×V)}{vs:List (κ×Value)} (r:KV kvs vs) (k:κ) {y:V}{u:Value} (ry:cS y u):
  KV (kvs.map fun kv=>if kv.1=k then (kv.1,y) else kv) (vs.map fun kv=>if kv.1=k then (kv.1,u) else kv):=by
 unfold KV at r ⊢
 induction r with
 | nil=>exact .nil
 | @cons p q ps qs h t ih=>
  rw [List.map_cons,List.map_cons]
  refine .cons ?_ ih
  obtain ⟨h1,h2⟩:=h
  by_cases e:p.1=k
  ·rw [if_pos e,if_pos (h1.symm.trans e)];exact ⟨h1,ry⟩
  ·rw [if_neg e,if_neg (fun z=>e (h1.trans z))];exact ⟨h1,h2⟩
theorem KV.put {kvs:List (κ×V)}{vs:List (κ×Value)} (r:KV kvs vs) (k:κ) {y:V}{u:Value} (ry:cS y u):KV (c5 kvs k y) (stored vs k u):=by
 unfold c5 stored
 rw [r.any k]
 by_cases e:(vs.any fun kv=>decide (kv.1=k))=true
 ·rw [if_pos e,if_pos e];exact r.repl k ry
 ·rw [if_neg e,if_neg e];exact Paired.snoc r ⟨rfl,ry⟩
theorem KV.drop {kvs:List (κ×V)}{vs:List (κ×Value)} (r:KV kvs vs) (k:κ):KV (dC kvs k) (without vs k):=by
 unfold KV at r ⊢
 unfold dC without
 induction r with
 | nil=>exact .nil
 | @cons p q ps qs h t ih=>
  obtain ⟨h1,h2⟩:=h
  rw [List.filter_cons,List.filter_cons]
  by_cases e:p.1=k
  ·have a:¬ decide (p.1≠k)=true:=by simp [e]
   have b:¬ decide (q.1≠k)=true:=by simp [h1.symm.trans e]
   rw [if_neg a,if_neg b];exact ih
  ·have e':¬ q.1=k:=fun z=>e (h1.trans z)
   have a:decide (p.1≠k)=true:=by simp [e]
   have b:decide (q.1≠k)=true:=by simp [e']
   rw [if_pos a,if_pos b];exact .cons ⟨h1,h2⟩ ih
theorem KV.length {kvs:List (κ×V)}{vs:List (κ×Value)} (r:KV kvs vs):kvs.length=vs.length:=Paired.length r
theorem lQ (kvs:List (κ×V)) (k:κ):(dC kvs k).length≤kvs.length:=List.length_filter_le _ _
end
theorem oB {P:Program}{w:World}{k:Key}{u:Value} (r:cS (kV k) u):(dM P w).is k u=true:=by
 cases k with
 | inl i=>obtain ⟨t,e⟩:=(show ∃ t,u=Value.int i t from r);subst e;exact xB P w i t
 | inr x=>obtain ⟨t,e⟩:=(show ∃ t,u=Value.str x t from r);subst e;exact xC P w x t
theorem uV {P:Program}{w:World}:∀ {ks:List Key}{us:List Value},cO (ks.map kV) us→ItemsAre (dM P w) ks us
 | [],_,r=>by rw [List.map_nil] at r;cases r;exact .nil
 | k :: ks,_,r=>by
  rw [List.map_cons] at r
  cases r with
  | cons h t=>exact .cons (oB h) (uV t)
abbrev KT (H:Hp):List (List Key×V)→List (List Key×Addr×Value)→Prop:=Paired fun p q=>p.1=q.1∧H q.2.1=some (.tup (p.1.map kV))∧cS p.2 q.2.2
theorem KT.val {H:Hp}{kvs:List (List Key×V)}{xs:List (List Key×Addr×Value)} (r:KT H kvs xs) (k:List Key):lF (dH kvs k) ((atKey xs k).map (·.2)):=by
 induction r with
 | nil=>exact True.intro
 | @cons p q ps qs h t ih=>
  obtain ⟨h1,_,h2⟩:=h
  by_cases e:p.1=k
  ·have e':q.1=k:=h1.symm.trans e
   have b:atKey (q :: qs) k=some q.2:=by simp [atKey,List.find?_cons,e']
   rw [dN e,b];exact h2
  ·have e':¬ q.1=k:=fun z=>e (h1.trans z)
   have b:atKey (q :: qs) k=atKey qs k:=by simp [atKey,List.find?_cons,e']
   rw [c7 e,b];exact ih
theorem KT.repl {H:Hp}{kvs:List (List Key×V)}{xs:List (List Key×Addr×Value)} (r:KT H kvs xs) (k:List Key) {y:V}{u:Value} (ry:cS y u):
  KT H (kvs.map fun kv=>if kv.1=k then (kv.1,y) else kv) (xs.map (putAt k u)):=by
 induction r with
 | nil=>exact .nil
 | @cons p q ps qs h t ih=>
  rw [List.map_cons,List.map_cons]
  refine .cons ?_ ih
  obtain ⟨h1,h2,h3⟩:=h
  unfold putAt
  by_cases e:p.1=k
  ·rw [if_pos e,if_pos (h1.symm.trans e)];exact ⟨h1,h2,ry⟩
  ·rw [if_neg e,if_neg (fun z=>e (h1.trans z))];exact ⟨h1,h2,h3⟩
theorem KT.put {H:Hp}{kvs:List (List Key×V)}{xs:List (List Key×Addr×Value)} (r:KT H kvs xs) (k:List Key) {b:Addr}{y:V}{u:Value} (hb:H b=some (.tup (k.map kV))) (ry:cS y u):
  KT H (c5 kvs k y) (storedH xs k b u):=by
 have e:(kvs.any fun kv=>decide (kv.1=k))=(atKey xs k).isSome:=by
  rw [gO,(r.val k).isSome_eq,Option.isSome_map]
 unfold c5 storedH
 rw [e]
 by_cases q:(atKey xs k).isSome=true
 ·rw [if_pos q,if_pos q];exact r.repl k ry
 ·rw [if_neg q,if_neg q];exact Paired.snoc r ⟨rfl,hb,ry⟩
theorem KT.keeps {H H':Hp}{kvs:List (List Key×V)}{xs:List (List Key×Addr×Value)} (r:KT H kvs xs) (ht:∀ b ys,H b=some (.tup ys)→H' b=some (.tup ys)):KT H' kvs xs:=
 Paired.mapP r fun _ _ z=>⟨z.1,ht _ _ z.2.1,z.2.2⟩
section
variable {P:Program}{w:World}{H:Hp}{h:Heap}{a:Addr}
theorem aFw {u:HO} (ok:HOk P w H h) (e:Rd H a u):c6 P w H h a u:=e.ok ok
theorem qG {kvs:List (Key×V)} (ok:HOk P w H h) (e:Rd H a (.dK kvs)):kvs.length≤sizeLine∧(a == sysModules)=false∧∃ vs,KV kvs vs∧h.DictOf (dM P w) a vs:=
 show c6 P w H h a (.dK kvs) from aFw ok e
theorem aC6 {kvs:List (Key×V)} (ok:HOk P w H h) (e:H a=some (.dK kvs)):kvs.length≤sizeLine∧(a == sysModules)=false∧∃ vs,KV kvs vs∧h.DictOf (dM P w) a vs:=qG ok (.inl e)
theorem pF {ks:List Key} (ok:HOk P w H h) (e:H a=some (.tup (ks.map kV))):(tupleKind (dM P w)).is h ks a:=by
 obtain ⟨_,its,r,o,h1,⟨h2,n,h3⟩,_⟩:=(show c6 P w H h a (.tup (ks.map kV)) from ok a _ e)
 exact ⟨o,its.toArray,n,h1,h2,h3,by simpa using uV r⟩
theorem sB {kvs:List (List Key×V)} (ok:HOk P w H h) (e:Rd H a (.dT kvs)):kvs.length≤sizeLine∧(a == sysModules)=false∧
  ∃ xs,KT H kvs xs∧h.DictOfH (tupleKind (dM P w)) a xs:=by
 obtain ⟨z,y,xs,r,o,es,ep,h1,h2,h3,h4,h5⟩:=(show c6 P w H h a (.dT kvs) from aFw ok e)
 refine ⟨z,y,xs,r,o,es,ep,h1,h2,h3,h4,fun x hx=>?_,h5⟩
 have all:∀ {l:List (List Key×V)} {m:List (List Key×Addr×Value)},KT H l m→∀ x∈m,(tupleKind (dM P w)).is h x.1 x.2.1:=by
  intro l m q
  induction q with
  | nil=>intro x hx;exact nomatch hx
  | @cons p q ps qs hq t ih=>
   intro x hx
   rcases List.mem_cons.mp hx with e | hx
   ·subst e
    exact pF ok (by rw [← hq.1];exact hq.2.1)
   ·exact ih x hx
 exact all r x hx
theorem aG3 {kvs:List (List Key×V)} (ok:HOk P w H h) (e:H a=some (.dT kvs)):kvs.length≤sizeLine∧(a == sysModules)=false∧
  ∃ xs,KT H kvs xs∧h.DictOfH (tupleKind (dM P w)) a xs:=sB ok (.inl e)
end
def lS (H:Hp) (a:Addr) (y:V) (r:Option V):Prop:=
 (∃ kvs k,Rd H a (.dK kvs)∧y=kV k∧r=dH kvs k)∨∃ kvs k b,Rd H a (.dT kvs)∧y=.ref b∧H b=some (.tup (k.map kV))∧r=dH kvs k
def lE (H:Hp) (a:Addr) (y v:V) (H':Hp):Prop:=
 (∃ kvs k,H a=some (.dK kvs)∧y=kV k∧kvs.length < sizeLine∧H'=upd H a (.dK (c5 kvs k v)))∨
 ∃ kvs k b,H a=some (.dT kvs)∧y=.ref b∧H b=some (.tup (k.map kV))∧kvs.length < sizeLine∧H'=upd H a (.dT (c5 kvs k v))
theorem lS.k {H:Hp}{a:Addr}{kvs:List (Key×V)}{k:Key} (e:H a=some (.dK kvs)):lS H a (kV k) (dH kvs k):=.inl ⟨kvs,k,.inl e,rfl,rfl⟩
theorem lE.k {H:Hp}{a:Addr}{kvs:List (Key×V)}{k:Key}{v:V} (e:H a=some (.dK kvs)) (hl:kvs.length < sizeLine):lE H a (kV k) v (upd H a (.dK (c5 kvs k v))):=.inl ⟨kvs,k,e,rfl,hl,rfl⟩
section
variable {X:Cx}{pins:List (Addr×Obj)}{σ:St}{H:Hp}{s:Shared}{a:Addr}{y v:V}{u r:Value}{o:Option V}{A:Around}{E:Value→Shared→Prop}
theorem Inv.big (I:Inv X pins σ H s):sysModules < s.heap.objs.size:=by
 have h:mainGlobals < s.heap.objs.size:=(I.mod.glob.keeps I.bk).lt
 exact Nat.lt_trans (by decide) h
theorem aBW {Q:Value→Shared→Prop} (hu:A.units + 1 < cLine) (I:Inv X pins σ H s) (g:lS H a y (some v)) (ry:cS y u) (h:∀ w' s',Inv X pins σ H s'→cS v w'→Q w' s'):
  wpAny (model X.prog X.w) A (getItem (.ref a) u) Q E s:=by
 rcases g with ⟨kvs,k,e,ey,l⟩ | ⟨kvs,k,b,e,ey,eb,l⟩
 ·subst ey
  obtain ⟨z,hd,vs,rel,dd⟩:=qG I.hok e
  obtain ⟨w',hw,rw'⟩:=lF.some_of (v:=v) (o:=valueAt vs k) (by rw [l];exact rel.val k)
  exact wpAny_getItem_of (oB ry) dd.mapOf hw (h w' _ (I.tok _) rw')
 ·subst ey
  cases (show u=Value.ref b from ry)
  obtain ⟨z,hd,xs,rel,dd⟩:=sB I.hok e
  obtain ⟨w',hw,rw'⟩:=lF.some_of (v:=v) (o:=(atKey xs k).map (·.2)) (by rw [l];exact rel.val k)
  obtain ⟨p,hp,hp2⟩:=Option.map_eq_some_iff.mp hw
  refine wpAny_getItem_heap (tupleKind_room_in1 hu) (pF I.hok eb) dd hp ?_
  rw [hp2]
  exact h w' _ (I.tok _) rw'
theorem aHU {Q:Value→Shared→Prop} (hu:A.units + 1 < cLine) (I:Inv X pins σ H s) (g:lS H a y o) (ry:cS y u) (h:∀ s',Inv X pins σ H s'→Q (.bool o.isSome) s'):
  wpAny (model X.prog X.w) A (compareOp .In u (.ref a)) Q E s:=by
 rcases g with ⟨kvs,k,e,ey,l⟩ | ⟨kvs,k,b,e,ey,eb,l⟩
 ·subst ey
  obtain ⟨z,hd,vs,rel,dd⟩:=qG I.hok e
  refine wpAny_in_of (oB ry) hd dd.mapOf ?_
  rw [← (rel.val k).isSome_eq,← l]
  exact h _ (I.tok _)
 ·subst ey
  cases (show u=Value.ref b from ry)
  obtain ⟨z,hd,xs,rel,dd⟩:=sB I.hok e
  refine wpAny_in_heap (tupleKind_room_in1 hu) (pF I.hok eb) hd dd ?_
  have q:=(rel.val k).isSome_eq
  rw [Option.isSome_map] at q
  rw [← q,← l]
  exact h _ (I.tok _)
theorem aEJ {Q:Value→Shared→Prop} (hu:A.units + 1 < cLine) (I:Inv X pins σ H s) (g:lS H a y o) (ry:cS y u) (h:∀ s',Inv X pins σ H s'→Q (.bool (!o.isSome)) s'):
  wpAny (model X.prog X.w) A (compareOp .NotIn u (.ref a)) Q E s:=by
 rcases g with ⟨kvs,k,e,ey,l⟩ | ⟨kvs,k,b,e,ey,eb,l⟩
 ·subst ey
  obtain ⟨z,hd,vs,rel,dd⟩:=qG I.hok e
  refine wpAny_notIn_of (oB ry) hd dd.mapOf ?_
  rw [← (rel.val k).isSome_eq,← l]
  exact h _ (I.tok _)
 ·subst ey
  cases (show u=Value.ref b from ry)
  obtain ⟨z,hd,xs,rel,dd⟩:=sB I.hok e
  refine wpAny_notIn_heap (tupleKind_room_in1 hu) (pF I.hok eb) hd dd ?_
  have q:=(rel.val k).isSome_eq
  rw [Option.isSome_map] at q
  rw [← q,← l]
  exact h _ (I.tok _)
theorem rC {h':Heap}{t':Nat}{ob:HO} (I:Inv X pins σ H s) (mu:Mut (H a)) (hs:Heap.SameBut a s.heap h') (he:∃ q,h'.get? a=some q) (new:c6 X.prog X.w (upd H a ob) h' a ob):
  Inv X pins σ (upd H a ob) { s with heap:=h',toks:=t' }:=
 I.write (x:=a) (e:=a) mu (.inl rfl) (fun b q hb z=>(hs.2 b hb).trans z) he new
theorem zS {P:Program}{w:World}{H':Hp}{h':Heap}{kvs:List (Key×V)}{vs:List (Key×Value)} (z:kvs.length≤sizeLine) (hd:(a == sysModules)=false) (rel:KV kvs vs) (dd:h'.DictOf (dM P w) a vs):
  c6 P w H' h' a (.dK kvs):=⟨z,hd,vs,rel,dd⟩
theorem aBX {H':Hp}{Q:Unit→Shared→Prop} (hu:A.units + 1 < cLine) (I:Inv X pins σ H s) (g:lE H a y v H') (ry:cS y u) (rv:cS v r) (h:∀ s',Inv X pins σ H' s'→Q () s'):
  wpAny (model X.prog X.w) A (setItem (.ref a) u r) Q E s:=by
 rcases g with ⟨kvs,k,e,ey,l,eH⟩ | ⟨kvs,k,b,e,ey,eb,l,eH⟩
 ·subst ey eH
  obtain ⟨z,hd,vs,rel,dd⟩:=aC6 I.hok e
  have hz:vs.length≤sizeLine:=by rw [← rel.length];exact z
  have hl:(c5 kvs k v).length≤sizeLine:=by have:=dL kvs k v;omega
  refine wpAny_setItem_pairs (hsz:=hz) (oB ry) dd fun h' dd' hs=>h _ ?_
  have he:∃ q,h'.get? a=some q:=let ⟨q,_,_,hq,_⟩:=dd';⟨q,hq⟩
  exact rC I (by rw [e];exact True.intro) hs he (zS hl hd (rel.put k rv) dd')
 ·subst ey eH
  cases (show u=Value.ref b from ry)
  obtain ⟨z,hd,xs,rel,dd⟩:=aG3 I.hok e
  have hz:xs.length≤sizeLine:=by rw [← Paired.length rel];exact z
  have hl:(c5 kvs k v).length≤sizeLine:=by have:=dL kvs k v;omega
  refine wpAny_setItem_heap (hsz:=hz) (tupleKind_room_in1 hu) (pF I.hok eb) dd fun h' dd' hs=>h _ ?_
  obtain ⟨q,es,ep,hq,h2,h3,h4,_,h5⟩:=dd'
  refine rC I (by rw [e];exact True.intro) hs ⟨q,hq⟩ ⟨hl,hd,_,(rel.put k eb rv).keeps fun c ys ec=>?_,q,es,ep,hq,h2,h3,h4,h5⟩
  rw [aJ (dS ec e (fun z=>nomatch z))]
  exact ec
end
section
variable {X:Cx}{pins:List (Addr×Obj)}{σ:St}{H:Hp}{s:Shared}{a:Addr}{kvs:List (Key×V)}{k:Key}{u:Value}{A:Around}{E:Value→Shared→Prop}
theorem aG4 {v:V}{more:List Value}{Q:Value→Shared→Prop} (I:Inv X pins σ H s) (e:H a=some (.dK kvs)) (ry:cS (kV k) u) (l:dH kvs k=some v) (hm:more=[]∨∃ x,more=[x])
  (h:∀ w' s',Inv X pins σ (upd H a (.dK (dC kvs k))) s'→cS v w'→Q w' s'):wpAny (model X.prog X.w) A (call (.builtin "dict.pop") (.ref a :: u :: more)) Q E s:=by
 obtain ⟨z,hd,vs,rel,dd⟩:=aC6 I.hok e
 obtain ⟨w',hw,rw'⟩:=lF.some_of (v:=v) (o:=valueAt vs k) (by rw [← l];exact rel.val k)
 have hp:(keyPart u).isSome=true:=by
  cases k with
  | inl i=>obtain ⟨t,q⟩:=(show ∃ t,u=Value.int i t from ry);subst q;rfl
  | inr x=>obtain ⟨t,q⟩:=(show ∃ t,u=Value.str x t from ry);subst q;rfl
 have ha:argsOk "dict.pop" ⟨.ref a :: u :: more,[]⟩:=by
  rcases hm with q | ⟨x,q⟩
  ·subst q;exact PySem.F.args_dict_pop_2 _ _
  ·subst q;exact PySem.F.args_dict_pop_3 _ _ _
 refine call_meetsIn PySem.F.slot_dict_pop dd.typeIs PySem.F.entry_dict_pop ha (meets_dict_pop_there (dM X.prog X.w) a (oB ry) more hm hp)
  ⟨vs,w',dd,by rw [← rel.length];exact z,hw,fun h' dd' hs=>h w' _ ?_ rw'⟩
 have he:∃ q,h'.get? a=some q:=let ⟨q,_,_,hq,_⟩:=dd';⟨q,hq⟩
 exact rC I (by rw [e];exact True.intro) hs he (zS (Nat.le_trans (lQ kvs k) z) hd (rel.drop k) dd')
theorem aG5 {Q:Value→Shared→Prop} (I:Inv X pins σ H s) (e:Rd H a (.dK kvs)) (h:∀ t s',Inv X pins σ H s'→Q (.int kvs.length t) s'):wpAny (model X.prog X.w) A (call (.builtin "len") [.ref a]) Q E s:=by
 obtain ⟨z,hd,vs,rel,dd⟩:=qG I.hok e
 refine call_len_dict hd dd (by rw [← rel.length];rw [sizeLine_eq] at z;omega) ?_
 rw [← rel.length]
 exact h _ _ (I.tok _)
end
def aF8 (i:Expr):Prop:=∀ ov iv,subscripted i false ov iv=operate [ov,iv] (getItem ov iv)
theorem aAN {prog:Program}{w:World}{A:Around}{E:Value→Shared→Prop}{s:Shared}{env:Env}{value slice:Expr}{pos:Pos}{T id:String}{Q:Value→Shared→Prop}
  (hl:typeLookup (.type T) "__getitem__"=pure (some (.builtin id))) (hs:aF8 slice)
  (h:wpAny (model prog w) A (eval value env) (fun o s₁=>wpAny (model prog w) A (eval slice env) (fun i s₂=>s₂.TypeIs o T∧wpAny (model prog w) A (getItem o i) Q E s₂) E s₁) E s):
  wpAny (model prog w) A (eval (.Subscript value slice pos) env) Q E s:=by
 refine Subscript_ (wpAny_mono h (fun o s₁ h₁=>wpAny_mono h₁ (fun i s₂ h₂=>?_) fun _ _ x=>x) fun _ _ x=>x)
 obtain ⟨hT,h₂⟩:=h₂
 unfold subscriptTail
 refine wpAny_bind ?_
 rw [getitemInPython_of_ne hT.not_modules]
 refine wpAny_bind (wpAny_specialOf hT hl ?_)
 have fin:wpAny (model prog w) A (subscripted slice false o i) (fun r s₃=>wpAny (model prog w) A (letTemporaryGo value o r >>= fun _=>pure r) Q E s₃) E s₂:=by
  rw [hs o i]
  exact wpAny_operating (wpAny_mono h₂ (fun r s₃ h₃=>wpAny_bind (wpAny_letTemporaryGo (wpAny_pure h₃))) fun _ _ x=>x)
 first
  | exact wpAny_pure (wpAny_bind fin)
  | exact wpAny_bind (wpAny_pure (wpAny_bind fin))
  | exact wpAny_bind fin
theorem xP {X:Cx}{pins:List (Addr×Obj)}{σ:St}{H:Hp}{s:Shared}{a:Addr}{y:V}{o:Option V} (I:Inv X pins σ H s) (g:lS H a y o):s.TypeIs (.ref a) "dict":=by
 rcases g with ⟨kvs,k,e,_,_⟩ | ⟨kvs,k,b,e,_,_,_⟩
 ·obtain ⟨_,_,vs,_,dd⟩:=qG I.hok e
  exact dd.typeIs
 ·obtain ⟨_,_,xs,_,dd⟩:=sB I.hok e
  exact dd.typeIs
def aG6 (td ty:TE):TE:=fun σ H Q=>td σ H fun x H1=>ty σ H1 fun y H2=>∃ a v,x=.ref a∧lS H2 a y (some v)∧Q v H2
def aHV (ty td:TE):TE:=fun σ H Q=>ty σ H fun y H1=>td σ H1 fun x H2=>∃ a o,x=.ref a∧lS H2 a y o∧Q (.bl o.isSome) H2
def aEK (ty td:TE):TE:=fun σ H Q=>ty σ H fun y H1=>td σ H1 fun x H2=>∃ a o,x=.ref a∧lS H2 a y o∧Q (.bl (!o.isSome)) H2
def aG7 (td ty tv:TE):TS:=fun D σ H=>tv σ H fun v H1=>td σ H1 fun x H2=>ty σ H2 fun y H3=>∃ a H4,x=.ref a∧lE H3 a y v H4∧D.nx σ H4
section
variable {X:Cx}{o i e value:Expr}{pos pos' tpos:Pos}{td ty tv:TE}
theorem fV (hu:X.A.units + 1 < cLine) (ho:PE X o td) (hi:PE X i ty) (hs:aF8 i):PE X (.Subscript o i pos) (aG6 td ty):=by
 constructor
 intro pins s σ H Q I h
 refine aAN PySem.F.slot_dict_getitem.lookup hs (thn (ho pins s σ H _ I h) fun u s1 ⟨x,H1,I1,rx,q1⟩=>thn (hi pins s1 σ H1 _ I1 q1) fun iv s2 ⟨y,H2,I2,ry,a,v,ex,g,q2⟩=>?_)
 subst ex
 obtain rfl:u=Value.ref a:=rx
 exact ⟨xP I2 g,aBW hu I2 g ry fun w' s3 I3 rw'=>⟨v,H2,I3,rw',q2⟩⟩
theorem pG (hu:X.A.units + 1 < cLine) (hi:PE X i ty) (ho:PE X o td):PC X .In i o (aHV ty td):=by
 constructor
 intro pins s σ H Q I h
 refine thn (hi pins s σ H _ I h) fun iv s1 ⟨y,H1,I1,ry,q1⟩=>thn (ho pins s1 σ H1 _ I1 q1) fun u s2 ⟨x,H2,I2,rx,a,ov,ex,g,q2⟩=>?_
 subst ex
 obtain rfl:u=Value.ref a:=rx
 exact aHU hu I2 g ry fun s3 I3=>⟨.bl ov.isSome,H2,I3,rfl,q2⟩
theorem pH (hu:X.A.units + 1 < cLine) (hi:PE X i ty) (ho:PE X o td):PC X .NotIn i o (aEK ty td):=by
 constructor
 intro pins s σ H Q I h
 refine thn (hi pins s σ H _ I h) fun iv s1 ⟨y,H1,I1,ry,q1⟩=>thn (ho pins s1 σ H1 _ I1 q1) fun u s2 ⟨x,H2,I2,rx,a,ov,ex,g,q2⟩=>?_
 subst ex
 obtain rfl:u=Value.ref a:=rx
 exact aEJ hu I2 g ry fun s3 I3=>⟨.bl (!ov.isSome),H2,I3,rfl,q2⟩
theorem fY (hu:X.A.units + 1 < cLine) (ho:PE X o td) (hi:PE X i ty) (hv:PE X value tv) (hs:swapsWith value (some (.Subscript o i pos')) pos.line X.env=pure false):
  PS X (.Assign [.Subscript o i pos'] value pos) (aG7 td ty tv):=by
 constructor
 intro pins s σ H D I h
 refine wpAny_Assign_Subscript (thn (hv pins s σ H _ I h) fun r s1 ⟨v,H1,I1,rv,q1⟩=>thn (ho pins s1 σ H1 _ I1 q1) fun u s2 ⟨x,H2,I2,rx,q2⟩=>thn (hi pins s2 σ H2 _ I2 q2) fun iv s3 ⟨y,H3,I3,ry,a,H4,ex,g,q3⟩=>?_) hs
 subst ex
 obtain rfl:u=Value.ref a:=rx
 exact aBX hu I3 g ry rv fun s4 I4=>⟨σ,H4,I4,q3⟩
end
theorem xQ {P:Program}{w:World}{H:Hp} (h:Heap) (hb:sysModules < h.objs.size):c6 P w H (h.push { cls:=.type "dict",data:=.dict #[] }) h.objs.size (.dK []):=
 ⟨Nat.zero_le _,beq_eq_false_iff_ne.mpr (Ne.symm (Nat.ne_of_lt hb)),[],.nil,Heap.DictOf.new h⟩
def aF9:TE:=fun _ H Q=>∀ p,H p=none→Q (.ref p) (upd H p (.dK []))
section
variable {X:Cx}{pos:Pos}
theorem i6:PE X (.Dict [] [] pos) aF9:=⟨fun pins s σ H Q I h=>
 wpAny_Dict_empty ⟨.ref s.heap.objs.size,_,I.laid (a:=s.heap.objs.size) (o:=.dK []) (t':=s.toks) (fun _ _ q=>Heap.get?_push_of_some _ q) (Nat.le_refl _) (xQ s.heap I.big),rfl,h _ (I.hok.fresh (Nat.le_refl _))⟩⟩
end
def zT:List (TE×TE)→St→Hp→(List (V×V)→Hp→Prop)→Prop
 | [],_,H,Q=>Q [] H
 | (tk,tv) :: r,σ,H,Q=>tk σ H fun x H1=>tv σ H1 fun y H2=>zT r σ H2 fun ps H3=>Q ((x,y) :: ps) H3
abbrev VV:List (V×V)→List (Value×Value)→Prop:=Paired fun p q=>cS p.1 q.1∧cS p.2 q.2
def PPs (X:Cx) (pos:Pos) (keys:List (Option Expr)) (values:List Expr) (trs:List (TE×TE)):Prop:=
 ∀ (pins:List (Addr×Obj)) (s:Shared) (σ:St) (H:Hp) (Q:List (V×V)→Hp→Prop),Inv X pins σ H s→zT trs σ H Q→
  wpAny (model X.prog X.w) X.A (evalPairs (pairTrees keys values X.env pos)) (fun vs s'=>∃ ps H',Inv X pins σ H' s'∧VV ps vs∧Q ps H') X.xe s
theorem aAO {X:Cx}{pos:Pos}:PPs X pos [] [] []:=fun pins s σ H Q I h=>pairTrees_nil_walk ⟨[],H,I,.nil,h⟩
theorem iH {X:Cx}{pos:Pos}{k v:Expr}{ks:List (Option Expr)}{vs:List Expr}{tk tv:TE}{trs:List (TE×TE)} (hk:PE X k tk) (hv:PE X v tv) (hr:PPs X pos ks vs trs):
  PPs X pos (some k :: ks) (v :: vs) ((tk,tv) :: trs):=fun pins s σ H Q I h=>
 pairTrees_cons_walk (thn (hk pins s σ H _ I h) fun u s1 ⟨x,H1,I1,rx,q1⟩=>thn (hv pins s1 σ H1 _ I1 q1) fun w2 s2 ⟨y,H2,I2,ry,q2⟩=>
  thn (hr pins s2 σ H2 _ I2 q2) fun ws s3 ⟨ps,H3,I3,rel,q3⟩=>⟨(x,y) :: ps,H3,I3,.cons ⟨rx,ry⟩ rel,q3⟩)
def nE (kvs more:List (Key×V)):List (Key×V):=more.foldl (fun acc kv=>c5 acc kv.1 kv.2) kvs
theorem KV.merge:∀ {more:List (Key×V)}{rs:List (Key×Value)}{kvs:List (Key×V)}{vs:List (Key×Value)},KV more rs→KV kvs vs→KV (nE kvs more) (merged vs rs):=by
 intro more rs kvs vs r
 unfold KV at r
 induction r generalizing kvs vs with
 | nil=>intro q;exact q
 | @cons p q ps qs h t ih=>
  intro r0
  have e:KV (c5 kvs p.1 p.2) (stored vs q.1 q.2):=by
   have:=r0.put p.1 h.2
   rw [← h.1];exact this
  exact ih e
theorem mZ:∀ (more kvs:List (Key×V)),(nE kvs more).length≤kvs.length + more.length
 | [],kvs=>by show kvs.length≤kvs.length + 0;omega
 | p :: r,kvs=>by
  have h1:=mZ r (c5 kvs p.1 p.2)
  have h2:=dL kvs p.1 p.2
  show (nE (c5 kvs p.1 p.2) r).length≤_
  rw [List.length_cons];omega
theorem sC {P:Program}{w:World}:∀ {kvs:List (Key×V)}{ws:List (Value×Value)},VV (kvs.map fun kv=>(kV kv.1,kv.2)) ws→∃ rs,Carries (dM P w) ws rs∧KV kvs rs
 | [],_,r=>by rw [List.map_nil] at r;cases r;exact ⟨[],True.intro,.nil⟩
 | p :: kvs,_,r=>by
  rw [List.map_cons] at r
  cases r with
  | @cons a b as bs h t=>
   obtain ⟨rs,c,q⟩:=sC (P:=P) (w:=w) t
   obtain ⟨b1,b2⟩:=b
   exact ⟨(p.1,b2) :: rs,⟨oB h.1,rfl,c⟩,.cons ⟨rfl,h.2⟩ q⟩
def aG8 (trs:List (TE×TE)):TE:=fun σ H Q=>∀ p,H p=none→zT trs σ (upd H p (.dK [])) fun ps H2=>H2 p=some (.dK [])∧∃ kvs:List (Key×V),ps=kvs.map (fun kv=>(kV kv.1,kv.2))∧kvs.length≤15∧Q (.ref p) (upd H2 p (.dK (nE [] kvs)))
theorem aAP {X:Cx}{pos:Pos}{keys:List (Option Expr)}{values:List Expr}{trs:List (TE×TE)} (h:PPs X pos keys values trs) (hall:keys.all (·.isSome)=true) (hl:keys.length=values.length) (h0:keys≠[])
  (h15:keys.length≤15):PE X (.Dict keys values pos) (aG8 trs):=by
 constructor
 intro pins s σ H Q I q
 have hn:=I.hok.fresh (Nat.le_refl s.heap.objs.size)
 have I1:=I.laid (a:=s.heap.objs.size) (o:=.dK []) (h':=s.heap.push { cls:=.type "dict",data:=.dict #[] }) (t':=s.toks) (fun _ _ q=>Heap.get?_push_of_some _ q) (Nat.le_refl _) (xQ s.heap I.big)
 refine wpAny_Dict_walk (knd:=dM X.prog X.w) hall hl h0 h15 (thn (h pins _ σ _ _ I1 (q _ hn)) fun ws s2 ⟨ps,H2,I2,rel,e,kvs,ep,lk,q2⟩=>?_)
 subst ep
 obtain ⟨rs,c,rk⟩:=sC (P:=X.prog) (w:=X.w) rel
 obtain ⟨z,hd,vs0,r0,dd⟩:=aC6 I2.hok e
 cases r0
 refine ⟨rs,c,dd,fun h' dd' hs=>⟨.ref s.heap.objs.size,_,?_,rfl,q2⟩⟩
 have hz:(nE [] kvs).length≤sizeLine:=by
  have h1:=mZ kvs []
  rw [List.length_nil] at h1
  rw [sizeLine_eq];omega
 have he:∃ q,h'.get? s.heap.objs.size=some q:=let ⟨q,_,_,hq,_⟩:=dd';⟨q,hq⟩
 exact rC I2 (by rw [e];exact True.intro) hs he (zS hz hd (rk.merge .nil) dd')
structure M1 (X:Cx) (o:Expr) (m:Str) (apos:Pos) (e:Expr) (cpos:Pos):Prop where
 base:attributeBase o m X.env (eval o X.env)=eval o X.env
 few:((backTo cpos (starEach [e] X.env)).all (fun x=>!x.1) && (backToKw cpos (keywordEach [] X.env)).all (fun x=>x.1.isSome)
  && decide (([e]:List Expr).length + ([]:List Keyword).length + (if ([]:List Keyword).isEmpty then 0 else 1) < 30))=true
 line:(apos.endLine == cpos.line)=true
 trees:backTo cpos (starEach [e] X.env)=[(false,eval e X.env)]
structure M2 (X:Cx) (o:Expr) (m:Str) (apos:Pos) (e f:Expr) (cpos:Pos):Prop where
 base:attributeBase o m X.env (eval o X.env)=eval o X.env
 few:((backTo cpos (starEach [e,f] X.env)).all (fun x=>!x.1) && (backToKw cpos (keywordEach [] X.env)).all (fun x=>x.1.isSome)
  && decide (([e,f]:List Expr).length + ([]:List Keyword).length + (if ([]:List Keyword).isEmpty then 0 else 1) < 30))=true
 line:(apos.endLine == cpos.line)=true
 trees:backTo cpos (starEach [e,f] X.env)=[(false,eval e X.env),(false,eval f X.env)]
def IsD (H:Hp) (a:Addr):Prop:=(∃ kvs,Rd H a (.dK kvs))∨∃ kvs,Rd H a (.dT kvs)
theorem aC7 {X:Cx}{pins:List (Addr×Obj)}{σ:St}{H:Hp}{s:Shared}{a:Addr} (I:Inv X pins σ H s) (d:IsD H a):
  s.TypeIs (.ref a) "dict"∧(∀ b,Value.ref a=.ref b→∃ ob,s.heap.get? b=some ob∧ob.dict=none)∧(a == sysModules)=false:=by
 rcases d with ⟨kvs,e⟩ | ⟨kvs,e⟩
 ·obtain ⟨_,hd,vs,_,dd⟩:=qG I.hok e
  refine ⟨dd.typeIs,fun b q=>?_,hd⟩
  cases q
  obtain ⟨ob,_,_,h1,h2,_⟩:=dd
  exact ⟨ob,h1,h2.2.1⟩
 ·obtain ⟨_,hd,xs,_,dd⟩:=sB I.hok e
  refine ⟨dd.typeIs,fun b q=>?_,hd⟩
  cases q
  obtain ⟨ob,_,_,h1,h2,_⟩:=dd
  exact ⟨ob,h1,h2.2.1⟩
section
variable {X:Cx}{pins:List (Addr×Obj)}{σ:St}{H:Hp}{s:Shared}{a:Addr}{y d:V}{u r:Value}{o:Option V}{A:Around}{E:Value→Shared→Prop}
theorem aGa {Q:Value→Shared→Prop} (hu:A.units + 1 < cLine) (I:Inv X pins σ H s) (g:lS H a y o) (ry:cS y u) (rd:cS d r) (h:∀ w' s',Inv X pins σ H s'→cS (o.getD d) w'→Q w' s'):
  wpAny (model X.prog X.w) A (call (.builtin "dict.get") [.ref a,u,r]) Q E s:=by
 rcases g with ⟨kvs,k,e,ey,l⟩ | ⟨kvs,k,b,e,ey,eb,l⟩
 ·subst ey
  obtain ⟨z,hd,vs,rel,dd⟩:=qG I.hok e
  refine call_meetsIn PySem.F.slot_dict_get dd.typeIs PySem.F.entry_dict_get (PySem.F.args_dict_get_3 _ _ _) (meets_dict_get_default (dM X.prog X.w) a (oB ry) hd r) ⟨_,dd.mapOf,h _ _ (I.tok _) ?_⟩
  rw [l]
  exact (rel.val k).getD rd
 ·subst ey
  cases (show u=Value.ref b from ry)
  obtain ⟨z,hd,xs,rel,dd⟩:=sB I.hok e
  refine call_meetsIn PySem.F.slot_dict_get dd.typeIs PySem.F.entry_dict_get (PySem.F.args_dict_get_3 _ _ _) (meetsH_dict_get_default (tupleKind (dM X.prog X.w)) a b hd r) ⟨tupleKind_room_in1 hu,k,xs,pF I.hok eb,dd,h _ _ (I.tok _) ?_⟩
  rw [l]
  exact (rel.val k).getD rd
end
def aGb (td ty tx:TE):TE:=fun σ H Q=>td σ H fun x H1=>∃ a,x=.ref a∧IsD H1 a∧ty σ H1 fun y H2=>tx σ H2 fun z H3=>∃ o,lS H3 a y o∧Q (o.getD z) H3
def aGc (td ty:TE):TE:=fun σ H Q=>td σ H fun x H1=>∃ a,x=.ref a∧IsD H1 a∧ty σ H1 fun y H2=>∃ kvs k v,H2 a=some (.dK kvs)∧y=kV k∧dH kvs k=some v∧Q v (upd H2 a (.dK (dC kvs k)))
section
variable {X:Cx}{o e f:Expr}{apos cpos:Pos}{td ty tx:TE}
theorem aC8 (hu:X.A.units + 1 < cLine) (ho:PE X o td) (he:PE X e ty) (hf:PE X f tx) (m:M2 X o "get" apos e f cpos):PE X (.Call (.Attribute o "get" apos) [e,f] [] cpos) (aGb td ty tx):=by
 constructor
 intro pins s σ H Q I h
 refine wpAny_Call_method m.base m.few m.line PySem.F.plainAttrs_dict PySem.F.slot_dict_get PySem.F.type_dict_get (thn (ho pins s σ H _ I h) fun u s1 ⟨x,H1,I1,rx,a,ex,d,q1⟩=>?_)
 subst ex
 obtain rfl:u=Value.ref a:=rx
 obtain ⟨t1,t2,_⟩:=aC7 I1 d
 refine ⟨t1,t2,?_⟩
 rw [m.trees]
 refine Calls.callWith_builtin rfl (Calls.evalArgs_plain (Calls.spliced_cons (thn (he pins s1 σ H1 _ I1 q1) fun iv s2 ⟨y,H2,I2,ry,q2⟩=>
  Calls.spliced_cons (thn (hf pins s2 σ H2 _ I2 q2) fun fv s3 ⟨z,H3,I3,rz,ov,g,q3⟩=>Calls.spliced_nil ?_))))
 exact aGa hu I3 g ry rz fun w' s4 I4 rw'=>⟨_,H3,I4,rw',q3⟩
theorem oC (ho:PE X o td) (he:PE X e ty) (m:M1 X o "pop" apos e cpos):PE X (.Call (.Attribute o "pop" apos) [e] [] cpos) (aGc td ty):=by
 constructor
 intro pins s σ H Q I h
 refine wpAny_Call_method m.base m.few m.line PySem.F.plainAttrs_dict PySem.F.slot_dict_pop PySem.F.type_dict_pop (thn (ho pins s σ H _ I h) fun u s1 ⟨x,H1,I1,rx,a,ex,d,q1⟩=>?_)
 subst ex
 obtain rfl:u=Value.ref a:=rx
 obtain ⟨t1,t2,_⟩:=aC7 I1 d
 refine ⟨t1,t2,?_⟩
 rw [m.trees]
 refine Calls.callWith_builtin rfl (Calls.evalArgs_plain (Calls.spliced_cons (thn (he pins s1 σ H1 _ I1 q1) fun iv s2 ⟨y,H2,I2,ry,kvs,k,v,ea,ey,l,q2⟩=>Calls.spliced_nil ?_)))
 subst ey
 exact aG4 I2 ea ry l (.inl rfl) fun w' s3 I3 rw'=>⟨v,_,I3,rw',q2⟩
end
section
variable {X:Cx}{pins:List (Addr×Obj)}{σ:St}{H:Hp}{s:Shared}{a:Addr}{kvs:List (Key×V)}{A:Around}{E:Value→Shared→Prop}
end
section
variable {X:Cx}{pins:List (Addr×Obj)}{σ:St}{H:Hp}{s:Shared}{a:Addr}{y:V}{u:Value}{A:Around}{E:Value→Shared→Prop}
end
end L2
namespace Att
open PySem PySem.W PySem.Calls PyProof.Rows
theorem qW {P:Params}{h:Heap}:∀ (ns:List Int) (vs:List Value),WellAll P h vs (ns.map WData.int)→IntsAre vs ns:=by
 intro ns
 induction ns with
 | nil=>
  intro vs w
  rw [List.map_nil] at w
  cases w
  exact .nil
 | cons n ns ih=>
  intro vs w
  rw [List.map_cons] at w
  cases w with
  | cons a b=>
   cases a
   exact .cons _ _ (ih _ b)
theorem aBY {l:OpenLaw}{n:Nat} (hn:l.most=some n) {P:Params}{h:Heap}{args:List WData}{vals:List Value}
  (hpre:l.row.toRowW.claim.pre args=true) (hwl:WellAll P h vals args):
  ∃ a vs ns,vals=[Value.ref a]∧args=[WData.list (ns.map WData.int)]∧h.get? a=some { cls:=.type "list",data:=.seq vs.toArray }∧IntsAre vs ns∧ns.length≤n:=by
 have hsh:WShape.hasAll [] args [.list .int]=true:=(pre_splitW hpre).1
 have hc:l.pre.holds [] { args:=args }=true:=(pre_splitW hpre).2
 obtain ⟨d,r,rfl,h1,h2⟩:=hasAllW_cons hsh
 obtain rfl:=hasAllW_nil h2
 obtain ⟨xs,rfl,h3⟩:=hasW_list h1
 obtain ⟨ns,rfl⟩:=items_int h3
 have hlen:ns.length≤n:=by
  unfold OpenLaw.pre at hc
  have h4:(WTm.not (.lt (.lit (.int (n:Int))) (.len (.arg 0)))).holds [] { args:=[.list (ns.map .int)] }=true:=by
   have h4:=(holds_andW hc).1
   rw [hn] at h4
   exact h4
  have h5:=condW_of h4 (w_not (w_lt w_lit (w_len_list (w_arg rfl))))
  rw [List.length_map] at h5
  refine Nat.le_of_not_lt fun q=>?_
  have q':(n:Int) < ((ns.length:Nat):Int):=by omega
  first
   | (rw [decide_eq_true q'] at h5;exact absurd h5 (by decide))
   | (simp at h5;omega)
 cases hwl with
 | cons w1 w2=>
  cases w2
  cases w1 with
  | list ho hall=>exact ⟨_,_,ns,rfl,rfl,ho,qW ns _ hall,hlen⟩
theorem aBZ (l:OpenLaw) (args:List WData):l.row.toRowW.claim.post args (.bool true) args=true:=
 postW_of (r:=l.row.toRowW) (X:=(true == true))
  (show WShape.has [] (.bool true) .bool=true by first | rfl | decide | simp [WShape.has,WShape.arms,WShape.armsAll])
  (show (WTm.eq .res (.lit (.bool true))).value [] { args:=args,res:=some (.bool true),after:=args }=some (.bool (true == true)) from w_eq_bool (w_res rfl) w_lit) rfl
theorem attach_call {l:OpenLaw}{n:Nat}{q:Program}{loose:List Str}{XP:(Str→Option Value)→Heap→Prop}{YP:World→Heap→Prop}{d:DefRec}
  (hn:l.most=some n) (hdf:d.params.defaults=[])
  (call:∀ (w:World) (s₀ s₁:Shared) (mg mb:Str→Option Value) (fa:Addr) (o:Obj) (pm cd doc:Value) (a:Addr) (vs:List Value) (ns:List Int),
   Ground q loose [] XP w s₀ mg mb s₁.heap→YP w s₁.heap→
   s₁.heap.get? fa=some o→o.data=.func (docDef d.name d.params d.body d.scope pm cd doc)→s₁.heap.CodeRec cd d.name→mg d.name=some (.ref fa)→
   s₁.heap.get? a=some { cls:=.type "list",data:=.seq vs.toArray }→IntsAre vs ns→ns.length≤n→s₁.gens=#[]→
   codeAny (model l.prog w) callerA (.call (.ref fa) ⟨[.ref a],[]⟩) (fun r s'=>r=.ok (.ret (.bool true))∧OldK s₁.heap s'.heap∧s'.os=s₁.os∧AllBare s'.gens) s₁):
  WalkO q loose XP YP l.row.toRowW d [] (fun f vs=>PySem.call f vs):=by
 intro w s₀ s₁ mg mb G Y fa o pm cd doc dV kV ho hd hcd hD hmg hg args vals as hpre hlay hrd hwl hlo
 obtain rfl:dV=.none:=Dflts.none hD hdf
 obtain rfl:kV=.none:=Dflts.noKw hD
 obtain ⟨a,vs,ns,rfl,rfl,hobj,hints,hlen⟩:=aBY hn hpre hwl
 refine enter_call (codeAny_mono (call w s₀ s₁ mg mb fa o pm cd doc a vs ns G Y ho (fd_plain hd) hcd hmg hobj hints hlen hg) fun r s' hq=>?_)
 obtain ⟨rfl,h2,h3,h4⟩:=hq
 exact ⟨.inl ⟨.bool true,.bool true,[],rfl,fun _=>rfl,.bool true,aBZ l _,fun _=>⟨List.Pairwise.nil,fun _ hm=>(nomatch hm)⟩⟩,h2,h3,h4⟩
section
variable {prog:Program}{w:World}{A:Around}{E:Value→Shared→Prop}{s:Shared}{K:Frag}
end
end Att
namespace L2
open PySem PySem.Spec PyProof.Rows
theorem uW:∀ {vs:List Value}{ns:List Int},IntsAre vs ns→cO (ns.map V.int) vs
 | _,_,.nil=>.nil
 | _,_,.cons n t h=>.cons ⟨t,rfl⟩ (uW h)
def aIf (H:Hp):Prop:=∀ b,H b=none∨∃ o xs,H b=some (.frz o (.lst xs))
end L2
namespace L2
open PySem PySem.Spec PyProof.Rows
abbrev KOf {K:PySem.W.Frag}{h:Heap} (_:K.In h):PySem.W.Frag:=K
end L2
namespace L2
open PySem PySem.Spec PyProof.Rows
def aEL (s:Stmt) (j:Nat):Stmt:=match s with
 | .ClassDef _ _ _ body _ _ _ _ _ _ _=>body.getD j (.Pass ⟨0,0,0,0⟩)
 | _=>.Pass ⟨0,0,0,0⟩
def cB (s:Stmt):Arguments:=match s with
 | .FunctionDef _ a _ _ _ _ _ _ _ _=>a
 | _=>{ posonlyargs:=[],args:=[],vararg:=none,kwonlyargs:=[],kw_defaults:=[],kwarg:=none,defaults:=[] }
def bZ (s:Stmt):List Stmt:=match s with
 | .FunctionDef _ _ b _ _ _ _ _ _ _=>b
 | _=>[]
def aM (s:Stmt):Scope:=match s with
 | .FunctionDef _ _ _ _ _ _ sc _ _ _=>sc
 | _=>{ kind:=.function,names:=[],isGenerator:=false,isCoroutine:=false }
abbrev CX0:CXT:=fun _ _ _ _ _ _=>False
abbrev E0:XK:=fun _ _ _=>False
theorem bY {X:Cx}:lM CX0 X E0:=fun _ _ _ _ _ _ _ h=>h.elim
structure Fun (K:PySem.W.Frag) (x qual:Str) (st:Stmt) (f:Addr) (fd:FuncData):Prop where
 ex:∃ (oc:Value) (od:Option Addr) (kV doc pm:Value) (an:Option Addr) (cdv ct:Value) (osl:Array (Option Value)),
  fd=PySem.W.fnOf x qual (cB st) (bZ st) (aM st) .none kV doc pm an cdv ct∧K.lookup f=some ⟨oc,od,.func fd,osl⟩∧PySem.W.codeIn K cdv qual=true
 kp:PySem.W.keepIn K (.ref f)=true
section
variable {P:Program}{w:World}{K:PySem.W.Frag}{mg:Str→Option Value}{base:Heap}
theorem Fun.ok {x qual:Str}{st:Stmt}{f:Addr}{fd:FuncData}{N ps:List Str}{k:Nat}{sp:Sp} (F:Fun K x qual st f fd) (S:cA N ps (aM st)) (len:∀ vs H Q E,sp vs H Q E→vs.length=ps.length)
  (hbody:∀ (cdv:Value) (A:Around) (outer:List Env) (s:Shared) (H:Hp) (vs:List V) (Q:VK) (E:XK),dF k (A.deeper (envOfC qual (aM st) s.heap.objs.size f cdv))→sp vs H Q E→
   ∃ t,PSs (iL CX0 P w K mg base N qual (aM st) f cdv A outer s H E).nox (bZ st) t∧t { nx:=fun _ H'=>Q .non H',rt:=Q } (start N vs) H):cC P w K mg base CX0 (k + 1) f fd ps sp:=by
 obtain ⟨oc,od,kV,doc,pm,an,cdv,ct,osl,rfl,lk,hcd⟩:=F.ex
 refine aCS lk hcd S len fun A outer s H vs Q E hr hsp=>?_
 obtain ⟨t,h,q⟩:=hbody cdv A outer s H vs Q E hr hsp
 exact ⟨t,h.nox,q⟩
theorem Fun.binds {x qual:Str}{st:Stmt}{f:Addr}{fd:FuncData}{ps:List Str} (F:Fun K x qual st f fd)
  (h:∀ (kV doc pm:Value) (an:Option Addr) (cdv ct:Value) (us:List Value),us.length=ps.length→bindArgs (PySem.W.fnOf x qual (cB st) (bZ st) (aM st) .none kV doc pm an cdv ct) ⟨us,[]⟩=pure (ps.zip us)):cQ K fd ps []:=by
 obtain ⟨oc,od,kV,doc,pm,an,cdv,ct,osl,rfl,lk,hcd⟩:=F.ex
 exact .all (h kV doc pm an cdv ct)
theorem cX {x qual:Str}{st:Stmt}{f:Addr}{oc:Value}{od an:Option Addr}{osl:Array (Option Value)}{kV doc pm cdv ct:Value} (l:K.lookup f=some ⟨oc,od,.func (PySem.W.fnOf x qual (cB st) (bZ st) (aM st) .none kV doc pm an cdv ct),osl⟩)
  (c:PySem.W.codeIn K cdv qual=true) (k:PySem.W.keepIn K (.ref f)=true):Fun K x qual st f (PySem.W.fnOf x qual (cB st) (bZ st) (aM st) .none kV doc pm an cdv ct):=⟨⟨oc,od,kV,doc,pm,an,cdv,ct,osl,rfl,l,c⟩,k⟩
end
theorem jE {A:Around}{k:Nat} (hr:dF k A):A.units + 1 < cLine:=Nat.lt_of_le_of_lt (Nat.add_le_add_left (by decide:1≤64) _) hr.units
theorem gG {n:Nat} (h:n≤1000):n < sizeLine:=Nat.lt_of_le_of_lt h (by decide)
section
variable {X:Cx}
theorem pv (i:Nat) {x:Str}{pos:Pos} (hN:X.N[i]?=some x:=by rfl) (hv:Vis X.env.scope x:=by first | exact Or.inl rfl | exact Or.inr (Or.inl rfl) | exact Or.inr (Or.inr rfl)) (hd:(x == ("__debug__":Str))=false:=by decide)
  (hcd:(x == ("__classdict__":Str))=false:=by decide):PE X (.Name x pos) (aGI i):=aFQ hN hv hd hcd
end
theorem dP {A B:Prop} (h:B):if false=true then A else B:=by
 rw [if_neg Bool.false_ne_true]
 exact h
theorem fZ {A B:Prop} (h:A):if true=true then A else B:=by
 rw [if_pos rfl]
 exact h
theorem eG {c A B:Prop} [Decidable c] (h1:c→A) (h2:¬ c→B):if c then A else B:=by
 by_cases h:c
 ·rw [if_pos h]
  exact h1 h
 ·rw [if_neg h]
  exact h2 h
def aU (H H':Hp):Prop:=∀ b o,H b=some o→H' b=some o
theorem aU.refl (H:Hp):aU H H:=fun _ _ h=>h
theorem aU.trans {H H1 H2:Hp} (a:aU H H1) (b:aU H1 H2):aU H H2:=fun c o h=>b c o (a c o h)
theorem aU.free {H H':Hp} (e:aU H H') {l:Addr} (h:H' l=Option.none):H l=Option.none:=by
 cases q:H l with
 | none=>rfl
 | some o=>
  rw [e l o q] at h
  cases h
theorem aU.seq {K:PySem.W.Frag}{H H':Hp}{a:Addr}{xs:List V} (e:aU H H') (h:SqL K H a xs):SqL K H' a xs:=by
 rcases h with (h | ⟨o,h⟩) | h
 ·exact .inl (.inl (e _ _ h))
 ·exact .inl (.inr ⟨o,e _ _ h⟩)
 ·exact .inr h
end L2
namespace L2
open PySem PySem.Spec PyProof.Rows
section
variable {X:Cx}
inductive m5 (xs:List V) (H:Hp) (Q:VK):Prop
 | mk (a:_) (kvs:_) (q0:xs=[V.ref a]) (q1:H a=some (.dK kvs)) (q2:Q (.int kvs.length) H):m5 xs H Q
def xR:List V→Hp→VK→Prop:=fun xs H Q=>m5 xs H Q
theorem aB0:gW X (.builtin "len") xR:=by
 intro pins s σ H xs us Q I r h
 obtain ⟨a,kvs,rfl,ha,q⟩:=h
 obtain ⟨u,rfl,ru⟩:=i0 r
 cases ru
 exact aG5 I (.inl ha) fun t s' I'=>⟨.int kvs.length,H,I',⟨t,rfl⟩,q⟩
end
section
variable {κ:Type} [DecidableEq κ]
theorem aC9 {kvs:List (κ×V)}{k:κ} (h:dH kvs k=none):¬ k∈kvs.map (·.1):=by
 intro m
 obtain ⟨p,hp,e⟩:=List.mem_map.mp m
 have q:(kvs.any fun kv=>decide (kv.1=k))=true:=List.any_eq_true.mpr ⟨p,hp,decide_eq_true e⟩
 rw [gO,h] at q
 exact absurd q (by simp)
theorem aEM {kvs:List (κ×V)}{k:κ}{v:V} (h:dH kvs k=some v):k∈kvs.map (·.1):=by
 have q:(kvs.any fun kv=>decide (kv.1=k))=true:=by
  rw [gO,h]
  all_goals rfl
 obtain ⟨p,hp,e⟩:=List.any_eq_true.mp q
 exact List.mem_map.mpr ⟨p,hp,of_decide_eq_true e⟩
theorem aAQ:∀ {l:List κ}{k:κ},l.Nodup→¬ k∈l→(l ++ [k]).Nodup
 | [],k,_,_=>by simp
 | a :: r,k,h,hk=>by
  obtain ⟨h1,h2⟩:=List.nodup_cons.mp h
  show (a :: (r ++ [k])).Nodup
  refine List.nodup_cons.mpr ⟨fun m=>?_,aAQ h2 fun m=>hk (List.mem_cons.mpr (Or.inr m))⟩
  rcases List.mem_append.mp m with q | q
  ·exact h1 q
  ·exact hk (List.mem_cons.mpr (Or.inl (List.mem_singleton.mp q).symm))
theorem aEN {kvs:List (κ×V)}{k:κ} (v:V) (hn:(kvs.map (·.1)).Nodup) (h:dH kvs k=none):((c5 kvs k v).map (·.1)).Nodup:=by
 rw [oA v h,List.map_append]
 exact aAQ hn (aC9 h)
theorem lX {p:κ×V}{r:List (κ×V)}{k:κ} (e:p.1=k):dC (p :: r) k=dC r k:=by
 unfold dC
 rw [List.filter_cons,if_neg (by simp [e])]
theorem lY {p:κ×V}{r:List (κ×V)}{k:κ} (e:¬ p.1=k):dC (p :: r) k=p :: dC r k:=by
 unfold dC
 rw [List.filter_cons,if_pos (by simp [e])]
theorem uX {kvs:List (κ×V)}{k:κ}{p:κ×V} (h:p∈dC kvs k):p∈kvs:=(List.mem_filter.mp h).1
theorem jT:∀ {kvs:List (κ×V)}{k:κ},(kvs.map (·.1)).Nodup→((dC kvs k).map (·.1)).Nodup
 | [],_,_=>List.nodup_nil
 | p :: r,k,h=>by
  have h:(p.1 :: r.map (·.1)).Nodup:=h
  obtain ⟨h1,h2⟩:=List.nodup_cons.mp h
  by_cases e:p.1=k
  ·rw [lX e]
   exact jT h2
  ·rw [lY e]
   show (p.1 :: (dC r k).map (·.1)).Nodup
   refine List.nodup_cons.mpr ⟨fun m=>h1 ?_,jT h2⟩
   obtain ⟨q,hq,eq⟩:=List.mem_map.mp m
   exact List.mem_map.mpr ⟨q,uX hq,eq⟩
end
end L2
namespace L2
open PySem PySem.Spec PyProof.Rows
section
variable {X:Cx}{pins:List (Addr×Obj)}{σ:St}{H:Hp}{s:Shared}
theorem Inv.track {D:Addr}{ob:HO} (I:Inv X pins σ H s) (hf:jA X pins H D) (new:c6 X.prog X.w (upd H D ob) s.heap D ob):Inv X pins σ (upd H D ob) s:=by
 obtain ⟨hn,hL,hfs,hex,hce,hpi⟩:=hf
 have nD:∀ b u,H b=some u→b≠D:=fun b u e=>aO e hn
 refine I.step (g':=s.gens) (t':=s.toks) (d':=s.drawn) (h':=s.heap) (H':=upd H D ob) (ch:=[D]) (fun b hb=>?_) (fun b o _ _ _ e _=>e) (fun b o _ _ _ e _=>⟨o.slots,e⟩) (fun b o hc e n=>?_)
  (fun b o _ e=>⟨o,e⟩) (fun b xs e=>by rw [aJ (nD b _ e)];exact e) (fun b o u e=>by rw [aJ (nD b _ e)];exact e) (fun b ps e=>⟨#[],by rw [aJ (nD b _ e),e];simp⟩) (fun m hm=>hm) (fun b u e=>?_) I.bare
 ·have e:b=D:=by simpa using hb
  subst e
  exact ⟨hex,hL,hce,hpi⟩
 ·rw [aJ (fun z=>hc (by simp [z]))]
  exact n
 ·by_cases hb:b=D
  ·subst hb
   rw [aF] at e
   cases e
   exact new
  ·rw [aJ hb] at e
   exact (I.hok b u e).stay (fun c v _ q=>q) (fun c q=>by rw [aJ (nD c _ q)];exact q) fun c xs q=>by rw [aJ (nD c _ q)];exact q
end
def iS (env:Env):List (Str×NameKind)→List (Str×Addr)→List (Str×Addr)
 | [],cs=>cs
 | (n,k) :: r,cs=>iS env r (if k=.free then (match env.cells.lookup n with | some c=>(n,c) :: cs | none=>cs) else cs)
theorem sE {α β:Type} (f:α→β→Sem (ForInStep β)) (g:α→β→β):∀ (l:List α) (b:β),(∀ y∈l,∀ b,f y b=pure (.yield (g y b)))→(forIn l b f:Sem β)=pure (l.foldl (fun b y=>g y b) b)
 | [],b,_=>rfl
 | a :: r,b,h=>by
  rw [List.forIn_cons,h a List.mem_cons_self b]
  exact sE f g r (g a b) fun y hy=>h y (List.mem_cons_of_mem _ hy)
def uY (env:Env) (y:Str×NameKind) (cs:List (Str×Addr)):List (Str×Addr):=if y.2=.free then (match env.cells.lookup y.1 with | some c=>(y.1,c) :: cs | none=>cs) else cs
theorem sF (env:Env):∀ (l:List (Str×NameKind)) (cs:List (Str×Addr)),l.foldl (fun b y=>uY env y b) cs=iS env l cs
 | [],cs=>rfl
 | (n,k) :: r,cs=>by
  rw [List.foldl_cons,sF env r]
  rfl
theorem oE {scope:Scope}{env:Env} (h:∀ y∈scope.names,y.2=.free→∃ c,env.cells.lookup y.1=some c):closureFor scope env=pure (iS env scope.names []):=by
 simp only [closureFor]
 rw [sE _ (uY env) scope.names [] (fun y hy b=>?_)]
 ·rw [sF]
  rfl
 ·obtain ⟨n,k⟩:=y
  by_cases hk:k=.free
  ·obtain ⟨c,hc⟩:=h (n,k) hy hk
   subst hk
   have e:cellOf env n=pure c:=by unfold cellOf;rw [hc]
   have e2:uY env (n,NameKind.free) b=(n,c) :: b:=by unfold uY;rw [if_pos rfl,hc]
   simp only [e,e2]
   rfl
  ·have e:(k == NameKind.free)=false:=by simpa using hk
   have e2:uY env (n,k) b=b:=by unfold uY;rw [if_neg hk]
   simp only [e,e2,Bool.false_eq_true,if_false]
theorem pI {env:Env}:∀ (l:List (Str×NameKind)) (cs:List (Str×Addr)),(∀ x c,cs.lookup x=some c→env.cells.lookup x=some c)→∀ x c,(iS env l cs).lookup x=some c→env.cells.lookup x=some c
 | [],cs,h,x,c,e=>h x c e
 | (n,k) :: r,cs,h,x,c,e=>by
  unfold iS at e
  refine pI r _ (fun x c e=>?_) x c e
  by_cases hk:k=.free
  ·rw [if_pos hk] at e
   cases hc:env.cells.lookup n with
   | none=>rw [hc] at e;exact h x c e
   | some d=>
    rw [hc] at e
    by_cases hx:x=n
    ·subst hx
     simp at e
     rw [← e];exact hc
    ·have:(x == n)=false:=by simpa using hx
     rw [List.lookup_cons,this] at e
     exact h x c e
  ·rw [if_neg hk] at e
   exact h x c e
theorem pJ {env:Env}:∀ (l:List (Str×NameKind)) (cs:List (Str×Addr)) (x:Str),(∀ y∈l,y.2=.free→∃ c,env.cells.lookup y.1=some c)→((∃ c,cs.lookup x=some c)∨(x,NameKind.free)∈l)→∃ c,(iS env l cs).lookup x=some c
 | [],cs,x,_,h=>by
  rcases h with h | h
  ·exact h
  ·simp at h
 | (n,k) :: r,cs,x,hc,h=>by
  unfold iS
  refine pJ r _ x (fun y hy=>hc y (List.mem_cons_of_mem _ hy)) ?_
  rcases h with ⟨c,h⟩ | h
  ·refine .inl ?_
   split
   ·split
    ·rename_i d _
     by_cases hx:x=n
     ·subst hx;exact ⟨d,by simp⟩
     ·have:(x == n)=false:=by simpa using hx
      exact ⟨c,by rw [List.lookup_cons,this];exact h⟩
    ·exact ⟨c,h⟩
   ·exact ⟨c,h⟩
  ·rcases List.mem_cons.mp h with h | h
   ·cases h
    obtain ⟨d,hd⟩:=hc (n,NameKind.free) List.mem_cons_self rfl
    refine .inl ⟨d,?_⟩
    rw [if_pos rfl]
    have hd':env.cells.lookup n=some d:=hd
    rw [hd']
    simp
   ·exact .inr h
theorem sG {env : Env} : ∀ {names : List (Str × NameKind)}{x : Str}, (∀ y ∈ names, y.2 ≠ .cell) →
    ((names.map fun (n, k) => if (k == NameKind.free && env.scope.kind == .function && env.kindOf n == some .cell) then (n, NameKind.cell) else (n, k)).lookup x = some .cell ∨
     (names.map fun (n, k) => if (k == NameKind.free && env.scope.kind == .function && env.kindOf n == some .cell) then (n, NameKind.cell) else (n, k)).lookup x = some .free) → names.lookup x = some .free
  | [], x, _, h => by simp at h
  | (n, k) :: r, x, hc, h => by
    have ih := @sG env r x fun y hy => hc y (List.mem_cons_of_mem _ hy)
    have hk := hc (n, k) List.mem_cons_self
    rw [List.map_cons] at h
    by_cases hx : x = n
    · subst hx
      rw [List.lookup_cons, beq_self_eq_true]
      simp only
      by_cases hcond : (k == NameKind.free && env.scope.kind == .function && env.kindOf x == some .cell) = true
      · have : (k == NameKind.free) = true := by
          rw [Bool.and_eq_true, Bool.and_eq_true] at hcond
          exact hcond.1.1
        simpa using this
      · simp only [if_neg hcond, List.lookup_cons, beq_self_eq_true] at h
        rcases h with h | h
        · exact absurd (Option.some.inj h) hk
        · exact h
    · have e : (x == n) = false := by simpa using hx
      rw [List.lookup_cons, e]
      refine ih ?_
      by_cases hcond : (k == NameKind.free && env.scope.kind == .function && env.kindOf n == some .cell) = true
      · simp only [if_pos hcond, List.lookup_cons, e] at h
        exact h
      · simp only [if_neg hcond, List.lookup_cons, e] at h
        exact h
theorem oF {env : Env} : ∀ {names : List (Str × NameKind)}{x : Str}, names.lookup x = some .free →
    ((names.map fun (n, k) => if (k == NameKind.free && env.scope.kind == .function && env.kindOf n == some .cell) then (n, NameKind.cell) else (n, k)).lookup x = some .cell ∨
     (names.map fun (n, k) => if (k == NameKind.free && env.scope.kind == .function && env.kindOf n == some .cell) then (n, NameKind.cell) else (n, k)).lookup x = some .free)
  | [], x, h => by simp at h
  | (n, k) :: r, x, h => by
    have ih := @oF env r x
    rw [List.map_cons]
    by_cases hx : x = n
    · subst hx
      rw [List.lookup_cons, beq_self_eq_true] at h
      simp only at h
      cases h
      by_cases hcond : (NameKind.free == NameKind.free && env.scope.kind == .function && env.kindOf x == some .cell) = true
      · refine .inl ?_
        show List.lookup x ((if (NameKind.free == NameKind.free && env.scope.kind == .function && env.kindOf x == some .cell) = true then (x, NameKind.cell) else (x, NameKind.free)) :: _) = _
        rw [if_pos hcond, List.lookup_cons, beq_self_eq_true]
      · refine .inr ?_
        show List.lookup x ((if (NameKind.free == NameKind.free && env.scope.kind == .function && env.kindOf x == some .cell) = true then (x, NameKind.cell) else (x, NameKind.free)) :: _) = _
        rw [if_neg hcond, List.lookup_cons, beq_self_eq_true]
    · have e : (x == n) = false := by simpa using hx
      rw [List.lookup_cons, e] at h
      have := ih h
      by_cases hcond : (k == NameKind.free && env.scope.kind == .function && env.kindOf n == some .cell) = true
      · simp only [if_pos hcond, List.lookup_cons, e]
        exact this
      · simp only [if_neg hcond, List.lookup_cons, e]
        exact this
def blk (X:Cx) (N:List Str) (scope:Scope) (cl:List (Str×Addr)) (s:Shared) (H:Hp) (fp:List Addr) (pins:List (Addr×Obj)) (C:Addr):Cx where
 prog:=X.prog
 w:=X.w
 K:=X.K
 mg:=X.mg
 base:=X.base
 A:=X.A
 N:=N
 s₀:=s
 H₀:=H
 env:=compEnvC scope cl C X.env
 outer:=X.stack
 stack:=X.stack
 ex:=fp
 fn:=fun _=>false
 calm:=X.calm
 pn:=X.pn ++ pins
 xe:=fun _ _=>False
def aFx (N:List Str) (src:List (Option Nat)) (scope:Scope) (oN:List Str):Bool:=
 (N.zip src).all fun p=>match p.2 with | none=>true | some j=>(oN[j]? == some p.1) && (scope.names.lookup p.1 == some .free)
structure xS (N:List Str) (src:List (Option Nat)) (scope osc:Scope) (oN:List Str):Prop where
 kind:scope.kind=.function
 nocell:∀ y∈scope.names,y.2≠.cell
 names:∀ y∈scope.names,y.2=.local→scope.names.lookup y.1=some .local
 fr:∀ y∈scope.names,y.2=.free→osc.names.lookup y.1=some .cell∨osc.names.lookup y.1=some .free
 len:src.length=N.length
 srcs:aFx N src scope oN=true
def sub (src:List (Option Nat)) (σ:St):St:=src.map fun o=>match o with | none=>none | some j=>(σ[j]?).getD none
theorem aDa {N:List Str}{src:List (Option Nat)}{scope:Scope}{oN:List Str} (h:aFx N src scope oN=true) {i j:Nat}{x:Str} (h1:N[i]?=some x) (h2:src[i]?=some (some j)):oN[j]?=some x∧scope.names.lookup x=some .free:=by
 have hm:(x,some j)∈N.zip src:=by
  refine List.mem_of_getElem? (i:=i) ?_
  rw [List.getElem?_zip_eq_some]
  exact ⟨h1,h2⟩
 have:=List.all_eq_true.mp h _ hm
 simp only [Bool.and_eq_true,beq_iff_eq] at this
 exact this
theorem aGd {src:List (Option Nat)}{σ:St}{i:Nat}{v:V} (h:(sub src σ)[i]?=some (some v)):∃ j,src[i]?=some (some j)∧σ[j]?=some (some v):=by
 unfold sub at h
 rw [List.getElem?_map] at h
 cases e:src[i]? with
 | none=>rw [e] at h;simp at h
 | some o=>
  rw [e] at h
  cases o with
  | none=>simp at h
  | some j=>
   refine ⟨j,rfl,?_⟩
   cases e2:σ[j]? with
   | none=>simp [e2] at h
   | some o2=>
    simp [e2] at h
    rw [h]
structure PTs (X:Cx) (ifs:List Expr) (t:TT):Prop where
 run:
  ∀ (pins:List (Addr×Obj)) (s:Shared) (σ:St) (H:Hp) (Q:Bool→Hp→Prop),Inv X pins σ H s→t σ H Q→
   wpAny (model X.prog X.w) X.A (forIn ifs true fun c r=>if r=true then do let ok ← isTrue c X.env (eval c X.env);pure (ForInStep.yield ok) else pure (ForInStep.yield r)) (TP X pins σ Q) X.xe s
instance {X:Cx} {ifs:List Expr} {t:TT}:CoeFun (PTs X ifs t) (fun _=>
 ∀ (pins:List (Addr×Obj)) (s:Shared) (σ:St) (H:Hp) (Q:Bool→Hp→Prop),Inv X pins σ H s→t σ H Q→
  wpAny (model X.prog X.w) X.A (forIn ifs true fun c r=>if r=true then do let ok ← isTrue c X.env (eval c X.env);pure (ForInStep.yield ok) else pure (ForInStep.yield r)) (TP X pins σ Q) X.xe s):=⟨fun h=>h.run⟩
theorem gP {X:Cx}:PTs X [] (fun _ H Q=>Q true H):=⟨fun _ _ _ H _ I h=>wpAny_tests_nil ⟨H,I,h⟩⟩
theorem aEO {X:Cx}{c:Expr}{t:TT} (h:PT X c t):PTs X [c] t:=⟨fun pins s σ H Q I q=>wpAny_tests_one (h pins s σ H Q I q)⟩
section
variable {X:Cx}{pins:List (Addr×Obj)}{σ:St}{H:Hp}{s:Shared}
theorem Inv.clos {N:List Str}{src:List (Option Nat)}{scope:Scope} (B:xS N src scope X.env.scope X.N) (I:Inv X pins σ H s):∀ y∈scope.names,y.2=.free→∃ c,X.env.cells.lookup y.1=some c:=
 fun y hy hf=>I.ok.has y.1 (B.fr y hy hf)
theorem Inv.block {N:List Str}{src:List (Option Nat)}{scope:Scope}{fp:List Addr}{s1:Shared}{C:Addr}{m:Str→Option Value} (B:xS N src scope X.env.scope X.N) (I:Inv X pins σ H s)
  (hf:∀ b∈fp,jA X pins H b) (hfo:∀ b∈fp,b < s.heap.objs.size) (hC:s.heap.objs.size≤C) (ho:s1.os=s.os) (hb:AllBare s1.gens) (hk:∀ b o,s.heap.get? b=some o→s1.heap.get? b=some o) (hn:s1.heap.Ns C m):
  Inv (blk X N scope (iS X.env scope.names []) s H fp pins C) [] (sub src σ) H s1:=by
 have hclos:=I.clos B
 have cl_sub:∀ x c,(iS X.env scope.names []).lookup x=some c→X.env.cells.lookup x=some c:=pI _ _ (fun x c e=>by simp at e)
 have fsub:∀ b∈frs X.stack,b < s.heap.objs.size:=fun b hb=>by
  obtain ⟨_,o,ho,_⟩:=I.stack.mem hb
  exact Heap.lt_size ho
 refine ⟨⟨I.ok.mod,B.kind,I.ok.glob,I.ok.blt,hC,fun x y c e1 e2=>I.ok.inj x y c (cl_sub x c e1) (cl_sub y c e2),fun x hx=>?_,fun x c hx=>absurd hx Bool.false_ne_true,I.ok.hd,I.ok.frames,.inl rfl,fun b hb=>⟨?_,fun x c e=>?_⟩,fun b o e=>?_,Nat.le_trans I.ok.bsz I.sz,fun b o e hb=>?_,fun b hb hz=>?_,I.stack,I.stkFree⟩,
  ho,hb,Un.kept hk,⟨m,hn,fun i x v e1 e2 e3=>?_⟩,fun x c e=>?_,?_,fun x c e=>I.freeC x c (cl_sub x c e),fun p hp=>?_,I.hok.kept hk,?_⟩
 ·have hx':=sG (env:=X.env) B.nocell hx
  exact pJ _ _ x hclos (.inr (PySem.mem_of_lookup hx'))
 ·exact Nat.ne_of_lt (Nat.lt_of_lt_of_le (hfo b hb) hC)
 ·exact (hf b hb).2.2.2.2.1 x c (cl_sub x c e)
 ·exact I.bs b o e
 ·rcases (hf b hb).2.2.2.1 with z | z
  ·exact I.ok.noex b o e z
  ·exact absurd (Nat.lt_of_lt_of_le (Heap.lt_size e) (Nat.le_trans I.ok.bsz z)) (Nat.lt_irrefl _)
 ·rcases List.mem_cons.mp (I.stkSub b hz) with e | z
  ·exact (hf b hb).2.1 e
  ·exact (hf b hb).2.2.1 z
 ·obtain ⟨j,ej,ev⟩:=aGd e2
  obtain ⟨oj,fj⟩:=aDa B.srcs e1 ej
  have hvis:=B.fr _ (PySem.mem_of_lookup fj) rfl
  obtain ⟨m0,hn0,hl0⟩:=id I.loc
  obtain ⟨u,ru,lk⟩:=hl0 j x v oj ev (.inr hvis)
  refine ⟨u,ru,.inr ⟨oF fj,?_⟩⟩
  rcases lk with ⟨k,_⟩ | ⟨k,c,hc,hcell⟩
  ·have k':X.env.scope.names.lookup x=some .local:=k
   rcases hvis with z | z <;> (rw [k'] at z;cases z)
  ·obtain ⟨c',hc'⟩:=pJ (env:=X.env) scope.names [] x hclos (.inr (PySem.mem_of_lookup fj))
   have e:=cl_sub x c' hc'
   rw [hc] at e
   cases e
   obtain ⟨o,ho,hd⟩:=hcell
   exact ⟨c,hc',o,hk _ _ ho,hd⟩
 ·obtain ⟨v,o,ho,hd⟩:=I.cell x c (cl_sub x c e)
  exact ⟨v,o,hk _ _ ho,hd⟩
 ·exact I.hok.fresh hC
 ·have hp':p∈X.pn ++ pins:=by
   rcases List.mem_append.mp hp with z | z
   ·exact z
   ·simp at z
  obtain ⟨q1,q2,q3,q4,q5⟩:=I.pin p hp'
  refine ⟨hk _ _ q1,q2,Nat.ne_of_lt (Nat.lt_of_lt_of_le (Heap.lt_size q1) hC),fun z=>?_,q5⟩
  rcases List.mem_cons.mp (I.stkSub _ z) with e | z
  ·exact q3 e
  ·exact q4 z
 ·show (sub src σ).length=N.length
  unfold sub
  rw [List.length_map]
  exact B.len
end
section
variable {prog:Program}{w:World}{A:Around}{R:Result→Shared→Prop}{s:Shared}
theorem xT {elt target iter:Expr}{ifs:List Expr}{scope:Scope}{pos:Pos}{it acc:Value}{env:Env} (I:Nat→Shared→Prop)
  (turn:∀ n s,I n s→wpAny (model prog w) A (pyNext it) (fun r s₁=>match r with
   | none=>R (.ok .next) s₁
   | some v=>wpAny (model prog w) A (letOwnedTupleGo target it v) (fun _ s₁'=>wpAny (model prog w) A (assign target env v) (fun _ s₂=>
     wpAny (model prog w) A (forIn ifs true fun c r=>if r=true then do let ok ← isTrue c env (eval c env);pure (ForInStep.yield ok) else pure (ForInStep.yield r)) (fun ok s₃=>
      if ok=true then wpAny (model prog w) A (eval elt env) (fun x s₄=>
       wpAny (model prog w) A (call (.builtin "list.append") [acc,x]) (fun _ s₅=>∃ m,m < n∧I m s₅) (fun _ _=>False) s₄) (fun _ _=>False) s₃
      else ∃ m,m < n∧I m s₃) (fun _ _=>False) s₂) (fun _ _=>False) s₁') (fun _ _=>False) s₁) (fun _ _=>False) s)
  (n:Nat) (h:I n s):
  codeAny (model prog w) A (.compLoop (.ListComp elt [⟨target,iter,ifs,0⟩] scope pos) 0 it acc env) R s:=by
 have nv:∀ {α:Type} {t:Sem α} {Q:α→Shared→Prop} {E:Value→Shared→Prop} {s:Shared},wpAny (model prog w) A t Q (fun _ _=>False) s→wpAny (model prog w) A t Q E s:=fun h=>wpAny_mono h (fun _ _ x=>x) fun _ _ x=>x.elim
 refine codeAny_loop rfl I (fun n s hI=>?_) n h
 show wpAny _ A ((compTurn (.ListComp elt [⟨target,iter,ifs,0⟩] scope pos) 0 it acc env).onRaise (fun x=>do noteFrame x env;theTreesLotGoes x)) _ _ s
 refine wpAny_noted ?_
 rw [compTurn_list]
 refine wpAny_bind (wpAny_standAt (wpAny_bind (nv (thn (turn n s hI) (fun r s₁ h₁=>?_)))))
 cases r with
 | none=>exact wpAny_pure h₁
 | some v=>
  refine wpAny_bind (wpAny_mono h₁ (fun _ s₁' h₁'=>?_) fun _ _ x=>x.elim)
  refine wpAny_bind (wpAny_mono h₁' (fun _ s₂ h₂=>wpAny_bind (wpAny_mono h₂ (fun ok s₃ h₃=>?_) fun _ _ h'=>h'.elim)) fun _ _ h'=>h'.elim)
  cases ok with
  | false=>exact wpAny_pure ⟨rfl,h₃⟩
  | true=>
   exact wpAny_bind (wpAny_bind (wpAny_mono h₃ (fun x s₄ h₄=>wpAny_bind (wpAny_mono h₄ (fun _ s₅ h₅=>wpAny_pure (wpAny_pure ⟨rfl,h₅⟩)) fun _ _ h'=>h'.elim)) fun _ _ h'=>h'.elim))
end
inductive aAR (J : It) (g : TG) (tt : TT) (te : TE) (σ₀ : St) (H₀ : Hp) (Q : VK) : Prop
  | mk (W : Nat → Nat → List V → St → Hp → Prop) (q0 : (∃ m, W 0 m [] σ₀ H₀)) (q1 : ∀ i m ys σ H, W i m ys σ H → ys.length ≤ sizeLine ∧
    ((J.stop i H ∧ ∀ D, H D = none → Q (.ref D) (upd H D (.lst ys))) ∨
     (J.go i H ∧ ∃ N : List V → St → Hp → Prop, (∀ zs σ' H', N zs σ' H' → ∃ m', m' < m ∧ W (i + 1) m' zs σ' H') ∧
       ∀ x H', J.yld i H x H' → g x σ H' fun σ2 H2 => tt σ2 H2 fun b H3 => if b = true then te σ2 H3 fun v H4 => N (ys ++ [v]) σ2 H4 else N ys σ2 H3))) : aAR J g tt te σ₀ H₀ Q
def uZ (J:It) (g:TG) (tt:TT) (te:TE) (σ₀:St) (H₀:Hp) (Q:VK):Prop:=aAR J g tt te σ₀ H₀ Q
section
variable {X:Cx}{pins:List (Addr×Obj)}{σ:St}
theorem u0 {tg iter elt:Expr}{ifs:List Expr}{scope:Scope}{pos:Pos}{N:List Str}{src:List (Option Nat)}{g:TG}{tt:TT}{te:TE}{J:It}{fp:List Addr}{it:Addr}{tn:Nat→Heap→Prop}{H2:Hp}{s2:Shared}{Q:VK}{E:Value→Shared→Prop}
  {RR:Value→Addr→Result→Shared→Prop} (B:xS N src scope X.env.scope X.N) (hc:X.calm=true)
  (hb:∀ cl s H fp pins C,PG (blk X N scope cl s H fp pins C) tg g∧PTs (blk X N scope cl s H fp pins C) ifs tt∧PE (blk X N scope cl s H fp pins C) elt te)
  (I2:Inv X pins σ H2 s2) (T:aCH X.prog X.w X.K tg J fp it tn) (st2:tn 0 s2.heap) (f2:∀ b∈fp,jA X pins H2 b) (cw:uZ J g tt te (sub src σ) H2 Q)
  (hRR:∀ D C H' m s',Inv X pins σ H' s'→s'.heap.Ns C m→jA X pins H' C→D≠C→Q (.ref D) H'→RR (.ref D) C (.ok .next) s'):
  wpAny (model X.prog X.w) X.A (newList []) (fun acc s₃=>wpAny (model X.prog X.w) X.A (newFunctionEnv scope X.env.globals (iS X.env scope.names []) [] X.env.qual none .none (some X.env)) (fun cenv s₄=>
   codeAny (model X.prog X.w) X.A (.compStart (.ListComp elt [⟨tg,iter,ifs,0⟩] scope pos) 0 (.ref it) acc { cenv with scope:=relabel scope X.env }) (RR acc cenv.locals) s₄) E s₃) E s2:=by
 refine wpAny_newObj_type (wpAny_newFunctionEnv B.nocell (by intro y hy;simp at hy) (fun h₁ hns₁ hsb₁=>?_) B.kind)
 dsimp only at hns₁ hsb₁ ⊢
 generalize hH2:s2.heap.push { cls:=.type "list",dict:=none,data:=.seq ([]:List Value).toArray }=HH at hns₁ hsb₁ ⊢
 have hCs:HH.objs.size=s2.heap.objs.size + 1:=by rw [← hH2,Heap.size_push]
 have hDC:s2.heap.objs.size≠HH.objs.size:=by rw [hCs];exact Nat.ne_of_lt (Nat.lt_succ_self _)
 have hCle:s2.heap.objs.size≤HH.objs.size:=by rw [hCs];exact Nat.le_succ _
 have fpo:∀ b∈fp,b < s2.heap.objs.size:=fun b hb=>by
  obtain ⟨o,e,_⟩:=T.obj _ _ st2 b hb
  exact Heap.lt_size e
 have old:∀ b o,s2.heap.get? b=some o→h₁.get? b=some o:=fun b o e=>
  hsb₁.extBut b o (by rw [hCs];exact Nat.ne_of_lt (Nat.lt_succ_of_lt (Heap.lt_size e))) (Heap.get?_push_of_some _ (hH2 ▸ Heap.get?_push_of_some _ e))
 have hacc:h₁.PlainList s2.heap.objs.size #[]:=⟨_,hsb₁.extBut _ _ hDC (Heap.get?_push_of_some _ (hH2 ▸ Heap.get?_push_size _ rfl))⟩
 have st1:tn 0 h₁:=T.keep _ _ _ st2 fun b _ o e=>old b o e
 obtain ⟨W,⟨m0,w0⟩,turn⟩:=cw
 have fsub:∀ b∈frs X.stack,b < s2.heap.objs.size:=fun b hb=>by
  obtain ⟨_,o,ho,_⟩:=I2.stack.mem hb
  exact Heap.lt_size ho
 generalize hXb:blk X N scope (iS X.env scope.names []) s2 H2 fp pins HH.objs.size=Xb
 have hbl:=hb (iS X.env scope.names []) s2 H2 fp pins HH.objs.size
 rw [hXb] at hbl
 have eP:Xb.prog=X.prog:=by rw [← hXb];rfl
 have eW:Xb.w=X.w:=by rw [← hXb];rfl
 have eK:Xb.K=X.K:=by rw [← hXb];rfl
 have eA:Xb.A=X.A:=by rw [← hXb];rfl
 have eE:Xb.env=compEnvC scope (iS X.env scope.names []) HH.objs.size X.env:=by rw [← hXb];rfl
 have eL:Xb.env.locals=HH.objs.size:=by rw [eE];rfl
 have eF:Xb.fs=frs X.stack:=by rw [← hXb];rfl
 have eX:Xb.ex=fp:=by rw [← hXb];rfl
 have eS:Xb.s₀=s2:=by rw [← hXb];rfl
 have eH:Xb.H₀=H2:=by rw [← hXb];rfl
 have eC:Xb.calm=true:=by rw [← hXb];exact hc
 have ePn:Xb.pn=X.pn ++ pins:=by rw [← hXb];rfl
 have eXe:Xb.xe=fun _ _=>False:=by rw [← hXb];rfl
 have cl_sub:∀ x c,Xb.env.cells.lookup x=some c→X.env.cells.lookup x=some c:=fun x c e=>by
  rw [eE] at e
  exact pI scope.names [] (fun x c e=>by simp at e) x c e
 have cells_lt:∀ x c,Xb.env.cells.lookup x=some c→c < s2.heap.objs.size:=fun x c e=>by
  obtain ⟨v,o,ho,_⟩:=I2.cell x c (cl_sub x c e)
  exact Heap.lt_size ho
 have pins_lt:∀ p∈X.pn ++ pins,p.1 < s2.heap.objs.size:=fun p hp=>Heap.lt_size (I2.pin p hp).1
 generalize hD:s2.heap.objs.size=D at *
 generalize hCC:HH.objs.size=C at *
 have loop:∀ s₃:Shared,s₃={ s2 with heap:=h₁,toks:=s2.toks + ([]:List (Str×Value)).length }→
   codeAny (model X.prog X.w) X.A (.compLoop (.ListComp elt [⟨tg,iter,ifs,0⟩] scope pos) 0 (.ref it) (.ref D) (compEnvC scope (iS X.env scope.names []) C X.env)) (RR (.ref D) C) s₃:=by
  rintro s₃ rfl
  have I3:Inv Xb [] (sub src σ) H2 { s2 with heap:=h₁,toks:=s2.toks + ([]:List (Str×Value)).length }:=by
   rw [← hXb]
   exact I2.block B f2 (by rw [hD];exact fpo) (by rw [hD];exact hCle) rfl I2.bare old hns₁
  have nD2:H2 D=none:=I2.hok.fresh (Nat.le_of_eq hD)
  have dfs:D ∉ Xb.fs:=fun z=>by rw [eF] at z;exact absurd (fsub D z) (Nat.lt_irrefl _)
  have dpin:∀ {σ':St} {H':Hp} {s':Shared} {pl:List (Addr×Obj)} {its:List Value} {n:Nat},Inv Xb pl σ' H' s'→H' D=none→s'.heap.get? D=some { cls:=.type "list",data:=.seq its.toArray n }→
    Inv Xb ((D,{ cls:=.type "list",data:=.seq its.toArray n }) :: pl) σ' H' s':=fun {σ' H' s' pl its n} I' hn hg=>
   I'.pins_of fun p hp=>by
    rcases List.mem_cons.mp hp with e | hp
    ·subst e
     exact ⟨hg,hn,by rw [eL];exact hDC,dfs,fun v z=>by cases z⟩
    ·exact I'.pin p (List.mem_append_right _ hp)
  obtain ⟨n0,hg0⟩:=hacc
  have I3':=dpin (its:=[]) I3 nD2 hg0
  have fpb:∀ {H':Hp} {pl:List (Addr×Obj)},(∀ p∈pl,p.1=D)→(∀ b∈fp,H' b=none)→∀ b∈fp,jA Xb pl H' b:=fun {H' pl} hpl hn b hb=>by
   refine ⟨hn b hb,by rw [eL];exact Nat.ne_of_lt (Nat.lt_of_lt_of_le (fpo b hb) hCle),fun z=>?_,.inl (by rw [eX];exact hb),fun x c e=>(f2 b hb).2.2.2.2.1 x c (cl_sub x c e),fun p hp=>?_⟩
   ·rw [eF] at z
    rcases List.mem_cons.mp (I2.stkSub b z) with e | z
    ·exact (f2 b hb).2.1 e
    ·exact (f2 b hb).2.2.1 z
   ·rw [ePn] at hp
    rcases List.mem_append.mp hp with z | z
    ·exact (f2 b hb).2.2.2.2.2 p z
    ·rw [hpl p z];exact Nat.ne_of_gt (fpo b hb)
  refine xT (fun n s'=>∃ i ys its nn σ' H',Inv Xb [(D,{ cls:=.type "list",data:=.seq its.toArray nn })] σ' H' s'∧tn i s'.heap∧(∀ b∈fp,H' b=none)∧cO ys its∧W i n ys σ' H') ?_ m0
   ⟨0,[],[],n0,sub src σ,H2,I3',st1,fun b hb=>(f2 b hb).1,.nil,w0⟩
  rintro n s4 ⟨i,ys,its,nn,σ4,H4,I4,st4,fr4,vs4,w4⟩
  obtain ⟨hsz,hcase⟩:=turn i n ys σ4 H4 w4
  have one:∀ {o:Obj},∀ p∈[(D,o)],p.1=D:=fun {o} p hp=>by
   have:=List.mem_singleton.mp hp
   rw [this]
  rcases hcase with ⟨stop,qn⟩ | ⟨go,Nx,hN,step⟩
  ·have hdone:=T.done Xb eP eW eK eC i _ s4 σ4 H4 (fun _ _=>False) I4 (fpb one fr4) st4 stop
   rw [eA] at hdone
   refine thn hdone fun r s5 ⟨hr,I5⟩=>?_
   subst hr
   have pd:=I5.pin _ (List.mem_append_right _ List.mem_cons_self)
   have hb5:Un (frs X.stack) fp H2 H4 s2.heap s5.heap:=by
    have:=I5.base
    rw [eF,eX,eS,eH] at this
    exact this
   have hok5:HOk X.prog X.w H4 s5.heap:=by
    have:=I5.hok
    rw [eP,eW] at this
    exact this
   have os5:s5.os=s2.os:=by
    have:=I5.os
    rw [eS] at this
    exact this
   have J5:Inv X pins σ H4 s5:=I2.call' os5 hb5 hok5 I5.bare fun b hb=>⟨(f2 b hb).2.2.2.1,(f2 b hb).2.1,(f2 b hb).2.2.2.2.1,(f2 b hb).2.2.2.2.2⟩
   have fD:jA X pins H4 D:=I2.fpOk (Nat.le_of_eq hD) pd.2.1
   have J6:Inv X pins σ (upd H4 D (.lst ys)) s5:=J5.track fD ⟨hsz,its,nn,vs4,pd.1⟩
   obtain ⟨mm,nsC,_⟩:=I5.loc
   rw [eL] at nsC
   have hC4:H4 C=none:=by
    have:=I5.free
    rw [eL] at this
    exact this
   have fC:jA X pins (upd H4 D (.lst ys)) C:=I2.fpOk (by rw [hD];exact hCle) (by rw [aJ (Ne.symm hDC)];exact hC4)
   exact hRR D C _ mm s5 J6 nsC fC hDC (qn D pd.2.1)
  ·have hitem:=T.item Xb eP eW eK eC i _ s4 σ4 H4 (fun _ _=>False) I4 (fpb one fr4) st4 go
   rw [eA] at hitem
   refine thn hitem fun r s5 ⟨u,hr,h5⟩=>?_
   subst hr
   refine thn h5 fun _ s6 ⟨x,H6,I6,r6,y6,st6,fr6⟩=>?_
   have I6':=I6.pinned (fpb one fr6) (T.obj _ _ st6)
   obtain ⟨hg,ht,he⟩:=hbl
   have e1:=hg _ s6 σ4 H6 x u _ I6' r6 (step x H6 y6)
   rw [eP,eW,eA,eE,eXe] at e1
   refine thn e1 fun _ s7 ⟨σ7,H7,I7,q7⟩=>?_
   have e2:=ht _ s7 σ7 H7 _ I7 q7
   rw [eP,eW,eA,eE,eXe] at e2
   refine thn e2 fun ok s8 ⟨H8,I8,q8⟩=>?_
   have fin:∀ {σ':St} {H':Hp} {s':Shared} {its':List Value} {nn':Nat} {zs:List V},Inv Xb ([(D,{ cls:=.type "list",data:=.seq its'.toArray nn' })] ++ nB fp s6.heap) σ' H' s'→cO zs its'→Nx zs σ' H'→
     ∃ m,m < n∧∃ i ys its nn σ' H',Inv Xb [(D,{ cls:=.type "list",data:=.seq its.toArray nn })] σ' H' s'∧tn i s'.heap∧(∀ b∈fp,H' b=none)∧cO ys its∧W i m ys σ' H':=fun {σ' H' s' its' nn' zs} I' vs' n'=>by
    obtain ⟨m',hm,w'⟩:=hN zs σ' H' n'
    refine ⟨m',hm,i + 1,zs,its',nn',σ',H',I'.unpinned,T.keep _ _ _ st6 fun b hb o e=>(I'.pin (b,o) (List.mem_append_right _ (List.mem_append_right _ (kE hb e)))).1,fun b hb=>?_,vs',w'⟩
    obtain ⟨o,e,d⟩:=T.obj _ _ st6 b hb
    exact (I'.pin (b,o) (List.mem_append_right _ (List.mem_append_right _ (kE hb e)))).2.1
   cases ok with
   | false=>
    simp only [Bool.false_eq_true,if_false] at q8 ⊢
    exact fin I8 vs4 q8
   | true=>
    simp only [if_true] at q8 ⊢
    have e3:=he _ s8 σ7 H8 _ I8 q8
    rw [eP,eW,eA,eE,eXe] at e3
    refine thn e3 fun v s9 ⟨y,H9,I9,r9,q9⟩=>?_
    have pd:=I9.pin _ (List.mem_append_right _ (List.mem_append_left _ List.mem_cons_self))
    have hlen:=vs4.length
    refine wpAny_list_append_plain (hsz:=by simp only [List.size_toArray];omega) (⟨nn,pd.1⟩:s9.heap.PlainList D its.toArray) fun h' ⟨nn',hg'⟩ hs'=>?_
    have I10:Inv Xb (nB fp s6.heap) σ7 H9 s9:=I9.pins_of fun p hp=>I9.pin p (List.mem_append_right _ (List.mem_append_right _ hp))
    have I11:Inv Xb (nB fp s6.heap) σ7 H9 { s9 with heap:=h' }:=I10.turned (t':=s9.toks) (it:=D) (fun b o hb e=>(hs'.2 b hb).trans e) pd.2.1 (by rw [eL];exact hDC) (.inr (by rw [eS];exact Nat.le_of_eq hD))
     (fun x c e=>Nat.ne_of_lt (cells_lt x c e)) fun p hp=>by
      rw [ePn] at hp
      rcases List.mem_append.mp hp with z | z
      ·exact Nat.ne_of_lt (pins_lt p z)
      ·exact Nat.ne_of_lt (fpo _ (uK z).1)
    have hg'':h'.get? D=some { cls:=.type "list",data:=.seq (its ++ [v]).toArray nn' }:=by
     rw [hg']
     simp
    exact fin (dpin (s':={ s9 with heap:=h' }) I11 pd.2.1 hg'') (vs4.append (.cons r9 .nil)) q9
 exact codeAny_compStart_list (loop _ rfl) (T.self X.A 0 _ _ _ st1 (loop _ rfl))
end
def aFy (src:List (Option Nat)) (wi:TI) (g:TG) (tt:TT) (te:TE):TE:=fun σ H Q=>wi σ H fun J H1=>uZ J g tt te (sub src σ) H1 Q
section
variable {X:Cx}
theorem jF {tg iter elt:Expr}{ifs:List Expr}{scope osc:Scope}{pos:Pos}{N oN:List Str}{src:List (Option Nat)}{wi:TI}{g:TG}{tt:TT}{te:TE} (B:xS N src scope osc oN) (hi:PI X tg iter wi)
  (hb:∀ cl s H fp pins C,PG (blk X N scope cl s H fp pins C) tg g∧PTs (blk X N scope cl s H fp pins C) ifs tt∧PE (blk X N scope cl s H fp pins C) elt te)
  (hc:X.calm=true:=by rfl) (eo:X.env.scope=osc:=by rfl) (eN:X.N=oN:=by rfl)
  (hs:∀ x,foldedSetIterable iter X.env x=pure x:=by intro _;rfl):PE X (.ListComp elt [⟨tg,iter,ifs,0⟩] scope pos) (aFy src wi g tt te):=by
 subst eo eN
 constructor
 intro pins s σ H Q I h
 rw [eval_ListComp]
 refine wpAny_comprehension_free (use:=none) (cl:=iS X.env scope.names []) rfl hs (oE (I.clos B)) B.kind B.names (thn (hi pins s σ H _ I h) fun xv s1 h1=>thn h1 fun itv s2 h2=>?_)
 obtain ⟨it,fp,tn,J,H2,e,I2,T,st2,f2,cw⟩:=h2
 subst e
 refine u0 B hc hb I2 T st2 f2 cw fun D C H' m s' J' nsC fC hDC q=>?_
 refine ⟨m,nsC,fun h' sb=>⟨.ref D,H',?_,rfl,q⟩⟩
 obtain ⟨f0,f1,_,f3,f4,f5⟩:=fC
 exact J'.turned (t':=s'.toks) (fun b o hb e=>(sb.2 b hb).trans e) f0 f1 f3 f4 f5
theorem kJ {tg iter elt:Expr}{ifs:List Expr}{scope osc:Scope}{pos ps py:Pos}{y:Str}{i:Nat}{N oN:List Str}{src:List (Option Nat)}{wi:TI}{g:TG}{tt:TT}{te:TE} (B:xS N src scope osc oN) (hN:X.N.Nodup) (hy:X.N[i]?=some y) (hi:PI X tg iter wi)
  (hb:∀ cl s H fp pins C,PG (blk X N scope cl s H fp pins C) tg g∧PTs (blk X N scope cl s H fp pins C) ifs tt∧PE (blk X N scope cl s H fp pins C) elt te)
  (hloc:X.env.scope.names.lookup y=some .local:=by rfl)
  (hsw:swapsWith (.ListComp elt [⟨tg,iter,ifs,0⟩] scope pos) (some (.Name y py)) ps.line X.env=pure true:=by rfl)
  (hc:X.calm=true:=by rfl) (eo:X.env.scope=osc:=by rfl) (eN:X.N=oN:=by rfl)
  (hs:∀ x,foldedSetIterable iter X.env x=pure x:=by intro _;rfl):PS X (.Assign [.Name y py] (.ListComp elt [⟨tg,iter,ifs,0⟩] scope pos) ps) (aFU (aFy src wi g tt te) (cY i)):=by
 subst eo eN
 constructor
 intro pins s σ H D I h
 rw [exec_Assign_Name_used _ _ _ _ hsw]
 refine wpAny_bind (wpAny_standAt (wpAny_bind ?_))
 show wpAny _ _ (evalThenUse (.ListComp elt [⟨tg,iter,ifs,0⟩] scope pos) X.env (assign (.Name y py) X.env)) _ _ s
 have e:evalThenUse (.ListComp elt [⟨tg,iter,ifs,0⟩] scope pos) X.env (assign (.Name y py) X.env)=(do
   let _ ← comprehension (.ListComp elt [⟨tg,iter,ifs,0⟩] scope pos) scope X.env (firstIterPos [⟨tg,iter,ifs,0⟩] pos) (newList []) (firstAsync [⟨tg,iter,ifs,0⟩]) (firstIter [⟨tg,iter,ifs,0⟩] X.env) (some (assign (.Name y py) X.env))):=rfl
 rw [e]
 refine wpAny_bind ?_
 refine wpAny_comprehension_free (use:=some (assign (.Name y py) X.env)) (cl:=iS X.env scope.names []) rfl hs (oE (I.clos B)) B.kind B.names (thn (hi pins s σ H _ I h) fun xv s1 h1=>thn h1 fun itv s2 h2=>?_)
 obtain ⟨it,fp,tn,J,H2,e,I2,T,st2,f2,cw⟩:=h2
 subst e
 refine u0 B hc hb I2 T st2 f2 cw fun D' C H' m s' J' nsC fC hDC q=>?_
 obtain ⟨f0,f1,_,f3,f4,f5⟩:=fC
 refine wpAny_assign_Name (uI J' hN hy (.inl hloc) (v:=.ref D') rfl (fun s'' J'' ⟨a,sb,ha⟩=>?_) (.inr hloc))
 have haC:C≠a:=by
  rcases ha with rfl | ha
  ·exact f1
  ·exact fun z=>f4 y a ha z.symm
 refine ⟨m,nsC.sameBut sb haC,fun h' sb'=>wpAny_pure (wpAny_pure ⟨_,H',J''.turned (t':=s''.toks) (fun b o hb e=>(sb'.2 b hb).trans e) f0 f1 f3 f4 f5,q⟩)⟩
end
end L2
namespace L2
open PySem PySem.Spec PyProof.Rows
section
variable {X:Cx}
inductive lB (K:PySem.W.Frag) (xs:List V) (H:Hp) (Q:VK):Prop
 | mk (x:_) (n:_) (t:_) (b:_) (q0:xs=[x,.ty n]) (q1:n5 K H x t) (q2:PySem.W.kitOne K t (.type n)=some b) (q3:Q (.bl b) H):lB K xs H Q
def uF (K:PySem.W.Frag):List V→Hp→VK→Prop:=fun xs H Q=>lB K xs H Q
theorem xU:gW X (.builtin "isinstance") (uF X.K):=by
 intro pins s σ H xs us Q I r h
 obtain ⟨x,n,t,b,rfl,ty,e,q⟩:=h
 obtain ⟨u,w',rfl,r1,r2⟩:=aCM r
 cases r2
 exact aBU I r1 ty e fun tk=>⟨.bl b,H,I.tok _,rfl,q⟩
def u7 (i j:Int):Prop:=0 < j∧j.natAbs.log2 < 9000
theorem u7.of {i j:Int} (h:0 < j) (h2:j < 2 ^ 512):u7 i j:=by
 refine ⟨h,?_⟩
 have h0:j.natAbs≠0:=by omega
 have:j.natAbs.log2 < 512:=(Nat.log2_lt h0).mpr (by
  have e:((2:Int) ^ 512)=((2 ^ 512:Nat):Int):=by decide
  rw [e] at h2
  omega)
 omega
theorem sH:OpR X (binaryOp .FloorDiv) (rI u7 fun i j=>.int (i / j)):=opI fun i j _ _ _ _ _ hc q=>by
 have h1:(0:Int) < j:=hc.1
 refine floordiv_int (by omega) ?_ (Or.inl (PyProof.noPylong_of_log2 hc.2))
 rw [Int.fdiv_eq_ediv_of_nonneg i (by omega)]
 exact q
inductive sI (x:V) (lo:Option Int) (hi:Option Int) (H:Hp) (Q:VK):Prop
 | mk (z:_) (q0:x=.str z) (q1:z.length≤sizeLine) (q2:Q (.str (Txt.slice z lo hi)) H):sI x lo hi H Q
def aDb:V→Option Int→Option Int→Hp→VK→Prop:=fun x lo hi H Q=>sI x lo hi H Q
theorem aDc:SlR X aDb:=by
 intro pins s σ H x v vl vu lo hi sl Q I rx hs pl pu h
 obtain ⟨z,rfl,hz,q⟩:=h
 obtain ⟨t,rfl⟩:=rx
 refine ⟨"str",_,F.slot_str_getitem.lookup,typeIs_str _ _ _,?_⟩
 have fin:∀ t' k,EP X pins σ Q (.str (Txt.slice z lo hi) t') { s with toks:=k }:=fun t' k=>⟨.str _,H,I.tok _,⟨_,rfl⟩,q⟩
 obtain ⟨o,ho,hc,hd⟩:=hs
 cases pl with
 | none=>
  cases pu with
  | none=>exact wpAny_getItem_str_slice (l:=none) (u:=none) (st:=none) ⟨o,ho,hc,hd⟩ rfl (post_val_or_str ⟨Nat.le_trans (Txt.slice_le z _ _) hz,fin⟩)
  | int j uj=>exact wpAny_getItem_str_slice (l:=none) (u:=some (j,uj)) (st:=none) ⟨o,ho,hc,hd⟩ rfl (post_val_or_str ⟨Nat.le_trans (Txt.slice_le z _ _) hz,fin⟩)
 | int i ui=>
  cases pu with
  | none=>exact wpAny_getItem_str_slice (l:=some (i,ui)) (u:=none) (st:=none) ⟨o,ho,hc,hd⟩ rfl (post_val_or_str ⟨Nat.le_trans (Txt.slice_le z _ _) hz,fin⟩)
  | int j uj=>exact wpAny_getItem_str_slice (l:=some (i,ui)) (u:=some (j,uj)) (st:=none) ⟨o,ho,hc,hd⟩ rfl (post_val_or_str ⟨Nat.le_trans (Txt.slice_le z _ _) hz,fin⟩)
theorem aAS:∀ {ys:List Str}{us:List Value},cO (ys.map V.str) us→StrsAre us ys
 | [],_,.nil=>.nil
 | y :: ys,_,.cons ⟨t,rfl⟩ r=>.cons y t (aAS r)
inductive qH (K:PySem.W.Frag) (x:V) (xs:List V) (H:Hp) (Q:VK):Prop
 | mk (z:_) (p:_) (ys:_) (q0:x=.str z) (q1:xs=[.ref p]) (q2:SqL K H p (ys.map V.str)) (q3:(ys.map (·.length)).sum + ys.length * z.length≤16777216) (q4:Q (.str (Txt.join z ys)) H):qH K x xs H Q
def aB1 (K:PySem.W.Frag):V→List V→Hp→VK→Prop:=fun x xs H Q=>qH K x xs H Q
theorem aEP:MtR X "str.join" (aB1 X.K):=by
 intro pins s σ H x xs v us Q I rx r h
 obtain ⟨z,p,ys,rfl,rfl,hx,hz,q⟩:=h
 obtain ⟨t,rfl⟩:=rx
 obtain ⟨u,rfl,ru⟩:=i0 r
 cases ru
 obtain ⟨its,rv,pl,_⟩:=I.list hx
 exact join_list pl.isList (by simpa using aAS rv) hz fun t' k=>⟨.str _,H,I.tok _,⟨_,rfl⟩,q⟩
theorem sJ:∀ {bs:List Bool}{us:List Value},cO (bs.map V.bl) us→∀ (i:Nat) v,us[i]?=some v→∃ b,bs[i]?=some b∧v=.bool b
 | [],_,.nil,i,v,e=>by simp at e
 | b :: bs,_,.cons rfl r,0,v,e=>by simp at e;exact ⟨b,rfl,e.symm⟩
 | b :: bs,_,.cons rfl r,i + 1,v,e=>by
  obtain ⟨c,h1,h2⟩:=sJ r i v (by simpa using e)
  exact ⟨c,by simpa using h1,h2⟩
theorem zU (bs:List Bool):((List.range bs.length).all fun i=>(bs[i]?).getD true)=bs.all id:=by
 rw [Bool.eq_iff_iff,List.all_eq_true,List.all_eq_true]
 constructor
 ·intro h b hb
  obtain ⟨i,hi,e⟩:=List.mem_iff_getElem.mp hb
  have:=h i (List.mem_range.mpr hi)
  rw [List.getElem?_eq_getElem hi] at this
  simpa [e] using this
 ·intro h i hi
  have hi':=List.mem_range.mp hi
  rw [List.getElem?_eq_getElem hi']
  exact h _ (List.getElem_mem hi')
theorem zV (bs:List Bool):((List.range bs.length).any fun i=>(bs[i]?).getD false)=bs.any id:=by
 rw [Bool.eq_iff_iff,List.any_eq_true,List.any_eq_true]
 constructor
 ·rintro ⟨i,hi,e⟩
  have hi':=List.mem_range.mp hi
  rw [List.getElem?_eq_getElem hi'] at e
  exact ⟨_,List.getElem_mem hi',e⟩
 ·rintro ⟨b,hb,e⟩
  obtain ⟨i,hi,e2⟩:=List.mem_iff_getElem.mp hb
  refine ⟨i,List.mem_range.mpr hi,?_⟩
  rw [List.getElem?_eq_getElem hi,e2]
  exact e
inductive oG (K:PySem.W.Frag) (xs:List V) (H:Hp) (Q:VK):Prop
 | mk (p:Addr) (bs:List Bool) (q0:xs=[.ref p]) (q1:SqL K H p (bs.map V.bl)) (q2:Q (.bl (bs.all id)) H):oG K xs H Q
def zW (K:PySem.W.Frag):List V→Hp→VK→Prop:=fun xs H Q=>oG K xs H Q
theorem xV (hc:X.calm=true):gW X (.builtin "all") (zW X.K):=by
 intro pins s σ H xs us Q I r h
 obtain ⟨p,bs,rfl,hx,q⟩:=h
 obtain ⟨u,rfl,ru⟩:=i0 r
 cases ru
 obtain ⟨its,rv,pl,_⟩:=I.list hx
 have hl:=pl.isList
 have hlen:its.length=bs.length:=by have:=rv.length;simpa using this.symm
 have hlt:p < s.heap.objs.size:=by obtain ⟨_,e,_⟩:=hl;exact Heap.lt_size e
 refine call_all_walk (wpAny_pyIter_list hl ?_)
 refine ⟨s.heap.objs.size,[s.heap.objs.size,p],[s.heap.objs.size],its.toArray.size,_,_,fun i=>(bs[i]?).getD true,rfl,Walks.list (A:=X.A.in1) (I.ok.hd hc) _ p (Nat.ne_of_lt hlt) its.toArray,
  ⟨⟨_,Heap.get?_push_size _ rfl,rfl,rfl⟩,hl.push _⟩,fun i v s' Q' E' hP hQ=>?_,fun h' tk hk=>?_⟩
 ·obtain ⟨b,e,rfl⟩:=sJ rv i v (by simpa using hP)
  simp only [e,Option.getD_some] at hQ
  exact wpAny_truthy_bool hQ
 ·rw [List.size_toArray,hlen,zU]
  exact ⟨.bl _,H,I.kept fun b x e=>hk b x (fun hm=>by rw [List.mem_singleton.mp hm] at e;exact Nat.lt_irrefl _ (Heap.lt_size e)) (Heap.get?_push_of_some _ e),rfl,q⟩
inductive oH (K:PySem.W.Frag) (xs:List V) (H:Hp) (Q:VK):Prop
 | mk (p:Addr) (bs:List Bool) (q0:xs=[.ref p]) (q1:SqL K H p (bs.map V.bl)) (q2:Q (.bl (bs.any id)) H):oH K xs H Q
def zX (K:PySem.W.Frag):List V→Hp→VK→Prop:=fun xs H Q=>oH K xs H Q
theorem xW (hc:X.calm=true):gW X (.builtin "any") (zX X.K):=by
 intro pins s σ H xs us Q I r h
 obtain ⟨p,bs,rfl,hx,q⟩:=h
 obtain ⟨u,rfl,ru⟩:=i0 r
 cases ru
 obtain ⟨its,rv,pl,_⟩:=I.list hx
 have hl:=pl.isList
 have hlen:its.length=bs.length:=by have:=rv.length;simpa using this.symm
 have hlt:p < s.heap.objs.size:=by obtain ⟨_,e,_⟩:=hl;exact Heap.lt_size e
 refine call_any_walk (wpAny_pyIter_list hl ?_)
 refine ⟨s.heap.objs.size,[s.heap.objs.size,p],[s.heap.objs.size],its.toArray.size,_,_,fun i=>(bs[i]?).getD false,rfl,Walks.list (A:=X.A.in1) (I.ok.hd hc) _ p (Nat.ne_of_lt hlt) its.toArray,
  ⟨⟨_,Heap.get?_push_size _ rfl,rfl,rfl⟩,hl.push _⟩,fun i v s' Q' E' hP hQ=>?_,fun h' tk hk=>?_⟩
 ·obtain ⟨b,e,rfl⟩:=sJ rv i v (by simpa using hP)
  simp only [e,Option.getD_some] at hQ
  exact wpAny_truthy_bool hQ
 ·rw [List.size_toArray,hlen,zV]
  exact ⟨.bl _,H,I.kept fun b x e=>hk b x (fun hm=>by rw [List.mem_singleton.mp hm] at e;exact Nat.lt_irrefl _ (Heap.lt_size e)) (Heap.get?_push_of_some _ e),rfl,q⟩
def pK:List V→List V→Bool
 | [],[]=>true
 | x :: xs,y :: ys=>eqV x y && pK xs ys
 | _,_=>false
theorem sK:∀ {xs ys:List V},xs.length≠ys.length→pK xs ys=false
 | [],[],h=>absurd rfl h
 | [],_ :: _,_=>rfl
 | _ :: _,[],_=>rfl
 | x :: xs,y :: ys,h=>by
  show (eqV x y && pK xs ys)=false
  rw [sK (fun e=>h (by simp [e])),Bool.and_false]
theorem sM:∀ {xs ys:List V},xs.length=ys.length→((List.range xs.length).all fun i=>eqV (xs[i]?.getD .non) (ys[i]?.getD .non))=pK xs ys
 | [],[],_=>rfl
 | x :: xs,y :: ys,h=>by
  have ih:=sM (xs:=xs) (ys:=ys) (by simpa using h)
  rw [List.length_cons,List.range_succ_eq_map,List.all_cons,List.all_map]
  show (eqV x y && _)=(eqV x y && pK xs ys)
  rw [← ih]
  rfl
theorem xX {A:Around}{s:Shared}{xs ys:List V}{us ws:List Value} (r1:cO xs us) (r2:cO ys ws) (f1:xs.all iG=true) (f2:ys.all iG=true) (j:Nat) (h1:j < us.toArray.size) (h2:j < ws.toArray.size):
  SeqAt.EqAt A s us.toArray[j] ws.toArray[j] (eqV (xs[j]?.getD .non) (ys[j]?.getD .non)):=by
 have l1:=r1.length
 have l2:=r2.length
 have h1':j < xs.length:=by simpa [l1] using h1
 have h2':j < ys.length:=by simpa [l2] using h2
 obtain ⟨u,eu,ru⟩:=r1.get (List.getElem?_eq_getElem h1')
 obtain ⟨w',ew,rw'⟩:=r2.get (List.getElem?_eq_getElem h2')
 have e1:us.toArray[j]=u:=by
  rw [List.getElem?_eq_getElem (by simpa using h1)] at eu
  simpa using eu
 have e2:ws.toArray[j]=w':=by
  rw [List.getElem?_eq_getElem (by simpa using h2)] at ew
  simpa using ew
 rw [e1,e2,List.getElem?_eq_getElem h1',List.getElem?_eq_getElem h2']
 exact aCZ ru rw' (List.all_eq_true.mp f1 _ (List.getElem_mem h1')) (List.all_eq_true.mp f2 _ (List.getElem_mem h2'))
inductive sN (K:PySem.W.Frag) (x:V) (y:V) (H:Hp) (Q:VK):Prop
 | mk (p:_) (q:_) (xs:_) (ys:_) (q0:x=.ref p) (q1:y=.ref q) (q2:SqL K H p xs) (q3:SqL K H q ys) (q4:xs.all iG=true) (q5:ys.all iG=true) (q6:Q (.bl (pK xs ys)) H):sN K x y H Q
def aDd (K:PySem.W.Frag):V→V→Hp→VK→Prop:=fun x y H Q=>sN K x y H Q
theorem aGe (hu:X.A.units < cLine):OpR X (compareOp .Eq) (aDd X.K):=by
 intro pins s σ H x y v u Q I rx ry h
 obtain ⟨p,q,xs,ys,rfl,rfl,h1,h2,f1,f2,hq⟩:=h
 cases rx
 cases ry
 obtain ⟨us,r1,p1,_⟩:=I.list h1
 obtain ⟨ws,r2,p2,_⟩:=I.list h2
 have l1:=r1.length
 have l2:=r2.length
 by_cases e:xs.length=ys.length
 ·refine SeqAt.eq_listAt p1.isList p2.isList (by simp;omega) hu (xX r1 r2 f1 f2) ?_
  rw [List.size_toArray,← l1,sM e]
  exact ⟨.bl _,H,I,rfl,hq⟩
 ·refine SeqAt.eq_list_lengthsAt p1.isList p2.isList (by simp;omega) hu ?_
  rw [sK e] at hq
  exact ⟨.bl _,H,I,rfl,hq⟩
inductive sO (K:PySem.W.Frag) (x:V) (y:V) (H:Hp) (Q:VK):Prop
 | mk (p:_) (q:_) (xs:_) (ys:_) (q0:x=.ref p) (q1:y=.ref q) (q2:SqL K H p xs) (q3:SqL K H q ys) (q4:xs.all iG=true) (q5:ys.all iG=true) (q6:Q (.bl (!pK xs ys)) H):sO K x y H Q
def aDe (K:PySem.W.Frag):V→V→Hp→VK→Prop:=fun x y H Q=>sO K x y H Q
theorem wK (hu:X.A.units < cLine):OpR X (compareOp .NotEq) (aDe X.K):=by
 intro pins s σ H x y v u Q I rx ry h
 obtain ⟨p,q,xs,ys,rfl,rfl,h1,h2,f1,f2,hq⟩:=h
 cases rx
 cases ry
 obtain ⟨us,r1,p1,_⟩:=I.list h1
 obtain ⟨ws,r2,p2,_⟩:=I.list h2
 have l1:=r1.length
 have l2:=r2.length
 by_cases e:xs.length=ys.length
 ·refine SeqAt.RcNeAt.lists p1.isList p2.isList (by simp;omega) hu (xX r1 r2 f1 f2) X.prog X.w _ _ ?_
  rw [List.size_toArray,← l1,sM e]
  exact ⟨.bl _,H,I,rfl,hq⟩
 ·refine SeqAt.RcNeAt.lists_lengths p1.isList p2.isList (by simp;omega) hu X.prog X.w _ _ ?_
  rw [sK e] at hq
  exact ⟨.bl _,H,I,rfl,hq⟩
end
end L2
namespace L2
open PySem PySem.Spec PyProof.Rows
theorem aH {n:Nat} (h:n≤1000000):n≤sizeLine:=by
 have:sizeLine=16777216:=sizeLine_eq
 omega
theorem wL {J:It}{g:TG}{tt:TT}{te:TE}{σ₀:St}{H₀:Hp}{Q:VK} (n:Nat) (Pv:Nat→List V→St→Hp→Prop) (h0:Pv 0 [] σ₀ H₀) (hn:n≤sizeLine) (hlen:∀ i ys σ H,Pv i ys σ H→ys.length≤i)
  (hgo:∀ i ys σ H,i < n→Pv i ys σ H→J.go i H) (hstop:∀ ys σ H,Pv n ys σ H→J.stop n H)
  (hs:∀ i ys σ H x H',i < n→Pv i ys σ H→J.yld i H x H'→g x σ H' fun σ2 H2=>tt σ2 H2 fun b H3=>if b=true then te σ2 H3 fun v H4=>Pv (i + 1) (ys ++ [v]) σ2 H4 else Pv (i + 1) ys σ2 H3)
  (hd:∀ ys σ H,Pv n ys σ H→∀ D,H D=none→Q (.ref D) (upd H D (.lst ys))):uZ J g tt te σ₀ H₀ Q:=by
 refine ⟨fun i m ys σ H=>m=n - i∧i≤n∧Pv i ys σ H,⟨n,by simp,Nat.zero_le _,h0⟩,?_⟩
 rintro i m ys σ H ⟨rfl,hi,p⟩
 refine ⟨Nat.le_trans (hlen i ys σ H p) (Nat.le_trans hi hn),?_⟩
 by_cases hlt:i < n
 ·exact .inr ⟨hgo i ys σ H hlt p,Pv (i + 1),fun zs σ' H' p'=>⟨n - (i + 1),by omega,rfl,hlt,p'⟩,fun x H' y=>hs i ys σ H x H' hlt p y⟩
 ·have e:i=n:=by omega
  subst e
  exact .inl ⟨hstop ys σ H p,hd ys σ H p⟩
theorem kQ {lo:Int}{n:Nat}{g:TG}{tt:TT}{te:TE}{σ₀:St}{H₀:Hp}{Q:VK} (Pv:Nat→List V→St→Hp→Prop) (h0:Pv 0 [] σ₀ H₀) (hn:n≤sizeLine) (hlen:∀ i ys σ H,Pv i ys σ H→ys.length≤i)
  (hs:∀ i ys σ H,i < n→Pv i ys σ H→g (.int (lo + i)) σ H fun σ2 H2=>tt σ2 H2 fun b H3=>if b=true then te σ2 H3 fun v H4=>Pv (i + 1) (ys ++ [v]) σ2 H4 else Pv (i + 1) ys σ2 H3)
  (hd:∀ ys σ H,Pv n ys σ H→∀ D,H D=none→Q (.ref D) (upd H D (.lst ys))):uZ (Itr lo n) g tt te σ₀ H₀ Q:=
 wL n Pv h0 hn hlen (fun i _ _ _ h _=>h) (fun _ _ _ _=>Nat.le_refl _) (fun i ys σ H v H' hi p y=>by
  obtain ⟨e,rfl⟩:=y
  subst e
  exact hs i ys σ _ hi p) hd
theorem vA {K:PySem.W.Frag}{a:Addr}{xs:List V}{g:TG}{tt:TT}{te:TE}{σ₀:St}{H₀:Hp}{Q:VK} (Pv:Nat→List V→St→Hp→Prop) (h0:Pv 0 [] σ₀ H₀) (hn:xs.length≤sizeLine) (hlen:∀ i ys σ H,Pv i ys σ H→ys.length≤i)
  (hl:∀ i ys σ H,Pv i ys σ H→SqL K H a xs)
  (hs:∀ i x ys σ H,xs[i]?=some x→Pv i ys σ H→g x σ H fun σ2 H2=>tt σ2 H2 fun b H3=>if b=true then te σ2 H3 fun v H4=>Pv (i + 1) (ys ++ [v]) σ2 H4 else Pv (i + 1) ys σ2 H3)
  (hd:∀ ys σ H,Pv xs.length ys σ H→∀ D,H D=none→Q (.ref D) (upd H D (.lst ys))):uZ (Itl K a) g tt te σ₀ H₀ Q:=
 wL xs.length Pv h0 hn hlen (fun i ys σ H h p=>⟨xs,xs[i],hl i ys σ H p,by simp [h]⟩) (fun ys σ H p=>⟨xs,hl _ ys σ H p,Nat.le_refl _⟩) (fun i ys σ H v H' hi p y=>by
  obtain ⟨e,y⟩:=y
  subst e
  exact hs i v ys σ _ (y xs (hl i ys σ _ p)) p) hd
theorem jU {K:PySem.W.Frag}{a:Addr}{xs:List V}{g:TG}{tt:TT}{te:TE}{σ₀:St}{H₀:Hp}{Q:VK} (Pv:Nat→List V→St→Hp→Prop) (h0:Pv 0 [] σ₀ H₀) (hn:xs.length≤sizeLine) (hlen:∀ i ys σ H,Pv i ys σ H→ys.length≤i)
  (hl:∀ i ys σ H,Pv i ys σ H→SqT K H a xs)
  (hs:∀ i x ys σ H,xs[i]?=some x→Pv i ys σ H→g x σ H fun σ2 H2=>tt σ2 H2 fun b H3=>if b=true then te σ2 H3 fun v H4=>Pv (i + 1) (ys ++ [v]) σ2 H4 else Pv (i + 1) ys σ2 H3)
  (hd:∀ ys σ H,Pv xs.length ys σ H→∀ D,H D=none→Q (.ref D) (upd H D (.lst ys))):uZ (Itt K a) g tt te σ₀ H₀ Q:=
 wL xs.length Pv h0 hn hlen (fun i ys σ H h p=>⟨xs,xs[i],hl i ys σ H p,by simp [h]⟩) (fun ys σ H p=>⟨xs,hl _ ys σ H p,Nat.le_refl _⟩) (fun i ys σ H v H' hi p y=>by
  obtain ⟨e,y⟩:=y
  subst e
  exact hs i v ys σ _ (y xs (hl i ys σ _ p)) p) hd
def aY (p:Addr) (H H':Hp):Prop:=∀ b o,H b=some o→b≠p→H' b=some o
theorem aY.refl (p:Addr) (H:Hp):aY p H H:=fun _ _ e _=>e
theorem aY.trans {p:Addr}{H H1 H2:Hp} (a:aY p H H1) (b:aY p H1 H2):aY p H H2:=fun c o e h=>b c o (a c o e h) h
theorem aY.same {p:Addr}{H H1 H2:Hp} (a:aY p H H1) (b:aU H1 H2):aY p H H2:=fun c o e h=>b c o (a c o e h)
theorem aU.but {p:Addr}{H H1:Hp} (a:aU H H1):aY p H H1:=fun c o e _=>a c o e
theorem aY.upd {p:Addr}{o:HO}{H H1:Hp} (a:aY p H H1):aY p H (upd H1 p o):=fun c u e h=>by rw [aJ h];exact a c u e h
theorem aU.new {p:Addr}{o:HO}{H:Hp} (h:H p=none):aU H (upd H p o):=fun c u e=>by rw [aJ (aO e h)];exact e
section
variable {X:Cx}
end
section
variable {X:Cx}
inductive aDf (t:TS) (D:dW) (σ:St) (H:Hp):Prop
 | mk (R:St→Hp→Prop) (q0:t { D with nx:=R } σ H) (q1:∀ σ' H',R σ' H'→D.nx σ' H'):aDf t D σ H
def aHW (t:TS):TS:=fun D σ H=>aDf t D σ H
theorem sP {st:Stmt}{t:TS} (h:PS X st t):PS X st (aHW t):=by
 constructor
 intro pins s σ H D I q
 obtain ⟨R,q1,q2⟩:=q
 refine thn (h pins s σ H _ I q1) fun f s' z=>?_
 cases f with
 | next=>obtain ⟨σ',H',I',r⟩:=z;exact ⟨σ',H',I',q2 _ _ r⟩
 | brk=>exact z
 | cont=>exact z
 | ret u=>exact z
inductive aAT (t:TT) (σ:St) (H:Hp) (Q:(Bool→Hp→Prop)):Prop
 | mk (R:Bool→Hp→Prop) (q0:t σ H R) (q1:∀ b H',R b H'→Q b H'):aAT t σ H Q
def aG9 (t:TT):TT:=fun σ H Q=>aAT t σ H Q
theorem nF {e:Expr}{t:TT} (h:PT X e t):PT X e (aG9 t):=by
 constructor
 intro pins s σ H Q I q
 obtain ⟨R,q1,q2⟩:=q
 exact thn (h pins s σ H _ I q1) fun b s' ⟨H',I',z⟩=>⟨H',I',q2 _ _ z⟩
end
theorem vB:∀ ns:List Int,(ns.map V.int).all iG=true
 | []=>rfl
 | _ :: r=>vB r
theorem aDg {K:PySem.W.Frag}{T:String}:PySem.W.kitOne K (.type T) (.type T)=some true:=by
 unfold PySem.W.kitOne
 rw [if_pos (by rw [beq_self_eq_true])]
theorem g8 {xs:List V}{i:Int} (h0:0≤i) (h1:i < xs.length):∃ v,v∈xs∧atI xs i=some v:=by
 have hlt:i.toNat < xs.length:=by omega
 refine ⟨xs[i.toNat],List.getElem_mem hlt,?_⟩
 have e:=gM (xs:=xs) (j:=i.toNat) (v:=xs[i.toNat]) (List.getElem?_eq_getElem hlt)
 rw [Int.toNat_of_nonneg h0] at e
 exact e
def aDh:Expr→Bool
 | .Starred ..=>false
 | _=>true
theorem aB2 {e:Expr}{es:List Expr}{env:Env} (h:aDh e=true):starEach (e :: es) env=(false,eval e env) :: starEach es env:=by
 cases e <;> first | rfl | cases h
theorem aE {X:Cx}{e:Expr}{es:List Expr}{te:TE}{t:TA} (ha:PE X e te) (hr:PA X es t) (hs:aDh e=true:=by rfl):PA X (e :: es) (uM te t):=jC ha hr (aB2 hs)
end L2
namespace L2
open PySem PySem.Spec PyProof.Rows
section
variable {X:Cx}
inductive oI (K:PySem.W.Frag) (xs:List V) (H:Hp) (Q:VK):Prop
 | mk (p:Addr) (ns:List Int) (q0:xs=[.ref p]) (q1:SqL K H p (ns.map V.int)) (q2:Q (.int ns.sum) H):oI K xs H Q
def zY (K:PySem.W.Frag):List V→Hp→VK→Prop:=fun xs H Q=>oI K xs H Q
theorem xY (hc:X.calm=true):gW X (.builtin "sum") (zY X.K):=by
 intro pins s σ H xs us Q I r h
 obtain ⟨p,ns,rfl,hx,q⟩:=h
 obtain ⟨u,rfl,ru⟩:=i0 r
 cases ru
 obtain ⟨its,rv,pl,_⟩:=I.list hx
 have hi:IntsAre its ns:=zQ rv
 have hl:=pl.isList
 obtain ⟨xs,hx'⟩:=hi.allInts.items
 have hl':s.heap.IsList p (intItems xs):=hx' ▸ hl
 refine sum_intListG (I.ok.hd hc) hl' fun h' tk t' hk=>?_
 have e1:ns=xs.toList.map (·.1):=by
  rw [← nums_intItems,← hx']
  exact (show numsOf its.toArray.toList=ns from hi.numsOf).symm
 have e2:preSum (numAt xs) xs.size=ns.sum:=by
  rw [preSum_eq,List.take_of_length_le (by simp),e1]
 rw [e2]
 exact ⟨.int ns.sum,H,I.kept hk,⟨_,rfl⟩,q⟩
theorem Inv.turnedL {pins:List (Addr×Obj)}{σ:St}{H:Hp}{s:Shared}{h':Heap}{t':Nat}{fp:List Addr} (I:Inv X pins σ H s) (k:∀ b o,b ∉ fp→s.heap.get? b=some o→h'.get? b=some o) (hf:∀ b∈fp,jA X pins H b):
  Inv X pins σ H { s with heap:=h',toks:=t' }:=by
 have nit:∀ b u,H b=some u→b ∉ fp:=fun b u e z=>by rw [(hf b z).1] at e;cases e
 refine I.step (g':=s.gens) (d':=s.drawn) (ch:=fp) (fun b hb=>?_) (fun b o _ _ hc e _=>k b o hc e) (fun b o _ _ hc e _=>⟨o.slots,k b o hc e⟩) (fun _ _ _ _ n=>n)
  (fun b o hc e=>⟨o,k b o hc e⟩) (fun _ _ e=>e) (fun _ _ _ e=>e) (fun b ps e=>⟨#[],by rw [e];simp⟩) (fun m hm=>?_) (fun b u e=>?_) I.bare
 ·obtain ⟨_,h1,_,h3,h4,h5⟩:=hf b hb
  exact ⟨h3,h1,h4,h5⟩
 ·obtain ⟨o,es,ep,ho,r⟩:=hm
  exact ⟨o,es,ep,k _ o (fun z=>(hf _ z).2.1 rfl) ho,r⟩
 ·refine (I.hok b u e).stay (fun c v hc q=>k c v ?_ q) (fun _ q=>q) fun _ _ q=>q
  rcases hc with z | z
  ·rw [z];exact nit b u e
  ·exact nit c _ z
structure ZA (z TI TO i1 i2:Addr):Prop where
 a1:TI≠z
 a2:TO≠z
 a3:i1≠z
 a4:i2≠z
 a5:TI≠TO
 a6:TI≠i1
 a7:TI≠i2
 a8:TO≠i1
 a9:TO≠i2
 a10:i1≠i2
end
end L2
namespace L2
open PySem PyProof.Rows
end L2
namespace L2
open PySem PyProof.Rows
section
variable {X:Cx}
inductive xZ (K:PySem.W.Frag) (x:V) (y:V) (H:Hp) (Q:VK):Prop
 | mk (a:_) (b:_) (ys:_) (q0:x=.ref a) (q1:y=.ref b) (q2:SqT K H a []) (q3:SqT K H b ys) (q4:Q (.ref b) H):xZ K x y H Q
def aGf (K:PySem.W.Frag):R2:=fun x y H Q=>xZ K x y H Q
theorem aDi:OpR X (binaryOp .Add) (aGf X.K):=by
 intro pins s σ H x y v u Q I rx ry h
 obtain ⟨a,b,ys,rfl,rfl,ha,hb,q⟩:=h
 cases rx
 cases ry
 obtain ⟨its,r1,p1,_⟩:=I.tuple ha
 obtain ⟨its2,r2,p2,_⟩:=I.tuple hb
 cases r1
 obtain ⟨⟨cls,dd,data,sl⟩,ho,hc,n,hd⟩:=id p1
 obtain ⟨⟨cls2,dd2,data2,sl2⟩,ho2,hc2,n2,hd2⟩:=id p2
 simp only at hc hd hc2 hd2
 subst hc hd hc2 hd2
 exact concat_meets ⟨_,ho,rfl⟩ ⟨_,ho2,rfl⟩ noFill_tuple_add seq_tuple_add PySem.F.slot_tuple_add PySem.F.entry_tuple_add (PySem.F.args_tuple_add_2 _ _)
   (tuple_addW0 a b _ _ n n2 dd dd2 sl sl2 (by simp)) ⟨ho,ho2,⟨.ref b,H,I,rfl,q⟩⟩
end
end L2
namespace L2
open PySem PySem.Spec PyProof.Rows
section
variable {prog:Program}{w:World}{A:Around}{E:Value→Shared→Prop}{s:Shared}
end
section
variable {X:Cx}{e st:Expr}{te ts:TE}{pos p2:Pos}
end
end L2
namespace L2
open PySem PySem.Spec PyProof.Rows
section
variable {X:Cx}
end
end L2
namespace L2
open PySem PySem.Spec PyProof.Rows
mutual
inductive RdV (m:Bool) (H:Hp):V→PyData→Prop
 | non:RdV m H .non .none
 | bl (b:Bool):RdV m H (.bl b) (.bool b)
 | int (i:Int):RdV m H (.int i) (.int i)
 | str (z:Str) (h:z.length≤1000):RdV m H (.str z) (.str z)
 | lst {a:Addr} {xs:List V} {ds:List PyData} (hm:m=true) (e:H a=some (.lst xs)) (hl:xs.length≤1000) (r:cW m H xs ds):RdV m H (.ref a) (.list ds)
 | tup {a:Addr} {xs:List V} {ds:List PyData} (e:H a=some (.tup xs)) (hl:xs.length≤1000) (r:cW m H xs ds):RdV m H (.ref a) (.tuple ds)
 | dct {a:Addr} (hm:m=false) (e:H a=some (.dK [])):RdV m H (.ref a) (.dict [])
inductive cW (m:Bool) (H:Hp):List V→List PyData→Prop
 | nil:cW m H [] []
 | cons {x:V} {d:PyData} {xs:List V} {ds:List PyData} (a:RdV m H x d) (r:cW m H xs ds):cW m H (x :: xs) (d :: ds)
end
mutual
theorem RdV.keep {m:Bool}{H H':Hp} (k:∀ a o,H a=some o→(∀ kv r,o≠.dK (kv :: r))→H' a=some o):∀ {x:V}{d:PyData},RdV m H x d→RdV m H' x d
 | _,_,.non=>.non
 | _,_,.bl b=>.bl b
 | _,_,.int i=>.int i
 | _,_,.str z h=>.str z h
 | _,_,.lst hm e hl r=>.lst hm (k _ _ e (fun _ _ z=>nomatch z)) hl (cW.keep k r)
 | _,_,.tup e hl r=>.tup (k _ _ e (fun _ _ z=>nomatch z)) hl (cW.keep k r)
 | _,_,.dct hm e=>.dct hm (k _ _ e (fun _ _ z=>nomatch z))
theorem cW.keep {m:Bool}{H H':Hp} (k:∀ a o,H a=some o→(∀ kv r,o≠.dK (kv :: r))→H' a=some o):∀ {xs:List V}{ds:List PyData},cW m H xs ds→cW m H' xs ds
 | _,_,.nil=>.nil
 | _,_,.cons a r=>.cons (RdV.keep k a) (cW.keep k r)
end
theorem RdV.same {m:Bool}{H H':Hp}{x:V}{d:PyData} (h:RdV m H x d) (s:aU H H'):RdV m H' x d:=h.keep fun a o e _=>s a o e
theorem cW.same {m:Bool}{H H':Hp}{x:List V}{d:List PyData} (h:cW m H x d) (s:aU H H'):cW m H' x d:=h.keep fun a o e _=>s a o e
theorem cW.len {m:Bool}{H:Hp}:∀ {xs:List V}{ds:List PyData},cW m H xs ds→xs.length=ds.length
 | _,_,.nil=>rfl
 | _,_,.cons _ r=>by rw [List.length_cons,List.length_cons,cW.len r]
theorem cW.app {m:Bool}{H:Hp}:∀ {xs:List V}{ds:List PyData}{ys:List V}{es:List PyData},cW m H xs ds→cW m H ys es→cW m H (xs ++ ys) (ds ++ es)
 | _,_,_,_,.nil,h=>h
 | _,_,_,_,.cons a r,h=>.cons a (cW.app r h)
theorem cW.at {m:Bool}{H:Hp}:∀ {xs:List V}{ds:List PyData}{i:Nat}{x:V},cW m H xs ds→xs[i]?=some x→∃ d,ds[i]?=some d∧RdV m H x d
 | _,_,0,_,.cons a r,e=>by simp at e;subst e;exact ⟨_,rfl,a⟩
 | _,_,i + 1,_,.cons a r,e=>by simp at e;simpa using cW.at r e
section
variable {X:Cx}
mutual
theorem RdV.reads {pins:List (Addr×Obj)}{σ:St}{m:Bool}{H:Hp}{s:Shared} (I:Inv X pins σ H s):∀ {x:V}{d:PyData}{v:Value},RdV m H x d→cS x v→∃ as,Reads s.heap v d as∧(m=true→d.hasDict=false)∧(m=false→¬ sysModules∈as)
 | _,_,_,.non,r=>by cases r;exact ⟨[],.none,fun _=>rfl,fun _=>by simp⟩
 | _,_,_,.bl b,r=>by cases r;exact ⟨[],.bool b,fun _=>rfl,fun _=>by simp⟩
 | _,_,_,.int i,r=>by obtain ⟨t,rfl⟩:=r;exact ⟨[],.int i t,fun _=>rfl,fun _=>by simp⟩
 | _,_,_,.str z _,r=>by obtain ⟨t,rfl⟩:=r;exact ⟨[],.str z t,fun _=>rfl,fun _=>by simp⟩
 | _,_,_,.lst hm e _ rs,r=>by
  cases r
  obtain ⟨_,its,n,rv,eo⟩:c6 X.prog X.w H s.heap _ (.lst _):=I.hok _ _ e
  obtain ⟨as,ra,h1,h2⟩:=cW.reads I rs rv
  exact ⟨_,.list eo rfl rfl (by simpa using ra),fun _=>h1 hm,fun z=>by rw [hm] at z;cases z⟩
 | _,_,_,.tup e _ rs,r=>by
  cases r
  obtain ⟨_,its,rv,pt⟩:c6 X.prog X.w H s.heap _ (.tup _):=I.hok _ _ e
  obtain ⟨as,ra,h1,h2⟩:=cW.reads I rs rv
  obtain ⟨o,eo,⟨hc,n,hd⟩,_⟩:=pt
  exact ⟨as,.tuple eo hc hd (by simpa using ra),h1,h2⟩
 | _,_,_,.dct hm e,r=>by
  cases r
  obtain ⟨_,hs,vs,kv,o,es,ep,eo,hx,hd,hk,hp,_⟩:c6 X.prog X.w H s.heap _ (.dK []):=I.hok _ _ e
  cases kv
  have hes:es.toList=[]:=by
   cases h:es.toList with
   | nil=>rfl
   | cons y r=>rw [h] at hp;cases hp
  refine ⟨_,Reads.dict (kvs:=[]) (as:=[]) (bs:=[]) eo hx.1 hd (by rw [hes];exact .nil) (by rw [hes];exact .nil),(fun z=>by rw [hm] at z;cases z),fun _=>?_⟩
  intro z
  simp at z
  rw [z] at hs
  simp at hs
theorem cW.reads {pins:List (Addr×Obj)}{σ:St}{m:Bool}{H:Hp}{s:Shared} (I:Inv X pins σ H s):∀ {xs:List V}{ds:List PyData}{vs:List Value},cW m H xs ds→cO xs vs→∃ as,ReadsAll s.heap vs ds as∧(m=true→PyData.hasDictAll ds=false)∧(m=false→¬ sysModules∈as)
 | _,_,_,.nil,.nil=>⟨[],.nil,fun _=>rfl,fun _=>by simp⟩
 | _,_,_,.cons a r,.cons ra rr=>by
  obtain ⟨as,h1,h2,h3⟩:=RdV.reads I a ra
  obtain ⟨bs,g1,g2,g3⟩:=cW.reads I r rr
  refine ⟨as ++ bs,.cons h1 g1,fun z=>?_,fun z w=>?_⟩
  ·unfold PyData.hasDictAll
   rw [h2 z,g2 z]
   rfl
  ·rcases List.mem_append.mp w with w | w
   ·exact h3 z w
   ·exact g3 z w
end
end
end L2
namespace L2
open PySem PySem.Spec PyProof.Rows
section
variable {prog:Program}{w:World}{A:Around}{E:Value→Shared→Prop}{s:Shared}
theorem oJ {t sl:Addr}{items:Array Value}{vl vu:Value}{lo hi:Option Int}{Q:Value→Shared→Prop} (ht:IsTup s.heap t items) (hs:s.heap.IsSliceOf sl vl vu .none) (pl:IsPart vl lo) (pu:IsPart vu hi)
  (hw:HT.sIx items.size 0 lo=0∧HT.sIx items.size items.size hi=items.size) (h:Q (.ref t) s):wpAny (model prog w) A (getItem (.ref t) (.ref sl)) Q E s:=by
 obtain ⟨os,hos,hcs,hds⟩:=id hs
 have hTs:s.TypeIs (.ref sl) "slice":=⟨os,hos,hcs⟩
 unfold getItem
 try with_reducible refine wpAny_holding ?_
 first | refine wpAny_bind (wpAny_pure ?_) | skip
 refine wpAny_bind (wpAny_sequenceKey ht.typeIs (by decide) ?_)
 refine wpAny_bind (wpAny_callSpecial?_slot (name:=Str.ofString "__getitem__") ht.typeIs PyProof.Rows.slot_tuple_getitem
  (wpAny_call_entry PyProof.Rows.slot_tuple_getitem ht.typeIs entry_tuple_getitem ?_ (args_tuple_getitem _ _)))
 show wpAny _ _ (Builtin.Tuple.tupleItemsOf (.ref t) >>= _) _ _ s
 refine wpAny_bind (tupleItemsOf_ ht ?_)
 refine wpAny_bind (wpAny_typeOf hTs ?_)
 rw [if_pos (by decide)]
 refine wpAny_bind (HT.sliceApplied_gen hs pl pu ?_)
 have hyes:(((HT.sIx items.size 0 lo:Nat):Int) == 0 && (1:Int) == 1 && (HT.sIx items.size items.size hi - HT.sIx items.size 0 lo) == items.size)=true:=by
  rw [hw.1,hw.2]
  simp
 show wpAny _ _ (if (((HT.sIx items.size 0 lo:Nat):Int) == 0 && (1:Int) == 1 && (HT.sIx items.size items.size hi - HT.sIx items.size 0 lo) == items.size)=true then _ else _) _ _ s
 rw [if_pos hyes]
 obtain ⟨⟨cls,dd,data,sl'⟩,ho,hc,n,hd⟩:=id ht
 simp only at hc hd
 subst hc hd
 wp_walk
 exact ⟨_,rfl,wpAny_pure h⟩
end
section
variable {X:Cx}
inductive aDj (K:PySem.W.Frag) (x:V) (lo:Option Int) (hi:Option Int) (H:Hp) (Q:VK):Prop
 | mk (a:_) (xs:_) (q0:x=.ref a) (q1:H a=some (.tup xs)) (q2:∀ r H',aU H H'→H' r=some (.tup (lC xs lo hi))→Q (.ref r) H'):aDj K x lo hi H Q
def aHX (K:PySem.W.Frag):V→Option Int→Option Int→Hp→VK→Prop:=fun x lo hi H Q=>aDj K x lo hi H Q
theorem rD:SlR X (aHX X.K):=by
 intro pins s σ H x v vl vu lo hi sl Q I rx hs pl pu h
 obtain ⟨a,xs,rfl,hx,q⟩:=h
 by_cases hw:HT.sIx xs.length 0 lo=0∧HT.sIx xs.length xs.length hi=xs.length
 ·cases rx
  obtain ⟨its,r,ht,hz⟩:=I.tuple (SqT.of hx)
  have hlen:its.toArray.size=xs.length:=by rw [List.size_toArray];exact r.length.symm
  refine ⟨"tuple",_,PyProof.Rows.slot_tuple_getitem.lookup,ht.typeIs,?_⟩
  refine oJ ht hs pl pu (by rw [hlen];exact hw) ⟨.ref a,H,I,rfl,q a H (aU.refl H) ?_⟩
  have e:lC xs lo hi=xs:=by
   unfold lC
   rw [hw.1,hw.2,List.drop_zero,Nat.sub_zero,List.take_length]
  rw [e]
  exact hx
 ·exact aF3 pins s σ H _ v vl vu lo hi sl Q I rx hs pl pu ⟨a,xs,rfl,SqT.of hx,hw,fun p hp=>q p _ (aU.new hp) aF⟩
inductive aAU (x:V) (y:V) (H:Hp) (Q:VK):Prop
 | mk (a:_) (b:_) (xs:_) (ys:_) (q0:x=.ref a) (q1:y=.ref b) (q2:H a=some (.tup xs)) (q3:H b=some (.tup ys)) (q4:xs.length + ys.length≤1000000) (q5:∀ r H',aU H H'→H' r=some (.tup (xs ++ ys))→Q (.ref r) H'):aAU x y H Q
def aHa:R2:=fun x y H Q=>aAU x y H Q
theorem aAV:OpR X (binaryOp .Add) aHa:=by
 intro pins s σ H x y v u Q I rx ry h
 obtain ⟨a,b,xs,ys,rfl,rfl,ha,hb,hz,q⟩:=h
 by_cases h0:xs=[]
 ·subst h0
  exact aDi pins s σ H _ _ v u Q I rx ry ⟨a,b,ys,rfl,rfl,SqT.of ha,SqT.of hb,q b H (aU.refl H) hb⟩
 ·refine aEG pins s σ H _ _ v u Q I rx ry ⟨a,b,xs,ys,rfl,rfl,SqT.of ha,SqT.of hb,h0,aH hz,fun h1=>?_,fun h1 p hp=>q p _ (aU.new hp) aF⟩
  subst h1
  exact q a H (aU.refl H) (by rw [List.append_nil];exact ha)
theorem pL {α:Type} (xs:List V) (n:Nat):lC xs none (some (n:Int))=xs.take n:=by
 unfold lC
 rw [HT.sIx_none,HT.sIx_nat,List.drop_zero,Nat.sub_zero]
 by_cases h:n≤xs.length
 ·rw [Nat.min_eq_left h]
 ·rw [Nat.min_eq_right (by omega),List.take_length,List.take_of_length_le (by omega)]
theorem aDk {α:Type} (xs:List V) (n:Nat):lC xs (some (n:Int)) none=xs.drop n:=by
 unfold lC
 rw [HT.sIx_none,HT.sIx_nat]
 by_cases h:n≤xs.length
 ·rw [Nat.min_eq_left h]
  exact List.take_of_length_le (by rw [List.length_drop];exact Nat.le_refl _)
 ·rw [Nat.min_eq_right (by omega),List.drop_eq_nil_of_le (Nat.le_refl _),List.drop_eq_nil_of_le (by omega),List.take_nil]
mutual
theorem RdV.flip {H:Hp}:∀ {x:V}{d:PyData},RdV false H x d→d.hasDict=false→∀ m,RdV m H x d
 | _,_,.non,_,_=>.non
 | _,_,.bl b,_,_=>.bl b
 | _,_,.int i,_,_=>.int i
 | _,_,.str z h,_,_=>.str z h
 | _,_,.lst hm _ _ _,_,_=>nomatch hm
 | _,_,.tup e hl r,h,m=>.tup e hl (cW.flip r (by unfold PyData.hasDict at h;exact h) m)
 | _,_,.dct _ _,h,_=>by unfold PyData.hasDict at h;cases h
theorem cW.flip {H:Hp}:∀ {xs:List V}{ds:List PyData},cW false H xs ds→PyData.hasDictAll ds=false→∀ m,cW m H xs ds
 | _,_,.nil,_,_=>.nil
 | _,_,.cons a r,h,m=>by
  unfold PyData.hasDictAll at h
  rw [Bool.or_eq_false_iff] at h
  exact .cons (RdV.flip a h.1 m) (cW.flip r h.2 m)
end
mutual
theorem RdV.keepF {H H':Hp} (k:∀ a o,H a=some o→(∀ kv r,o≠.dK (kv :: r))→(∀ xs,o≠.lst xs)→H' a=some o):∀ {x:V}{d:PyData},RdV false H x d→RdV false H' x d
 | _,_,.non=>.non
 | _,_,.bl b=>.bl b
 | _,_,.int i=>.int i
 | _,_,.str z h=>.str z h
 | _,_,.lst hm _ _ _=>nomatch hm
 | _,_,.tup e hl r=>.tup (k _ _ e (fun _ _ z=>nomatch z) (fun _ z=>nomatch z)) hl (cW.keepF k r)
 | _,_,.dct hm e=>.dct hm (k _ _ e (fun _ _ z=>nomatch z) (fun _ z=>nomatch z))
theorem cW.keepF {H H':Hp} (k:∀ a o,H a=some o→(∀ kv r,o≠.dK (kv :: r))→(∀ xs,o≠.lst xs)→H' a=some o):∀ {xs:List V}{ds:List PyData},cW false H xs ds→cW false H' xs ds
 | _,_,.nil=>.nil
 | _,_,.cons a r=>.cons (RdV.keepF k a) (cW.keepF k r)
end
end
end L2
namespace L2
open PySem PySem.Spec PyProof.Rows PySem.W
def kU {α:Type} (n:Nat) (P:α→Prop):KasT α→Prop
 | .ret a=>P a
 | .ask i j k=>i < n∧j < n∧∀ b,kU n P (k b)
theorem kU.bind {α β:Type}{n:Nat}{P:α→Prop}{Q:β→Prop}{f:α→KasT β}:∀ {t:KasT α},kU n P t→(∀ a,P a→kU n Q (f a))→kU n Q (t.bind f)
 | .ret a,h,g=>by rw [KasT.bind.eq_1];exact g a h
 | .ask i j k,h,g=>by
  rw [KasT.bind.eq_2]
  exact ⟨h.1,h.2.1,fun b=>kU.bind (h.2.2 b) g⟩
theorem kU.wp {α:Type}{n:Nat}{cmp:Nat→Nat→(Bool→Shared→Prop)→Shared→Prop}{Q:α→Shared→Prop}{s:Shared} (hc:∀ i j C,i < n→j < n→(∀ b,C b s)→cmp i j C s):∀ {t:KasT α},kU n (fun a=>Q a s) t→KasT.kasWp cmp t Q s
 | .ret a,h=>by rw [KasT.kasWp.eq_1];exact h
 | .ask i j k,h=>by
  rw [KasT.kasWp.eq_2]
  exact hc i j _ h.1 h.2.1 fun b=>kU.wp hc (h.2.2 b)
def Pm (n:Nat) (p:Array Nat):Prop:=p.Perm (List.range n).toArray
theorem Pm.lt {n:Nat}{p:Array Nat} (h:Pm n p) (hn:0 < n) (i:Nat):p.getD i 0 < n:=by
 by_cases hi:i < p.size
 ·have hm:p[i]∈(List.range n).toArray:=h.mem_iff.mp (Array.getElem_mem hi)
  have:p[i] < n:=by simpa using hm
  rw [Array.getD_eq_getD_getElem?,Array.getElem?_eq_getElem hi]
  exact this
 ·rw [Array.getD_eq_getD_getElem?,Array.getElem?_eq_none (by omega)]
  exact hn
theorem Pm.rev {n:Nat}{p:Array Nat} (h:Pm n p) (i j:Nat):Pm n (kas_rev p i j):=(mirror_perm p i j _).trans h
theorem Pm.bub {n:Nat}{p:Array Nat} (h:Pm n p) (i j:Nat):Pm n (bubble p i j):=(bubble_perm p i j).trans h
section
variable {n:Nat} (hn:0 < n)
include hn
theorem sQ {p:Array Nat} (h:Pm n p):∀ (f x:Nat),kU n (fun _=>True) (kas_asc p f x)
 | 0,x=>by rw [kas_asc.eq_1];trivial
 | f + 1,x=>by
  rw [kas_asc.eq_2]
  refine ⟨h.lt hn _,h.lt hn _,fun b=>?_⟩
  cases b
  ·exact sQ h f (x + 1)
  ·exact trivial
theorem lZ:∀ (f:Nat) {p:Array Nat} (x y:Nat),Pm n p→kU n (fun r=>Pm n r.1) (kas_desc f p x y)
 | 0,p,x,y,h=>by rw [kas_desc.eq_1];exact h
 | f + 1,p,x,y,h=>by
  rw [kas_desc.eq_2]
  refine ⟨h.lt hn _,h.lt hn _,fun b=>?_⟩
  cases b
  ·refine ⟨h.lt hn _,h.lt hn _,fun b=>?_⟩
   cases b
   ·exact lZ f _ _ h
   ·exact h
  ·show kU n _ (if y > 0 then _ else _)
   split
   ·exact lZ f _ _ (h.rev _ _)
   ·exact lZ f _ _ h
theorem nG {p:Array Nat} (h:Pm n p) (k:Nat):∀ (f x y:Nat),kU n (fun _=>True) (kas_place p k f x y)
 | 0,x,y=>by rw [kas_place.eq_1];trivial
 | f + 1,x,y=>by
  rw [kas_place.eq_2]
  split
  ·trivial
  ·refine ⟨h.lt hn _,h.lt hn _,fun b=>?_⟩
   cases b
   ·exact nG h k f _ _
   ·exact nG h k f _ _
theorem x8:∀ (f:Nat) {p:Array Nat} (x:Nat),Pm n p→kU n (Pm n) (kas_bin f p x)
 | 0,p,x,h=>by rw [kas_bin.eq_1];exact h
 | f + 1,p,x,h=>by
  rw [kas_bin.eq_2]
  exact (nG hn h x _ _ _).bind fun l _=>x8 f _ (h.bub _ _)
theorem sS {p:Array Nat} (h:Pm n p) (a b:Nat):kU n (fun r=>Pm n r.2) (kas_tail3 a b p):=by
 unfold kas_tail3
 exact (sQ hn (h.rev _ _) _ _).bind fun m _=>h.rev _ _
theorem m6 {p:Array Nat} (h:Pm n p) (a b:Nat):kU n (fun r=>Pm n r.2) (kas_descPart a b p):=by
 unfold kas_descPart
 refine (lZ hn _ _ _ h).bind fun r hr=>?_
 split
 ·exact sS hn (hr.rev _ _) _ _
 ·exact sS hn hr _ _
theorem zZ {p:Array Nat} (h:Pm n p) (a:Nat):kU n (fun r=>Pm n r.2) (kas_count a p):=by
 unfold kas_count
 refine (sQ hn h _ _).bind fun m _=>?_
 split
 ·exact h
 ·split
  ·refine ⟨h.lt hn _,h.lt hn _,fun b=>?_⟩
   cases b
   ·exact m6 hn (h.rev _ _) _ _
   ·exact h
  ·exact m6 hn h _ _
theorem aB3:kU n (Pm n) (kas_sort n):=by
 unfold kas_sort
 refine (zZ hn (Array.Perm.refl _) n).bind fun r hr=>?_
 split
 ·exact x8 hn _ _ hr
 ·exact hr
end
end L2
namespace L2
open PySem PySem.Spec PyProof.Rows PySem.W
section
variable {prog:Program}{w:World}{A:Around}{E:Value→Shared→Prop}{s:Shared}
theorem rE {a b:Int}{t u:Tok}{Q:Bool→Shared→Prop} (h:∀ b,Q b s):wpAny (model prog w) A (oneLt' false (Value.int a t) (Value.int b u)) Q E s:=by
 rw [oneLt'_eq]
 show wpAny _ _ (compareOp .Lt (Value.int a t) (Value.int b u) >>= _) _ _ _
 refine wpAny_bind (lt_int ?_)
 wp_walk
 exact h _
theorem aEQ {a b:Str}{t u:Tok}{Q:Bool→Shared→Prop} (h:∀ b,Q b s):wpAny (model prog w) A (oneLt' false (Value.str a t) (Value.str b u)) Q E s:=by
 rw [oneLt'_eq]
 show wpAny _ _ (compareOp .Lt (Value.str a t) (Value.str b u) >>= _) _ _ _
 refine wpAny_bind (lt_str ?_)
 wp_walk
 exact h _
theorem g9 {x:Addr}{its:Array Value}{Q:Array Value→Shared→Prop} (hx:IsTup s.heap x its) (h:Q its s):wpAny (model prog w) A (Builtin.List.listItems (Value.ref x)) Q E s:=by
 obtain ⟨⟨cls,dd,data,sl⟩,ho,hc,n,hd⟩:=id hx
 simp only at hc hd
 subst hc hd
 unfold Builtin.List.listItems
 wp_walk
 exact h
theorem ltT {fb:Bool}{x y:Addr}{a1 a2 b1 b2:Int}{c1 c2:Str}{t1 t2 t3 u1 u2 u3:Tok}{C:Bool→Shared→Prop} (hx:IsTup s.heap x #[.int a1 t1,.int b1 t2,.str c1 t3]) (hy:IsTup s.heap y #[.int a2 u1,.int b2 u2,.str c2 u3]) (h:∀ b,C b s):
  wpAny (model prog w) A (keyLt' (tuples' fb) (.ref x) (.ref y)) C E s:=by
 show wpAny _ _ (Builtin.List.listItems (.ref x) >>= _) _ _ _
 refine wpAny_bind (g9 hx ?_)
 refine wpAny_bind (g9 hy ?_)
 dsimp only [List.zip_cons_cons,List.zipIdx_cons,List.zip_nil_left]
 rw [List.zipIdx_nil]
 have e1:∀ {Q:Bool→Shared→Prop} {a b:Int} {t u:Tok},(∀ z,Q z s)→wpAny (model prog w) A (eqBool (.int a t) (.int b u)) Q E s:=fun {Q a b t u} q=>by
  obtain ⟨z,hz,_⟩:=HT.eqAt_int A s a t b u
  exact hz prog w _ _ (q z)
 have e2:∀ {Q:Bool→Shared→Prop} {a b:Str} {t u:Tok},(∀ z,Q z s)→wpAny (model prog w) A (eqBool (.str a t) (.str b u)) Q E s:=fun {Q a b t u} q=>by
  exact SeqAt.EqAt.str_str a t b u prog w _ _ (q _)
 refine wpAny_bind ?_
 rw [List.forIn_cons]
 refine wpAny_bind (wpAny_bind (e1 fun z=>?_))
 cases z with
 | false=>
  refine wpAny_ite_true (by decide) ?_
  refine wpAny_bind ?_
  show wpAny _ _ (oneLt' (fb && 0 == 0) (Value.int a1 t1) (Value.int a2 u1)) _ _ _
  cases fb
  ·exact rE fun z=>wpAny_pure (wpAny_pure (wpAny_pure (h z)))
  ·exact oneLt_int (wpAny_pure (wpAny_pure (wpAny_pure (h _))))
 | true=>
  refine wpAny_ite_false (by decide) (wpAny_pure ?_)
  dsimp only
  rw [List.forIn_cons]
  refine wpAny_bind (wpAny_bind (e1 fun z=>?_))
  cases z with
  | false=>
   refine wpAny_ite_true (by decide) ?_
   refine wpAny_bind ?_
   have ez:(fb && ((0 + 1:Nat) == 0))=false:=by cases fb <;> rfl
   show wpAny _ _ (oneLt' (fb && (0 + 1 == 0)) (Value.int b1 t2) (Value.int b2 u2)) _ _ _
   rw [ez]
   exact rE fun z=>wpAny_pure (wpAny_pure (wpAny_pure (h z)))
  | true=>
   refine wpAny_ite_false (by decide) (wpAny_pure ?_)
   dsimp only
   rw [List.forIn_cons]
   refine wpAny_bind (wpAny_bind (e2 fun z=>?_))
   cases z with
   | false=>
    refine wpAny_ite_true (by decide) ?_
    refine wpAny_bind ?_
    have ez:(fb && ((0 + 1 + 1:Nat) == 0))=false:=by cases fb <;> rfl
    show wpAny _ _ (oneLt' (fb && (0 + 1 + 1 == 0)) (Value.str c1 t3) (Value.str c2 u3)) _ _ _
    rw [ez]
    exact aEQ fun z=>wpAny_pure (wpAny_pure (wpAny_pure (h z)))
   | true=>
    refine wpAny_ite_false (by decide) (wpAny_pure ?_)
    dsimp only
    rw [List.forIn_nil]
    exact wpAny_pure (wpAny_pure (h _))
end
end L2
namespace L2
open PySem PySem.Spec PyProof.Rows PySem.W
section
variable {prog:Program}{w:World}{A:Around}{E:Value→Shared→Prop}{s:Shared}
inductive aDl (h:Heap) (v:Value):Prop
 | mk (t:_) (a:_) (b:_) (c:_) (u1:_) (u2:_) (u3:_) (q0:v=.ref t) (q1:IsTup h t #[.int a u1,.int b u2,.str c u3]):aDl h v
def aER (h:Heap) (v:Value):Prop:=aDl h v
theorem lU {α β:Type}{f:α→Sem β}{R:α→β→Prop}:∀ (l:List α) {Q:List β→Shared→Prop},(∀ v∈l,∃ r,R v r∧∀ Q':β→Shared→Prop,Q' r s→wpAny (model prog w) A (f v) Q' E s)→(∀ rs:List β,rs.length=l.length→(∀ r∈rs,∃ v∈l,R v r)→Q rs s)→wpAny (model prog w) A (List.mapM f l) Q E s
 | [],Q,_,q=>by
  rw [List.mapM_nil]
  exact wpAny_pure (q [] rfl fun r hr=>by simp at hr)
 | a :: l,Q,h,q=>by
  rw [List.mapM_cons]
  obtain ⟨r,hr,hw⟩:=h a List.mem_cons_self
  refine wpAny_bind (hw _ (wpAny_bind (lU l (fun v hv=>h v (List.mem_cons_of_mem _ hv)) fun rs hl hrs=>wpAny_pure (q (r :: rs) (by rw [List.length_cons,List.length_cons,hl]) fun z hz=>?_))))
  rcases List.mem_cons.mp hz with rfl | hz
  ·exact ⟨a,List.mem_cons_self,hr⟩
  ·obtain ⟨v,hv,hR⟩:=hrs z hz
   exact ⟨v,List.mem_cons_of_mem _ hv,hR⟩
theorem aHb {ks:List Value}{Q:SortKind→Shared→Prop} (hk:∀ v∈ks,aER s.heap v) (h:∀ b,Q (tuples' b) s):wpAny (model prog w) A (keyKind' ks.toArray) Q E s:=by
 rw [keyKind'_eq,Array.mapM_eq_mapM_toList]
 refine wpAny_bind ?_
 rw [← bind_pure_comp]
 refine wpAny_bind (lU (R:=fun _ r=>∃ a u,r=some (Value.int a u)) ks (fun v hv=>?_) fun rs hl hrs=>wpAny_pure ?_)
 ·obtain ⟨t,a,b,c,u1,u2,u3,rfl,ht⟩:=hk v hv
  refine ⟨some (.int a u1),⟨a,u1,rfl⟩,fun Q' q=>?_⟩
  rw [kas_first_eq]
  refine wpAny_bind (wpAny_typeOf ht.typeIs ?_)
  refine wpAny_ite_false (by decide) ?_
  refine wpAny_bind (g9 ht ?_)
  exact wpAny_pure q
 ·have hall:(rs.toArray.all fun x=>x.isSome)=true:=by
   rw [List.all_toArray,List.all_eq_true]
   intro r hr
   obtain ⟨v,_,a,u,rfl⟩:=hrs r hr
   rfl
  refine wpAny_ite_true (by rw [hall];rfl) ?_
  refine wpAny_bind (wpAny_rule ?_)
  rw [oneTypeOnly'_eq,Array.mapM_eq_mapM_toList]
  refine wpAny_bind ?_
  refine wpAny_bind ?_
  rw [← bind_pure_comp]
  refine wpAny_bind (lU (R:=fun _ r=>r=Value.type "int") _ (fun v hv=>?_) fun ts htl hts=>wpAny_pure ?_)
  ·have hv':some v∈rs:=by simpa using hv
   obtain ⟨_,_,a,u,e⟩:=hrs _ hv'
   cases e
   exact ⟨_,rfl,fun Q' q=>wpAny_typeOf (typeIs_int s a u) q⟩
  ·cases hts0:ts.toArray[0]? with
   | none=>exact wpAny_pure (wpAny_pure (h _))
   | some t=>exact wpAny_pure (wpAny_pure (h _))
theorem aHc {b:Bool}{it:Array Keyed}{n:Nat}{Q:Unit×SortSt→Shared→Prop} (hn:it.size=n) (h2:2≤n) (h64:n < 64) (hk:∀ i,i < n→aER s.heap (kas_item it i).1)
  (h:∀ st:SortSt,(arrOf st).Perm it→failedOf st=none→Q ((),st) s):wpAny (model prog w) A (sortRuns'.run (SortSt.mk' (tuples' b) it #[] 7 none)) Q E s:=by
 have e0:Array.map (kas_item it) (List.range n).toArray=it:=by
  apply Array.ext
  ·simp [hn]
  ·intro i h1 h2
   simp [kas_item,hn,h2]
   rw [Array.getElem?_eq_getElem h2]
   rfl
 have main:=kas_runs (prog:=prog) (w:=w) (A:=A) (E:=E) (κ:=tuples' b) (it:=it) (n:=n) (s:=s) (Q:=fun u st s'=>s'=s∧Q (u,st) s) (G:=fun p s'=>Pm n p∧s'=s) h2 h64 (fun p' st' s' hsz ha hf hG=>?_)
  (kU.wp (n:=n) (fun i j C hi hj hC=>?_) ?_)
 ·have e1:kas_st (tuples' b) it (List.range n).toArray=SortSt.mk' (tuples' b) it #[] 7 none:=by
   unfold kas_st
   rw [e0]
  rw [e1] at main
  exact wpAny_mono main (fun r s' z=>by
   obtain ⟨rfl,q⟩:=z
   exact q) fun e s' z=>z
 ·obtain ⟨hp,rfl⟩:=hG
  refine ⟨rfl,h st' ?_ hf⟩
  rw [ha]
  have hp':(Array.map (kas_item it) p').toList.Perm (Array.map (kas_item it) (List.range n).toArray).toList:=by
   rw [Array.toList_map,Array.toList_map]
   exact (Array.perm_iff_toList_perm.mp hp).map _
  rw [e0] at hp'
  exact Array.perm_iff_toList_perm.mpr hp'
 ·obtain ⟨t,a1,b1,c1,u1,u2,u3,e1,ht⟩:=hk i hi
  obtain ⟨t',a2,b2,c2,v1,v2,v3,e2,ht'⟩:=hk j hj
  unfold kas_cmp
  rw [e1,e2]
  exact ltT ht ht' hC
 ·exact (fun z=>by
   have:=aB3 (n:=n) (by omega)
   revert this
   generalize kas_sort n=tr
   intro this
   induction tr with
   | ret a=>exact ⟨this,rfl⟩
   | ask i j k ih=>exact ⟨this.1,this.2.1,fun b=>ih b (this.2.2 b)⟩:True→_) trivial
end
end L2
namespace L2
open PySem PySem.Spec PyProof.Rows PySem.W
section
variable {prog:Program}{w:World}{A:Around}{E:Value→Shared→Prop}{s:Shared}
theorem aFz {a kS:Addr}{st:SortSt}{keys:Array Value}{e e1:Nat}{P:PySem.Fin→Shared→Prop} (ha:s.heap.get? a=some (seqObj "list" #[] e1)) (hk:s.heap.get? kS=some (seqObj "list" keys e)) (hne:a≠kS) (hkz:keys.size≤sizeLine) (hz:(arrOf st).size≤sizeLine) (hf:failedOf st=none)
  (h:P (Fin.done (Flow.ret Value.none)) { s with heap:=(s.heap.update kS (Obj.mapSeq fun _=>#[])).update a (Obj.mapSeq fun _=>(arrOf st).map (·.2)) }):wpAny (model prog w) A (ksk_tail a false e1 (.ref kS) st) P E s:=by
 unfold ksk_tail
 refine wpAny_bind (listUpdate_at hk rfl ?_ hkz (Nat.zero_le _))
 refine wpAny_bind (wpAny_letGo ?_)
 have ha1:(s.heap.update kS (Obj.mapSeq fun _=>#[])).get? a=some (seqObj "list" #[] e1):=by
  rw [Heap.get?_update_ne _ _ _ _ hne]
  exact ha
 refine wpAny_bind (seqEpoch_at ha1 rfl ?_)
 refine wpAny_bind (listUpdate_at ha1 rfl ?_ (Nat.zero_le _) (by show ((arrOf st).map (·.2)).size≤_;rw [Array.size_map];omega))
 rw [hf]
 refine wpAny_ite_false (by simp) ?_
 exact wpAny_pure h
theorem aHY {a kS:Addr}{ks its:List Value}{e e1:Nat}{P:PySem.Fin→Shared→Prop} (ha:s.heap.get? a=some (seqObj "list" #[] e1)) (hk:s.heap.get? kS=some (seqObj "list" ks.toArray e)) (hne:a≠kS) (hl:ks.length=its.length) (h64:its.length < 64) (hK:∀ v∈ks,aER s.heap v)
  (h:∀ out:List Value,out.Perm its→P (Fin.done (Flow.ret Value.none)) { s with heap:=(s.heap.update kS (Obj.mapSeq fun _=>#[])).update a (Obj.mapSeq fun _=>out.toArray) }):wpAny (model prog w) A (ksk_end a false its.toArray e1 (.ref kS) ks.toArray) P E s:=by
 have z:∀ n:Nat,n < 64→n≤sizeLine:=fun n hn=>aH (by omega)
 have zip_size:(ks.toArray.zip its.toArray).size=its.length:=by simp [hl]
 have fin:∀ st:SortSt,(arrOf st).Perm (ks.toArray.zip its.toArray)→failedOf st=none→wpAny (model prog w) A (ksk_tail a false e1 (.ref kS) st) P E s:=fun st hp hf=>by
  refine aFz ha hk hne (by rw [List.size_toArray];exact z _ (by omega)) (by rw [hp.size_eq,zip_size];exact z _ h64) hf ?_
  have hp':((arrOf st).map (·.2)).toList.Perm its:=by
   rw [Array.toList_map]
   have:=(Array.perm_iff_toList_perm.mp hp).map (·.2)
   have e2:(ks.toArray.zip its.toArray).toList.map (·.2)=its:=by
    rw [Array.toList_zip]
    exact List.map_snd_zip (by simp [hl])
   rw [e2] at this
   exact this
  have:=h _ hp'
  rw [Array.toArray_toList] at this
  exact this
 unfold ksk_end
 dsimp only
 by_cases h2:its.length < 2
 ·have h2':its.toArray.size < 2:=by simpa using h2
  rw [if_neg Bool.false_ne_true,if_pos h2']
  refine wpAny_bind (wpAny_pure ?_)
  rw [if_pos h2',if_neg Bool.false_ne_true]
  refine wpAny_bind (wpAny_pure ?_)
  exact fin _ (Array.Perm.refl _) rfl
 ·have h2':¬ its.toArray.size < 2:=by simpa using h2
  rw [if_neg Bool.false_ne_true,if_neg h2']
  refine wpAny_bind (aHb hK fun b=>?_)
  rw [if_neg h2',if_neg Bool.false_ne_true]
  refine wpAny_bind (aHc (n:=its.length) zip_size (by omega) h64 (fun i hi=>?_) fun st hp hf=>fin st hp hf)
  have e3:kas_item (ks.toArray.zip its.toArray) i=(ks[i],its[i]):=by
   unfold kas_item
   rw [Array.getD_eq_getD_getElem?,Array.getElem?_eq_getElem (by rw [zip_size];exact hi)]
   simp
  rw [e3]
  exact hK _ (List.getElem_mem _)
end
end L2
namespace L2
open PySem PySem.Spec PyProof.Rows PySem.W
theorem vC:∀ {out its:List Value},out.Perm its→∀ {xs:List V},cO xs its→∃ ys:List V,ys.Perm xs∧cO ys out:=by
 intro out its hp
 induction hp with
 | nil=>intro xs r;exact ⟨xs,.refl _,r⟩
 | cons a _ ih=>
  intro xs r
  cases r with
  | cons r1 r2=>
   obtain ⟨ys,h1,h2⟩:=ih r2
   exact ⟨_ :: ys,h1.cons _,.cons r1 h2⟩
 | swap a b l=>
  intro xs r
  cases r with
  | cons r1 r2=>
   cases r2 with
   | cons r3 r4=>exact ⟨_ :: _ :: _,.swap _ _ _,.cons r3 (.cons r1 r4)⟩
 | trans _ _ ih1 ih2=>
  intro xs r
  obtain ⟨ys,h1,h2⟩:=ih2 r
  obtain ⟨zs,h3,h4⟩:=ih1 h2
  exact ⟨zs,h3.trans h1,h4⟩
section
variable {X:Cx}{pins:List (Addr×Obj)}{σ:St}
inductive aDm (H:Hp) (v:Value):Prop
 | mk (t:_) (a:_) (b:_) (c:_) (q0:v=.ref t) (q1:H t=some (.tup [.int a,.int b,.str c])):aDm H v
def z9 (H:Hp) (v:Value):Prop:=aDm H v
theorem z9.same {H H':Hp}{v:Value} (h:z9 H v) (s:aU H H'):z9 H' v:=by
 obtain ⟨t,a,b,c,e,ht⟩:=h
 exact ⟨t,a,b,c,e,s _ _ ht⟩
theorem z9.real {H:Hp}{s:Shared}{v:Value} (I:Inv X pins σ H s) (h:z9 H v):aER s.heap v:=by
 obtain ⟨t,a,b,c,rfl,ht⟩:=h
 obtain ⟨_,its,rv,hT⟩:c6 X.prog X.w H s.heap t (.tup [.int a,.int b,.str c]):=I.hok _ _ ht
 cases rv with
 | cons r1 rv=>
  cases rv with
  | cons r2 rv=>
   cases rv with
   | cons r3 rv=>
    cases rv
    obtain ⟨u1,e1⟩:=r1
    obtain ⟨u2,e2⟩:=r2
    obtain ⟨u3,e3⟩:=r3
    subst e1 e2 e3
    exact ⟨t,a,b,c,u1,u2,u3,rfl,hT⟩
theorem aDn {k:Nat}{f:Addr}{fd:FuncData}{x:Str}{sp:Sp}{A':Around}{E:Value→Shared→Prop} (F:cC X.prog X.w X.K X.mg X.base CX0 k f fd [x] sp) (hr:dF k A') (hA:A'.frames=some X.stack) (hb:cQ X.K fd [x] [])
  {D kS:Addr} {H0:Hp} {e1:Nat} {xs:List V} (fD:∀ H',H' D=none→jA X pins H' D) (fK:∀ H',H' kS=none→jA X pins H' kS) (hne:D≠kS)
  (hkey:∀ y∈xs,∀ (H':Hp) (Q:VK),aU H0 H'→(∀ t a b c H'',aU H' H''→H'' t=some (.tup [.int a,.int b,.str c])→Q (.ref t) H'')→sp [y] H' Q E0) {er:Value→Value→Sem (ForInStep PUnit)} {Q:Shared→Prop}
  {body:Value→PUnit→Sem (ForInStep PUnit)} (hbody:∀ v u,body v u=(do
   let r ← (call (.ref f) [v]).attempt
   match r with
   | Except.ok k=>do
    Builtin.List.listUpdate (.ref kS) fun x=>x.push k
    pure (ForInStep.yield PUnit.unit)
   | Except.error e=>er v e)):
  ∀ (b8:List Value) (xr:List V) (s:Shared) (H:Hp) (ks:List Value) (e:Nat),cO xr b8→(∀ y∈xr,y∈xs)→Inv X pins σ H s→aU H0 H→H D=none→H kS=none→s.heap.get? D=some (seqObj "list" #[] e1)→s.heap.get? kS=some (seqObj "list" ks.toArray e)→(∀ v∈ks,z9 H v)→ks.length + b8.length < 64→
   (∀ (s':Shared) (H':Hp) (ks':List Value) (e':Nat),Inv X pins σ H' s'→aU H0 H'→H' D=none→H' kS=none→s'.heap.get? D=some (seqObj "list" #[] e1)→s'.heap.get? kS=some (seqObj "list" ks'.toArray e')→(∀ v∈ks',z9 H' v)→ks'.length=ks.length + b8.length→Q s')→
   wpAny (model X.prog X.w) A' (forIn b8 PUnit.unit body) (fun _ s'=>Q s') E s:=by
 intro b8
 induction b8 with
 | nil=>
  intro xr s H ks e r hsub I S hD hK gD gK hk h64 q
  rw [List.forIn_nil]
  exact wpAny_pure (q s H ks e I S hD hK gD gK hk rfl)
 | cons v b8 ih=>
  intro xr s H ks e r hsub I S hD hK gD gK hk h64 q
  rw [List.length_cons] at h64
  cases r with
  | @cons y _ xr' _ r1 r2=>
  rw [List.forIn_cons,hbody]
  refine wpAny_bind (wpAny_bind (wpAny_attempt ?_))
  have I3:Inv X ((D,seqObj "list" #[] e1) :: (kS,seqObj "list" ks.toArray e) :: pins) σ H s:=I.pins_of fun p hp=>by
   rcases List.mem_cons.mp hp with z | hp
   ·subst z
    exact ⟨gD,hD,(fD H hD).2.1,(fD H hD).2.2.1,fun v z=>by cases z⟩
   ·rcases List.mem_cons.mp hp with z | hp
    ·subst z
     exact ⟨gK,hK,(fK H hK).2.1,(fK H hK).2.2.1,fun v z=>by cases z⟩
    ·exact I.pin p (List.mem_append_right _ hp)
  have e0:qU X.prog X.w X.K X.mg X.base A' X.stack s H:=⟨hA,I.env0.mod,I.env0.bs,I.env0.bsz,I.env0.funs,I.env0.frf,I.env0.hok,I.env0.bare⟩
  refine wpAny_call (codeAny_mono (F.run A' X.stack s H ⟨[v],[]⟩ [v] [y] (fun u H''=>∃ t a b c,u=.ref t∧H'' t=some (.tup [.int a,.int b,.str c])∧aU H H'') E0 hr e0 (hb s [v] I.kIn rfl) (.cons r1 .nil)
   (hkey y (hsub y List.mem_cons_self) H _ S fun t a b c H'' s2 h2=>⟨t,a,b,c,rfl,h2,s2⟩)) fun r s' hq=>?_)
  cases r with
  | error e=>exact False.elim hq
  | ok fl=>
   cases fl with
   | next=>exact False.elim hq
   | brk=>exact False.elim hq
   | cont=>exact False.elim hq
   | ret u=>
    obtain ⟨vv,H',I',r',t,a,b,c,rfl,ht,S'⟩:=I3.after hq
    cases r'
    obtain ⟨gD',hD',_⟩:=I'.pin (D,seqObj "list" #[] e1) (List.mem_append_right _ List.mem_cons_self)
    obtain ⟨gK',hK',_⟩:=I'.pin (kS,seqObj "list" ks.toArray e) (List.mem_append_right _ (List.mem_cons_of_mem _ List.mem_cons_self))
    have I4:Inv X pins σ H' s':=I'.pins_of fun p hp=>I'.pin p (List.mem_append_right _ (List.mem_cons_of_mem _ (List.mem_cons_of_mem _ hp)))
    refine wpAny_bind (listUpdate_at gK' rfl ?_ (aH (by rw [List.size_toArray];omega)) (by rw [Array.size_push,List.size_toArray];exact Nat.le_succ_of_le (aH (by omega))))
    refine wpAny_pure ?_
    have gK2:=get?_update_seq gK' (fun x=>x.push (.ref t))
    have ep:(ks.toArray.push (.ref t))=(ks ++ [Value.ref t]).toArray:=by simp
    rw [ep] at gK2
    have I5:Inv X pins σ H' { s' with heap:=s'.heap.update kS (Obj.mapSeq fun x=>x.push (.ref t)) }:=I4.turnedL (t':=s'.toks) (fp:=[kS]) (fun b o hb e=>by
     rw [Heap.get?_update_ne _ _ _ _ (fun z=>hb (by simp [z]))]
     exact e) fun b hb=>by
      rw [List.mem_singleton.mp hb]
      exact fK H' hK'
    refine ih xr' _ H' (ks ++ [Value.ref t]) _ r2 (fun y hy=>hsub y (List.mem_cons_of_mem _ hy)) I5 (S.trans S') hD' hK' ?_ gK2 (fun z hz=>?_) (by rw [List.length_append,List.length_singleton];omega) fun s'' H'' ks'' e'' a1 a2 a3 a4 a5 a6 a7 a8=>?_
    ·show (s'.heap.update kS _).get? D=_
     rw [Heap.get?_update_ne _ _ _ _ hne]
     exact gD'
    ·rcases List.mem_append.mp hz with hz | hz
     ·exact (hk z hz).same S'
     ·rw [List.mem_singleton.mp hz]
      exact ⟨t,a,b,c,rfl,ht⟩
    ·exact q s'' H'' ks'' e'' a1 a2 a3 a4 a5 a6 a7 (by rw [a8,List.length_append,List.length_singleton,List.length_cons];omega)
end
end L2
namespace L2
open PySem PySem.Spec PyProof.Rows PySem.W
section
variable {X:Cx}{pins:List (Addr×Obj)}{σ:St}{H:Hp}{s:Shared}
theorem aES {k:Nat}{f l:Addr}{fd:FuncData}{x:Str}{sp:Sp}{xs:List V}{Q:VK}{E:Value→Shared→Prop} (F:cC X.prog X.w X.K X.mg X.base CX0 k f fd [x] sp) (hr:dF (k + 2) X.A) (hb:cQ X.K fd [x] [])
  (I:Inv X pins σ H s) (hl:SqL X.K H l xs) (h64:xs.length < 64)
  (hkey:∀ y∈xs,∀ (H':Hp) (Q:VK),aU H H'→(∀ t a b c H'',aU H' H''→H'' t=some (.tup [.int a,.int b,.str c])→Q (.ref t) H'')→sp [y] H' Q E0)
  (q:∀ D ys H',aU H H'→H D=none→ys.Perm xs→H' D=some (.lst ys)→Q (.ref D) H'):
  wpAny (model X.prog X.w) X.A (call (.builtin "sorted") [.ref l] [(Str.ofString "key",.ref f)]) (EP X pins σ Q) E s:=by
 obtain ⟨its,rv,pl,_⟩:=I.list hl
 have hlen:=rv.length
 have zz:its.length≤sizeLine:=aH (by omega)
 refine call_function_entry_kw kind_sorted plain_sorted entry_sorted (ksk_s1 _ _) ?_
 refine wpAny_bind (wpAny_pure ?_)
 refine wpAny_bind (collect_list pl.isList ?_ zz)
 refine wpAny_bind (wpAny_newList ?_ zz)
 have hsz1:((s.heap.push (seqObj "list" #[] 0)).update s.heap.objs.size (Obj.mapSeq fun x=>x ++ its.toArray)).objs.size=s.heap.objs.size + 1:=by
  rw [Heap.size_update,size_push']
 generalize hh1:(s.heap.push (seqObj "list" #[] 0)).update s.heap.objs.size (Obj.mapSeq fun x=>x ++ its.toArray)=h1 at hsz1 ⊢
 have old1:∀ b o,s.heap.get? b=some o→h1.get? b=some o:=fun b o e=>by
  rw [← hh1,Heap.get?_update_ne _ _ _ _ (Nat.ne_of_lt (Heap.lt_size e))]
  exact Heap.get?_push_of_some _ e
 dsimp only
 obtain ⟨D,hD⟩:∃ D,D=h1.objs.size:=⟨_,rfl⟩
 have gD0:(h1.push (seqObj "list" its.toArray 0)).get? D=some (seqObj "list" its.toArray 0):=by
  rw [hD]
  exact Heap.get?_push_size _ rfl
 have old2:∀ b o,s.heap.get? b=some o→(h1.push (seqObj "list" its.toArray 0)).get? b=some o:=fun b o e=>Heap.get?_push_of_some _ (old1 b o e)
 have hsz2:(h1.push (seqObj "list" its.toArray 0)).objs.size=s.heap.objs.size + 2:=by rw [size_push',hsz1]
 change wpAny _ _ (do let _ ← holding [Value.ref h1.objs.size] (call (.builtin "list.sort") [Value.ref h1.objs.size] [(Str.ofString "key",.ref f)]);ret (Value.ref h1.objs.size)) _ _ { s with heap:=h1.push (seqObj "list" its.toArray 0) }
 rw [← hD]
 generalize h1.push (seqObj "list" its.toArray 0)=h2 at gD0 old2 hsz2 ⊢
 have hDs:D=s.heap.objs.size + 1:=by rw [hD,hsz1]
 refine wpAny_bind (wpAny_holding (wpAny_call_entry_kw slot_list_sort ⟨_,gD0,rfl⟩ entry_list_sort ?_ (ksk_l1 _ _)))
 rw [ksk_t1]
 unfold ksk_tree
 refine wpAny_bind (listItems_at gD0 rfl ?_)
 refine wpAny_bind (listUpdate_at gD0 rfl ?_ (by rw [List.size_toArray];exact zz) (Nat.zero_le _))
 have gD1:=get?_update_seq gD0 (fun _=>#[])
 generalize (if ((#[]:Array Value).size == its.toArray.size)=true then 0 else 0 + 1)=e1 at gD1
 have old3:∀ b o,s.heap.get? b=some o→(h2.update D (Obj.mapSeq fun _=>#[])).get? b=some o:=fun b o e=>by
  rw [Heap.get?_update_ne _ _ _ _ (Nat.ne_of_lt (by rw [hDs];exact Nat.lt_succ_of_lt (Heap.lt_size e)))]
  exact old2 b o e
 have hsz3:(h2.update D (Obj.mapSeq fun _=>#[])).objs.size=s.heap.objs.size + 2:=by rw [Heap.size_update,hsz2]
 dsimp only
 generalize h2.update D (Obj.mapSeq fun _=>#[])=h3 at gD1 old3 hsz3 ⊢
 refine wpAny_bind (seqEpoch_at gD1 rfl ?_)
 refine wpAny_bind (wpAny_newTuple ?_ (by simpa using zz))
 refine wpAny_bind (wpAny_newList ?_ (Nat.zero_le _))
 dsimp only
 refine wpAny_holding ?_
 obtain ⟨kS,hkS⟩:∃ kS,kS=(h3.push { cls:=Value.type "tuple",data:=Data.seq its.toArray.toList.toArray }).objs.size:=⟨_,rfl⟩
 have gK4:((h3.push { cls:=Value.type "tuple",data:=Data.seq its.toArray.toList.toArray }).push { cls:=Value.type "list",data:=Data.seq ([]:List Value).toArray }).get? kS=some (seqObj "list" ([]:List Value).toArray 0):=by
  rw [hkS]
  exact Heap.get?_push_size _ rfl
 have gD4:((h3.push { cls:=Value.type "tuple",data:=Data.seq its.toArray.toList.toArray }).push { cls:=Value.type "list",data:=Data.seq ([]:List Value).toArray }).get? D=some (seqObj "list" #[] e1):=Heap.get?_push_of_some _ (Heap.get?_push_of_some _ gD1)
 have old4:∀ b o,s.heap.get? b=some o→((h3.push { cls:=Value.type "tuple",data:=Data.seq its.toArray.toList.toArray }).push { cls:=Value.type "list",data:=Data.seq ([]:List Value).toArray }).get? b=some o:=fun b o e=>Heap.get?_push_of_some _ (Heap.get?_push_of_some _ (old3 b o e))
 have hkSs:kS=s.heap.objs.size + 3:=by rw [hkS,Heap.size_push,hsz3]
 rw [← hkS]
 generalize (h3.push { cls:=Value.type "tuple",data:=Data.seq its.toArray.toList.toArray }).push { cls:=Value.type "list",data:=Data.seq ([]:List Value).toArray }=h4 at gK4 gD4 old4 ⊢
 have hne:D≠kS:=Nat.ne_of_lt (by rw [hDs,hkSs];omega)
 have I4:Inv X pins σ H { s with heap:=h4 }:=I.kept (t':=s.toks) old4
 have lD:s.heap.objs.size≤D:=by rw [hDs];exact Nat.le_succ _
 have lK:s.heap.objs.size≤kS:=by rw [hkSs];exact Nat.le_add_right _ _
 have nD:H D=none:=I.hok.fresh lD
 have nK:H kS=none:=I.hok.fresh lK
 have fD:∀ H',H' D=none→jA X pins H' D:=fun H' hn=>I.fpOk lD hn
 have fK:∀ H',H' kS=none→jA X pins H' kS:=fun H' hn=>I.fpOk lK hn
 unfold ksk_rest
 refine wpAny_bind (wpAny_rule ?_)
 refine wpAny_bind ?_
 rw [← Array.forIn_toList]
 have hrk:dF k X.A.in1.in1:=(hr.in1).in1
 refine aDn (X:=X) (pins:=pins) (σ:=σ) (A':=X.A.in1.in1) F hrk I.ok.frames hb (D:=D) (kS:=kS) (H0:=H) (e1:=e1) (xs:=xs) fD fK hne hkey (er:=fun v e=>do
     rule "list.sort.key-raised"
     let made ← Builtin.List.listItems (.ref kS)
     Builtin.List.listUpdate (.ref kS) fun x=>#[]
     letGo made.toList.reverse [e]
     Builtin.List.listUpdate (Value.ref D) fun x=>its.toArray
     throw e
     pure (ForInStep.yield PUnit.unit)) (fun v u=>by congr 1) its xs _ H [] 0 rv (fun y hy=>hy) I4 (aU.refl H) nD nK gD4 gK4 (fun v hv=>by simp at hv) (by simp;omega) ?_
 intro s' H' ks e' I' S hD' hK' gD' gK' hks hkl
 refine wpAny_bind (listItems_at gK' rfl ?_)
 refine aHY gD' gK' hne (by simpa using hkl) (by omega) (fun v hv=>(hks v hv).real I') fun out hp=>?_
 refine ⟨_,rfl,wpAny_pure ⟨_,rfl,?_⟩⟩
 obtain ⟨ys,hys,rys⟩:=vC hp rv
 have I6:Inv X pins σ H' { s' with heap:=(s'.heap.update kS (Obj.mapSeq fun _=>#[])).update D (Obj.mapSeq fun _=>out.toArray) }:=I'.turnedL (t':=s'.toks) (fp:=[kS,D]) (fun b o hb e=>by
  rw [Heap.get?_update_ne _ _ _ _ (fun z=>hb (by simp [z])),Heap.get?_update_ne _ _ _ _ (fun z=>hb (by simp [z]))]
  exact e) fun b hb=>by
   simp only [List.mem_cons,List.not_mem_nil,or_false] at hb
   rcases hb with rfl | rfl
   ·exact fK H' hK'
   ·exact fD H' hD'
 have gD6:((s'.heap.update kS (Obj.mapSeq fun _=>#[])).update D (Obj.mapSeq fun _=>out.toArray)).get? D=_:=get?_update_seq (c:="list") (xs:=#[]) (n:=e1) (by
  rw [Heap.get?_update_ne _ _ _ _ hne]
  exact gD') fun _=>out.toArray
 have hyl:ys.length≤sizeLine:=aH (by rw [hys.length_eq];omega)
 exact ⟨.ref D,_,I6.track (ob:=.lst ys) (fD H' hD') ⟨hyl,out,_,rys,gD6⟩,rfl,q D ys _ (S.trans (aU.new hD')) nD hys aF⟩
end
end L2
namespace L2
open PySem PySem.Spec PyProof.Rows PySem.W
section
variable {X:Cx}{e:Expr}{ta:TA}
def tSK (K:PySem.W.Frag) (sp:Sp) (ta:TA):TE:=fun σ H Q=>ta σ H fun vs H1=>∃ l xs,vs=[V.ref l]∧SqL K H1 l xs∧xs.length < 64∧
 (∀ y∈xs,∀ (H':Hp) (Q:VK),aU H1 H'→(∀ t a b c H'',aU H' H''→H'' t=some (.tup [.int a,.int b,.str c])→Q (.ref t) H'')→sp [y] H' Q E0)∧
 ∀ D ys H',aU H1 H'→H1 D=none→ys.Perm xs→H' D=some (.lst ys)→Q (.ref D) H'
theorem aAa {k:Nat}{f:Addr}{fd:FuncData}{x g:Str}{sp:Sp}{p pk kp pos:Pos} (F:cC X.prog X.w X.K X.mg X.base CX0 k f fd [x] sp) (hr:dF (k + 2) X.A) (hb:cQ X.K fd [x] []) (hg:Gl X "sorted") (hm:X.mg "sorted"=none) (hgk:Gl X g) (hmk:X.mg g=some (.ref f)) (ha:PA X [e] ta)
  (hd:(g == ("__debug__":Str))=false:=by decide) (he:starEach [e] X.env=[(false,eval e X.env)]:=by rfl):
  PE X (.Call (.Name "sorted" p) [e] [⟨some "key",.Name g pk,kp⟩] pos) (tSK X.K sp ta):=by
 constructor
 intro pins s σ H Q I h
 refine wpAny_Call_Name_kw (pA I hg hm boot_sorted ?_ (by decide) (by decide))
 refine callWith_builtin_kwB (by rw [he];rfl) (by rfl) ?_
 have hrun:=ha pos pins s σ H _ I h
 ·rw [he] at hrun ⊢
  refine evalArgs_kwB (by rfl) (thn hrun fun us s1 ⟨vs,H1,I1,r,q1⟩=>?_)
  obtain ⟨l,xs,rfl,hl,h64,hkey,q⟩:=q1
  have hkw:PK X [⟨some "key",.Name g pk,kp⟩] (uM (tC (.ref f)) aCO):=aAI (d8 hgk hmk rfl hd) aCR
  refine thn (hkw pos pins s1 σ H1 (fun zs H2=>zs=[V.ref f]∧H2=H1) I1 ⟨rfl,rfl⟩) fun ws s2 ⟨zs,H2,I2,rz,ez,eH⟩=>?_
  subst ez eH
  cases rz with
  | cons r1 r2=>
   cases r1
   cases r2
   cases r with
   | cons r3 r4=>
    cases r3
    cases r4
    exact aES F hr hb I2 hl h64 hkey q
end
end L2
namespace L2
open PySem PySem.Spec PyProof.Rows
open PySem.SeqAt
open PySem.AutoSeq1 (wpAny_loadPart')
open PySem.MeetsSeq PySem.MeetsSeq2 PySem.MeetsSeq3
end L2
namespace L2
open PySem PySem.Spec PyProof.Rows
inductive aFA (X:Cx) (k:Nat) (ps:List Str) (f:Addr) (sp:Sp):Prop
 | mk (fd:FuncData) (q0:cC X.prog X.w X.K X.mg X.base CX0 k f fd ps sp) (q1:PySem.W.keepIn X.K (.ref f)=true) (q2:cQ X.K fd ps []):aFA X k ps f sp
def FnV (X:Cx) (k:Nat) (ps:List Str) (f:Addr) (sp:Sp):Prop:=aFA X k ps f sp
def aGg (X:Cx) (k:Nat) (ps:List Str) (tv:TE) (t:TA):TE:=fun σ H Q=>tv σ H fun v H1=>∃ (f:Addr) (sp:Sp),v=.ref f∧FnV X k ps f sp∧t σ H1 fun vs H2=>sp vs H2 Q E0
theorem aDo {X:Cx}{k:Nat}{ps:List Str}{x:Str}{p pos:Pos}{e:Expr}{es:List Expr}{tv:TE}{t:TA} (hv:PE X (.Name x p) tv) (hr:dF k X.A) (ha:PA X (e :: es) t)
  (he:starEach (e :: es) X.env=(false,eval e X.env) :: starEach es X.env:=by rfl) (hpl:(backTo pos (starEach es X.env)).any (·.1)=false:=by rfl):
  PE X (.Call (.Name x p) (e :: es) [] pos) (aGg X k ps tv t):=by
 constructor
 intro pins s σ H Q I h
 refine wpAny_Call_Name_kw (thn (hv pins s σ H _ I h) fun u s1 ⟨y,H1,I1,ry,f,sp,ey,⟨fd,F,hk,hb⟩,h2⟩=>?_)
 subst ey
 cases ry
 refine PySem.W.callWith_K (h₀:=X.base) I1.ok.mod.kin hk (thn (ha pos pins s1 σ H1 _ I1 h2) fun us s2 ⟨vs,H2,I2,r,q⟩=>⟨I2.kIn,?_⟩) he hpl
 exact aCP F hr hb .nil bY I2 r (by rw [List.append_nil];exact q)
def aHd (kvs:List (Key×V)) (ty:TE):TE:=fun σ H Q=>ty σ H fun y H2=>∃ k v,y=kV k∧dH kvs k=some v∧Q v H2
theorem aET {X:Cx}{i:Expr}{x:Str}{ty:TE}{a:Addr}{vs:List (Key×Value)}{kvs:List (Key×V)}{p pos:Pos} (hd:∀ h:Heap,X.K.In h→h.DictOf (dM X.prog X.w) a vs) (rel:KV kvs vs) (hg:Gl X x) (hm:X.mg x=some (.ref a)) (hi:PE X i ty) (hs:aF8 i) (hdb:(x == ("__debug__":Str))=false:=by decide):
  PE X (.Subscript (.Name x p) i pos) (aHd kvs ty):=by
 constructor
 intro pins s σ H Q I h
 have ho:PE X (.Name x p) (tC (.ref a)):=d8 hg hm rfl hdb
 refine aAN PySem.F.slot_dict_getitem.lookup hs (thn (ho pins s σ H (fun v H1=>v=.ref a∧ty σ H1 fun y H2=>∃ k v,y=kV k∧dH kvs k=some v∧Q v H2) I ⟨rfl,h⟩) fun u s1 ⟨x,H1,I1,rx,ex,q1⟩=>thn (hi pins s1 σ H1 _ I1 q1) fun iv s2 ⟨y,H2,I2,ry,k,v,ey,l,q2⟩=>?_)
 subst ex ey
 obtain rfl:u=Value.ref a:=rx
 have dd:=hd s2.heap I2.kIn
 refine ⟨?_,?_⟩
 ·obtain ⟨o,es,ep,e,hx,_⟩:=dd
  exact ⟨o,e,hx.1⟩
 ·obtain ⟨w',hw,rw'⟩:=lF.some_of (v:=v) (o:=valueAt vs k) (by rw [← l];exact rel.val k)
  exact wpAny_getItem_of (oB ry) dd.mapOf hw ⟨v,H2,I2.tok _,rw',q2⟩
end L2
namespace L2
open PySem PySem.Spec PyProof.Rows
section
variable {X:Cx}{pins:List (Addr×Obj)}{σ:St}{H:Hp}{s:Shared}{A:Around}{E:Value→Shared→Prop}{Q:Value→Shared→Prop}{b:Bool}
end
end L2
namespace L2
open PySem PySem.Spec PyProof.Rows
theorem aGh {X:Cx}{K:PySem.W.Frag}{o e:Expr}{es:List Expr}{to:TE}{t:TA}{name:Str}{apos cpos:Pos}{T id:String}{r:V→List V→Hp→VK→Prop} (pa:PlainAttrs T) (slot:Slot T name id) (hty:typeOf (.builtin id)=pure (.type "method_descriptor")) (hm:MtR X id r) (ho:PE X o to) (ha:PA X (e :: es) t) (hK:X.K=K:=by rfl)
  (hbase:attributeBase o name X.env (eval o X.env)=eval o X.env:=by rfl)
  (hfew:((backTo cpos (starEach (e :: es) X.env)).all (fun x=>!x.1) && (backToKw cpos (keywordEach [] X.env)).all (fun x=>x.1.isSome)
   && decide ((e :: es).length + ([]:List Keyword).length + (if ([]:List Keyword).isEmpty then 0 else 1) < 30))=true:=by rfl)
  (hline:(apos.endLine == cpos.line)=true:=by rfl) (hs:starEach (e :: es) X.env=(false,eval e X.env) :: starEach es X.env:=by rfl) (hplain:(backTo cpos (starEach es X.env)).any (·.1)=false:=by rfl):
  PE X (.Call (.Attribute o name apos) (e :: es) [] cpos) (tBM K T r to t):=by
 subst hK
 exact fF pa slot hty hm ho ha hbase hfew hline hs hplain
theorem sU:∀ {ss:List Str}{us:List Value},cO (ss.map V.str) us→StrsAre us ss
 | [],_,r=>by rw [List.map_nil] at r;cases r;exact .nil
 | s :: ss,_,r=>by
  rw [List.map_cons] at r
  cases r with
  | cons r1 r2=>
   obtain ⟨t,e⟩:=r1
   subst e
   exact .cons s t (sU r2)
theorem oK:∀ {us:List Value}{ns:List Str},StrsAre us ns→cO (ns.map V.str) us
 | _,_,.nil=>.nil
 | _,_,.cons i t r=>.cons ⟨t,rfl⟩ (oK r)
inductive jV (K:PySem.W.Frag) (xs:List V) (H:Hp) (Q:VK):Prop
 | mk (p:Addr) (ns:List Str) (q0:xs=[.ref p]) (q1:SqL K H p (ns.map V.str)) (q2:ns.length < 64) (q3:∀ (l:Addr) (ms:List Str),H l=none→ms.Perm ns→sortedS ms=true→Q (.ref l) (upd H l (.lst (ms.map V.str)))):jV K xs H Q
def sV (K:PySem.W.Frag):List V→Hp→VK→Prop:=fun xs H Q=>jV K xs H Q
theorem wM {X:Cx}:gW X (.builtin "sorted") (sV X.K):=by
 intro pins s σ H xs us Q I r h
 obtain ⟨p,ns,rfl,hx,h64,q⟩:=h
 obtain ⟨u,rfl,ru⟩:=i0 r
 cases ru
 obtain ⟨its,rv,pl,_⟩:=I.list hx
 have hi:StrsAre its ns:=sU rv
 have hlen:=rv.length
 rw [List.length_map] at hlen
 refine sorted_strs pl.isList hi (by omega) fun out ms hI hp hs=>?_
 have hk:∀ b o,s.heap.get? b=some o→(sortedAll s.heap its out).get? b=some o:=fun b o e=>sortedAll_old e
 obtain ⟨e,he⟩:=sortedAll_at s.heap its out
 have hn:H (s.heap.objs.size + 1)=none:=I.hok.fresh (Nat.le_succ _)
 have hms:=hp.length_eq
 have hv:cO (ms.map V.str) out.toList:=oK hI
 refine ⟨.ref (s.heap.objs.size + 1),_,I.laid (t':=s.toks) (o:=.lst (ms.map V.str)) hk (Nat.le_succ _) ⟨aH (by rw [List.length_map];omega),out.toList,e,hv,by rw [he] <;> rfl⟩,rfl,q _ ms hn hp hs⟩
end L2
namespace L2
open PySem PyProof.Rows
def aDp (w:World) (es:Array (Int×Value)) (t:SetTable):Prop:=t.led=!w.params.followText "set-order"∧(es.size=0∨t.plain=false)
def aIg (prog:Program) (w:World) (h:Heap) (a:Addr) (S:Str→Bool) (n:Nat):Prop:=
 ∃ o es ep t,h.get? a=some o∧o.ExactSet∧o.data=.set es ep t∧ElemsOf (PySem.strKind prog w) es.toList∧(∀ k,S k=true↔∃ e∈es.toList,(PySem.strKind prog w).is k e.2=true)
  ∧es.size < scanBound∧t.fits es.size=true∧es.size=n∧aDp w es t
end L2
namespace L2
open PySem PyProof.Rows
end L2
namespace L2
open PySem PyProof.Rows
section
variable {prog:Program}{w:World}{A:Around}{E:Value→Shared→Prop}{s:Shared}{I S T:Addr}{i m ep:Nat}{o ot:Obj}{es:Array (Int×Value)}{t:SetTable}{places:Array Value}{x:Value}
end
end L2
namespace L2
open PySem PyProof.Rows
section
variable {prog:Program}{w:World}{A:Around}{I S T:Addr}{m ep:Nat}{o ot:Obj}{es:Array (Int×Value)}{t:SetTable}{places:Array Value}
structure aIh (prog:Program) (w:World) (A:Around) (S:Addr) (el:List Value) (s s2:Shared) (I:Addr):Prop where
 w:∃ (fp:List Addr) (P:Nat→Value→Prop) (St:Nat→Heap→Prop),Walks prog w A I fp [I] el.length P St∧St 0 s2.heap∧I∈fp∧(∀ b∈fp,b < s2.heap.objs.size∧(b=S∨s.heap.objs.size≤b))∧∀ acc,ItemsOf P acc el.length→acc.toList.Perm el
 keep:∀ b u,s.heap.get? b=some u→s2.heap.get? b=some u
 new:s.heap.objs.size≤I
 gens:s2.gens=s.gens
 os:s2.os=s.os
 toks:s2.toks=s.toks
end
end L2
namespace L2
open PySem PyProof.Rows
section
variable {prog:Program}{w:World}{A:Around}{S:Addr}{ep:Nat}{o:Obj}{es:Array (Int×Value)}{t:SetTable}
end
end L2
namespace L2
open PySem PyProof.Rows
section
variable {prog:Program}{w:World}{A:Around}{S:Addr}{ep:Nat}{o:Obj}{es:Array (Int×Value)}{t:SetTable}
end
end L2
namespace L2
open PySem PyProof.Rows
section
variable {prog:Program}{w:World}{A:Around}{S:Addr}{E:Value→Shared→Prop}{s:Shared}
end
end L2
namespace L2
open PySem PySem.Spec PyProof.Rows
section
variable {X:Cx}{pins:List (Addr×Obj)}{σ:St}{H H':Hp}{s:Shared}{h':Heap}
theorem oM:∀ (p:Str) (l:List Str),risingS p l=true→(∀ x∈l,¬ x.cps.toList < p.cps.toList)∧l.Pairwise fun a b=>¬ b.cps.toList < a.cps.toList
 | p,[],_=>⟨fun x hx=>by simp at hx,List.Pairwise.nil⟩
 | p,x :: r,h=>by
  have h':(!ltCps x.cps.toList p.cps.toList && risingS x r)=true:=h
  rw [Bool.and_eq_true,ltCps_eq] at h'
  have hx:¬ x.cps.toList < p.cps.toList:=by simpa using h'.1
  obtain ⟨i1,i2⟩:=oM x r h'.2
  refine ⟨fun y hy=>?_,List.pairwise_cons.mpr ⟨i1,i2⟩⟩
  rcases List.mem_cons.mp hy with rfl | hy
  ·exact hx
  ·intro z
   have h1:=i1 y hy
   exact hx (List.lt_of_le_of_lt (List.not_lt.mp h1) z)
theorem wN:∀ (l:List Str),sortedS l=true→l.Pairwise fun a b=>¬ b.cps.toList < a.cps.toList
 | [],_=>List.Pairwise.nil
 | x :: r,h=>List.pairwise_cons.mpr (oM x r h)
theorem aEU {a b:Str} (h:a.cps.toList=b.cps.toList):a=b:=by
 cases a;cases b
 congr
 exact Array.toList_inj.mp h
end
end L2
namespace L2
open PySem PySem.Spec PyProof.Rows PySem.W
def aHZ {α:Type} (o:Nat→Nat→Bool):KasT α→α
 | .ret a=>a
 | .ask i j k=>aHZ o (k (o i j))
end L2
namespace L2
open PySem PySem.Spec PyProof.Rows PySem.W
abbrev P3:=Str×Str×Int
inductive aAW (h:Heap) (v:Value) (x:P3):Prop
 | mk (t:_) (u1:_) (u2:_) (u3:_) (q0:v=.ref t) (q1:IsTup h t #[.str x.1 u1,.str x.2.1 u2,.int x.2.2 u3]):aAW h v x
def aH8 (h:Heap) (v:Value) (x:P3):Prop:=aAW h v x
section
variable {prog:Program}{w:World}{A:Around}{E:Value→Shared→Prop}{s:Shared}
end
end L2
namespace L2
open PySem PySem.Spec PyProof.Rows PySem.W
section
variable {prog:Program}{w:World}{A:Around}{E:Value→Shared→Prop}{s:Shared}
end
end L2
namespace L2
open PySem PySem.Spec PyProof.Rows PySem.W
section
variable {prog:Program}{w:World}{A:Around}{E:Value→Shared→Prop}{s:Shared}
end
section
variable {X:Cx}
inductive aAX (H:Hp) (v:V) (x:P3):Prop
 | mk (t:_) (q0:v=.ref t) (q1:H t=some (.tup [.str x.1,.str x.2.1,.int x.2.2])):aAX H v x
def aH9 (H:Hp) (v:V) (x:P3):Prop:=aAX H v x
end
end L2
namespace L2
open PySem PySem.Spec PyProof.Rows PySem.W
def aFB (R:List P3):Prop:=R.Pairwise fun a b=>a.1.cps.toList < b.1.cps.toList
end L2
namespace L2
open PySem PySem.Spec PyProof.Rows PySem.W
section
variable {n:Nat}{π:Nat→Nat}
abbrev Kp (π:Nat→Nat) (p:Array Nat) (j:Nat):Nat:=π (p.getD j 0)
variable (hn:0 < n) (hπ:∀ i j,i < n→j < n→π i=π j→i=j)
include hn hπ
def KF (π:Nat→Nat) (p:Array Nat) (k:Nat):Prop:=∀ j,1≤j→j < k→Kp π p j < Kp π p (j - 1)
omit hn hπ in
omit hn hπ in
end
end L2
namespace L2
open PySem PySem.Spec PyProof.Rows PySem.W
abbrev K3:=Int×Int×Str
abbrev k0:K3:=(0,0,"")
inductive aDq (h:Heap) (v:Value) (k:K3):Prop
 | mk (t:_) (u1:_) (u2:_) (u3:_) (q0:v=.ref t) (q1:IsTup h t #[.int k.1 u1,.int k.2.1 u2,.str k.2.2 u3]):aDq h v k
def aIi (h:Heap) (v:Value) (k:K3):Prop:=aDq h v k
section
variable {prog:Program}{w:World}{A:Around}{E:Value→Shared→Prop}{s:Shared}
end
end L2
namespace L2
open PySem PySem.Spec PyProof.Rows PySem.W
section
variable {prog:Program}{w:World}{A:Around}{E:Value→Shared→Prop}{s:Shared}
end
section
variable {X:Cx}{pins:List (Addr×Obj)}{σ:St}
inductive aAY (H:Hp) (v:Value) (k:K3):Prop
 | mk (t:_) (q0:v=.ref t) (q1:H t=some (.tup [.int k.1,.int k.2.1,.str k.2.2])):aAY H v k
def aHe (H:Hp) (v:Value) (k:K3):Prop:=aAY H v k
structure KsX (KR:V→K3→Prop) (H:Hp) (xd:List V) (ks:List Value) (kk:List K3):Prop where
 len:ks.length=xd.length∧kk.length=xd.length
 key:∀ i,i < xd.length→aHe H (ks.getD i .none) (kk.getD i k0)
 kr:∀ i,i < xd.length→KR (xd.getD i .non) (kk.getD i k0)
end
section
variable {X:Cx}{pins:List (Addr×Obj)}{σ:St}{H:Hp}{s:Shared}
end
end L2
namespace L2
open PySem PySem.Spec PyProof.Rows PySem.W
section
variable {X:Cx}{pins:List (Addr×Obj)}{σ:St}{H:Hp}{s:Shared}{a:Addr}{kvs:List (Key×V)}{k:Key}{u r:Value}{A:Around}{E:Value→Shared→Prop}
end
section
variable {X:Cx}{o e f:Expr}{apos cpos:Pos}{td ty tx:TE}
end
section
variable {X:Cx}{o:Expr}{apos cpos:Pos}{td:TE}
end
section
variable {prog:Program}{w:World}{A:Around}{v d:Addr}{vs:List (Key×Value)}
end
end L2
namespace L2
open PySem PySem.Spec PyProof.Rows PySem.W
section
variable {X:Cx}{e:Expr}{ta:TA}
end
end L2
namespace L2
open PySem PySem.Spec PyProof.Rows
inductive Fm:V→Str→Prop
 | str (z:Str) (h:z.length≤sizeLine):Fm (.str z) z
 | int (i:Int) (h:i.natAbs.log2 < 1920):Fm (.int i) (toString i)
abbrev TJ:=Str→St→Hp→VK→Prop
structure PJ (X:Cx) (es:List Expr) (t:TJ):Prop where
 run:∀ (pins:List (Addr×Obj)) (s:Shared) (σ:St) (H:Hp) (Q:VK) (acc:Str),Inv X pins σ H s→t acc σ H Q→wpAny (model X.prog X.w) X.A (joinParts acc (evalEach es X.env)) (EP X pins σ Q) X.xe s
inductive J0 (acc:Str) (σ:St) (H:Hp) (Q:VK):Prop
 | mk (h:acc.length≤sizeLine) (q:Q (.str acc) H):J0 acc σ H Q
inductive JC (z:Str) (t:TJ) (acc:Str) (σ:St) (H:Hp) (Q:VK):Prop
 | mk (h:(acc ++ z).length≤sizeLine) (q:t (acc ++ z) σ H Q):JC z t acc σ H Q
inductive JF (t:TJ) (acc:Str) (σ:St) (x:V) (H:Hp) (Q:VK):Prop
 | mk (z:Str) (f:Fm x z) (h:(acc ++ z).length≤sizeLine) (q:t (acc ++ z) σ H Q):JF t acc σ x H Q
section
variable {X:Cx}{es:List Expr}{t:TJ}{te:TE}
end
end L2
namespace L2
open PySem PySem.Spec PyProof.Rows PySem.Builtin PySem.Builtin.Str
inductive aEV (x:V) (xs:List V) (H:Hp) (Q:VK):Prop
 | mk (z y:PySem.Str) (h0:x=.str z) (h1:xs=[.str y]) (hy:(y.length == 0)=false) (hz:z.length + 2≤sizeLine) (q:∀ L,H L=none→Q (.ref L) (upd H L (.lst ((Txt.split z y).map V.str)))):aEV x xs H Q
end L2
namespace L2
open PySem PySem.Spec PyProof.Rows
end L2
namespace L2
open PySem PySem.Spec PyProof.Rows PySem.NumText
inductive aHf (xs:List V) (H:Hp) (Q:VK):Prop
 | mk (x:V) (z:Str) (h0:xs=[x]) (f:Fm x z) (q:Q (.str z) H):aHf xs H Q
inductive aHg (xs:List V) (H:Hp) (Q:VK):Prop
 | mk (z:Str) (n:Int) (h0:xs=[.str z]) (hn:PySem.intText? z=some n) (hl:z.length≤640) (q:Q (.int n) H):aHg xs H Q
end L2
namespace L2
open PySem PySem.Spec PyProof.Rows
section
variable {prog:Program}{w:World}{K:Type} [DecidableEq K] {knd:HeapKind prog w K}{A:Around}{E:Value→Shared→Prop}{s:Shared}
end
end L2
namespace L2
open PySem PySem.SetTable
inductive aDr (t:SetTable):Probe→Nat→Prop
 | here {p:Probe} {n:Nat}:t.slot p.j=.empty→aDr t p n
 | step {p:Probe} {n:Nat}:aDr t (t.advance p) n→aDr t p (n + 1)
def aIa (t:SetTable) (i perturb:Nat):Probe:={ j:=i,more:=runEnd t.mask i - i,i:=i,perturb:=perturb,dummy:=none }
def orb (m:Nat):Nat→Nat→Nat
 | 0,i=>i
 | k + 1,i=>orb m k ((i * 5 + 1) % m)
structure aHh (t:SetTable) (n:Nat):Prop where
 size:t.place.size=n
 nod:t.dummies=#[]
 mask:(t.mask=7∧n≤4)∨(t.mask=31∧n≤18)
inductive aDs (owner:Array (Option Nat)):Nat→Nat→Nat→Prop
 | here {i p n:Nat}:(owner.getD i (some 0)).isNone=true→aDs owner i p (n + 1)
 | step {i p n:Nat}:aDs owner (SetTable.leap 31 i p).1 (SetTable.leap 31 i p).2 n→aDs owner i p (n + 1)
structure aIj (owner:Array (Option Nat)) (k:Nat):Prop where
 size:owner.size=32
 perm:((List.range 32).filterMap fun j=>owner.getD j none).Perm (List.range k)
end L2
namespace L2
open PySem PySem.Spec PyProof.Rows
section
variable {prog:Program}{w:World}{A:Around}{E:Value→Shared→Prop}{s:Shared}
inductive aFC (prog:Program) (w:World) (h:Heap) (ks:List (List Str)) (v:Value):Prop
 | mk (b:_) (k:_) (q0:v=.ref b) (q1:IsTupleKey (strKind prog w) h k b) (q2:k∈ks):aFC prog w h ks v
def ElT (prog:Program) (w:World) (h:Heap) (ks:List (List Str)) (v:Value):Prop:=aFC prog w h ks v
end
end L2
namespace L2
open PySem PySem.Spec PyProof.Rows
section
variable {prog:Program}{w:World}{A:Around}{E:Value→Shared→Prop}{s:Shared}
structure aIk (prog:Program) (w:World) (h:Heap) (a:Addr) (rs:List Addr) (ks:List (List Str)) (o:Obj) (es:Array (Int×Value)) (ep:Nat) (t:SetTable):Prop where
 at_:h.get? a=some o
 ex:o.ExactSet
 data:o.data=.set es ep t
 perm:(es.toList.map (·.2)).Perm (rs.map Value.ref)
 els:∀ e∈es.toList,ElT prog w h ks e.2
 tab:aHh t es.size
 led:aDp w es t
end
end L2
namespace L2
open PySem PyProof.Rows
end L2
namespace L2
open PySem PySem.Spec PyProof.Rows PySem.W
abbrev P2:=Str×Str
def aH0 (x y:P2):Bool:=if x.1 == y.1 then (if x.2 == y.2 then false else decide (x.2.cps.toList < y.2.cps.toList)) else decide (x.1.cps.toList < y.1.cps.toList)
inductive aAZ (h:Heap) (v:Value) (x:P2):Prop
 | mk (t:_) (u1:_) (u2:_) (q0:v=.ref t) (q1:IsTup h t #[.str x.1 u1,.str x.2 u2]):aAZ h v x
def aIb (h:Heap) (v:Value) (x:P2):Prop:=aAZ h v x
section
variable {prog:Program}{w:World}{A:Around}{E:Value→Shared→Prop}{s:Shared}
end
section
variable {prog:Program}{w:World}{A:Around}{E:Value→Shared→Prop}{s:Shared}
end
def aIc (R:List P2):Prop:=R.Pairwise fun a b=>aH0 a b=true
end L2
namespace L2
open PySem PySem.Spec PyProof.Rows PySem.W
def aDt (H:Hp) (r:Addr):P2:=match H r with
 | some (.tup [.str x,.str y])=>(x,y)
 | _=>("","")
def aId (H:Hp) (rs:List Addr):Prop:=∀ r∈rs,H r=some (.tup [.str (aDt H r).1,.str (aDt H r).2])
section
variable {P:Program}{w:World}{H:Hp}{h:Heap}{a:Addr}
end
theorem aA0:∀ {rs:List Addr}{its:List Value},cO (rs.map V.ref) its→its=rs.map Value.ref
 | [],_,.nil=>rfl
 | r :: rs,_,.cons e q=>by
  rw [aA0 q]
  cases e
  rfl
section
variable {X:Cx}{pins:List (Addr×Obj)}{σ:St}{H:Hp}{s:Shared}
end
end L2
namespace L2
open PySem PySem.Spec PyProof.Rows PySem.W
section
variable {prog:Program}{w:World}{A:Around}{E:Value→Shared→Prop}{s:Shared}{d I:Addr}{od:Obj}{es:Array DictEntry}{ep i:Nat}
end
section
variable {X:Cx}
end
end L2
namespace L2
open PySem PySem.Spec PyProof.Rows
section
variable {X:Cx}{e st:Expr}{te ts:TE}{pos p2:Pos}
end
end L2
namespace L2
open PySem PySem.Spec PyProof.Rows PySem.W
structure Fly (P:Program) (w:World) (outer:List Env) (H H':Hp) (s:Shared) (x:Addr) (C:Value) (s':Shared):Prop where
 os:s'.os=s.os
 bare:AllBare s'.gens
 ex:∃ (B:Heap) (a0:Value),Heap.FlyingW B outer x C a0 s'.heap∧HOk P w H' B∧(∀ b o,s.heap.get? b=some o→H b=none→b ∉ frs outer→B.get? b=some o)∧∀ b o,s.heap.get? b=some o→b ∉ frs outer→∃ o',B.get? b=some o'
 frf:∀ b∈frs outer,H b=none
 slot:∀ b o,s.heap.get? b=some o→H b=none→b∈frs outer→∃ sl,s'.heap.get? b=some { o with slots:=sl }
 free:∀ b o,s.heap.get? b=some o→H b=none→H' b=none
 tups:∀ b xs,H b=some (.tup xs)→H' b=some (.tup xs)
 frzs:∀ b o u,H b=some (.frz o u)→H' b=some (.frz o u)
 tbls:∀ b ps,H b=some (.tbl ps)→∃ more,H' b=some (.tbl (ps ++ more))
def CXr (P:Program) (w:World):CXT:=fun outer H s E e s'=>∃ (x:Addr) (C:Value) (H':Hp),e=.ref x∧Fly P w outer H H' s x C s'∧E C none H'
theorem Fly.un {P:Program}{w:World}{outer:List Env}{H H':Hp}{s s':Shared}{x:Addr}{C:Value} (h:Fly P w outer H H' s x C s'):Un (frs outer) [] H H' s.heap s'.heap:=by
 obtain ⟨B,a0,fl,hok,hk,ht⟩:=h.ex
 refine ⟨fun b o e n hf _=>fl.1 b o (hk b o e n hf),fun b o e n hf _=>h.slot b o e n hf,fun b o e n _=>h.free b o e n,fun b o e _=>?_,h.tups,h.frzs,h.tbls⟩
 by_cases hm:b∈frs outer
 ·obtain ⟨sl,e1⟩:=h.slot b o e (h.frf b hm) hm
  exact ⟨_,e1⟩
 ·obtain ⟨o1,e1⟩:=ht b o e hm
  exact ⟨o1,fl.1 b o1 e1⟩
theorem Fly.hok {P:Program}{w:World}{outer:List Env}{H H':Hp}{s s':Shared}{x:Addr}{C:Value} (h:Fly P w outer H H' s x C s'):HOk P w H' s'.heap:=by
 obtain ⟨B,a0,fl,hok,hk,ht⟩:=h.ex
 exact hok.kept fl.1
section
variable {P:Program}{w:World}{K:PySem.W.Frag}{mg:Str→Option Value}{base:Heap}{N:List Str}{qual:Str}{scope:Scope}{f:Addr}{cd:Value}{A:Around}{outer:List Env}{s:Shared}{H:Hp}{E:XK}
theorem aDu {pins:List (Addr×Obj)}{σ:St}{H1:Hp}{s1:Shared}{h':Heap}{e C:Addr}{args:List Value} (I:Inv (iL (CXr P w) P w K mg base N qual scope f cd A outer s H E) pins σ H1 s1)
  (hx:Heap.MadeExcOf s1.heap h' e (.ref C) args) (hE:E (.ref C) none H1):(iL (CXr P w) P w K mg base N qual scope f cd A outer s H E).xe (.ref e) { s1 with heap:=h' }:=by
 have hin:∀ env∈(envOfC qual scope s.heap.objs.size f cd :: outer),∀ b,env.frame=some b→b∈frs (envOfC qual scope s.heap.objs.size f cd :: outer):=fun env he b hb=>List.mem_filterMap.mpr ⟨env,he,hb⟩
 have hst:s1.heap.FunFrames base (envOfC qual scope s.heap.objs.size f cd :: outer):=I.stack
 have hsf:∀ b∈frs (envOfC qual scope s.heap.objs.size f cd :: outer),H1 b=none:=I.stkFree
 show wpAny _ _ (leaving _ _) _ _ _
 refine wpAny_leaves_madeW (base:=hideAll s1.heap (frs (envOfC qual scope s.heap.objs.size f cd :: outer))) (h:=s1.heap) (L:=s.heap.objs.size) I.ok.frames rfl (fun b o q=>of_hideAll _ q) (funFrames_hide hst hin) hx fun h'' t x1 x2 x3 x4=>?_
 have hL:∀ b,b∈frs (envOfC qual scope s.heap.objs.size f cd :: outer)→b=s.heap.objs.size∨b∈frs outer:=fun b hb=>by
  obtain ⟨env,he,hf⟩:=List.mem_filterMap.mp hb
  rcases List.mem_cons.mp he with rfl | he
  ·exact .inl (Option.some.inj hf).symm
  ·exact .inr (List.mem_filterMap.mpr ⟨env,he,hf⟩)
 have keepB:∀ b o,s.heap.get? b=some o→H b=none→b ∉ frs outer→(hideAll s1.heap (frs (envOfC qual scope s.heap.objs.size f cd :: outer))).get? b=some o:=fun b o q n nf=>
  hideAll_get _ (I.base.keep b o q n nf (by simp [iL])) fun hm=>by
   rcases hL b hm with z | z
   ·rw [z] at q;exact absurd (Heap.lt_size q) (Nat.lt_irrefl _)
   ·exact nf z
 have slot:∀ b o,s.heap.get? b=some o→H b=none→b∈frs outer→∃ sl,h''.get? b=some { o with slots:=sl }:=fun b o q n hf=>by
  obtain ⟨sl,e1⟩:=I.base.slot b o q n hf (by simp [iL])
  have hm:b∈frs (envOfC qual scope s.heap.objs.size f cd :: outer):=by
   obtain ⟨env,he,hf⟩:=List.mem_filterMap.mp hf
   exact List.mem_filterMap.mpr ⟨env,.tail _ he,hf⟩
  obtain ⟨_,o2,e2,hd⟩:=hst.mem hm
  rw [e1] at e2
  cases e2
  obtain ⟨sl2,e3⟩:=x4 b _ (hx.keeps b _ e1) hd
  exact ⟨sl2,e3⟩
 refine ⟨e,.ref C,H1,rfl,⟨I.os,I.bare,⟨_,_,x1,fun a o q=>(I.hok a o q).stay (fun b u hb e=>hideAll_get _ e fun hm=>?_) (fun _ q=>q) fun _ _ q=>q,keepB,fun b o q nf=>?_⟩,I.ok.frf,slot,fun b o q n=>I.base.free b o q n (by simp [iL]),I.base.tups,I.base.frzs,I.base.tbls⟩,hE⟩
 ·have hn:=hsf b hm
  rcases hb with rfl | hb
  ·rw [q] at hn;cases hn
  ·rw [hb] at hn;cases hn
 ·obtain ⟨o1,e1⟩:=I.base.there b o q (by simp [iL])
  refine ⟨o1,hideAll_get _ e1 fun hm=>?_⟩
  rcases hL b hm with z | z
  ·rw [z] at q;exact absurd (Heap.lt_size q) (Nat.lt_irrefl _)
  ·exact nf z
theorem aDv {E':XK} (hE:∀ C dx H',E' C dx H'→E C dx H'):lM (CXr P w) (iL (CXr P w) P w K mg base N qual scope f cd A outer s H E) E':=by
 rintro pins σ H1 s1 e s2 I ⟨x,C,H2,rfl,F,hE'⟩
 have hst:s1.heap.FunFrames base (envOfC qual scope s.heap.objs.size f cd :: outer):=I.stack
 have hsf:∀ b∈frs (envOfC qual scope s.heap.objs.size f cd :: outer),H1 b=none:=I.stkFree
 obtain ⟨B,a0,fl,hokB,hkB,htB⟩:=F.ex
 have fl:Heap.FlyingW B (envOfC qual scope s.heap.objs.size f cd :: outer) x C a0 s2.heap:=fl
 show wpAny _ _ (leaving _ _) _ _ _
 refine wpAny_leaves_onW (base:=B) (L:=s.heap.objs.size) I.ok.frames rfl fl fun h'' y1 y2=>?_
 have hL:∀ b,b∈frs (envOfC qual scope s.heap.objs.size f cd :: outer)→b=s.heap.objs.size∨b∈frs outer:=fun b hb=>by
  obtain ⟨env,he,hf⟩:=List.mem_filterMap.mp hb
  rcases List.mem_cons.mp he with rfl | he
  ·exact .inl (Option.some.inj hf).symm
  ·exact .inr (List.mem_filterMap.mpr ⟨env,he,hf⟩)
 have up:∀ b,b∈frs outer→b∈frs (envOfC qual scope s.heap.objs.size f cd :: outer):=fun b hf=>by
  obtain ⟨env,he,hf⟩:=List.mem_filterMap.mp hf
  exact List.mem_filterMap.mpr ⟨env,.tail _ he,hf⟩
 have nox:∀ b:Addr,b ∉ (iL (CXr P w) P w K mg base N qual scope f cd A outer s H E).ex:=fun b=>by simp [iL]
 have slot2:∀ b o,s1.heap.get? b=some o→H1 b=none→b∈frs (envOfC qual scope s.heap.objs.size f cd :: outer)→∃ sl,h''.get? b=some { o with slots:=sl }:=fun b o q n hm=>by
  obtain ⟨sl,e1⟩:=F.slot b o q n hm
  obtain ⟨_,o2,e2,hd⟩:=hst.mem hm
  rw [q] at e2
  cases e2
  obtain ⟨sl2,e3⟩:=y2 b _ e1 hd
  exact ⟨sl2,e3⟩
 refine ⟨x,C,H2,rfl,⟨F.os.trans I.os,F.bare,⟨B,a0,y1,hokB,fun b o q n nf=>hkB b o (I.base.keep b o q n nf (nox b)) (I.base.free b o q n (nox b)) fun hm=>?_,fun b o q nf=>?_⟩,I.ok.frf,fun b o q n hf=>?_,fun b o q n=>?_,fun b xs q=>F.tups b xs (I.base.tups b xs q),fun b o u q=>F.frzs b o u (I.base.frzs b o u q),fun b ps q=>?_⟩,hE _ _ _ hE'⟩
 ·rcases hL b hm with z | z
  ·rw [z] at q;exact absurd (Heap.lt_size q) (Nat.lt_irrefl _)
  ·exact nf z
 ·obtain ⟨o1,e1⟩:=I.base.there b o q (nox b)
  refine htB b o1 e1 fun hm=>?_
  rcases hL b hm with z | z
  ·rw [z] at q;exact absurd (Heap.lt_size q) (Nat.lt_irrefl _)
  ·exact nf z
 ·obtain ⟨sl,e1⟩:=I.base.slot b o q n hf (nox b)
  obtain ⟨sl2,e2⟩:=slot2 b _ e1 (I.base.free b o q n (nox b)) (up b hf)
  exact ⟨sl2,e2⟩
 ·obtain ⟨o1,e1⟩:=I.base.there b o q (nox b)
  exact F.free b o1 e1 (I.base.free b o q n (nox b))
 ·obtain ⟨m1,e1⟩:=I.base.tbls b ps q
  obtain ⟨m2,e2⟩:=F.tbls b _ e1
  exact ⟨m1 ++ m2,by rw [← Array.append_assoc];exact e2⟩
end
end L2
namespace L2
open PySem PySem.Spec PyProof.Rows PySem.W
structure aA1 (h:Heap) (C:Addr) (bmB:List Value) (newId:String) (tl:List Value) (N':Addr) (nm q:Str) (bs:List Value) (hdct:Bool) (sn:List Str) (sub:List Value) (ab:Bool) (col:Option Bool) (dd:Option Addr) (k0 k1 k2 k3 k5:Option Value) (mN:Str→Option Value):Prop where
 ob:h.get? C=some (excClassObj nm q C N' bs tl hdct sn sub ab col dd k0 k1 k2 k3 k5 newId)
 ns:h.Ns N' mN
 ni:mN "__init__"=none
 tl:OwnTail h bmB tl
theorem aA1.keeps {h h':Heap}{C:Addr}{bmB:List Value}{newId:String}{tl:List Value}{N':Addr}{nm q:Str}{bs:List Value}{hdct:Bool}{sn:List Str}{sub:List Value}{ab:Bool}{col:Option Bool}{dd:Option Addr}{k0 k1 k2 k3 k5:Option Value}{mN:Str→Option Value}
  (x:aA1 h C bmB newId tl N' nm q bs hdct sn sub ab col dd k0 k1 k2 k3 k5 mN) (k:∀ b o,h.get? b=some o→h'.get? b=some o):aA1 h' C bmB newId tl N' nm q bs hdct sn sub ab col dd k0 k1 k2 k3 k5 mN:=⟨k _ _ x.ob,x.ns.keeps k,x.ni,x.tl.keeps k⟩
theorem aGi {K:PySem.W.Frag}{h:Heap}{C:Addr}{bmB:List Value}{newId:String} (X:K.In h) (hq:excIn K C bmB newId=true):
  ∃ tl N' nm q bs hdct sn sub ab col dd k0 k1 k2 k3 k5 mN,aA1 h C bmB newId tl N' nm q bs hdct sn sub ab col dd k0 k1 k2 k3 k5 mN:=by
 unfold excIn at hq
 split at hq
 ·rename_i d1 cl slots lk
  split at hq
  ·rename_i c1 bm1 j0 j1 j2 j3 nid j5 em es
   simp only [Bool.and_eq_true,beq_iff_eq,Bool.not_eq_true'] at hq
   obtain ⟨⟨⟨⟨⟨z1,z2⟩,z3⟩,z4⟩,z5⟩,z6⟩:=hq
   subst z1 z2
   have hsl:slots=#[j0,j1,j2,j3,some (.builtin nid),j5]:=Array.toList_inj.mp es
   cases cl
   simp only at em z3 z5 z6
   subst em z3 hsl
   exact ⟨_,_,_,_,_,_,_,_,_,_,_,_,_,_,_,_,_,X _ _ lk,.of_isNs (isNs_of_in X z5),nsMap_none_of_in X z5 z6,tail_of_in X z4⟩
  ·cases hq
 ·cases hq
section
variable {P:Program}{w:World}{K:PySem.W.Frag}{mg:Str→Option Value}{base:Heap}{N:List Str}{qual:Str}{scope:Scope}{f:Addr}{cd:Value}{A:Around}{outer:List Env}{s:Shared}{H:Hp}{E:XK}
theorem x9 {x:Str}{C:Addr}{B newId initId:String}{bmB:List Value}{np cpos pos:Pos}{e0:Expr}{es:List Expr}{t:TA} (FB:ExcBaseFacts B newId initId bmB) (hg:Gl (iL (CXr P w) P w K mg base N qual scope f cd A outer s H E) x) (hm:mg x=some (.ref C)) (hq:excIn K C bmB newId=true) (ha:PA (iL (CXr P w) P w K mg base N qual scope f cd A outer s H E) (e0 :: es) t)
  (he:starEach (e0 :: es) (iL (CXr P w) P w K mg base N qual scope f cd A outer s H E).env=(false,eval e0 (iL (CXr P w) P w K mg base N qual scope f cd A outer s H E).env) :: starEach es (iL (CXr P w) P w K mg base N qual scope f cd A outer s H E).env:=by rfl)
  (hpl:(backTo cpos (starEach es (iL (CXr P w) P w K mg base N qual scope f cd A outer s H E).env)).any (·.1)=false:=by rfl) (hd:(x == ("__debug__":Str))=false:=by decide):
  PS (iL (CXr P w) P w K mg base N qual scope f cd A outer s H E) (.Raise (some (.Call (.Name x np) (e0 :: es) [] cpos)) none pos) (fun D σ H1=>t σ H1 fun vs H2=>vs.length≤sizeLine∧E (.ref C) none H2):=by
 constructor
 intro pins s1 σ H1 D I h
 obtain ⟨tl,N',nm,q,bs,hdct,sn,sub,ab,col,dd,k0,k1,k2,k3,k5,mN,hO⟩:=aGi (C:=C) I.ok.mod.kin hq
 have o1:=hO.keeps I.bk
 refine wpAny_Raise_call_subT (C:=C) (nm:=nm) (q:=q) (N:=N') (bs:=bs) (bm:=tl) (hdct:=hdct) (sn:=sn) (sub:=sub) (ab:=ab) (col:=col) (dd:=dd) (k0:=k0) (k1:=k1) (k2:=k2) (k3:=k3) (k5:=k5)
  FB (mN:=mN) (o1.tl.hasType FB.hasBase) (I.ok.hd rfl) ?_ o1.ni ?_
 ·rw [he]
  show (false || (backTo cpos (starEach es (iL (CXr P w) P w K mg base N qual scope f cd A outer s H E).env)).any (·.1))=false
  rw [hpl]
  rfl
 ·refine wpAny_mono ((d8 (v:=.ref C) hg hm rfl hd).run pins s1 σ H1 (fun v H'=>v=.ref C∧H'=H1) I ⟨rfl,rfl⟩) (fun u s2 hu=>?_) fun _ _ y=>y
  obtain ⟨v,H2,I2,rv,rfl,rfl⟩:=hu
  cases rv
  refine ⟨rfl,?_⟩
  have hrun:=ha cpos pins s2 σ H2 _ I2 h
  rw [he] at hrun ⊢
  refine Calls.evalArgs_plain (wpAny_mono hrun (fun us s3 hu=>?_) fun _ _ y=>y)
  obtain ⟨vs,H3,I3,r3,hl,hE⟩:=hu
  have o3:=hO.keeps I3.bk
  exact ⟨rfl,by rw [← r3.length];exact hl,o3.ob,o3.ns,o3.tl,fun h' e hx=>aDu I3 hx hE⟩
theorem Fun.okR {x qual:Str}{st:Stmt}{f:Addr}{fd:FuncData}{N ps:List Str}{k:Nat}{sp:Sp} (F:Fun K x qual st f fd) (S:cA N ps (aM st)) (len:∀ vs H Q E,sp vs H Q E→vs.length=ps.length)
  (hbody:∀ (cdv:Value) (A:Around) (outer:List Env) (s:Shared) (H:Hp) (vs:List V) (Q:VK) (E:XK),dF k (A.deeper (envOfC qual (aM st) s.heap.objs.size f cdv))→sp vs H Q E→
   ∃ t,PSs (iL (CXr P w) P w K mg base N qual (aM st) f cdv A outer s H E) (bZ st) t∧t { nx:=fun _ H'=>Q .non H',rt:=Q } (start N vs) H):cC P w K mg base (CXr P w) (k + 1) f fd ps sp:=by
 obtain ⟨oc,od,kV,doc,pm,an,cdv,ct,osl,rfl,lk,hcd⟩:=F.ex
 exact aCS lk hcd S len fun A outer s H vs Q E hr hsp=>hbody cdv A outer s H vs Q E hr hsp
end
end L2
namespace L2
open PySem PySem.Spec PyProof.Rows PySem.W
theorem Fly.lands {P:Program}{w:World}{M:Model}{A:Around}{env:Env}{outer:List Env}{L:Addr}{base:Heap}{H H':Hp}{s s2:Shared}{x:Addr}{C:Value}{Q E:Value→Shared→Prop}{R:Shared→Prop} (F:Fly P w (env :: outer) H H' s x C s2)
  (hst:s.heap.FunFrames base (env :: outer)) (hfr:A.frames=some (env :: outer)) (hf:env.frame=some L) (k:∀ h5,Fly P w (env :: outer) H H' s x C { s2 with heap:=h5 }→R { s2 with heap:=h5 }):
  wpAny M A (noteFrame (.ref x) env) (fun _ s3=>wpAny M A (setFlight (.ref x) none) (fun _ s4=>R s4) E s3) E s2:=by
 obtain ⟨B,a0,fl,hokB,hkB,htB⟩:=F.ex
 refine wpAny_looks_onW hfr hf fl fun h4 held u4=>?_
 refine wpAny_landsW (s:={ s2 with heap:=h4 }) held fun h5 fl5 u5=>k h5 ?_
 refine ⟨F.os,F.bare,⟨B,a0,fl5,hokB,hkB,htB⟩,F.frf,fun b o q n hm=>?_,F.free,F.tups,F.frzs,F.tbls⟩
 obtain ⟨sl,e1⟩:=F.slot b o q n hm
 obtain ⟨_,o2,e2,hd⟩:=hst.mem hm
 rw [q] at e2
 cases e2
 obtain ⟨sl2,e3⟩:=(u4.trans u5) b _ e1 hd
 exact ⟨sl2,e3⟩
theorem Inv.caught {X:Cx}{pins:List (Addr×Obj)}{σ:St}{H H':Hp}{s s':Shared}{x:Addr}{C:Value} (I:Inv X pins σ H s) (F:Fly X.prog X.w X.stack H H' s x C s'):Inv X pins σ H' s':=
 I.call' (ch:=[]) F.os F.un F.hok F.bare (fun b z=>absurd z (by simp))
theorem Fly.obj {P:Program}{w:World}{outer:List Env}{H H':Hp}{s s':Shared}{x:Addr}{C:Value} (F:Fly P w outer H H' s x C s'):∃ ob vs,s'.heap.get? x=some ob∧ob.cls=C∧ob.data=.fields vs:=by
 obtain ⟨B,a0,fl,_⟩:=F.ex
 obtain ⟨_,_,_,oe,vs,_,_,_,he,hc,hd,_⟩:=fl
 exact ⟨oe,vs,he,hc.1,hd⟩
end L2
namespace L2
open PySem PySem.Spec PyProof.Rows PySem.W
def aEW:Bool→Keyed→Array Keyed→Nat→Nat→Nat→StateT SortSt Sem (Option Nat):=sortPriv% PySem.Builtin.gallop
def aDw:Array Keyed→Array Keyed→StateT SortSt Sem (Array Keyed):=sortPriv% PySem.Builtin.mergeLo
def aDx:Array Keyed→Array Keyed→StateT SortSt Sem (Array Keyed):=sortPriv% PySem.Builtin.mergeHi
section
variable {prog:Program}{w:World}{A:Around}{E:Value→Shared→Prop}{s:Shared}{κ:SortKind}{it:Array Keyed}
def pM (prog:Program) (w:World) (A:Around) (s:Shared) (κ:SortKind) (it:Array Keyed):Prop:=
 ∀ x y,x∈it.toList→y∈it.toList→∀ C:Bool→Shared→Prop,(∀ b,C b s)→wpAny (model prog w) A (keyLt' κ x.1 y.1) C (fun _ _=>False) s
theorem fG {arr:Array Keyed}{i:Nat}{p:Keyed}{st:SortSt}{Q:Keyed→SortSt→Prop} (hi:arr[i]?=some p) (h:Q p st):wpS (model prog w) A E s (elem' arr i) Q st:=by
 rw [elem'_eq,hi]
 exact wpS_pure h
variable (hc:pM prog w A s κ it)
include hc
theorem sW {x y:Keyed}{st:SortSt}{Q:Option Bool→SortSt→Prop} (hk:kindOf st=κ) (hx:x∈it.toList) (hy:y∈it.toList) (h:∀ b,Q (some b) st):wpS (model prog w) A E s (lt' x y) Q st:=by
 rw [lt'_eq]
 refine wpS_bind (wpS_get ?_)
 rw [hk]
 refine wpS_bind (wpS_lift (wpAny_attempt (wpAny_mono (hc x y hx hy (fun b s'=>s'=s) fun _=>rfl) (fun b s' e=>⟨e,?_⟩) fun _ _ e=>e.elim)))
 exact wpS_pure (h b)
theorem hJ {left:Bool}{key:Keyed}{arr:Array Keyed}{base n hint:Nat}{st:SortSt}{Q:Option Nat→SortSt→Prop} (hkey:key∈it.toList) (harr:∀ i,i < n→∃ p,arr[base + i]?=some p∧p∈it.toList) (hh:hint < n) (hk:kindOf st=κ)
  (h:∀ k,k≤n→Q (some k) st):wpS (model prog w) A E s (aEW left key arr base n hint) Q st:=by
 have bey:∀ (i:Nat) (Q':Option Bool→SortSt→Prop),i < n→(∀ b,Q' (some b) st)→wpS (model prog w) A E s (do
   let x ← elem' arr (base + i)
   if left=true then lt' x key else do
    let r ← lt' key x
    pure (r.map fun b=>!b)) Q' st:=fun i Q' hi q=>by
  obtain ⟨p,e,hp⟩:=harr i hi
  refine wpS_bind (fG e ?_)
  split
  ·exact sW hc hk hp hkey q
  ·exact wpS_bind (sW hc hk hkey hp fun b=>wpS_pure (q _))
 refine wpS_bind (bey hint _ hh fun b=>?_)
 dsimp only
 split <;>
 ·refine wpS_bind (wpS_mono (wpS_forRange (I:=fun _ c st'=>st'=st∧c.1=none) (Q:=fun c st'=>st'=st∧c.1=none) ?_ (fun c st' z=>z) ⟨rfl,rfl⟩) ?_)
  ·rintro x ⟨r,lo,ofs⟩ st' _ _ ⟨rfl,z⟩
   cases z
   dsimp only
   split
   ·exact wpS_pure ⟨rfl,rfl⟩
   ·refine wpS_bind (bey _ _ (by omega) fun b=>?_)
    dsimp only
    split <;> exact wpS_pure ⟨rfl,rfl⟩
  ·rintro ⟨r,lo,ofs⟩ st' ⟨rfl,z⟩
   cases z
   dsimp only
   refine wpS_bind (wpS_mono (wpS_forRange (I:=fun _ c st''=>st''=st'∧c.1=none∧c.2.2≤n) (Q:=fun c st''=>st''=st'∧c.1=none∧c.2.2≤n) ?_ (fun c st' z=>z) ⟨rfl,rfl,?_⟩) ?_)
   ·rintro x ⟨r,lo,hi⟩ st'' _ _ ⟨rfl,z,z2⟩
    cases z
    dsimp only at z2 ⊢
    split
    ·exact wpS_pure ⟨rfl,rfl,z2⟩
    ·refine wpS_bind (bey _ _ (by omega) fun b=>?_)
     dsimp only
     split
     ·exact wpS_pure ⟨rfl,rfl,z2⟩
     ·exact wpS_pure ⟨rfl,rfl,by dsimp only;omega⟩
   ·dsimp only;omega
   ·rintro ⟨r,lo,hi⟩ st'' ⟨rfl,z,z2⟩
    cases z
    exact wpS_pure (h _ z2)
end
end L2
namespace L2
open PySem PySem.Spec PyProof.Rows PySem.W
def Pl (a b out:Array Keyed) (ia ib:Nat):Prop:=(out.toList ++ (a.toList.drop ia ++ b.toList.drop ib)).Perm (a.toList ++ b.toList)
section
variable {a b out:Array Keyed}{ia ib k:Nat}
theorem vD {c:Array Keyed}{i:Nat}{p:Keyed} (e:c[i]?=some p):c.toList.drop i=p :: c.toList.drop (i + 1):=by
 have e':c.toList[i]?=some p:=by rw [Array.getElem?_toList];exact e
 obtain ⟨h1,h2⟩:=List.getElem?_eq_some_iff.mp e'
 rw [← h2]
 exact List.drop_eq_getElem_cons h1
theorem eQ {c:Array Keyed}{i j:Nat}:(c.extract i j).toList=(c.toList.drop i).take (j - i):=by simp
theorem rF {c:Array Keyed}{i:Nat}:(c.extract i c.size).toList=c.toList.drop i:=by
 rw [eQ,List.take_of_length_le]
 simp
theorem Pl.pushA {p:Keyed} (h:Pl a b out ia ib) (e:a[ia]?=some p):Pl a b (out.push p) (ia + 1) ib:=by
 unfold Pl at h ⊢
 rw [vD e] at h
 rw [Array.toList_push,List.append_assoc]
 exact h
theorem Pl.pushB {p:Keyed} (h:Pl a b out ia ib) (e:b[ib]?=some p):Pl a b (out.push p) ia (ib + 1):=by
 unfold Pl at h ⊢
 rw [vD e] at h
 rw [Array.toList_push,List.append_assoc]
 exact (List.Perm.append_left _ (List.perm_middle (l₁:=a.toList.drop ia) (a:=p)).symm).trans h
theorem Pl.runA (h:Pl a b out ia ib):Pl a b (out ++ a.extract ia (ia + k)) (ia + k) ib:=by
 unfold Pl at h ⊢
 rw [Array.toList_append,eQ,Nat.add_sub_cancel_left,List.append_assoc,← List.append_assoc (List.take _ _),← List.drop_drop,List.take_append_drop]
 exact h
theorem Pl.runB (h:Pl a b out ia ib):Pl a b (out ++ b.extract ib (ib + k)) ia (ib + k):=by
 unfold Pl at h ⊢
 refine List.Perm.trans ?_ h
 rw [Array.toList_append,eQ,Nat.add_sub_cancel_left,List.append_assoc]
 refine List.Perm.append_left _ ?_
 refine (List.perm_append_comm_assoc _ _ _).trans (List.Perm.append_left _ ?_)
 rw [← List.drop_drop,List.take_append_drop]
theorem Pl.fin (h:Pl a b out ia ib):(out ++ a.extract ia a.size ++ b.extract ib b.size).Perm (a ++ b):=by
 rw [Array.perm_iff_toList_perm,Array.toList_append,Array.toList_append,Array.toList_append,rF,rF,List.append_assoc]
 exact h
theorem Pl.fin2 (h:Pl a b out ia ib):(out ++ b.extract ib b.size ++ a.extract ia a.size).Perm (a ++ b):=by
 rw [Array.perm_iff_toList_perm,Array.toList_append,Array.toList_append,Array.toList_append,rF,rF,List.append_assoc]
 exact (List.Perm.append_left _ List.perm_append_comm).trans h
theorem Pl.start {p:Keyed} (e:b[0]?=some p):Pl a b #[p] 0 1:=by
 have h:Pl a b #[] 0 0:=List.Perm.refl _
 exact h.pushB e
end
theorem bQ {M:Model}{A:Around}{E:Value→Shared→Prop}{s:Shared}{σ α:Type}{c:Prop} [Decidable c] {m1 m2:StateT σ Sem α}{Q:α→σ→Prop}{st:σ} (h1:c→wpS M A E s m1 Q st) (h2:¬ c→wpS M A E s m2 Q st):wpS M A E s (if c then m1 else m2) Q st:=by
 split
 ·exact h1 ‹_›
 ·exact h2 ‹_›
structure Sg (st st':SortSt):Prop where
 kind:kindOf st'=kindOf st
 arr:arrOf st'=arrOf st
 pend:pendingOf st'=pendingOf st
 fail:failedOf st'=failedOf st
theorem Sg.refl (st:SortSt):Sg st st:=⟨rfl,rfl,rfl,rfl⟩
theorem iJ {i j:Nat} (h:¬ (i == j)=true):i≠j:=fun z=>h (by rw [z];exact beq_self_eq_true _)
structure GL (a b:Array Keyed) (x:Nat) (out:Array Keyed) (ia ib:Nat):Prop where
 pl:Pl a b out ia ib
 la:ia + 1 < a.size
 lb:ib < b.size
 on:x≤ia + ib
section
variable {prog:Program}{w:World}{A:Around}{E:Value→Shared→Prop}{s:Shared}{κ:SortKind}{it:Array Keyed} (hc:pM prog w A s κ it)
include hc
theorem yA {a b:Array Keyed}{st:SortSt}{Q:Array Keyed→SortSt→Prop} (ha:1≤a.size) (hb:1≤b.size) (iA:∀ p∈a.toList,p∈it.toList) (iB:∀ p∈b.toList,p∈it.toList) (hk:kindOf st=κ)
  (h:∀ out st',out.Perm (a ++ b)→Sg st st'→Q out st'):wpS (model prog w) A E s (aDw a b) Q st:=by
 have gA:∀ i,i < a.size→∃ p,a[i]?=some p∧p∈it.toList:=fun i hi=>⟨_,Array.getElem?_eq_getElem hi,iA _ (by simp)⟩
 have gB:∀ i,i < b.size→∃ p,b[i]?=some p∧p∈it.toList:=fun i hi=>⟨_,Array.getElem?_eq_getElem hi,iB _ (by simp)⟩
 refine wpS_bind (wpS_lift (wpAny_rule ⟨rfl,?_⟩))
 obtain ⟨p0,e0,_⟩:=gB 0 hb
 refine wpS_bind (fG e0 ?_)
 refine bQ (fun _=>wpS_pure (h _ _ (Pl.start e0).fin (Sg.refl _))) fun n1=>?_
 have n1':1≠b.size:=fun z=>n1 (by rw [← z];rfl)
 refine bQ (fun _=>wpS_pure (h _ _ (Pl.start e0).fin2 (Sg.refl _))) fun n2=>?_
 have n2':1≠a.size:=fun z=>n2 (by rw [← z];rfl)
 refine wpS_bind (wpS_get ?_)
 dsimp only
 have elA:∀ (i:Nat) (Q':Keyed→SortSt→Prop) (st':SortSt),i < a.size→(∀ p,a[i]?=some p→p∈it.toList→Q' p st')→wpS (model prog w) A E s (elem' a i) Q' st':=fun i Q' st' hi q=>by
  obtain ⟨p,e,hp⟩:=gA i hi
  exact fG e (q p e hp)
 have elB:∀ (i:Nat) (Q':Keyed→SortSt→Prop) (st':SortSt),i < b.size→(∀ p,b[i]?=some p→p∈it.toList→Q' p st')→wpS (model prog w) A E s (elem' b i) Q' st':=fun i Q' st' hi q=>by
  obtain ⟨p,e,hp⟩:=gB i hi
  exact fG e (q p e hp)
 refine wpS_bind (wpS_mono (wpS_forRange (I:=fun x c st'=>c.1=none∧GL a b x c.2.1 c.2.2.1 c.2.2.2.1∧Sg st st') (Q:=fun c st'=>∃ r,c.1=some r∧r.Perm (a ++ b)∧Sg st st') ?_ (fun c st' z=>?_) ⟨rfl,⟨Pl.start e0,by dsimp only;omega,by dsimp only;omega,by dsimp only;omega⟩,Sg.refl _⟩) ?_)
 ·rintro x ⟨r,out,ia,ib,mg⟩ st' _ hx ⟨z,g,sg⟩
  cases z
  dsimp only at g ⊢
  refine wpS_bind (wpS_mono (wpS_forRange (I:=fun y c st'=>c.1=none∧GL a b (x + y) c.2.1 c.2.2.1 c.2.2.2.1∧Sg st st') (Q:=fun c st'=>Sg st st'∧((∃ r,c.1=some r∧r.Perm (a ++ b))∨(c.1=none∧GL a b (x + 1) c.2.1 c.2.2.1 c.2.2.2.1))) ?_ (fun c st' z=>?_) ⟨rfl,g,sg⟩) ?_)
  ·rintro y ⟨r,out,ia,ib,ac,bc⟩ st' _ hy ⟨z,g,sg⟩
   cases z
   obtain ⟨hP,h1,h2,h3⟩:=g
   dsimp only at hP h1 h2 h3 ⊢
   refine wpS_bind (elB _ _ _ h2 fun p ep hp=>wpS_bind (elA _ _ _ (by omega) fun q eq hq=>wpS_bind (sW hc (sg.kind.trans hk) hp hq fun bw=>?_)))
   refine bQ (fun _=>?_) fun _=>?_
   ·refine wpS_bind (elB _ _ _ h2 fun p' ep' _=>?_)
    refine bQ (fun _=>wpS_pure ⟨sg,.inl ⟨_,rfl,(hP.pushB ep').fin⟩⟩) fun n=>?_
    have n':ib + 1≠b.size:=fun z=>n (by rw [z];exact beq_self_eq_true _)
    exact bQ (fun _=>wpS_pure ⟨sg,.inr ⟨rfl,hP.pushB ep',h1,by dsimp only;omega,by dsimp only;omega⟩⟩) fun _=>wpS_pure ⟨rfl,⟨hP.pushB ep',h1,by dsimp only;omega,by dsimp only;omega⟩,sg⟩
   ·refine wpS_bind (elA _ _ _ (by omega) fun p' ep' _=>?_)
    refine bQ (fun _=>wpS_pure ⟨sg,.inl ⟨_,rfl,(hP.pushA ep').fin2⟩⟩) fun n=>?_
    have n':ia + 1 + 1≠a.size:=fun z=>n (by rw [z];exact beq_self_eq_true _)
    exact bQ (fun _=>wpS_pure ⟨sg,.inr ⟨rfl,hP.pushA ep',by dsimp only;omega,h2,by dsimp only;omega⟩⟩) fun _=>wpS_pure ⟨rfl,⟨hP.pushA ep',by dsimp only;omega,h2,by dsimp only;omega⟩,sg⟩
  ·obtain ⟨z1,⟨hP,h1,h2,h3⟩,sg⟩:=z
   exact ⟨sg,.inr ⟨z1,hP,h1,h2,by omega⟩⟩
  ·rintro ⟨r,out,ia,ib,ac,bc⟩ st' ⟨sg,⟨r',z,hr⟩ | ⟨z,g⟩⟩
   ·cases z
    exact wpS_pure ⟨_,rfl,hr,sg⟩
   ·cases z
    dsimp only at g ⊢
    refine wpS_bind (wpS_lift (wpAny_rule ⟨rfl,?_⟩))
    refine wpS_bind (wpS_mono (wpS_forRange (I:=fun y c st'=>c.1=none∧GL a b (x + 1) c.2.1 c.2.2.1 c.2.2.2.1∧Sg st st') (Q:=fun c st'=>Sg st st'∧((∃ r,c.1=some r∧r.Perm (a ++ b))∨(c.1=none∧GL a b (x + 1) c.2.1 c.2.2.1 c.2.2.2.1))) ?_ (fun c st' z=>⟨z.2.2,.inr ⟨z.1,z.2.1⟩⟩) ⟨rfl,g,sg⟩) ?_)
    ·rintro y ⟨r,out,ia,ib,mg,ac,bc⟩ st' _ hy ⟨z,g,sg⟩
     cases z
     obtain ⟨hP,h1,h2,h3⟩:=g
     dsimp only at hP h1 h2 h3 ⊢
     refine bQ (fun _=>wpS_bind (wpS_modify ?_)) fun _=>wpS_bind (wpS_modify ?_)
     all_goals
      refine wpS_bind (elB _ _ _ h2 fun p ep hp=>wpS_bind (hJ hc hp (fun i hi=>gA _ (by omega)) (by omega) (sg.kind.trans hk) fun k hk1=>?_))
      dsimp only
      refine bQ (fun kp=>bQ (fun _=>wpS_pure ⟨⟨sg.1,sg.2,sg.3,sg.4⟩,.inl ⟨_,rfl,(hP.runA (k:=k)).fin2⟩⟩) fun na=>bQ (fun _=>wpS_pure ⟨⟨sg.1,sg.2,sg.3,sg.4⟩,.inl ⟨_,rfl,(hP.runA (k:=k)).fin⟩⟩) fun nb=>?_) fun _=>?_
      all_goals
       first | (have e1:=iJ na;have e2:=iJ nb;have hP1:=hP.runA (k:=k);have h1':ia + k + 1 < a.size:=by omega) | (have hP1:=hP;have h1':=h1)
       refine wpS_bind (elB _ _ _ h2 fun p' ep' _=>bQ (fun _=>wpS_pure ⟨⟨sg.1,sg.2,sg.3,sg.4⟩,.inl ⟨_,rfl,(hP1.pushB ep').fin⟩⟩) fun n=>?_)
       have n':=iJ n
       have hP2:=hP1.pushB ep'
       refine wpS_bind (elA _ _ _ (by omega) fun q eq hq=>wpS_bind (hJ hc hq (fun i hi=>gB _ (by omega)) (by omega) (sg.kind.trans hk) fun k2 hk2=>?_))
       dsimp only
       refine bQ (fun kp2=>bQ (fun _=>wpS_pure ⟨⟨sg.1,sg.2,sg.3,sg.4⟩,.inl ⟨_,rfl,(hP2.runB (k:=k2)).fin⟩⟩) fun nc=>?_) fun _=>?_
       all_goals
        first | (have e3:=iJ nc;have hP3:=hP2.runB (k:=k2)) | have hP3:=hP2
        refine wpS_bind (elA _ _ _ (by omega) fun q' eq' _=>bQ (fun _=>wpS_pure ⟨⟨sg.1,sg.2,sg.3,sg.4⟩,.inl ⟨_,rfl,(hP3.pushA eq').fin2⟩⟩) fun nd=>?_)
        have e4:=iJ nd
        exact bQ (fun _=>wpS_pure ⟨⟨sg.1,sg.2,sg.3,sg.4⟩,.inr ⟨rfl,hP3.pushA eq',by dsimp only;omega,by dsimp only;omega,by dsimp only;omega⟩⟩) fun _=>wpS_pure ⟨rfl,⟨hP3.pushA eq',by dsimp only;omega,by dsimp only;omega,by dsimp only;omega⟩,sg.1,sg.2,sg.3,sg.4⟩
    ·rintro ⟨r,out,ia,ib,mg,ac,bc⟩ st' ⟨sg,⟨r',z,hr⟩ | ⟨z,g⟩⟩
     ·cases z
      exact wpS_pure ⟨_,rfl,hr,sg⟩
     ·cases z
      exact wpS_bind (wpS_modify (wpS_pure ⟨rfl,g,sg.1,sg.2,sg.3,sg.4⟩))
 ·obtain ⟨z1,⟨hP,h1,h2,h3⟩,sg⟩:=z
  exfalso
  omega
 ·rintro ⟨r,out,ia,ib,mg⟩ st' ⟨r',z,hr,sg⟩
  cases z
  exact wpS_pure (h _ _ hr sg)
end
end L2
namespace L2
open PySem PySem.Spec PyProof.Rows PySem.W
def Ph (a b out:Array Keyed) (na nb:Nat):Prop:=(out.toList ++ (a.toList.take na ++ b.toList.take nb)).Perm (a.toList ++ b.toList)
section
variable {a b out:Array Keyed}{na nb k:Nat}
theorem vE {c:Array Keyed}{i:Nat}{p:Keyed} (h:1≤i) (e:c[i - 1]?=some p):c.toList.take i=c.toList.take (i - 1) ++ [p]:=by
 obtain ⟨j,rfl⟩:∃ j,i=j + 1:=⟨i - 1,by omega⟩
 rw [Nat.add_sub_cancel] at e ⊢
 rw [List.take_succ,Array.getElem?_toList,e]
 rfl
theorem yB {c:Array Keyed}{i j:Nat} (h:i≤j):c.toList.take j=c.toList.take i ++ (c.extract i j).toList:=by
 rw [eQ]
 obtain ⟨d,rfl⟩:∃ d,j=i + d:=⟨j - i,by omega⟩
 rw [Nat.add_sub_cancel_left]
 exact List.take_add
theorem Ph.pushA {p:Keyed} (h:Ph a b out na nb) (h1:1≤na) (e:a[na - 1]?=some p):Ph a b (out.push p) (na - 1) nb:=by
 unfold Ph at h ⊢
 refine List.Perm.trans ?_ h
 rw [vE h1 e,Array.toList_push,List.append_assoc,List.append_assoc]
 exact List.Perm.append_left _ (List.perm_append_comm_assoc _ _ _)
theorem Ph.pushB {p:Keyed} (h:Ph a b out na nb) (h1:1≤nb) (e:b[nb - 1]?=some p):Ph a b (out.push p) na (nb - 1):=by
 unfold Ph at h ⊢
 refine List.Perm.trans ?_ h
 rw [vE h1 e,Array.toList_push,List.append_assoc,← List.append_assoc (List.take na _)]
 exact List.Perm.append_left _ List.perm_append_comm
theorem Ph.runA (h:Ph a b out na nb) (h1:k≤na):Ph a b (out ++ (a.extract k na).reverse) k nb:=by
 unfold Ph at h ⊢
 refine List.Perm.trans ?_ h
 rw [yB h1,Array.toList_append,Array.toList_reverse,List.append_assoc,List.append_assoc]
 exact List.Perm.append_left _ ((List.Perm.append_right _ (List.reverse_perm _)).trans (List.perm_append_comm_assoc _ _ _))
theorem Ph.runB (h:Ph a b out na nb) (h1:k≤nb):Ph a b (out ++ (b.extract k nb).reverse) na k:=by
 unfold Ph at h ⊢
 refine List.Perm.trans ?_ h
 rw [yB h1,Array.toList_append,Array.toList_reverse,List.append_assoc,← List.append_assoc (List.take na _)]
 exact List.Perm.append_left _ ((List.Perm.append_right _ (List.reverse_perm _)).trans List.perm_append_comm)
theorem Ph.fin (h:Ph a b out na nb):(a.extract 0 na ++ b.extract 0 nb ++ out.reverse).Perm (a ++ b):=by
 rw [Array.perm_iff_toList_perm,Array.toList_append,Array.toList_append,Array.toList_append,eQ,eQ,Array.toList_reverse]
 exact (List.perm_append_comm.trans (List.Perm.append_right _ (List.reverse_perm _))).trans h
theorem Ph.fin2 (h:Ph a b out na nb):(b.extract 0 nb ++ a.extract 0 na ++ out.reverse).Perm (a ++ b):=by
 rw [Array.perm_iff_toList_perm,Array.toList_append,Array.toList_append,Array.toList_append,eQ,eQ,Array.toList_reverse]
 exact ((List.perm_append_comm.trans (List.Perm.append_right _ (List.reverse_perm _))).trans (List.Perm.append_left _ List.perm_append_comm)).trans h
theorem Ph.start {p:Keyed} (h:1≤a.size) (e:a[a.size - 1]?=some p):Ph a b #[p] (a.size - 1) b.size:=by
 have h0:Ph a b #[] a.size b.size:=by
  unfold Ph
  rw [List.take_of_length_le (by simp),List.take_of_length_le (by simp)]
  exact List.Perm.refl _
 exact h0.pushA h e
end
structure GH (a b:Array Keyed) (x:Nat) (out:Array Keyed) (na nb:Nat):Prop where
 pl:Ph a b out na nb
 la:1≤na
 lb:2≤nb
 ua:na≤a.size
 ub:nb≤b.size
 on:x + na + nb≤a.size + b.size
section
variable {prog:Program}{w:World}{A:Around}{E:Value→Shared→Prop}{s:Shared}{κ:SortKind}{it:Array Keyed} (hc:pM prog w A s κ it)
include hc
theorem yC {a b:Array Keyed}{st:SortSt}{Q:Array Keyed→SortSt→Prop} (ha:1≤a.size) (hb:1≤b.size) (iA:∀ p∈a.toList,p∈it.toList) (iB:∀ p∈b.toList,p∈it.toList) (hk:kindOf st=κ)
  (h:∀ out st',out.Perm (a ++ b)→Sg st st'→Q out st'):wpS (model prog w) A E s (aDx a b) Q st:=by
 have gA:∀ i,i < a.size→∃ p,a[i]?=some p∧p∈it.toList:=fun i hi=>⟨_,Array.getElem?_eq_getElem hi,iA _ (by simp)⟩
 have gB:∀ i,i < b.size→∃ p,b[i]?=some p∧p∈it.toList:=fun i hi=>⟨_,Array.getElem?_eq_getElem hi,iB _ (by simp)⟩
 refine wpS_bind (wpS_lift (wpAny_rule ⟨rfl,?_⟩))
 obtain ⟨p0,e0,_⟩:=gA (a.size - 1) (by omega)
 refine wpS_bind (fG e0 ?_)
 refine bQ (fun _=>wpS_pure (h _ _ (Ph.start ha e0).fin (Sg.refl _))) fun n1=>?_
 have n1':=iJ n1
 refine bQ (fun _=>wpS_pure (h _ _ (Ph.start ha e0).fin2 (Sg.refl _))) fun n2=>?_
 have n2':=iJ n2
 refine wpS_bind (wpS_get ?_)
 dsimp only
 have elA:∀ (i:Nat) (Q':Keyed→SortSt→Prop) (st':SortSt),i < a.size→(∀ p,a[i]?=some p→p∈it.toList→Q' p st')→wpS (model prog w) A E s (elem' a i) Q' st':=fun i Q' st' hi q=>by
  obtain ⟨p,e,hp⟩:=gA i hi
  exact fG e (q p e hp)
 have elB:∀ (i:Nat) (Q':Keyed→SortSt→Prop) (st':SortSt),i < b.size→(∀ p,b[i]?=some p→p∈it.toList→Q' p st')→wpS (model prog w) A E s (elem' b i) Q' st':=fun i Q' st' hi q=>by
  obtain ⟨p,e,hp⟩:=gB i hi
  exact fG e (q p e hp)
 refine wpS_bind (wpS_mono (wpS_forRange (I:=fun x c st'=>c.1=none∧GH a b x c.2.2.2.1 c.2.1 c.2.2.1∧Sg st st') (Q:=fun c st'=>∃ r,c.1=some r∧r.Perm (a ++ b)∧Sg st st') ?_ (fun c st' z=>?_) ⟨rfl,⟨Ph.start ha e0,by dsimp only;omega,by dsimp only;omega,by dsimp only;omega,by dsimp only;omega,by dsimp only;omega⟩,Sg.refl _⟩) ?_)
 ·rintro x ⟨r,na,nb,out,mg⟩ st' _ hx ⟨z,g,sg⟩
  cases z
  dsimp only at g ⊢
  refine wpS_bind (wpS_mono (wpS_forRange (I:=fun y c st'=>c.1=none∧GH a b (x + y) c.2.2.2.1 c.2.1 c.2.2.1∧Sg st st') (Q:=fun c st'=>Sg st st'∧((∃ r,c.1=some r∧r.Perm (a ++ b))∨(c.1=none∧GH a b (x + 1) c.2.2.2.1 c.2.1 c.2.2.1))) ?_ (fun c st' z=>?_) ⟨rfl,g,sg⟩) ?_)
  ·rintro y ⟨r,na,nb,out,ac,bc⟩ st' _ hy ⟨z,g,sg⟩
   cases z
   obtain ⟨hP,h1,h2,h3,h4,h5⟩:=g
   dsimp only at hP h1 h2 h3 h4 h5 ⊢
   refine wpS_bind (elB _ _ _ (by omega) fun p ep hp=>wpS_bind (elA _ _ _ (by omega) fun q eq hq=>wpS_bind (sW hc (sg.kind.trans hk) hp hq fun bw=>?_)))
   refine bQ (fun _=>?_) fun _=>?_
   ·refine wpS_bind (elA _ _ _ (by omega) fun p' ep' _=>?_)
    refine bQ (fun _=>wpS_pure ⟨sg,.inl ⟨_,rfl,(hP.pushA h1 ep').fin⟩⟩) fun n=>?_
    have n':=iJ n
    exact bQ (fun _=>wpS_pure ⟨sg,.inr ⟨rfl,hP.pushA h1 ep',by dsimp only;omega,h2,by dsimp only;omega,h4,by dsimp only;omega⟩⟩) fun _=>wpS_pure ⟨rfl,⟨hP.pushA h1 ep',by dsimp only;omega,h2,by dsimp only;omega,h4,by dsimp only;omega⟩,sg⟩
   ·refine wpS_bind (elB _ _ _ (by omega) fun p' ep' _=>?_)
    refine bQ (fun _=>wpS_pure ⟨sg,.inl ⟨_,rfl,(hP.pushB (by omega) ep').fin2⟩⟩) fun n=>?_
    have n':=iJ n
    exact bQ (fun _=>wpS_pure ⟨sg,.inr ⟨rfl,hP.pushB (by omega) ep',h1,by dsimp only;omega,h3,by dsimp only;omega,by dsimp only;omega⟩⟩) fun _=>wpS_pure ⟨rfl,⟨hP.pushB (by omega) ep',h1,by dsimp only;omega,h3,by dsimp only;omega,by dsimp only;omega⟩,sg⟩
  ·obtain ⟨z1,⟨hP,h1,h2,h3,h4,h5⟩,sg⟩:=z
   exact ⟨sg,.inr ⟨z1,hP,h1,h2,h3,h4,by omega⟩⟩
  ·rintro ⟨r,na,nb,out,ac,bc⟩ st' ⟨sg,⟨r',z,hr⟩ | ⟨z,g⟩⟩
   ·cases z
    exact wpS_pure ⟨_,rfl,hr,sg⟩
   ·cases z
    dsimp only at g ⊢
    refine wpS_bind (wpS_lift (wpAny_rule ⟨rfl,?_⟩))
    refine wpS_bind (wpS_mono (wpS_forRange (I:=fun y c st'=>c.1=none∧GH a b (x + 1) c.2.2.2.1 c.2.1 c.2.2.1∧Sg st st') (Q:=fun c st'=>Sg st st'∧((∃ r,c.1=some r∧r.Perm (a ++ b))∨(c.1=none∧GH a b (x + 1) c.2.2.2.1 c.2.1 c.2.2.1))) ?_ (fun c st' z=>⟨z.2.2,.inr ⟨z.1,z.2.1⟩⟩) ⟨rfl,g,sg⟩) ?_)
    ·rintro y ⟨r,na,nb,out,mg,ac,bc⟩ st' _ hy ⟨z,g,sg⟩
     cases z
     obtain ⟨hP,h1,h2,h3,h4,h5⟩:=g
     dsimp only at hP h1 h2 h3 h4 h5 ⊢
     refine bQ (fun _=>wpS_bind (wpS_modify ?_)) fun _=>wpS_bind (wpS_modify ?_)
     all_goals
      refine wpS_bind (elB _ _ _ (by omega) fun p ep hp=>wpS_bind (hJ hc hp (fun i hi=>gA _ (by omega)) (by omega) (sg.kind.trans hk) fun k hk1=>?_))
      dsimp only
      refine bQ (fun kp=>bQ (fun _=>wpS_pure ⟨⟨sg.1,sg.2,sg.3,sg.4⟩,.inl ⟨_,rfl,(hP.runA hk1).fin⟩⟩) fun na=>?_) fun kz=>?_
      all_goals
       first | (have e1:=iJ na;have hP1:=hP.runA hk1;have h1':1≤k:=by omega) | (have hP1:=hP;have h1':=h1)
       refine wpS_bind (elB _ _ _ (by omega) fun p' ep' _=>bQ (fun _=>wpS_pure ⟨⟨sg.1,sg.2,sg.3,sg.4⟩,.inl ⟨_,rfl,(hP1.pushB (by omega) ep').fin2⟩⟩) fun n=>?_)
       have n':=iJ n
       have hP2:=hP1.pushB (by omega) ep'
       refine wpS_bind (elA _ _ _ (by omega) fun q eq hq=>wpS_bind (hJ hc hq (fun i hi=>gB _ (by omega)) (by omega) (sg.kind.trans hk) fun k2 hk2=>?_))
       dsimp only
       refine bQ (fun kp2=>bQ (fun _=>wpS_pure ⟨⟨sg.1,sg.2,sg.3,sg.4⟩,.inl ⟨_,rfl,(hP2.runB hk2).fin2⟩⟩) fun nc=>bQ (fun _=>wpS_pure ⟨⟨sg.1,sg.2,sg.3,sg.4⟩,.inl ⟨_,rfl,(hP2.runB hk2).fin⟩⟩) fun nd=>?_) fun _=>?_
       all_goals
        first | (have e3:=iJ nc;have e3':=iJ nd;have hP3:=hP2.runB hk2) | have hP3:=hP2
        refine wpS_bind (elA _ _ _ (by omega) fun q' eq' _=>bQ (fun _=>wpS_pure ⟨⟨sg.1,sg.2,sg.3,sg.4⟩,.inl ⟨_,rfl,(hP3.pushA h1' eq').fin⟩⟩) fun nd=>?_)
        have e4:=iJ nd
        exact bQ (fun _=>wpS_pure ⟨⟨sg.1,sg.2,sg.3,sg.4⟩,.inr ⟨rfl,hP3.pushA h1' eq',by dsimp only;omega,by dsimp only;omega,by dsimp only;omega,by dsimp only;omega,by dsimp only;omega⟩⟩) fun _=>wpS_pure ⟨rfl,⟨hP3.pushA h1' eq',by dsimp only;omega,by dsimp only;omega,by dsimp only;omega,by dsimp only;omega,by dsimp only;omega⟩,sg.1,sg.2,sg.3,sg.4⟩
    ·rintro ⟨r,na,nb,out,mg,ac,bc⟩ st' ⟨sg,⟨r',z,hr⟩ | ⟨z,g⟩⟩
     ·cases z
      exact wpS_pure ⟨_,rfl,hr,sg⟩
     ·cases z
      exact wpS_bind (wpS_modify (wpS_pure ⟨rfl,g,sg.1,sg.2,sg.3,sg.4⟩))
 ·obtain ⟨z1,⟨hP,h1,h2,h3,h4,h5⟩,sg⟩:=z
  exfalso
  omega
 ·rintro ⟨r,na,nb,out,mg⟩ st' ⟨r',z,hr,sg⟩
  cases z
  exact wpS_pure (h _ _ hr sg)
end
end L2
namespace L2
open PySem PySem.Spec PyProof.Rows PySem.W
structure Sm (st st':SortSt):Prop where
 kind:kindOf st'=kindOf st
 arr:(arrOf st').Perm (arrOf st)
 pend:pendingOf st'=pendingOf st
 fail:failedOf st'=failedOf st
theorem Sm.refl (st:SortSt):Sm st st:=⟨rfl,Array.Perm.refl _,rfl,rfl⟩
theorem Sm.trans {st st' st'':SortSt} (a:Sm st st') (b:Sm st' st''):Sm st st'':=⟨b.1.trans a.1,b.2.trans a.2,b.3.trans a.3,b.4.trans a.4⟩
theorem Sm.rev (st:SortSt) (i j k:Nat):Sm st (setArr st (mirror (arrOf st) i j k)):=⟨rfl,mirror_perm _ _ _ _,rfl,rfl⟩
theorem Sm.bub (st:SortSt) (i j:Nat):Sm st (setArr st (bubble (arrOf st) i j)):=⟨rfl,bubble_perm _ _ _,rfl,rfl⟩
structure GS (κ:SortKind) (it:Array Keyed) (st:SortSt):Prop where
 kind:kindOf st=κ
 perm:(arrOf st).Perm it
 fail:failedOf st=none
theorem GS.on {κ:SortKind}{it:Array Keyed}{st st':SortSt} (g:GS κ it st) (m:Sm st st'):GS κ it st':=⟨m.1.trans g.1,m.2.trans g.2,m.4.trans g.3⟩
section
variable {prog:Program}{w:World}{A:Around}{E:Value→Shared→Prop}{s:Shared}{κ:SortKind}{it:Array Keyed}
theorem GS.get {st:SortSt} (g:GS κ it st) {i:Nat} (hi:i < it.size):∃ p,(arrOf st)[i]?=some p∧p∈it.toList:=by
 have hi':i < (arrOf st).size:=by rw [g.perm.size_eq];exact hi
 exact ⟨_,Array.getElem?_eq_getElem hi',(Array.perm_iff_toList_perm.mp g.perm).mem_iff.mp (by simp)⟩
theorem oO {st:SortSt}{i j:Nat}{Q:Unit→SortSt→Prop} (h:∀ st',Sm st st'→Q () st'):wpS (model prog w) A E s (reverseSlice' i j) Q st:=by
 rw [reverseSlice'_eq]
 exact wpS_modify (h _ (Sm.rev _ _ _ _))
theorem aDy {st:SortSt}{i j:Nat}{Q:Unit→SortSt→Prop} (h:∀ st',Sm st st'→Q () st'):wpS (model prog w) A E s (moveDown' i j) Q st:=by
 rw [moveDown'_eq]
 exact wpS_modify (h _ (Sm.bub _ _ _))
variable (hc:pM prog w A s κ it)
include hc
theorem jW {st:SortSt}{i j:Nat}{Q:Option Bool→SortSt→Prop} (g:GS κ it st) (hi:i < it.size) (hj:j < it.size) (h:∀ b,Q (some b) st):wpS (model prog w) A E s (ltAt' i j) Q st:=by
 obtain ⟨p,e1,hp⟩:=g.get hi
 obtain ⟨q,e2,hq⟩:=g.get hj
 rw [ltAt'_eq]
 exact wpS_bind (wpS_get (wpS_bind (fG e1 (wpS_bind (fG e2 (sW hc g.kind hp hq h))))))
theorem aB4 {lo nrem:Nat}{st:SortSt}{Q:Option Nat→SortSt→Prop} (g:GS κ it st) (h1:1≤nrem) (hz:lo + nrem≤it.size) (h:∀ n st',1≤n→n≤nrem→Sm st st'→Q (some n) st'):wpS (model prog w) A E s (countRun' lo nrem) Q st:=by
 have rise:∀ (n0:Nat) (st0:SortSt) (Q':Option (Option Nat)×Nat→SortSt→Prop),GS κ it st0→1≤n0→n0≤nrem→(∀ n,n0≤n→n≤nrem→Q' (none,n) st0)→wpS (model prog w) A E s (forIn [n0:nrem] (none,n0) fun _ c=>do
   let r ← ltAt' (lo + c.2) (lo + c.2 - 1)
   match r with
   | some b=>if b=true then pure (ForInStep.done (none,c.2)) else pure (ForInStep.yield (none,c.2 + 1))
   | _=>pure (ForInStep.done (some none,c.2))) Q' st0:=fun n0 st0 Q' g0 hn0 hn1 q=>by
  refine wpS_mono (wpS_forRange (I:=fun x c st'=>st'=st0∧c=(none,x)) (Q:=fun c st'=>st'=st0∧∃ n,c=(none,n)∧n0≤n∧n≤nrem) ?_ (fun c st' z=>⟨z.1,_,z.2,by omega,by omega⟩) ⟨rfl,rfl⟩) fun c st' z=>?_
  ·rintro x c st' hx1 hx2 ⟨rfl,rfl⟩
   refine wpS_bind (jW hc g0 (by dsimp only;omega) (by dsimp only;omega) fun b=>?_)
   refine bQ (fun _=>wpS_pure ⟨rfl,_,rfl,hx1,by omega⟩) fun _=>wpS_pure ⟨rfl,rfl⟩
  ·obtain ⟨rfl,n,rfl,z1,z2⟩:=z
   exact q n z1 z2
 rw [countRun'_eq]
 refine wpS_bind (rise 1 st _ g (Nat.le_refl _) h1 fun n hn1 hn2=>?_)
 dsimp only
 refine bQ (fun _=>wpS_pure (h n st hn1 hn2 (Sm.refl _))) fun ne=>?_
 have ne':=iJ ne
 refine bQ (fun _=>wpS_bind (jW hc g (by omega) (by omega) fun b=>bQ (fun _=>wpS_pure (h n st hn1 hn2 (Sm.refl _))) fun _=>wpS_bind (oO fun st1 m1=>?_))) fun _=>?_
 all_goals
  first | (have g1:=g.on m1;have m1':=m1) | (have g1:=g;have m1':=Sm.refl st)
  refine wpS_bind (wpS_lift (wpAny_rule ⟨rfl,?_⟩))
  refine wpS_bind (wpS_mono (wpS_forRange (I:=fun x c st'=>c.1=none∧c.2.1=x∧Sm st st') (Q:=fun c st'=>c.1=none∧1≤c.2.1∧c.2.1≤nrem∧Sm st st') ?_ (fun c st' z=>⟨z.1,by have:=z.2.1;omega,by have:=z.2.1;omega,z.2.2⟩) ⟨rfl,rfl,m1'⟩) ?_)
  ·rintro x ⟨r,n',q⟩ st' hx1 hx2 ⟨z1,z2,m2⟩
   dsimp only at z1 z2 ⊢
   subst z1 z2
   refine wpS_bind (jW hc (g.on m2) (by omega) (by omega) fun b=>?_)
   refine bQ (fun _=>bQ (fun _=>wpS_bind (oO fun st3 m3=>wpS_pure ⟨rfl,rfl,m2.trans m3⟩)) fun _=>wpS_pure ⟨rfl,rfl,m2⟩) fun _=>?_
   refine wpS_bind (jW hc (g.on m2) (by omega) (by omega) fun b=>?_)
   exact bQ (fun _=>wpS_pure ⟨rfl,by dsimp only;omega,by dsimp only;omega,m2⟩) fun _=>wpS_pure ⟨rfl,rfl,m2⟩
  ·rintro ⟨r,n',q⟩ st' ⟨z1,z2,z3,m2⟩
   dsimp only at z1 z2 z3 ⊢
   subst z1
   refine bQ (fun _=>wpS_bind (oO fun st3 m3=>wpS_bind (oO fun st4 m4=>?_))) fun _=>wpS_bind (oO fun st4 m4=>?_)
   ·exact wpS_bind (rise n' st4 _ (g.on ((m2.trans m3).trans m4)) z2 z3 fun n'' a1 a2=>wpS_pure (h n'' st4 (by omega) a2 ((m2.trans m3).trans m4)))
   ·exact wpS_bind (rise n' st4 _ (g.on (m2.trans m4)) z2 z3 fun n'' a1 a2=>wpS_pure (h n'' st4 (by omega) a2 (m2.trans m4)))
theorem aAb {lo n ok:Nat}{st:SortSt}{Q:Bool→SortSt→Prop} (g:GS κ it st) (hz:lo + n≤it.size) (h:∀ st',Sm st st'→Q true st'):wpS (model prog w) A E s (binarySort' lo n ok) Q st:=by
 rw [binarySort'_eq]
 refine wpS_bind (wpS_mono (wpS_forRange (I:=fun x c st'=>c.1=none∧Sm st st') (Q:=fun c st'=>c.1=none∧Sm st st') ?_ (fun c st' z=>z) ⟨rfl,Sm.refl _⟩) ?_)
 ·rintro k ⟨r,u⟩ st' hx1 hx2 ⟨z1,m⟩
  dsimp only at z1 ⊢
  subst z1
  refine wpS_bind (wpS_mono (wpS_forRange (I:=fun x c st''=>c.1=none∧c.2.2≤k∧st''=st') (Q:=fun c st''=>c.1=none∧st''=st') ?_ (fun c st' z=>⟨z.1,z.2.2⟩) ⟨rfl,Nat.le_refl _,rfl⟩) ?_)
  ·rintro x ⟨r,l,q⟩ st'' _ hx ⟨z1,z2,rfl⟩
   dsimp only at z1 z2 ⊢
   subst z1
   refine bQ (fun _=>wpS_pure ⟨rfl,rfl⟩) fun hlr=>?_
   refine wpS_bind (jW hc (g.on m) (by omega) (by omega) fun b=>?_)
   exact bQ (fun _=>wpS_pure ⟨rfl,by dsimp only;omega,rfl⟩) fun _=>wpS_pure ⟨rfl,by dsimp only;omega,rfl⟩
  ·rintro ⟨r,l,q⟩ st'' ⟨z1,rfl⟩
   dsimp only at z1 ⊢
   subst z1
   exact wpS_bind (aDy fun st3 m3=>wpS_pure ⟨rfl,m.trans m3⟩)
 ·rintro ⟨r,u⟩ st' ⟨z1,m⟩
  dsimp only at z1 ⊢
  subst z1
  exact wpS_pure (h st' m)
end
end L2
namespace L2
open PySem PySem.Spec PyProof.Rows PySem.W
def hU:List (Nat×Nat×Nat)→Nat→Nat→Prop
 | [],a,b=>a=b
 | r :: l,a,b=>r.1=a∧1≤r.2.1∧hU l (a + r.2.1) b
theorem hU.le:∀ {l:List (Nat×Nat×Nat)}{a b:Nat},hU l a b→a≤b
 | [],a,b,h=>Nat.le_of_eq h
 | r :: l,a,b,h=>by have:=hU.le h.2.2;omega
theorem hU.snoc {n x:Nat} (hn:1≤n):∀ {l:List (Nat×Nat×Nat)}{a b:Nat},hU l a b→hU (l ++ [(b,n,x)]) a (b + n)
 | [],a,b,h=>⟨(show a=b from h).symm,hn,by show a + n=b + n;rw [show a=b from h]⟩
 | r :: l,a,b,h=>⟨h.1,h.2.1,hU.snoc hn h.2.2⟩
theorem hU.mod {f:Nat×Nat×Nat→Nat×Nat×Nat} (hf:∀ r,(f r).1=r.1∧(f r).2.1=r.2.1):∀ {l:List (Nat×Nat×Nat)}{a b:Nat} (i:Nat),hU l a b→hU (l.modify i f) a b
 | [],a,b,i,h=>by rw [List.modify_nil];exact h
 | r :: l,a,b,0,h=>by
  rw [List.modify_zero_cons]
  exact ⟨(hf r).1.trans h.1,by rw [(hf r).2];exact h.2.1,by rw [(hf r).2];exact h.2.2⟩
 | r :: l,a,b,i + 1,h=>by
  rw [List.modify_succ_cons]
  exact ⟨h.1,h.2.1,hU.mod hf i h.2.2⟩
theorem hU.two {sa na pw sb nb pv:Nat}:∀ {l:List (Nat×Nat×Nat)}{a b:Nat} (i:Nat),hU l a b→l[i]?=some (sa,na,pw)→l[i + 1]?=some (sb,nb,pv)→sa + na=sb∧1≤na∧1≤nb∧sb + nb≤b∧hU ((l.set i (sa,na + nb,pw)).eraseIdx (i + 1)) a b
 | [],a,b,i,h,e1,e2=>by simp at e1
 | [r],a,b,0,h,e1,e2=>by simp at e2
 | r :: r' :: l,a,b,0,h,e1,e2=>by
  simp at e1 e2
  subst e1 e2
  obtain ⟨h1,h2,h3,h4,h5⟩:=h
  dsimp only at h1 h2 h3 h4 h5
  have:=h5.le
  refine ⟨by omega,h2,h4,by omega,h1,by dsimp only;omega,?_⟩
  dsimp only
  rw [← Nat.add_assoc]
  exact h5
 | r :: l,a,b,i + 1,h,e1,e2=>by
  obtain ⟨x1,x2,x3,x4,x5⟩:=hU.two i h.2.2 (by simpa using e1) (by simpa using e2)
  exact ⟨x1,x2,x3,x4,h.1,h.2.1,x5⟩
theorem aA2:∀ (l:List Keyed) (j k:Nat) (c:Array Keyed),((l.zipIdx j).foldl (fun a q=>a.setIfInBounds (k + q.2) q.1) c).toList=c.toList.take (k + j) ++ (l ++ c.toList.drop (k + j + l.length))∨c.size < k + j + l.length
 | [],j,k,c=>.inl (by simp)
 | p :: l,j,k,c=>by
  by_cases hz:c.size < k + j + (p :: l).length
  ·exact .inr hz
  ·refine .inl ?_
   rw [List.zipIdx_cons,List.foldl_cons]
   have hl:k + j < c.toList.length:=by simp at hz ⊢;omega
   rcases aA2 l (j + 1) k (c.setIfInBounds (k + j) p) with e | e
   ·rw [e,Array.toList_setIfInBounds]
    have e1:(c.toList.set (k + j) p).take (k + (j + 1))=c.toList.take (k + j) ++ [p]:=by
     rw [← Nat.add_assoc,List.take_succ,List.getElem?_set_self hl,List.take_set_of_le (Nat.le_refl _)]
     rfl
    have e2:(c.toList.set (k + j) p).drop (k + (j + 1) + l.length)=c.toList.drop (k + j + (p :: l).length):=by
     rw [List.drop_set_of_lt (by omega),List.length_cons]
     congr 1
     omega
    rw [e1,e2,List.append_assoc]
    rfl
   ·exfalso
    simp at e hz
    omega
theorem aDz {c x:Array Keyed}{sa n:Nat} (hx:x.toList.Perm ((c.toList.drop sa).take n)) (hz:sa + n≤c.size):(x.toList.zipIdx.foldl (fun a q=>a.setIfInBounds (sa + q.2) q.1) c).Perm c:=by
 have hl:x.toList.length=n:=by
  rw [hx.length_eq]
  simp
  omega
 rcases aA2 x.toList 0 sa c with e | e
 ·rw [Array.perm_iff_toList_perm,e]
  rw [Nat.add_zero,hl]
  have e3:c.toList=c.toList.take sa ++ ((c.toList.drop sa).take n ++ c.toList.drop (sa + n)):=by
   rw [← List.drop_drop,List.take_append_drop,List.take_append_drop]
  refine List.Perm.trans (List.Perm.append_left _ (List.Perm.append_right _ hx)) ?_
  rw [← e3]
 ·rw [hl] at e
  omega
section
variable {prog:Program}{w:World}{A:Around}{E:Value→Shared→Prop}{s:Shared}{κ:SortKind}{it:Array Keyed}
theorem aEX {M:Model}{σ:Type}{a:σ}{Q:PUnit→σ→Prop}{st:σ} (h:Q ⟨⟩ a):wpS M A E s (set a:StateT σ Sem PUnit) Q st:=by
 unfold wpS;rw [StateT.run_set];exact wpAny_pure ⟨rfl,h⟩
variable (hc:pM prog w A s κ it)
include hc
theorem qI {i lo:Nat}{st:SortSt}{Q:Bool→SortSt→Prop} (g:GS κ it st) (hs:hU (pendingOf st).toList 0 lo) (hlo:lo≤it.size) (hi:i + 1 < (pendingOf st).size) (h:∀ st',GS κ it st'→hU (pendingOf st').toList 0 lo→(pendingOf st').size + 1=(pendingOf st).size→Q true st'):
  wpS (model prog w) A E s (mergeAt' i) Q st:=by
 obtain ⟨⟨sa,na,pw⟩,ea⟩:∃ r,(pendingOf st)[i]?=some r:=⟨_,Array.getElem?_eq_getElem (by omega)⟩
 obtain ⟨⟨sb,nb,pv⟩,eb⟩:∃ r,(pendingOf st)[i + 1]?=some r:=⟨_,Array.getElem?_eq_getElem hi⟩
 have ea':(pendingOf st).toList[i]?=some (sa,na,pw):=by rw [Array.getElem?_toList];exact ea
 have eb':(pendingOf st).toList[i + 1]?=some (sb,nb,pv):=by rw [Array.getElem?_toList];exact eb
 obtain ⟨x1,x2,x3,x4,x5⟩:=hU.two i hs ea' eb'
 have hps:(((pendingOf st).setIfInBounds i (sa,na + nb,pw)).eraseIdxIfInBounds (i + 1)).toList=((pendingOf st).toList.set i (sa,na + nb,pw)).eraseIdx (i + 1):=by simp
 have hpz:(((pendingOf st).setIfInBounds i (sa,na + nb,pw)).eraseIdxIfInBounds (i + 1)).size + 1=(pendingOf st).size:=by
  rw [← Array.length_toList,hps,List.length_eraseIdx_of_lt (by rw [List.length_set,Array.length_toList];exact hi),List.length_set,Array.length_toList]
  omega
 have hz:(arrOf st).size=it.size:=g.perm.size_eq
 refine wpS_bind (wpS_get ?_)
 rw [ea,eb]
 dsimp only
 refine wpS_bind (aEX ?_)
 have gt:∀ j,j < it.size→∃ p,(arrOf st)[j]?=some p∧p∈it.toList:=fun j hj=>g.get hj
 have fin:∀ (st':SortSt),Sg (setPending st (((pendingOf st).setIfInBounds i (sa,na + nb,pw)).eraseIdxIfInBounds (i + 1))) st'→∀ c:Array Keyed,c.Perm (arrOf st)→Q true (setArr st' c):=fun st' sg c hp=>
  h _ ⟨sg.kind.trans g.kind,hp.trans g.perm,sg.fail.trans g.fail⟩ (by show hU (pendingOf st').toList 0 lo;rw [sg.pend];show hU (((pendingOf st).setIfInBounds i (sa,na + nb,pw)).eraseIdxIfInBounds (i + 1)).toList 0 lo;rw [hps];exact x5) (by show (pendingOf st').size + 1=_;rw [sg.pend];exact hpz)
 have fin0:Q true (setPending st (((pendingOf st).setIfInBounds i (sa,na + nb,pw)).eraseIdxIfInBounds (i + 1))):=fin _ (Sg.refl _) _ (Array.Perm.refl _)
 obtain ⟨p1,e1,i1⟩:=gt sb (by omega)
 refine wpS_bind (fG e1 (wpS_bind (hJ hc i1 (fun j hj=>gt _ (by omega)) (by omega) g.kind fun k hk=>?_)))
 dsimp only
 refine bQ (fun _=>wpS_pure fin0) fun n0=>?_
 have n0':=iJ n0
 obtain ⟨p2,e2,i2⟩:=gt (sa + k + (na - k) - 1) (by omega)
 refine wpS_bind (fG e2 (wpS_bind (hJ hc i2 (fun j hj=>gt _ (by omega)) (by omega) g.kind fun k2 hk2=>?_)))
 dsimp only
 refine bQ (fun _=>wpS_pure fin0) fun n1=>?_
 have n1':=iJ n1
 have inX:∀ q∈((arrOf st).extract (sa + k) sb).toList,q∈it.toList:=fun q hq=>by
  rw [eQ] at hq
  exact (Array.perm_iff_toList_perm.mp g.perm).mem_iff.mp (List.mem_of_mem_drop (List.mem_of_mem_take hq))
 have inY:∀ q∈((arrOf st).extract sb (sb + k2)).toList,q∈it.toList:=fun q hq=>by
  rw [eQ] at hq
  exact (Array.perm_iff_toList_perm.mp g.perm).mem_iff.mp (List.mem_of_mem_drop (List.mem_of_mem_take hq))
 have sX:1≤((arrOf st).extract (sa + k) sb).size:=by rw [Array.size_extract];omega
 have sY:1≤((arrOf st).extract sb (sb + k2)).size:=by rw [Array.size_extract];omega
 have fin2:∀ (out:Array Keyed) (st':SortSt),out.Perm ((arrOf st).extract (sa + k) sb ++ (arrOf st).extract sb (sb + k2))→Sg (setPending st (((pendingOf st).setIfInBounds i (sa,na + nb,pw)).eraseIdxIfInBounds (i + 1))) st'→
   Q (failedOf (setArr st' (out.toList.zipIdx.foldl (fun a q=>a.setIfInBounds (sa + k + q.2) q.1) (arrOf st')))).isNone (setArr st' (out.toList.zipIdx.foldl (fun a q=>a.setIfInBounds (sa + k + q.2) q.1) (arrOf st'))):=fun out st' ho sg=>by
  have hf:(failedOf (setArr st' (out.toList.zipIdx.foldl (fun a q=>a.setIfInBounds (sa + k + q.2) q.1) (arrOf st')))).isNone=true:=by
   show (failedOf st').isNone=true
   rw [sg.fail.trans g.fail]
   rfl
  rw [hf]
  refine fin st' sg _ ?_
  rw [sg.arr]
  refine aDz (n:=na - k + k2) ?_ (by show _≤(arrOf st).size;omega)
  refine (Array.perm_iff_toList_perm.mp ho).trans ?_
  rw [Array.toList_append,eQ,eQ]
  have e3:(arrOf st).toList.drop sb=((arrOf st).toList.drop (sa + k)).drop (na - k):=by
   rw [List.drop_drop]
   congr 1
   omega
  rw [e3,show sb - (sa + k)=na - k by omega,Nat.add_sub_cancel_left,← List.take_add]
 refine bQ (fun _=>wpS_bind (yA hc sX sY inX inY g.kind fun out st' ho sg=>?_)) fun _=>wpS_bind (yC hc sX sY inX inY g.kind fun out st' ho sg=>?_)
 ·exact wpS_bind (wpS_modify (wpS_bind (wpS_get (wpS_pure (fin2 out st' ho sg)))))
 ·exact wpS_bind (wpS_modify (wpS_bind (wpS_get (wpS_pure (fin2 out st' ho sg)))))
end
end L2
namespace L2
open PySem PySem.Spec PyProof.Rows PySem.W
section
variable {prog:Program}{w:World}{A:Around}{E:Value→Shared→Prop}{s:Shared}{κ:SortKind}{it:Array Keyed}
structure SR (κ:SortKind) (it:Array Keyed) (lo:Nat) (st:SortSt):Prop where
 gs:GS κ it st
 le:lo≤it.size
 sg:hU (pendingOf st).toList 0 lo
variable (hc:pM prog w A s κ it)
include hc
theorem aDA {st:SortSt}{Q:Unit→SortSt→Prop} (g:GS κ it st) (hp:pendingOf st=#[]) (h:∀ st',(arrOf st').Perm it→failedOf st'=none→Q () st'):wpS (model prog w) A E s sortRuns' Q st:=by
 rw [sortRuns'_eq]
 refine wpS_bind (wpS_get ?_)
 dsimp only
 have hz:(arrOf st).size=it.size:=g.perm.size_eq
 rw [hz]
 generalize minRun' it.size it.size 0=mr
 refine wpS_bind (wpS_mono (wpS_forRange (I:=fun x c st'=>c.1=none∧SR κ it c.2 st') (Q:=fun c st'=>c.1=none∧∃ lo,SR κ it lo st') ?_ (fun c st' z=>⟨z.1,_,z.2⟩) ⟨rfl,g,Nat.zero_le _,?_⟩) ?_)
 ·rintro x ⟨r,lo⟩ st' _ _ ⟨z1,g',hlo,hs⟩
  dsimp only at z1 hlo hs ⊢
  subst z1
  refine bQ (fun _=>wpS_pure ⟨rfl,lo,g',hlo,hs⟩) fun hl=>?_
  refine wpS_bind (aB4 hc g' (by omega) (by omega) fun n st1 hn1 hn2 m1=>?_)
  dsimp only
  refine bQ (fun hm=>wpS_bind (wpS_lift (wpAny_rule ⟨rfl,wpS_bind (aAb hc (g'.on m1) (by omega) fun st2 m2=>bQ (fun z=>nomatch z) fun _=>?_)⟩))) fun hm=>?_
  all_goals
   first | (have mm:=m1.trans m2;have ez:1≤min (it.size - lo) mr∧lo + min (it.size - lo) mr≤it.size:=by omega) | (have mm:=m1;have ez:1≤n∧lo + n≤it.size:=by omega)
   have gg:=g'.on mm
   have hs2:=hs
   rw [← mm.pend] at hs2
   refine wpS_bind (wpS_get ?_)
   split
   ·rename_i s1 n1 _ hback
    refine wpS_bind (wpS_mono (wpS_forRange (I:=fun x c st'=>c.1=none∧SR κ it lo st') (Q:=fun c st'=>c.1=none∧SR κ it lo st') ?_ (fun c st' z=>z) ⟨rfl,gg,hlo,hs2⟩) ?_)
    ·rintro x ⟨r,u⟩ st3 _ _ ⟨z1,g3,_,hs3⟩
     dsimp only at z1 ⊢
     subst z1
     refine wpS_bind (wpS_get ?_)
     split
     ·rename_i a1 a2 older hold
      refine bQ (fun _=>wpS_pure ⟨rfl,g3,hlo,hs3⟩) fun _=>?_
      have h2:(pendingOf st3).size > 1:=by
       by_cases h2:(pendingOf st3).size > 1
       ·exact h2
       ·rw [if_neg h2] at hold
        cases hold
      refine wpS_bind (qI hc g3 hs3 hlo (by omega) fun st4 g4 hs4 _=>?_)
      exact bQ (fun z=>nomatch z) fun _=>wpS_pure ⟨rfl,g4,hlo,hs4⟩
     ·exact wpS_pure ⟨rfl,g3,hlo,hs3⟩
    ·rintro ⟨r,u⟩ st3 ⟨z1,g3,_,hs3⟩
     dsimp only at z1 ⊢
     subst z1
     refine wpS_bind (wpS_modify (wpS_bind (wpS_modify (wpS_pure ⟨rfl,⟨g3.kind,g3.perm,g3.fail⟩,ez.2,?_⟩))))
     show hU (((pendingOf st3).modify _ _).push _).toList 0 _
     rw [Array.toList_push,Array.toList_modify]
     refine hU.snoc ez.1 (hU.mod ?_ _ hs3)
     exact fun _=>⟨rfl,rfl⟩
   ·refine wpS_bind (wpS_modify (wpS_pure ⟨rfl,⟨gg.kind,gg.perm,gg.fail⟩,ez.2,?_⟩))
    show hU ((pendingOf _).push _).toList 0 _
    rw [Array.toList_push]
    exact hs2.snoc ez.1
 ·show hU (pendingOf st).toList 0 0
  rw [hp]
  rfl
 ·rintro ⟨r,lo⟩ st' ⟨z1,lo',g',hlo,hs⟩
  dsimp only at z1 ⊢
  subst z1
  refine wpS_bind (wpS_mono (wpS_forRange (I:=fun x c st'=>c.1=none∧SR κ it lo' st') (Q:=fun c st'=>c.1=none∧SR κ it lo' st') ?_ (fun c st' z=>z) ⟨rfl,g',hlo,hs⟩) ?_)
  ·rintro x ⟨r,u⟩ st' _ _ ⟨z1,g',hlo,hs⟩
   dsimp only at z1 ⊢
   subst z1
   refine wpS_bind (wpS_get ?_)
   refine bQ (fun _=>wpS_pure ⟨rfl,g',hlo,hs⟩) fun h2=>?_
   have h2':¬ (pendingOf st').size≤1:=h2
   have hi:∀ b:Bool,(if b=true then (pendingOf st').size - 2 - 1 else (pendingOf st').size - 2) + 1 < (pendingOf st').size:=fun b=>by
    cases b <;> simp <;> omega
   refine wpS_bind (qI hc g' hs hlo (hi _) fun st2 g2 hs2 _=>?_)
   exact wpS_pure ⟨rfl,g2,hlo,hs2⟩
  ·rintro ⟨r,u⟩ st' ⟨z1,g',hlo,hs⟩
   dsimp only at z1 ⊢
   subst z1
   exact wpS_pure (h _ g'.perm g'.fail)
theorem aDB {Q:Unit×SortSt→Shared→Prop} (h:∀ st:SortSt,(arrOf st).Perm it→failedOf st=none→Q ((),st) s):wpAny (model prog w) A (sortRuns'.run (SortSt.mk' κ it #[] 7 none)) Q E s:=by
 refine wpAny_mono (aDA (E:=E) hc (st:=SortSt.mk' κ it #[] 7 none) (Q:=fun u st=>Q (u,st) s) ⟨rfl,Array.Perm.refl _,rfl⟩ rfl h) (fun r s' z=>?_) fun _ _ z=>z
 obtain ⟨rfl,q⟩:=z
 exact q
end
end L2
namespace L2
open PySem PySem.Spec PyProof.Rows PySem.W
def i7 (c:Addr) (qual:Str):HO:=.ext fun h=>h.CodeRec (.ref c) qual
def jG (f:Addr) (qual:Str) (params:Arguments) (body:Expr) (scope:Scope) (cl:List (Str×Addr)) (c:Addr):HO:=.ext fun h=>∃ pm ctv,h.get? f=some (kla_obj "<lambda>" qual params body scope cl pm c ctv)
theorem aEY {P:Program}{w:World}{H:Hp}{h:Heap}{c:Addr}{qual:Str} (e:h.CodeRec (.ref c) qual):c6 P w H h c (i7 c qual):=by
 obtain ⟨c',o,vs,t,e1,e2,e3,e4⟩:=id e
 cases e1
 exact ⟨e,⟨o,e2⟩,fun h1 h2 x k=>by
  obtain ⟨c',o,vs,t,e1,e2,e3,e4⟩:=x
  cases e1
  exact ⟨c,o,vs,t,rfl,k o e2,e3,e4⟩⟩
theorem aDC {P:Program}{w:World}{H:Hp}{h:Heap}{f c:Addr}{qual:Str}{params:Arguments}{body:Expr}{scope:Scope}{cl:List (Str×Addr)}{pm ctv:Value} (e:h.get? f=some (kla_obj "<lambda>" qual params body scope cl pm c ctv)):c6 P w H h f (jG f qual params body scope cl c):=
 ⟨⟨pm,ctv,e⟩,⟨_,e⟩,fun h1 h2 x k=>by
  obtain ⟨pm,ctv,e⟩:=x
  exact ⟨pm,ctv,k _ e⟩⟩
structure dQ (T:Addr) (pos:Pos) (qual:Str) (H:Hp):Prop where
 ex:∃ ps,H T=some (.tbl ps)∧TriplesOk ps.toList∧(codeAmong pos ps.toList=none∨∃ c,codeAmong pos ps.toList=some (.ref c)∧H c=some (i7 c qual))
theorem dQ.same {T:Addr}{pos:Pos}{qual:Str}{H H':Hp} (g:dQ T pos qual H) (s:aU H H'):dQ T pos qual H':=by
 obtain ⟨ps,h1,h2,h3⟩:=g.ex
 refine ⟨ps,s _ _ h1,h2,?_⟩
 rcases h3 with h3 | ⟨c,h3,h4⟩
 ·exact .inl h3
 ·exact .inr ⟨c,h3,s _ _ h4⟩
def dD (T:Addr) (H H':Hp):Prop:=∀ b o,b≠T→H b=some o→H' b=some o
theorem aU.butT {T:Addr}{H H':Hp} (s:aU H H'):dD T H H':=fun b o _ e=>s b o e
theorem dD.trans {T:Addr}{H H1 H2:Hp} (a:dD T H H1) (b:dD T H1 H2):dD T H H2:=fun c o n h=>b c o n (a c o n h)
theorem dD.refl {T:Addr} (H:Hp):dD T H H:=fun _ _ _ h=>h
section
variable {X:Cx}{pins:List (Addr×Obj)}{σ:St}{H:Hp}{s:Shared}
theorem Inv.table {T:Addr}{ps more:Array Value}{h':Heap}{t':Nat} (I:Inv X pins σ H s) (hT:H T=some (.tbl ps)) (k:∀ b o,b≠T→s.heap.get? b=some o→h'.get? b=some o) (e:h'.get? T=some (tabObj (ps ++ more))):
  Inv X pins σ (upd H T (.tbl (ps ++ more))) { s with heap:=h',toks:=t' }:=by
 have neT:∀ b u,H b=some u→(∀ ps,u≠.tbl ps)→b≠T:=fun b u q n z=>by
  subst z
  rw [hT] at q
  cases q
  exact n _ rfl
 refine I.un ⟨fun b o q n _ _=>?_,fun b o q n _ _=>?_,fun b o q n _=>?_,fun b o q _=>?_,fun b xs q=>?_,fun b o u q=>?_,fun b qs q=>?_⟩ fun b u q=>?_
 ·exact k b o (fun z=>by subst z;rw [hT] at n;cases n) q
 ·exact ⟨o.slots,k b o (fun z=>by subst z;rw [hT] at n;cases n) q⟩
 ·rw [aJ (fun z=>by subst z;rw [hT] at n;cases n)]
  exact n
 ·by_cases hb:b=T
  ·subst hb
   exact ⟨_,e⟩
  ·exact ⟨o,k b o hb q⟩
 ·rw [aJ (neT b _ q fun _ z=>nomatch z)]
  exact q
 ·rw [aJ (neT b _ q fun _ z=>nomatch z)]
  exact q
 ·by_cases hb:b=T
  ·subst hb
   rw [hT] at q
   cases q
   exact ⟨more,aF⟩
  ·exact ⟨#[],by rw [aJ hb,q];simp⟩
 ·by_cases hb:b=T
  ·subst hb
   rw [aF] at q
   cases q
   exact e
  ·rw [aJ hb] at q
   refine (I.hok b u q).stay (fun c v hc r=>k c v ?_ r) (fun c r=>?_) fun c xs r=>?_
   ·rcases hc with rfl | hc
    ·exact hb
    ·exact neT c _ hc fun _ z=>nomatch z
   ·rw [aJ (neT c _ r fun _ z=>nomatch z)]
    exact r
   ·rw [aJ (neT c _ r fun _ z=>nomatch z)]
    exact r
def aGj (T:Addr) (pos:Pos) (qual:Str) (params:Arguments) (body:Expr) (scope:Scope) (cl:List (Str×Addr)):TE:=fun _ H Q=>dQ T pos qual H∧
 ∀ f c H',dD T H H'→dQ T pos qual H'→H' c=some (i7 c qual)→H' f=some (jG f qual params body scope cl c)→Q (.ref f) H'
inductive aDD (mg:Str→Option Value) (base:Heap):Prop
 | mk (bm:_) (o:_) (q0:mg "__builtins__"=some (.ref bm)) (q1:bm≠builtinsNs) (q2:bm≠mainGlobals) (q3:base.get? bm=some o) (q4:o.cls=.type "module") (q5:o.dict=some builtinsNs) (q6:o.data=.plain):aDD mg base
def pN (mg:Str→Option Value) (base:Heap):Prop:=aDD mg base
theorem aDE {c T:Addr}{params:Arguments}{body:Expr}{scope:Scope}{pos:Pos}{cl:List (Str×Addr)} (hcode:X.env.code=.ref c) (hC:codeHdIn X.K c T=true) (hB:pN X.mg X.base) (hcl:closureFor scope X.env=pure cl:=by rfl) (hdef:defaultsOf params X.env=([],[]):=by rfl):
  PE X (.Lambda params body scope pos) (aGj T pos (X.env.qual ++ "<lambda>") params body scope cl):=by
 constructor
 intro pins s σ H Q I h
 obtain ⟨g,q⟩:=h
 obtain ⟨ps,hT,ht,hor⟩:=g.ex
 have gT:s.heap.get? T=some (tabObj ps):=I.hok T _ hT
 have neB:∀ b o,X.base.get? b=some o→b≠T:=fun b o e z=>by
  have:=(I.bs b o e).2
  rw [z,hT] at this
  cases this
 obtain ⟨bm,ob,b1,b2,b3,b4,b5,b6,b7⟩:=hB
 have hns:s.heap.Ns mainGlobals X.mg:=by
  obtain ⟨o,es,ep,e,r⟩:=I.mod.glob
  exact ⟨o,es,ep,I.bk _ _ e,r⟩
 have hgT:mainGlobals≠T:=by
  obtain ⟨o,es,ep,e,r⟩:=I.mod.glob
  exact neB _ _ e
 have hBA:s.heap.BuiltinsAt X.mg T:=⟨bm,ob,b1,b2,b3,neB _ _ b4,I.bk _ _ b4,b5,b6,b7⟩
 refine kla_eval hdef ?_
 rcases hor with hnf | ⟨c',hf,hc'⟩
 ·refine kla_makeFunction (mg:=X.mg) hcl I.ok.glob hns hcode (codeHd_of_K I.kIn hC) gT ht hnf hgT hBA fun c' ctv h' tk hx hge hlt hrec htb=>?_
  have I1:=I.table (t':=tk) (more:=#[rawInt pos.line,rawInt pos.col,.ref c']) hT (fun b o n e=>hx b o n e) htb
  have nT:∀ b,s.heap.objs.size≤b→b≠T:=fun b hb z=>absurd (Heap.lt_size gT) (Nat.not_lt.mpr (z ▸ hb))
  have hcT:=nT c' hge
  have hcn:upd H T (.tbl (ps ++ #[rawInt pos.line,rawInt pos.col,.ref c'])) c'=none:=by
   rw [aJ hcT]
   exact I.hok.fresh hge
  have I2:=I1.track (ob:=i7 c' (X.env.qual ++ "<lambda>")) (I.fpOk hge hcn) (aEY hrec)
  have hsz:s.heap.objs.size≤h'.objs.size:=by omega
  have hfT:=nT _ hsz
  have I3:=I2.laid (a:=h'.objs.size) (o:=jG h'.objs.size (X.env.qual ++ "<lambda>") params body scope cl c') (t':=tk) (h':=h'.push (kla_obj "<lambda>" (X.env.qual ++ "<lambda>") params body scope cl ((X.mg "__name__").getD .none) c' ctv)) (fun b u e=>Heap.get?_push_of_some _ e) (Nat.le_refl _) (aDC (Heap.get?_push_size _ rfl))
  refine ⟨.ref _,_,I3,rfl,q _ c' _ (fun b o n e=>?_) ⟨ps ++ #[rawInt pos.line,rawInt pos.col,.ref c'],?_,?_,.inr ⟨c',?_,?_⟩⟩ ?_ aF⟩
  ·rw [aJ (Nat.ne_of_lt (Nat.lt_of_lt_of_le (I.hok.lt e) hsz)),aJ (Nat.ne_of_lt (Nat.lt_of_lt_of_le (I.hok.lt e) hge)),aJ n]
   exact e
  ·rw [aJ hfT.symm,aJ hcT.symm]
   exact aF
  ·rw [Array.toList_append]
   exact TriplesOk_snoc _ _ _ _ ht
  ·rw [Array.toList_append]
   exact codeAmong_snoc _ ht hnf
  ·rw [aJ (Nat.ne_of_lt hlt)]
   exact aF
  ·rw [aJ (Nat.ne_of_lt hlt)]
   exact aF
 ·refine kla_makeFunctionHit (mg:=X.mg) hcl I.ok.glob hns hcode (codeHd_of_K I.kIn hC) gT ht hf hBA fun ctv h' tk hk hsz=>?_
  have I1:=I.kept (h':=h') (t':=tk) hk
  have I3:=I1.laid (a:=h'.objs.size) (o:=jG h'.objs.size (X.env.qual ++ "<lambda>") params body scope cl c') (t':=tk) (h':=h'.push (kla_obj "<lambda>" (X.env.qual ++ "<lambda>") params body scope cl ((X.mg "__name__").getD .none) c' ctv)) (fun b u e=>Heap.get?_push_of_some _ e) (Nat.le_refl _) (aDC (Heap.get?_push_size _ rfl))
  have hs:aU H (upd H h'.objs.size (jG h'.objs.size (X.env.qual ++ "<lambda>") params body scope cl c')):=fun b o e=>by
   rw [aJ (Nat.ne_of_lt (Nat.lt_of_lt_of_le (I.hok.lt e) hsz))]
   exact e
  exact ⟨.ref _,_,I3,rfl,q _ c' _ hs.butT (g.same hs) (hs _ _ hc') aF⟩
end
end L2
namespace L2
open PySem PySem.Spec PyProof.Rows PySem.W
def yD (X:Cx) (N:List Str) (qual:Str) (scope:Scope) (f:Addr) (cd:Value) (cl:List (Str×Addr)) (A:Around) (s:Shared) (H:Hp):Cx where
 prog:=X.prog
 w:=X.w
 K:=X.K
 mg:=X.mg
 base:=X.base
 A:=A.deeper (envX qual scope s.heap.objs.size f cd cl)
 N:=N
 s₀:=s
 H₀:=H
 env:=envX qual scope s.heap.objs.size f cd cl
 outer:=X.stack
 stack:=envX qual scope s.heap.objs.size f cd cl :: X.stack
 ex:=[]
 calm:=true
 fn:=fun _=>false
 pn:=[]
 xe:=fun _ _=>False
structure sZ (ps fs:List Str) (sc:Scope):Prop where
 kind:sc.kind=.function
 co:sc.isCoroutine=false
 gen:sc.isGenerator=false
 nd:ps.Nodup
 par:∀ x∈ps,sc.names.lookup x=some .local
 fr:∀ x∈fs,sc.names.lookup x=some .free
 nocell:∀ y∈sc.names,y.2≠.cell
section
variable {X:Cx}{pins:List (Addr×Obj)}{σ:St}{H:Hp}{s:Shared}
theorem Paired.at {α β:Type}{R:α→β→Prop}:∀ {as:List α}{bs:List β}{i:Nat}{a:α}{b:β},Paired R as bs→as[i]?=some a→bs[i]?=some b→R a b
 | _,_,_,_,_,.nil,e,_=>by simp at e
 | _,_,0,_,_,.cons r _,e1,e2=>by simp at e1 e2;subst e1 e2;exact r
 | _,_,i + 1,_,_,.cons _ t,e1,e2=>Paired.at (i:=i) t (by simpa using e1) (by simpa using e2)
def aA3 (X:Cx) (σ:St) (fs:List Str) (zs:List V):Prop:=Paired (fun (x:Str) (v:V)=>∃ i:Nat,X.N[i]?=some x∧σ[i]?=some (some v)∧X.env.kindOf x=some .cell) fs zs
theorem aDF {ps fs:List Str}{f c:Addr}{qual:Str}{params:Arguments}{body:Expr}{scope:Scope}{cl:List (Str×Addr)}{A:Around}{us:List Value}{vs zs:List V}{Q:VK}{k:Nat}{te:TE}
  (I:Inv X pins σ H s) (hA:A.frames=some X.stack) (hr:dF (k + 1) A) (S:sZ ps fs scope) (hcl:∀ x b,cl.lookup x=some b→X.env.cells.lookup x=some b) (hhas:∀ x,scope.names.lookup x=some .free→∃ b,cl.lookup x=some b)
  (hf:H f=some (jG f qual params body scope cl c)) (hc:H c=some (i7 c qual)) (hb:∀ (pm cdv ctv:Value),bindArgs (kla_fn "<lambda>" qual params body scope cl pm cdv ctv) ⟨us,[]⟩=pure (ps.zip us)) (r:cO vs us) (hl:vs.length=ps.length) (ht:aA3 X σ fs zs)
  (hbody:PE (yD X (ps ++ fs) qual scope f (.ref c) cl A s H) body te) (hq:te (vs.map some ++ zs.map some) H Q):codeAny (model X.prog X.w) A (.call (.ref f) ⟨us,[]⟩) (CR CX0 X.stack X.prog X.w H s Q E0) s:=by
 obtain ⟨⟨pm,ctv,ho⟩,_,_⟩:c6 X.prog X.w H s.heap f (jG f qual params body scope cl c):=I.hok _ _ hf
 obtain ⟨hrec,_,_⟩:c6 X.prog X.w H s.heap c (i7 c qual):=I.hok _ _ hc
 have lu:us.length=ps.length:=by rw [← r.length];exact hl
 have hloc:∀ y∈ps.zip us,scope.names.lookup y.1=some .local:=fun ⟨n,v⟩ hy=>S.par n (List.of_mem_zip hy).1
 refine kla_callFunE hr.depth ho rfl S.co S.gen rfl hrec ?_
 rw [hb]
 refine wpAny_pure (wpAny_newFunctionEnv S.nocell hloc (fun h₁ hns hsb=>?_) S.kind)
 have hk₁:∀ b o,s.heap.get? b=some o→h₁.get? b=some o:=fun b o e=>hsb.extBut b o (Nat.ne_of_lt (Heap.lt_size e)) (Heap.get?_push_of_some _ e)
 refine ⟨I.nolimit.keeps hk₁,?_⟩
 show codeAny _ _ (.expr body (envX qual scope s.heap.objs.size f (.ref c) cl)) _ _
 have e0:=I.env0
 have noA:∀ b:Addr,b ∉ (yD X (ps ++ fs) qual scope f (.ref c) cl A s H).ex:=fun b z=>absurd (show b∈([]:List Addr) from z) (by simp)
 have J:Inv (yD X (ps ++ fs) qual scope f (.ref c) cl A s H) [] (vs.map some ++ zs.map some) H { s with heap:=h₁,toks:=s.toks + (ps.zip us).length }:=by
  refine ⟨⟨e0.mod,S.kind,rfl,rfl,Nat.le_refl _,fun y z b h1 h2=>?_,fun y hy=>?_,fun y b z _=>absurd z (by simp [yD]),fun _=>hr.hd,Around.frames_deeper hA,.inr ⟨rfl,rfl⟩,fun b z=>absurd z (noA b),e0.bs,e0.bsz,fun b _ _=>noA b,fun b z=>absurd z (noA b),e0.funs,e0.frf⟩,
   rfl,e0.bare,Un.kept hk₁,⟨_,hns,fun i y v h1 h2 h3=>?_⟩,fun y b h=>?_,e0.hok.fresh (Nat.le_refl _),fun y b h=>?_,fun p hp=>absurd (show p∈([]:List (Addr×Obj)) from hp) (by simp),e0.hok.kept hk₁,?_⟩
  ·exact I.ok.inj y z b (hcl y b h1) (hcl z b h2)
  ·rcases hy with hy | hy
   ·exact absurd rfl (S.nocell _ (PySem.mem_of_lookup (show scope.names.lookup y=some .cell from hy)))
   ·exact hhas y hy
  ·have h1':(ps ++ fs)[i]?=some y:=h1
   by_cases hi:i < ps.length
   ·rw [List.getElem?_append_left hi] at h1'
    have hv:vs[i]?=some v:=by
     rw [List.getElem?_append_left (by simpa [hl] using hi),List.getElem?_map] at h2
     cases e:vs[i]? with
     | none=>rw [e] at h2;cases h2
     | some a=>rw [e] at h2;cases h2;rfl
    obtain ⟨u,hu,rv⟩:=r.get hv
    refine ⟨u,rv,.inl ⟨S.par y (List.mem_of_getElem? h1'),?_⟩⟩
    have e1:=pE (kindOf:=fun x=>scope.names.lookup x) (m:=fun _=>none) S.nd h1' hu (S.par y (List.mem_of_getElem? h1'))
    have e2:∀ (l:List (Str×Value)) (m:Str→Option Value) (x:Str),(∀ q∈l,scope.names.lookup q.1=some .local)→bindL (fun x=>scope.names.lookup x) l m x=(l.reverse.lookup x).or (m x):=by
     intro l
     induction l with
     | nil=>intro m x _;rfl
     | cons q l ih=>
      intro m x hl
      obtain ⟨n,v⟩:=q
      unfold bindL
      rw [if_pos (hl (n,v) List.mem_cons_self),ih _ _ fun q hq=>hl q (List.mem_cons_of_mem _ hq),List.reverse_cons,List.lookup_append,Option.or_assoc]
      congr 1
      rw [List.lookup_cons,List.lookup_nil]
      by_cases hx:x=n
      ·subst hx
       simp
      ·have hx':(x == n)=false:=by simpa using hx
       simp [hx,hx']
    rw [e2 _ _ _ hloc,Option.or_none] at e1
    exact e1
   ·rw [List.getElem?_append_right (by omega)] at h1'
    rw [List.getElem?_append_right (by rw [List.length_map,hl];omega),List.length_map,hl,List.getElem?_map] at h2
    have hz:zs[i - ps.length]?=some v:=by
     cases e:zs[i - ps.length]? with
     | none=>rw [e] at h2;cases h2
     | some a=>rw [e] at h2;cases h2;rfl
    obtain ⟨j,a1,a2,a3⟩:=Paired.at ht h1' hz
    obtain ⟨m,_,lk⟩:=I.loc
    obtain ⟨u,ru,lo⟩:=lk j y v a1 a2 (.inr (.inl a3))
    rcases lo with ⟨a4,_⟩ | ⟨_,b,a4,a5⟩
    ·rw [a3] at a4
     cases a4
    ·have hfr:=S.fr y (List.mem_of_getElem? h1')
     obtain ⟨b',hb'⟩:=hhas y hfr
     have:=hcl y b' hb'
     rw [a4] at this
     cases this
     obtain ⟨o,ho',hd⟩:=a5
     exact ⟨u,ru,.inr ⟨.inr hfr,b,hb',o,hk₁ _ _ ho',hd⟩⟩
  ·obtain ⟨v,o,ho',hd⟩:=I.cell y b (hcl y b h)
   exact ⟨v,o,hk₁ _ _ ho',hd⟩
  ·exact I.freeC y b (hcl y b h)
  ·show _=(ps ++ fs).length
   rw [List.length_append,List.length_append,List.length_map,List.length_map,hl,ht.length]
 refine kla_codeExpr (wpAny_mono (hbody [] _ _ H Q J hq) (fun u s' hu=>?_) fun e s' z=>z.elim)
 obtain ⟨v,H',J',rv,q⟩:=hu
 exact ⟨v,H',J'.os,J'.bare,J'.base,J'.hok,rv,q⟩
end
end L2
namespace L2
open PySem PySem.Spec PyProof.Rows PySem.W
section
variable {prog:Program}{w:World}{A:Around}{E:Value→Shared→Prop}{s:Shared}
inductive aA4 (h:Heap) (v:Value):Prop
 | mk (t:_) (a:_) (b:_) (u1:_) (u2:_) (q0:v=.ref t) (q1:IsTup h t #[.int a u1,.int b u2]):aA4 h v
def aA5 (h:Heap) (v:Value):Prop:=aA4 h v
theorem aH1 {fb:Bool}{x y:Addr}{a1 a2 b1 b2:Int}{t1 t2 u1 u2:Tok}{C:Bool→Shared→Prop} (hx:IsTup s.heap x #[.int a1 t1,.int b1 t2]) (hy:IsTup s.heap y #[.int a2 u1,.int b2 u2]) (h:∀ b,C b s):
  wpAny (model prog w) A (keyLt' (tuples' fb) (.ref x) (.ref y)) C E s:=by
 show wpAny _ _ (Builtin.List.listItems (.ref x) >>= _) _ _ _
 refine wpAny_bind (g9 hx ?_)
 refine wpAny_bind (g9 hy ?_)
 dsimp only [List.zip_cons_cons,List.zipIdx_cons,List.zip_nil_left]
 rw [List.zipIdx_nil]
 have e1:∀ {Q:Bool→Shared→Prop} {a b:Int} {t u:Tok},(∀ z,Q z s)→wpAny (model prog w) A (eqBool (.int a t) (.int b u)) Q E s:=fun {Q a b t u} q=>by
  obtain ⟨z,hz,_⟩:=HT.eqAt_int A s a t b u
  exact hz prog w _ _ (q z)
 refine wpAny_bind ?_
 rw [List.forIn_cons]
 refine wpAny_bind (wpAny_bind (e1 fun z=>?_))
 cases z with
 | false=>
  refine wpAny_ite_true (by decide) ?_
  refine wpAny_bind ?_
  show wpAny _ _ (oneLt' (fb && 0 == 0) (Value.int a1 t1) (Value.int a2 u1)) _ _ _
  cases fb
  ·exact rE fun z=>wpAny_pure (wpAny_pure (wpAny_pure (h z)))
  ·exact oneLt_int (wpAny_pure (wpAny_pure (wpAny_pure (h _))))
 | true=>
  refine wpAny_ite_false (by decide) (wpAny_pure ?_)
  dsimp only
  rw [List.forIn_cons]
  refine wpAny_bind (wpAny_bind (e1 fun z=>?_))
  cases z with
  | false=>
   refine wpAny_ite_true (by decide) ?_
   refine wpAny_bind ?_
   have ez:(fb && ((0 + 1:Nat) == 0))=false:=by cases fb <;> rfl
   show wpAny _ _ (oneLt' (fb && (0 + 1 == 0)) (Value.int b1 t2) (Value.int b2 u2)) _ _ _
   rw [ez]
   exact rE fun z=>wpAny_pure (wpAny_pure (wpAny_pure (h z)))
  | true=>
   refine wpAny_ite_false (by decide) (wpAny_pure ?_)
   dsimp only
   rw [List.forIn_nil]
   exact wpAny_pure (wpAny_pure (h _))
theorem aGk {ks:List Value}{Q:SortKind→Shared→Prop} (hk:∀ v∈ks,aA5 s.heap v) (h:∀ b,Q (tuples' b) s):wpAny (model prog w) A (keyKind' ks.toArray) Q E s:=by
 rw [keyKind'_eq,Array.mapM_eq_mapM_toList]
 refine wpAny_bind ?_
 rw [← bind_pure_comp]
 refine wpAny_bind (lU (R:=fun _ r=>∃ a u,r=some (Value.int a u)) ks (fun v hv=>?_) fun rs hl hrs=>wpAny_pure ?_)
 ·obtain ⟨t,a,b,u1,u2,rfl,ht⟩:=hk v hv
  refine ⟨some (.int a u1),⟨a,u1,rfl⟩,fun Q' q=>?_⟩
  rw [kas_first_eq]
  refine wpAny_bind (wpAny_typeOf ht.typeIs ?_)
  refine wpAny_ite_false (by decide) ?_
  refine wpAny_bind (g9 ht ?_)
  exact wpAny_pure q
 ·have hall:(rs.toArray.all fun x=>x.isSome)=true:=by
   rw [List.all_toArray,List.all_eq_true]
   intro r hr
   obtain ⟨v,_,a,u,rfl⟩:=hrs r hr
   rfl
  refine wpAny_ite_true (by rw [hall];rfl) ?_
  refine wpAny_bind (wpAny_rule ?_)
  rw [oneTypeOnly'_eq,Array.mapM_eq_mapM_toList]
  refine wpAny_bind ?_
  refine wpAny_bind ?_
  rw [← bind_pure_comp]
  refine wpAny_bind (lU (R:=fun _ r=>r=Value.type "int") _ (fun v hv=>?_) fun ts htl hts=>wpAny_pure ?_)
  ·have hv':some v∈rs:=by simpa using hv
   obtain ⟨_,_,a,u,e⟩:=hrs _ hv'
   cases e
   exact ⟨_,rfl,fun Q' q=>wpAny_typeOf (typeIs_int s a u) q⟩
  ·cases hts0:ts.toArray[0]? with
   | none=>exact wpAny_pure (wpAny_pure (h _))
   | some t=>exact wpAny_pure (wpAny_pure (h _))
theorem aHi {a kS:Addr}{ks its:List Value}{e e1:Nat}{P:PySem.Fin→Shared→Prop} (ha:s.heap.get? a=some (seqObj "list" #[] e1)) (hk:s.heap.get? kS=some (seqObj "list" ks.toArray e)) (hne:a≠kS) (hl:ks.length=its.length) (h64:its.length≤sizeLine) (hK:∀ v∈ks,aA5 s.heap v)
  (h:∀ out:List Value,out.Perm its→P (Fin.done (Flow.ret Value.none)) { s with heap:=(s.heap.update kS (Obj.mapSeq fun _=>#[])).update a (Obj.mapSeq fun _=>out.toArray) }):wpAny (model prog w) A (ksk_end a false its.toArray e1 (.ref kS) ks.toArray) P E s:=by
 have zip_size:(ks.toArray.zip its.toArray).size=its.length:=by simp [hl]
 have fin:∀ st:SortSt,(arrOf st).Perm (ks.toArray.zip its.toArray)→failedOf st=none→wpAny (model prog w) A (ksk_tail a false e1 (.ref kS) st) P E s:=fun st hp hf=>by
  refine aFz ha hk hne (by rw [List.size_toArray,hl];exact h64) (by rw [hp.size_eq,zip_size];exact h64) hf ?_
  have hp':((arrOf st).map (·.2)).toList.Perm its:=by
   rw [Array.toList_map]
   have:=(Array.perm_iff_toList_perm.mp hp).map (·.2)
   have e2:(ks.toArray.zip its.toArray).toList.map (·.2)=its:=by
    rw [Array.toList_zip]
    exact List.map_snd_zip (by simp [hl])
   rw [e2] at this
   exact this
  have:=h _ hp'
  rw [Array.toArray_toList] at this
  exact this
 unfold ksk_end
 dsimp only
 by_cases h2:its.length < 2
 ·have h2':its.toArray.size < 2:=by simpa using h2
  rw [if_neg Bool.false_ne_true,if_pos h2']
  refine wpAny_bind (wpAny_pure ?_)
  rw [if_pos h2',if_neg Bool.false_ne_true]
  refine wpAny_bind (wpAny_pure ?_)
  exact fin _ (Array.Perm.refl _) rfl
 ·have h2':¬ its.toArray.size < 2:=by simpa using h2
  rw [if_neg Bool.false_ne_true,if_neg h2']
  refine wpAny_bind (aGk hK fun b=>?_)
  rw [if_neg h2',if_neg Bool.false_ne_true]
  refine wpAny_bind (aDB (fun x y hx hy C hC=>?_) fun st hp hf=>fin st hp hf)
  have hin:∀ z:Keyed,z∈(ks.toArray.zip its.toArray).toList→aA5 s.heap z.1:=fun z hz=>by
   rw [Array.toList_zip] at hz
   obtain ⟨p,q⟩:=z
   exact hK _ (List.of_mem_zip hz).1
  obtain ⟨t,a1,b1,u1,u2,e1,ht⟩:=hin x hx
  obtain ⟨t',a2,b2,v1,v2,e2,ht'⟩:=hin y hy
  rw [e1,e2]
  exact aH1 ht ht' hC
end
section
variable {X:Cx}{pins:List (Addr×Obj)}{σ:St}
inductive aA6 (H:Hp) (v:Value):Prop
 | mk (t:_) (a:_) (b:_) (q0:v=.ref t) (q1:H t=some (.tup [.int a,.int b])):aA6 H v
def tD (H:Hp) (v:Value):Prop:=aA6 H v
theorem tD.same {H H':Hp}{v:Value} (h:tD H v) (s:aU H H'):tD H' v:=by
 obtain ⟨t,a,b,e,ht⟩:=h
 exact ⟨t,a,b,e,s _ _ ht⟩
theorem tD.real {H:Hp}{s:Shared}{v:Value} (I:Inv X pins σ H s) (h:tD H v):aA5 s.heap v:=by
 obtain ⟨t,a,b,rfl,ht⟩:=h
 obtain ⟨_,its,rv,hT⟩:c6 X.prog X.w H s.heap t (.tup [.int a,.int b]):=I.hok _ _ ht
 cases rv with
 | cons r1 rv=>
  cases rv with
  | cons r2 rv=>
   cases rv
   obtain ⟨u1,e1⟩:=r1
   obtain ⟨u2,e2⟩:=r2
   subst e1 e2
   exact ⟨t,a,b,u1,u2,rfl,hT⟩
theorem aB5 {f:Addr}{A':Around}{E:Value→Shared→Prop}
  {D kS:Addr} {H0:Hp} {e1:Nat} {xs:List V} (fD:∀ H',H' D=none→jA X pins H' D) (fK:∀ H',H' kS=none→jA X pins H' kS) (hne:D≠kS)
  (hkey:∀ y∈xs,∀ (v:Value) (pins':List (Addr×Obj)) (H':Hp) (s':Shared),cS y v→Inv X pins' σ H' s'→aU H0 H'→codeAny (model X.prog X.w) A' (.call (.ref f) ⟨[v],[]⟩) (CR CX0 X.stack X.prog X.w H' s' (fun u H''=>∃ t a b,u=.ref t∧H'' t=some (.tup [.int a,.int b])∧aU H' H'') E0) s') {er:Value→Value→Sem (ForInStep PUnit)} {Q:Shared→Prop}
  {body:Value→PUnit→Sem (ForInStep PUnit)} (hbody:∀ v u,body v u=(do
   let r ← (call (.ref f) [v]).attempt
   match r with
   | Except.ok k=>do
    Builtin.List.listUpdate (.ref kS) fun x=>x.push k
    pure (ForInStep.yield PUnit.unit)
   | Except.error e=>er v e)):
  ∀ (b8:List Value) (xr:List V) (s:Shared) (H:Hp) (ks:List Value) (e:Nat),cO xr b8→(∀ y∈xr,y∈xs)→Inv X pins σ H s→aU H0 H→H D=none→H kS=none→s.heap.get? D=some (seqObj "list" #[] e1)→s.heap.get? kS=some (seqObj "list" ks.toArray e)→(∀ v∈ks,tD H v)→ks.length + b8.length≤sizeLine→
   (∀ (s':Shared) (H':Hp) (ks':List Value) (e':Nat),Inv X pins σ H' s'→aU H0 H'→H' D=none→H' kS=none→s'.heap.get? D=some (seqObj "list" #[] e1)→s'.heap.get? kS=some (seqObj "list" ks'.toArray e')→(∀ v∈ks',tD H' v)→ks'.length=ks.length + b8.length→Q s')→
   wpAny (model X.prog X.w) A' (forIn b8 PUnit.unit body) (fun _ s'=>Q s') E s:=by
 intro b8
 induction b8 with
 | nil=>
  intro xr s H ks e r hsub I S hD hK gD gK hk h64 q
  rw [List.forIn_nil]
  exact wpAny_pure (q s H ks e I S hD hK gD gK hk rfl)
 | cons v b8 ih=>
  intro xr s H ks e r hsub I S hD hK gD gK hk h64 q
  rw [List.length_cons] at h64
  cases r with
  | @cons y _ xr' _ r1 r2=>
  rw [List.forIn_cons,hbody]
  refine wpAny_bind (wpAny_bind (wpAny_attempt ?_))
  have I3:Inv X ((D,seqObj "list" #[] e1) :: (kS,seqObj "list" ks.toArray e) :: pins) σ H s:=I.pins_of fun p hp=>by
   rcases List.mem_cons.mp hp with z | hp
   ·subst z
    exact ⟨gD,hD,(fD H hD).2.1,(fD H hD).2.2.1,fun v z=>by cases z⟩
   ·rcases List.mem_cons.mp hp with z | hp
    ·subst z
     exact ⟨gK,hK,(fK H hK).2.1,(fK H hK).2.2.1,fun v z=>by cases z⟩
    ·exact I.pin p (List.mem_append_right _ hp)
  refine wpAny_call (codeAny_mono (hkey y (hsub y List.mem_cons_self) v _ H s r1 I3 S) fun r s' hq=>?_)
  cases r with
  | error e=>exact False.elim hq
  | ok fl=>
   cases fl with
   | next=>exact False.elim hq
   | brk=>exact False.elim hq
   | cont=>exact False.elim hq
   | ret u=>
    obtain ⟨vv,H',I',r',t,a,b,rfl,ht,S'⟩:=I3.after hq
    cases r'
    obtain ⟨gD',hD',_⟩:=I'.pin (D,seqObj "list" #[] e1) (List.mem_append_right _ List.mem_cons_self)
    obtain ⟨gK',hK',_⟩:=I'.pin (kS,seqObj "list" ks.toArray e) (List.mem_append_right _ (List.mem_cons_of_mem _ List.mem_cons_self))
    have I4:Inv X pins σ H' s':=I'.pins_of fun p hp=>I'.pin p (List.mem_append_right _ (List.mem_cons_of_mem _ (List.mem_cons_of_mem _ hp)))
    refine wpAny_bind (listUpdate_at gK' rfl ?_ (by rw [List.size_toArray];omega) (by rw [Array.size_push,List.size_toArray];omega))
    refine wpAny_pure ?_
    have gK2:=get?_update_seq gK' (fun x=>x.push (.ref t))
    have ep:(ks.toArray.push (.ref t))=(ks ++ [Value.ref t]).toArray:=by simp
    rw [ep] at gK2
    have I5:Inv X pins σ H' { s' with heap:=s'.heap.update kS (Obj.mapSeq fun x=>x.push (.ref t)) }:=I4.turnedL (t':=s'.toks) (fp:=[kS]) (fun b o hb e=>by
     rw [Heap.get?_update_ne _ _ _ _ (fun z=>hb (by simp [z]))]
     exact e) fun b hb=>by
      rw [List.mem_singleton.mp hb]
      exact fK H' hK'
    refine ih xr' _ H' (ks ++ [Value.ref t]) _ r2 (fun y hy=>hsub y (List.mem_cons_of_mem _ hy)) I5 (S.trans S') hD' hK' ?_ gK2 (fun z hz=>?_) (by rw [List.length_append,List.length_singleton];omega) fun s'' H'' ks'' e'' a1 a2 a3 a4 a5 a6 a7 a8=>?_
    ·show (s'.heap.update kS _).get? D=_
     rw [Heap.get?_update_ne _ _ _ _ hne]
     exact gD'
    ·rcases List.mem_append.mp hz with hz | hz
     ·exact (hk z hz).same S'
     ·rw [List.mem_singleton.mp hz]
      exact ⟨t,a,b,rfl,ht⟩
    ·exact q s'' H'' ks'' e'' a1 a2 a3 a4 a5 a6 a7 (by rw [a8,List.length_append,List.length_singleton,List.length_cons];omega)
end
end L2
namespace L2
open PySem PySem.Spec PyProof.Rows PySem.W
section
variable {X:Cx}{pins:List (Addr×Obj)}{σ:St}{H:Hp}{s:Shared}
theorem aDG {f l:Addr}{xs:List V}{Q:VK}{E:Value→Shared→Prop}
  (I:Inv X pins σ H s) (hl:SqL X.K H l xs) (h64:xs.length≤sizeLine)
  (hkey:∀ y∈xs,∀ (v:Value) (pins':List (Addr×Obj)) (H':Hp) (s':Shared),cS y v→Inv X pins' σ H' s'→aU H H'→codeAny (model X.prog X.w) X.A.in1.in1 (.call (.ref f) ⟨[v],[]⟩) (CR CX0 X.stack X.prog X.w H' s' (fun u H''=>∃ t a b,u=.ref t∧H'' t=some (.tup [.int a,.int b])∧aU H' H'') E0) s')
  (q:∀ D ys H',aU H H'→H D=none→ys.Perm xs→H' D=some (.lst ys)→Q (.ref D) H'):
  wpAny (model X.prog X.w) X.A (call (.builtin "sorted") [.ref l] [(Str.ofString "key",.ref f)]) (EP X pins σ Q) E s:=by
 obtain ⟨its,rv,pl,_⟩:=I.list hl
 have hlen:=rv.length
 have zz:its.length≤sizeLine:=by omega
 refine call_function_entry_kw kind_sorted plain_sorted entry_sorted (ksk_s1 _ _) ?_
 refine wpAny_bind (wpAny_pure ?_)
 refine wpAny_bind (collect_list pl.isList ?_ zz)
 refine wpAny_bind (wpAny_newList ?_ zz)
 have hsz1:((s.heap.push (seqObj "list" #[] 0)).update s.heap.objs.size (Obj.mapSeq fun x=>x ++ its.toArray)).objs.size=s.heap.objs.size + 1:=by
  rw [Heap.size_update,size_push']
 generalize hh1:(s.heap.push (seqObj "list" #[] 0)).update s.heap.objs.size (Obj.mapSeq fun x=>x ++ its.toArray)=h1 at hsz1 ⊢
 have old1:∀ b o,s.heap.get? b=some o→h1.get? b=some o:=fun b o e=>by
  rw [← hh1,Heap.get?_update_ne _ _ _ _ (Nat.ne_of_lt (Heap.lt_size e))]
  exact Heap.get?_push_of_some _ e
 dsimp only
 obtain ⟨D,hD⟩:∃ D,D=h1.objs.size:=⟨_,rfl⟩
 have gD0:(h1.push (seqObj "list" its.toArray 0)).get? D=some (seqObj "list" its.toArray 0):=by
  rw [hD]
  exact Heap.get?_push_size _ rfl
 have old2:∀ b o,s.heap.get? b=some o→(h1.push (seqObj "list" its.toArray 0)).get? b=some o:=fun b o e=>Heap.get?_push_of_some _ (old1 b o e)
 have hsz2:(h1.push (seqObj "list" its.toArray 0)).objs.size=s.heap.objs.size + 2:=by rw [size_push',hsz1]
 change wpAny _ _ (do let _ ← holding [Value.ref h1.objs.size] (call (.builtin "list.sort") [Value.ref h1.objs.size] [(Str.ofString "key",.ref f)]);ret (Value.ref h1.objs.size)) _ _ { s with heap:=h1.push (seqObj "list" its.toArray 0) }
 rw [← hD]
 generalize h1.push (seqObj "list" its.toArray 0)=h2 at gD0 old2 hsz2 ⊢
 have hDs:D=s.heap.objs.size + 1:=by rw [hD,hsz1]
 refine wpAny_bind (wpAny_holding (wpAny_call_entry_kw slot_list_sort ⟨_,gD0,rfl⟩ entry_list_sort ?_ (ksk_l1 _ _)))
 rw [ksk_t1]
 unfold ksk_tree
 refine wpAny_bind (listItems_at gD0 rfl ?_)
 refine wpAny_bind (listUpdate_at gD0 rfl ?_ (by rw [List.size_toArray];exact zz) (Nat.zero_le _))
 have gD1:=get?_update_seq gD0 (fun _=>#[])
 generalize (if ((#[]:Array Value).size == its.toArray.size)=true then 0 else 0 + 1)=e1 at gD1
 have old3:∀ b o,s.heap.get? b=some o→(h2.update D (Obj.mapSeq fun _=>#[])).get? b=some o:=fun b o e=>by
  rw [Heap.get?_update_ne _ _ _ _ (Nat.ne_of_lt (by rw [hDs];exact Nat.lt_succ_of_lt (Heap.lt_size e)))]
  exact old2 b o e
 have hsz3:(h2.update D (Obj.mapSeq fun _=>#[])).objs.size=s.heap.objs.size + 2:=by rw [Heap.size_update,hsz2]
 dsimp only
 generalize h2.update D (Obj.mapSeq fun _=>#[])=h3 at gD1 old3 hsz3 ⊢
 refine wpAny_bind (seqEpoch_at gD1 rfl ?_)
 refine wpAny_bind (wpAny_newTuple ?_ (by simpa using zz))
 refine wpAny_bind (wpAny_newList ?_ (Nat.zero_le _))
 dsimp only
 refine wpAny_holding ?_
 obtain ⟨kS,hkS⟩:∃ kS,kS=(h3.push { cls:=Value.type "tuple",data:=Data.seq its.toArray.toList.toArray }).objs.size:=⟨_,rfl⟩
 have gK4:((h3.push { cls:=Value.type "tuple",data:=Data.seq its.toArray.toList.toArray }).push { cls:=Value.type "list",data:=Data.seq ([]:List Value).toArray }).get? kS=some (seqObj "list" ([]:List Value).toArray 0):=by
  rw [hkS]
  exact Heap.get?_push_size _ rfl
 have gD4:((h3.push { cls:=Value.type "tuple",data:=Data.seq its.toArray.toList.toArray }).push { cls:=Value.type "list",data:=Data.seq ([]:List Value).toArray }).get? D=some (seqObj "list" #[] e1):=Heap.get?_push_of_some _ (Heap.get?_push_of_some _ gD1)
 have old4:∀ b o,s.heap.get? b=some o→((h3.push { cls:=Value.type "tuple",data:=Data.seq its.toArray.toList.toArray }).push { cls:=Value.type "list",data:=Data.seq ([]:List Value).toArray }).get? b=some o:=fun b o e=>Heap.get?_push_of_some _ (Heap.get?_push_of_some _ (old3 b o e))
 have hkSs:kS=s.heap.objs.size + 3:=by rw [hkS,Heap.size_push,hsz3]
 rw [← hkS]
 generalize (h3.push { cls:=Value.type "tuple",data:=Data.seq its.toArray.toList.toArray }).push { cls:=Value.type "list",data:=Data.seq ([]:List Value).toArray }=h4 at gK4 gD4 old4 ⊢
 have hne:D≠kS:=Nat.ne_of_lt (by rw [hDs,hkSs];omega)
 have I4:Inv X pins σ H { s with heap:=h4 }:=I.kept (t':=s.toks) old4
 have lD:s.heap.objs.size≤D:=by rw [hDs];exact Nat.le_succ _
 have lK:s.heap.objs.size≤kS:=by rw [hkSs];exact Nat.le_add_right _ _
 have nD:H D=none:=I.hok.fresh lD
 have nK:H kS=none:=I.hok.fresh lK
 have fD:∀ H',H' D=none→jA X pins H' D:=fun H' hn=>I.fpOk lD hn
 have fK:∀ H',H' kS=none→jA X pins H' kS:=fun H' hn=>I.fpOk lK hn
 unfold ksk_rest
 refine wpAny_bind (wpAny_rule ?_)
 refine wpAny_bind ?_
 rw [← Array.forIn_toList]
 refine aB5 (X:=X) (pins:=pins) (σ:=σ) (f:=f) (A':=X.A.in1.in1) (D:=D) (kS:=kS) (H0:=H) (e1:=e1) (xs:=xs) fD fK hne hkey (er:=fun v e=>do
     rule "list.sort.key-raised"
     let made ← Builtin.List.listItems (.ref kS)
     Builtin.List.listUpdate (.ref kS) fun x=>#[]
     letGo made.toList.reverse [e]
     Builtin.List.listUpdate (Value.ref D) fun x=>its.toArray
     throw e
     pure (ForInStep.yield PUnit.unit)) (fun v u=>by congr 1) its xs _ H [] 0 rv (fun y hy=>hy) I4 (aU.refl H) nD nK gD4 gK4 (fun v hv=>by simp at hv) (by simp;omega) ?_
 intro s' H' ks e' I' S hD' hK' gD' gK' hks hkl
 refine wpAny_bind (listItems_at gK' rfl ?_)
 refine aHi gD' gK' hne (by simpa using hkl) (by omega) (fun v hv=>(hks v hv).real I') fun out hp=>?_
 refine ⟨_,rfl,wpAny_pure ⟨_,rfl,?_⟩⟩
 obtain ⟨ys,hys,rys⟩:=vC hp rv
 have I6:Inv X pins σ H' { s' with heap:=(s'.heap.update kS (Obj.mapSeq fun _=>#[])).update D (Obj.mapSeq fun _=>out.toArray) }:=I'.turnedL (t':=s'.toks) (fp:=[kS,D]) (fun b o hb e=>by
  rw [Heap.get?_update_ne _ _ _ _ (fun z=>hb (by simp [z])),Heap.get?_update_ne _ _ _ _ (fun z=>hb (by simp [z]))]
  exact e) fun b hb=>by
   simp only [List.mem_cons,List.not_mem_nil,or_false] at hb
   rcases hb with rfl | rfl
   ·exact fK H' hK'
   ·exact fD H' hD'
 have gD6:((s'.heap.update kS (Obj.mapSeq fun _=>#[])).update D (Obj.mapSeq fun _=>out.toArray)).get? D=_:=get?_update_seq (c:="list") (xs:=#[]) (n:=e1) (by
  rw [Heap.get?_update_ne _ _ _ _ hne]
  exact gD') fun _=>out.toArray
 have hyl:ys.length≤sizeLine:=by rw [hys.length_eq];omega
 exact ⟨.ref D,_,I6.track (ob:=.lst ys) (fD H' hD') ⟨hyl,out,_,rys,gD6⟩,rfl,q D ys _ (S.trans (aU.new hD')) nD hys aF⟩
end
end L2
namespace L2
open PySem PySem.Spec PyProof.Rows PySem.W
theorem dD.seq {K:PySem.W.Frag}{T:Addr}{H H':Hp}{a:Addr}{xs:List V}{ps:Array Value} (e:dD T H H') (hT:H T=some (.tbl ps)) (h:SqL K H a xs):SqL K H' a xs:=by
 rcases h with (h | ⟨o,h⟩) | h
 ·exact .inl (.inl (e _ _ (fun z=>by rw [z,hT] at h;cases h) h))
 ·exact .inl (.inr ⟨o,e _ _ (fun z=>by rw [z,hT] at h;cases h) h⟩)
 ·exact .inr h
section
variable {X:Cx}{e:Expr}{ta:TA}
def tSL (X:Cx) (T:Addr) (iT:Pos) (fs:List Str) (te:TE) (ta:TA):TE:=fun σ H Q=>ta σ H fun vs H1=>∃ l xs zs,vs=[V.ref l]∧SqL X.K H1 l xs∧xs.length≤sizeLine∧aA3 X σ fs zs∧dQ T iT (X.env.qual ++ "<lambda>") H1∧
 (∀ y∈xs,∀ H',dD T H1 H'→te (some y :: zs.map some) H' fun u H''=>∃ t a b,u=.ref t∧H'' t=some (.tup [.int a,.int b])∧aU H' H'')∧
 ∀ D ys H',dD T H1 H'→dQ T iT (X.env.qual ++ "<lambda>") H'→H1 D=none→ys.Perm xs→H' D=some (.lst ys)→Q (.ref D) H'
theorem aAd {k:Nat}{c T:Addr}{x:Str}{fs:List Str}{params:Arguments}{body:Expr}{scope:Scope}{cl:List (Str×Addr)}{te:TE}{p iT kp pos:Pos} (hr:dF (k + 3) X.A) (hcode:X.env.code=.ref c) (hC:codeHdIn X.K c T=true) (hB:pN X.mg X.base) (hg:Gl X "sorted") (hm:X.mg "sorted"=none) (S:sZ [x] fs scope)
  (hc:∀ x b,cl.lookup x=some b→X.env.cells.lookup x=some b) (hhas:∀ x,scope.names.lookup x=some .free→∃ b,cl.lookup x=some b) (hb:∀ (pm cdv ctv u:Value),bindArgs (kla_fn "<lambda>" (X.env.qual ++ "<lambda>") params body scope cl pm cdv ctv) ⟨[u],[]⟩=pure [(x,u)])
  (hbody:∀ (f c:Addr) (s:Shared) (H:Hp),PE (yD X ([x] ++ fs) (X.env.qual ++ "<lambda>") scope f (.ref c) cl X.A.in1.in1 s H) body te) (ha:PA X [e] ta)
  (hcl:closureFor scope X.env=pure cl:=by rfl) (hdef:defaultsOf params X.env=([],[]):=by rfl) (he:starEach [e] X.env=[(false,eval e X.env)]:=by rfl):
  PE X (.Call (.Name "sorted" p) [e] [⟨some "key",.Lambda params body scope iT,kp⟩] pos) (tSL X T iT fs te ta):=by
 constructor
 intro pins s σ H Q I h
 refine wpAny_Call_Name_kw (pA I hg hm boot_sorted ?_ (by decide) (by decide))
 refine callWith_builtin_kwB (by rw [he];rfl) (by rfl) ?_
 have hrun:=ha pos pins s σ H _ I h
 rw [he] at hrun ⊢
 refine evalArgs_kwB (by rfl) (thn hrun fun us s1 ⟨vs,H1,I1,r,q1⟩=>?_)
 obtain ⟨l,xs,zs,rfl,hl,hlen,ht,gt,hkey,q⟩:=q1
 obtain ⟨ps,hT,_⟩:=gt.ex
 have hkw:PK X [⟨some "key",.Lambda params body scope iT,kp⟩] (uM (aGj T iT (X.env.qual ++ "<lambda>") params body scope cl) aCO):=aAI (aDE hcode hC hB hcl hdef) aCR
 refine thn (hkw pos pins s1 σ H1 (fun ws H2=>∃ f c,ws=[V.ref f]∧dD T H1 H2∧dQ T iT (X.env.qual ++ "<lambda>") H2∧H2 c=some (i7 c (X.env.qual ++ "<lambda>"))∧H2 f=some (jG f (X.env.qual ++ "<lambda>") params body scope cl c)) I1 ⟨gt,fun f c H2 a1 a2 a3 a4=>⟨f,c,rfl,a1,a2,a3,a4⟩⟩) fun ws s2 ⟨ws',H2,I2,rz,f,c',ez,a1,a2,a3,a4⟩=>?_
 subst ez
 cases rz with
 | cons r1 r2=>
  cases r1
  cases r2
  cases r with
  | cons r3 r4=>
   cases r3
   cases r4
   refine aDG I2 (a1.seq hT hl) hlen (fun y hy v pins' H' s' rv I' S'=>?_) fun D ys H' s' n1 n2 n3=>q D ys H' (a1.trans s'.butT) (a2.same s') ?_ n2 n3
   ·exact aDF (k:=k) (ps:=[x]) (fs:=fs) I' I'.ok.frames ((hr.in1).in1) S hc hhas (S' _ _ a4) (S' _ _ a3) (fun pm cdv ctv=>hb pm cdv ctv v) (.cons rv .nil) rfl ht (hbody f c' s' H') (hkey y hy H' (a1.trans S'.butT))
   ·cases qD:H1 D with
    | none=>rfl
    | some o=>
     by_cases hD:D=T
     ·subst hD
      obtain ⟨ps',hT',_⟩:=a2.ex
      rw [hT'] at n1
      cases n1
     ·rw [a1 _ _ hD qD] at n1
      cases n1
end
theorem Fun.okC {P:Program}{w:World}{K:PySem.W.Frag}{mg:Str→Option Value}{base:Heap}{x qual:Str}{st:Stmt}{f:Addr}{fd:FuncData}{N ps:List Str}{k:Nat}{sp:Sp} (F:Fun K x qual st f fd) (S:cA N ps (aM st)) (len:∀ vs H Q E,sp vs H Q E→vs.length=ps.length)
  (hbody:∀ (cdv:Value) (A:Around) (outer:List Env) (s:Shared) (H:Hp) (vs:List V) (Q:VK) (E:XK),fd.code=cdv→dF k (A.deeper (envOfC qual (aM st) s.heap.objs.size f cdv))→sp vs H Q E→
   ∃ t,PSs (iL CX0 P w K mg base N qual (aM st) f cdv A outer s H E).nox (bZ st) t∧t { nx:=fun _ H'=>Q .non H',rt:=Q } (start N vs) H):cC P w K mg base CX0 (k + 1) f fd ps sp:=by
 obtain ⟨oc,od,kV,doc,pm,an,cdv,ct,osl,rfl,lk,hcd⟩:=F.ex
 refine aCS lk hcd S len fun A outer s H vs Q E hr hsp=>?_
 obtain ⟨t,h,q⟩:=hbody cdv A outer s H vs Q E rfl hr hsp
 exact ⟨t,h.nox,q⟩
end L2
namespace L2
open PySem PySem.Spec PyProof.Rows PySem.W
theorem dQ.start {T:Addr}{pos:Pos}{qual:Str}{H:Hp} (h:H T=some (.tbl #[])):dQ T pos qual H:=⟨#[],h,trivial,.inl rfl⟩
theorem aB6 {P:Program}{w:World}{K:PySem.W.Frag}{mg mb:Str→Option Value}{k:Nat}{fa a:Addr}{fd:FuncData}{x:Str}{sp:Sp}{s₁:Shared}{vs:List Value}{ns:List Int}{Ts:List Addr}
  (KX:K.In s₁.heap) (hns:s₁.heap.Ns mainGlobals mg) (hb:s₁.heap.Ns builtinsNs mb) (hbb:∀ x:Str,x≠"__name__"→mb x=bootBuiltins x) (hlim:s₁.heap.NoLimit) (hg:s₁.gens=#[]) (hB:pN mg s₁.heap)
  (hT:∀ T∈Ts,s₁.heap.get? T=some (tabObj #[])∧K.lookup T=none∧isCodeTable s₁.heap T)
  (ha:s₁.heap.get? a=some { cls:=.type "list",data:=.seq vs.toArray }) (hi:IntsAre vs ns) (hl:ns.length≤sizeLine) (hr:dF k callerA)
  (F:∀ base:Heap,K.In base→base.Ns mainGlobals mg→pN mg base→cC P w K mg base CX0 k fa fd [x] sp) (hbind:∀ (s:Shared) (u:Value),BindsTo s fd ⟨[u],[]⟩ [(x,u)])
  (hsp:∀ H:Hp,(∀ T∈Ts,H T=some (.tbl #[]))→SqL K H a (ns.map V.int)→sp [.ref a] H (fun v _=>v=.bl true) fun _ _ _=>False):
  codeAny (model P w) callerA (.call (.ref fa) ⟨[.ref a],[]⟩) (fun r s'=>r=.ok (.ret (.bool true))∧OldK s₁.heap s'.heap∧s'.os=s₁.os∧AllBare s'.gens) s₁:=by
 have rv:=uW hi
 have lenV:=hi.length
 have aT:∀ T∈Ts,T≠a:=fun T h z=>by
  have:=(hT T h).1
  rw [z,ha] at this
  cases this
 have core:∀ H:Hp,(∀ T∈Ts,H T=some (.tbl #[]))→SqL K H a (ns.map V.int)→HOk P w H s₁.heap→(∀ b,H b≠none→b∈Ts∨(b=a∧K.lookup a=none∧H a=some (.frz { cls:=.type "list",data:=.seq vs.toArray } (.lst (ns.map V.int)))))→
   codeAny (model P w) callerA (.call (.ref fa) ⟨[.ref a],[]⟩) (fun r s'=>r=.ok (.ret (.bool true))∧OldK s₁.heap s'.heap∧s'.os=s₁.os∧AllBare s'.gens) s₁:=by
  intro H hO hS hok hA
  have free:∀ {b:Addr} {o:Obj},s₁.heap.get? b=some o→(∀ xs n,o.data≠.seq xs n)→(∀ vs,o.data≠.fields vs)→H b=none:=fun {b o} e d1 d2=>by
   cases q:H b with
   | none=>rfl
   | some u=>
    rcases hA b (by rw [q];simp) with z | ⟨z,_,_⟩
    ·rw [(hT b z).1] at e
     cases e
     exact absurd rfl (d2 _)
    ·rw [z,ha] at e
     cases e
     exact absurd rfl (d1 _ _)
  have nsK:∀ {b:Addr} {m:Str→Option Value},s₁.heap.Ns b m→(v9 s₁.heap H).Ns b m:=fun {b m} ⟨o,es,ep,e,d,r⟩=>⟨o,es,ep,rM e (free e (fun _ _ z=>by rw [d] at z;cases z) fun _ z=>by rw [d] at z;cases z),d,r⟩
  have hKb:K.In (v9 s₁.heap H):=fun b o e=>rM (KX b o e) (by
   cases q:H b with
   | none=>rfl
   | some u=>
    rcases hA b (by rw [q];simp) with z | ⟨z,z2,_⟩
    ·rw [(hT b z).2.1] at e
     cases e
    ·rw [z,z2] at e
     cases e)
  have hBb:pN mg (v9 s₁.heap H):=by
   obtain ⟨bm,o,b1,b2,b3,b4,b5,b6,b7⟩:=hB
   exact ⟨bm,o,b1,b2,b3,rM b4 (free b4 (fun _ _ z=>by rw [b7] at z;cases z) fun _ z=>by rw [b7] at z;cases z),b5,b6,b7⟩
  have hM:Mod K mg (v9 s₁.heap H):=⟨hKb,nsK hns,⟨mb,nsK hb,hbb⟩,let ⟨mc,h1,h2⟩:=hlim;⟨mc,nsK h1,h2⟩⟩
  have e0:qU P w K mg (v9 s₁.heap H) callerA [] s₁ H:=⟨rfl,hM,fun b o e=>aEz e,Nat.le_of_eq (aBL _ _),trivial,fun b hb=>absurd (show b∈([]:List Addr) from hb) (by simp),hok,.of_eq hg⟩
  refine codeAny_mono ((F _ hKb (nsK hns) hBb).run callerA [] s₁ H ⟨[.ref a],[]⟩ [.ref a] [.ref a] _ _ hr e0 (hbind s₁ (.ref a)) (.cons rfl .nil) (hsp H hO hS)) fun r s' h=>?_
  cases r with
  | error e=>exact False.elim h
  | ok fl=>
   cases fl with
   | next=>exact False.elim h
   | brk=>exact False.elim h
   | cont=>exact False.elim h
   | ret u=>
    obtain ⟨v,H',os,bare,un,hok',r',q⟩:=h
    have q':v=.bl true:=q
    subst q'
    obtain rfl:u=Value.bool true:=r'
    refine ⟨rfl,⟨fun b o e=>?_,fun b o e=>un.there b o e (by simp)⟩,os,bare⟩
    cases q:H b with
    | none=>exact .inl (un.keep b o e q (by intro z;exact absurd (show b∈([]:List Addr) from z) (by simp)) (by simp))
    | some u=>
     rcases hA b (by rw [q];simp) with z | ⟨z,_,z2⟩
     ·obtain ⟨e1,_,e3⟩:=hT b z
      rw [e1] at e
      cases e
      obtain ⟨more,e4⟩:=un.tbls b _ (hO b z)
      exact .inr (.inl ⟨e3,rfl,#[],more,rfl,hok' b _ e4⟩)
     ·subst z
      have z3:=un.frzs _ _ _ z2
      obtain ⟨e1,_⟩:=hok _ _ z2
      obtain ⟨e2,_⟩:=hok' _ _ z3
      rw [e] at e1;cases e1
      exact .inl e2
 have tabOk:∀ (H:Hp) T,T∈Ts→c6 P w H s₁.heap T (.tbl #[]):=fun H T h=>(hT T h).1
 cases hk:K.lookup a with
 | some o=>
  have e:=KX a o hk
  rw [ha] at e
  cases e
  refine core (fun b=>if b∈Ts then some (.tbl #[]) else none) (fun T h=>if_pos h) (.inr ⟨_,vs.toArray,_,hk,rfl,rfl,rfl,by rw [List.size_toArray,lenV];exact hl,by simpa using rv⟩) (fun b u z=>?_) fun b z=>?_
  ·by_cases hb:b∈Ts
   ·have z':=(if_pos hb).symm.trans z
    cases z'
    exact tabOk _ b hb
   ·have z':=(if_neg hb).symm.trans z
    cases z'
  ·by_cases hb:b∈Ts
   ·exact .inl hb
   ·exact absurd (if_neg hb) z
 | none=>
  have hAt:∀ T∈Ts,(if T=a then some (HO.frz { cls:=.type "list",data:=.seq vs.toArray } (.lst (ns.map V.int))) else if T∈Ts then some (.tbl #[]) else none)=some (.tbl #[]):=fun T h=>by
   rw [if_neg (aT T h),if_pos h]
  refine core (fun b=>if b=a then some (.frz { cls:=.type "list",data:=.seq vs.toArray } (.lst (ns.map V.int))) else if b∈Ts then some (.tbl #[]) else none) hAt (.inl (.inr ⟨{ cls:=.type "list",data:=.seq vs.toArray },if_pos rfl⟩)) (fun b u z=>?_) fun b z=>?_
  ·by_cases hb:b=a
   ·have z':=(if_pos hb).symm.trans z
    cases z'
    subst hb
    exact ⟨ha,by rw [List.length_map];exact hl,vs,_,rv,ha⟩
   ·have z1:=(if_neg hb).symm.trans z
    by_cases hb2:b∈Ts
    ·have z':=(if_pos hb2).symm.trans z1
     cases z'
     exact tabOk _ b hb2
    ·have z':=(if_neg hb2).symm.trans z1
     cases z'
  ·by_cases hb:b=a
   ·exact .inr ⟨hb,hk,if_pos rfl⟩
   ·by_cases hb2:b∈Ts
    ·exact .inl hb2
    ·exact absurd ((if_neg hb).trans (if_neg hb2)) z
theorem walk_ofT {l:PySem.W.OpenLaw}{n k:Nat}{q:Program}{loose:List Str}{XP:(Str→Option Value)→Heap→Prop}{YP:World→Heap→Prop}{d:DefRec}{K:Params→PySem.W.Frag}{sp:World→Sp}{x:Str}{cts:List (Addr×Addr)}
  (hn:l.most=some n) (hn2:n≤sizeLine) (hdf:d.params.defaults=[]) (hr:dF k callerA)
  (hY:∀ (w:World) (h:Heap),YP w h→(K w.params).In h∧∀ T∈cts.map (·.2),h.get? T=some (tabObj #[]))
  (hC:∀ (w:World),∀ p∈cts,codeHdIn (K w.params) p.1 p.2=true∧(K w.params).lookup p.2=none)
  (F:∀ (w:World) (mg:Str→Option Value) (fa:Addr) (h:Heap),(K w.params).In h→h.Ns mainGlobals mg→mg d.name=some (.ref fa)→
   ∃ fd:FuncData,(∀ (s:Shared) (u:Value),BindsTo s fd ⟨[u],[]⟩ [(x,u)])∧
    ∀ base:Heap,(K w.params).In base→base.Ns mainGlobals mg→pN mg base→cC l.prog w (K w.params) mg base CX0 k fa fd [x] (sp w))
  (hsp:∀ (w:World) (H:Hp) (a:Addr) (ns:List Int),ns.length≤n→(∀ T∈cts.map (·.2),H T=some (.tbl #[]))→SqL (K w.params) H a (ns.map V.int)→sp w [.ref a] H (fun v _=>v=.bl true) fun _ _ _=>False):
  PySem.W.WalkO q loose XP YP l.row.toRowW d [] (fun f vs=>PySem.call f vs):=by
 refine Att.attach_call hn hdf fun w s₀ s₁ mg mb fa o pm cd doc a vs ns G Y ho hd hcd hmg hobj hints hlen hg=>?_
 obtain ⟨KX,TX⟩:=hY w _ Y
 obtain ⟨fd,hb,hF⟩:=F w mg fa _ KX G.T.g hmg
 have hB:pN mg s₁.heap:=by
  obtain ⟨bm,ob,b1,b2,b3,b4,b5,b6⟩:=G.T.bmain
  refine ⟨bm,ob,b1,b2,fun z=>?_,b3,b4,b5,b6⟩
  obtain ⟨o',es,ep,e,r⟩:=G.T.g
  rw [z,e] at b3
  cases b3
  rw [r.1] at b6
  cases b6
 refine aB6 KX G.T.g G.T.b G.T.builtins G.T.nolimit hg hB (Ts:=cts.map (·.2)) (fun T h=>?_) hobj hints (Nat.le_trans hlen hn2) hr hF hb fun H hO hS=>hsp w H a ns hlen hO hS
 obtain ⟨p,hp,rfl⟩:=List.mem_map.mp h
 obtain ⟨h1,h2⟩:=hC w p hp
 exact ⟨TX _ h,h2,((codeHd_of_K KX h1).tab (TX _ h)).isCodeTable⟩
end L2
namespace L2
open PySem PySem.Spec PyProof.Rows
section
variable {X:Cx}
inductive tE (x:V) (vs:List V) (H:Hp) (Q:VK):Prop
 | mk (l:_) (b:_) (xs:_) (zs:_) (q0:x=.ref l) (q1:vs=[.ref b]) (q2:H l=some (.lst xs)) (q3:H b=some (.tup zs)) (q4:xs.length + zs.length≤sizeLine) (q5:Q .non (upd H l (.lst (xs ++ zs)))):tE x vs H Q
def aDH:V→List V→Hp→VK→Prop:=fun x vs H Q=>tE x vs H Q
theorem aAe:MtM X "list.extend" aDH:=by
 intro pins s σ H x vs v us Q I rx rv h
 obtain ⟨l,b,xs,zs,rfl,rfl,hH,hB,hz,q⟩:=h
 cases rx
 obtain ⟨u,rfl,ru⟩:=rv.one
 cases ru
 obtain ⟨z,its,n,r,hl,e⟩:=I.lstM hH
 obtain ⟨its2,r2,p,_⟩:=I.tuple (SqT.of (K:=X.K) hB)
 have hl2:=r2.length
 have hsz:its.toArray.size + its2.toArray.size≤sizeLine:=by rw [List.size_toArray,List.size_toArray];omega
 have hlong:¬ (!its.toArray.isEmpty && Builtin.List.listTooLong (its.toArray.size + its2.toArray.size))=true:=by
  rw [aC2 hsz,Bool.and_false]
  exact Bool.false_ne_true
 refine wpAny_call_entry F.slot_list_extend ⟨_,e,rfl⟩ F.entry_list_extend ?_ (F.args_list_extend_2 _ _)
 show wpAny _ _ (Builtin.List.listExtendWith (.ref l) (.ref b) .none) _ _ _
 unfold Builtin.List.listExtendWith
 refine wpAny_bind (wpAny_typeOf p.typeIs ?_)
 rw [if_pos (by
  have ht:(Value.type "tuple" == Value.type "tuple")=true:=by rfl
  rw [ht]
  simp)]
 refine wpAny_bind (g9 p ?_)
 refine wpAny_bind (listItems_at e rfl ?_)
 rw [if_neg hlong]
 refine wpAny_bind (listUpdate_at e rfl ?_ (by rw [List.size_toArray];omega) (by rw [Array.size_append];omega))
 refine wpAny_pure ⟨_,rfl,?_⟩
 refine ⟨.non,_,I.lset (its':=its ++ its2) (t':=s.toks) hH e (by simp) (r.append r2) ?_,rfl,q⟩
 rw [List.length_append]
 omega
end
end L2
namespace L2
open PySem PySem.Spec PyProof.Rows
section
variable {X:Cx}{tg:Expr}
end
end L2
namespace L2
open PySem PySem.Spec PyProof.Rows
section
variable {X:Cx}
inductive aAf (H:Hp):V→Prop
 | str (z:Str):aAf H (.str z)
 | non:aAf H .non
 | int (i:Int):aAf H (.int i)
 | bl (b:Bool):aAf H (.bl b)
 | lst {a:Addr} {xs:List V} (e:H a=some (.lst xs)):aAf H (.ref a)
 | tup {a:Addr} {xs:List V} (e:H a=some (.tup xs)):aAf H (.ref a)
inductive Thg (H:Hp):V→Option (List V)→Prop
 | lst {a:Addr} {xs:List V} (e:H a=some (.lst xs)) (h:∀ v∈xs,aAf H v):Thg H (.ref a) (some xs)
 | tup {a:Addr} {xs:List V} (e:H a=some (.tup xs)):Thg H (.ref a) none
 | dct {a:Addr} {kvs:List (Key×V)} (e:H a=some (.dK kvs)):Thg H (.ref a) none
 | non:Thg H .non none
 | str (z:Str):Thg H (.str z) none
 | bl (b:Bool):Thg H (.bl b) none
end
end L2
namespace L2
open PySem PySem.Spec PyProof.Rows
section
variable {X:Cx}
inductive RpV (H:Hp):V→Str→Prop
 | non:RpV H .non "None"
 | bl (b:Bool):RpV H (.bl b) (if b then "True" else "False")
 | str (z:Str) (h:(reprText z).length≤sizeLine):RpV H (.str z) (reprText z)
 | ref {a:Addr} {m:Bool} {d:PyData} (r:RdV m H (.ref a) d) (h1:d.showable=true) (h2:d.depth≤20) (h3:d.shown.length≤sizeLine):RpV H (.ref a) d.shown
end
end L2
namespace L2
open PySem PySem.Spec PyProof.Rows
mutual
theorem RdV.uniq {H:Hp}:∀ {x:V}{d d':PyData},RdV false H x d→RdV false H x d'→d=d'
 | _,_,_,.non,h=>by cases h;rfl
 | _,_,_,.bl b,h=>by cases h;rfl
 | _,_,_,.int i,h=>by cases h;rfl
 | _,_,_,.str z _,h=>by cases h;rfl
 | _,_,_,.lst hm _ _ _,_=>nomatch hm
 | _,_,_,.tup e hl r,h=>by
  cases h with
  | lst hm=>cases hm
  | tup e' hl' r'=>
   rw [e] at e'
   cases e'
   rw [cW.uniq r r']
  | dct _ e'=>rw [e] at e';cases e'
 | _,_,_,.dct _ e,h=>by
  cases h with
  | lst hm=>cases hm
  | tup e' _ _=>rw [e] at e';cases e'
  | dct _ e'=>rfl
theorem cW.uniq {H:Hp}:∀ {xs:List V}{ds ds':List PyData},cW false H xs ds→cW false H xs ds'→ds=ds'
 | _,_,_,.nil,h=>by cases h;rfl
 | _,_,_,.cons a r,h=>by
  cases h with
  | cons a' r'=>rw [RdV.uniq a a',cW.uniq r r']
end
def OkS:Nat→PyData→Prop
 | 0,d=>(∃ z,d=.str z)∨∃ i,d=.int i
 | n + 1,d=>(∃ z,d=.str z)∨(∃ i,d=.int i)∨∃ ds,d=.tuple ds∧∀ e∈ds,OkS n e
theorem OkS.str (z:Str):∀ n,OkS n (.str z)
 | 0=>.inl ⟨z,rfl⟩
 | n + 1=>.inl ⟨z,rfl⟩
theorem OkS.int (i:Int):∀ n,OkS n (.int i)
 | 0=>.inr ⟨i,rfl⟩
 | n + 1=>.inr (.inl ⟨i,rfl⟩)
open Classical in
theorem yE:∀ {xs zs:List PyData},(((List.range (min xs.length zs.length)).all fun i=>decide (xs[i]?=zs[i]?)) && xs.length == zs.length)=decide (xs=zs)
 | [],[]=>by simp
 | [],z :: zs=>by simp
 | x :: xs,[]=>by simp
 | x :: xs,z :: zs=>by
  have ih:=yE (xs:=xs) (zs:=zs)
  have e:min (x :: xs).length (z :: zs).length=min xs.length zs.length + 1:=by simp only [List.length_cons];omega
  rw [e,List.range_succ_eq_map,List.all_cons,List.all_map]
  have e2:((x :: xs).length == (z :: zs).length)=(xs.length == zs.length):=by simp
  rw [e2]
  show ((decide (some x=some z) && ((List.range (min xs.length zs.length)).all fun i=>decide (xs[i]?=zs[i]?))) && (xs.length == zs.length))=_
  rw [Bool.and_assoc,ih]
  by_cases h1:x=z
  ·by_cases h2:xs=zs <;> simp [h1,h2]
  ·simp [h1]
section
variable {X:Cx}{pins:List (Addr×Obj)}{σ:St}{H:Hp}{s:Shared}
open Classical in
theorem aDI (I:Inv X pins σ H s):∀ (n:Nat) {A:Around}{x y:V}{d d':PyData}{u v:Value},OkS n d→OkS n d'→A.units + 4 * n + 4 < cLine→RdV false H x d→RdV false H y d'→cS x u→cS y v→SeqAt.EqAt A s u v (decide (d=d')):=by
 intro n
 induction n with
 | zero=>
  intro A x y d d' u v h1 h2 hu r1 r2 ru rv
  rcases h1 with ⟨z,rfl⟩ | ⟨i,rfl⟩ <;> rcases h2 with ⟨z',rfl⟩ | ⟨i',rfl⟩ <;> cases r1 <;> cases r2 <;> obtain ⟨t,rfl⟩:=ru <;> obtain ⟨t',rfl⟩:=rv
  ·have:=SeqAt.EqAt.str_str (A:=A) (s:=s) z t z' t'
   have e:decide (PyData.str z=PyData.str z')=(z == z'):=by rw [Bool.eq_iff_iff];simp
   rw [e]
   exact this
  ·have e:decide (PyData.str z=PyData.int i')=false:=by simp
   rw [e]
   exact SeqAt.EqAt.str_int _ _ _ _
  ·have e:decide (PyData.int i=PyData.str z')=false:=by simp
   rw [e]
   exact SeqAt.EqAt.int_str _ _ _ _
  ·have e:decide (PyData.int i=PyData.int i')=(i == i'):=by rw [Bool.eq_iff_iff];simp
   rw [e]
   exact SeqAt.EqAt.int_int _ _ _ _
 | succ n ih=>
  intro A x y d d' u v h1 h2 hu r1 r2 ru rv
  have hu0:A.units < cLine:=by omega
  rcases h1 with ⟨z,rfl⟩ | ⟨z,rfl⟩ | ⟨ds,rfl,h1⟩
  ·rcases h2 with ⟨z',rfl⟩ | ⟨i',rfl⟩ | ⟨ds',rfl,h2⟩
   ·exact ih (.str _ _) (.str _ _) (by omega) r1 r2 ru rv
   ·exact ih (.str _ _) (.int _ _) (by omega) r1 r2 ru rv
   ·cases r1
    cases r2 with
    | tup e hl r=>
     obtain ⟨t,rfl⟩:=ru
     cases rv
     obtain ⟨its,q1,t1,_⟩:=I.tuple (SqT.of e)
     have e:decide (PyData.str z=PyData.tuple ds')=false:=by simp
     rw [e]
     exact SeqAt.EqAt.str_tuple _ _ t1 hu0
  ·rcases h2 with ⟨z',rfl⟩ | ⟨i',rfl⟩ | ⟨ds',rfl,h2⟩
   ·exact ih (.int _ _) (.str _ _) (by omega) r1 r2 ru rv
   ·exact ih (.int _ _) (.int _ _) (by omega) r1 r2 ru rv
   ·cases r1
    cases r2 with
    | tup e hl r=>
     obtain ⟨t,rfl⟩:=ru
     cases rv
     obtain ⟨its,q1,t1,_⟩:=I.tuple (SqT.of e)
     have e:decide (PyData.int z=PyData.tuple ds')=false:=by simp
     rw [e]
     exact SeqAt.EqAt.int_tuple _ _ t1 hu0
  ·cases r1 with
   | @tup a xs _ ea hxl r1=>
   cases ru
   obtain ⟨its,q1,t1,_⟩:=I.tuple (SqT.of ea)
   rcases h2 with ⟨z',rfl⟩ | ⟨i',rfl⟩ | ⟨ds',rfl,h2⟩
   ·cases r2
    obtain ⟨t,rfl⟩:=rv
    have e:decide (PyData.tuple ds=PyData.str z')=false:=by simp
    rw [e]
    exact SeqAt.EqAt.tuple_str _ _ t1 hu0
   ·cases r2
    obtain ⟨t,rfl⟩:=rv
    have e:decide (PyData.tuple ds=PyData.int i')=false:=by simp
    rw [e]
    exact SeqAt.EqAt.tuple_int _ _ t1 hu0
   ·cases r2 with
    | @tup b ys _ eb hyl r2=>
    cases rv
    by_cases hab:a=b
    ·subst hab
     rw [ea] at eb
     cases eb
     rw [cW.uniq r1 r2,decide_eq_true rfl]
     exact SeqAt.EqAt.same _
    ·obtain ⟨its2,q2,t2,_⟩:=I.tuple (SqT.of eb)
     have l1:=q1.length
     have l2:=q2.length
     have m1:=r1.len
     have m2:=r2.len
     have key:=SeqAt.RcAt.tuples (A:=A) (e:=fun j=>decide (ds[j]?=ds'[j]?)) t1 t2 hu0 (fun j h1' h2'=>?_)
     ·have e1:((List.range (min its.toArray.size its2.toArray.size)).all (fun j=>decide (ds[j]?=ds'[j]?)) && its.toArray.size == its2.toArray.size)=decide (PyData.tuple ds=PyData.tuple ds'):=by
       have e2:its.toArray.size=ds.length:=by rw [List.size_toArray];omega
       have e3:its2.toArray.size=ds'.length:=by rw [List.size_toArray];omega
       rw [e2,e3,yE]
       simp
      rw [e1] at key
      exact SeqAt.EqAt.of_refs hab key
     ·have j1:j < xs.length:=by simpa [l1] using h1'
      have j2:j < ys.length:=by simpa [l2] using h2'
      obtain ⟨d1,hd1,rd1⟩:=r1.at (List.getElem?_eq_getElem j1)
      obtain ⟨d2,hd2,rd2⟩:=r2.at (List.getElem?_eq_getElem j2)
      obtain ⟨u1,eu1,ru1⟩:=q1.get (List.getElem?_eq_getElem j1)
      obtain ⟨u2,eu2,ru2⟩:=q2.get (List.getElem?_eq_getElem j2)
      have g1:its.toArray[j]=u1:=by
       rw [List.getElem?_eq_getElem (by simpa using h1')] at eu1
       simpa using eu1
      have g2:its2.toArray[j]=u2:=by
       rw [List.getElem?_eq_getElem (by simpa using h2')] at eu2
       simpa using eu2
      rw [g1,g2,hd1,hd2]
      have e5:decide (some d1=some d2)=decide (d1=d2):=by simp
      rw [e5]
      exact ih (h1 d1 (List.mem_of_getElem? hd1)) (h2 d2 (List.mem_of_getElem? hd2)) (by show A.units + 1 + 4 * n + 4 < _;omega) rd1 rd2 ru1 ru2
end
end L2
namespace L2
open PySem PySem.Spec PyProof.Rows
theorem qX {M:Model}{A:Around}{E:Value→Shared→Prop}{s:Shared}{β:Type} (f:Nat→β→Sem (ForInStep β)) (I:List Nat→β→Shared→Prop) (Q:β→Shared→Prop)
  (turn:∀ x b8 b s,I (x :: b8) b s→wpAny M A (f x b) (fun r s'=>match r with | .yield b'=>I b8 b' s' | .done b'=>Q b' s') E s)
  (fin:∀ b s,I [] b s→Q b s) (r:Std.Legacy.Range) (b:β) (h:I (List.range' r.start r.size r.step) b s):wpAny M A (forIn r b f) Q E s:=by
 rw [Std.Legacy.Range.forIn_eq_forIn_range']
 exact wpAny_forIn_list f I Q turn fin _ b h
theorem uG (l:Addr) (items:Array Value) (n:Nat) (dd:Option Addr) (sl:Array (Option Value)) (x:Value) (e:Nat→Bool) (j:Nat) (hj:j < items.size) (hit:e j=true) (hno:∀ m,m < j→e m=false):
  Meets (Builtin.«tuple.index» ⟨[.ref l,x],[]⟩)
   (fun A R s=>s.heap.get? l=some { cls:=.type "tuple",dict:=dd,data:=.seq items n,slots:=sl }∧(∀ i (hi:i < items.size),SeqAt.EqAt A.in1 s items[i] x (e i))∧R (.ok (.ret (.int j s.toks))) { s with toks:=s.toks + 1 }):=
 .of_wp fun prog w A R s h=>by
  obtain ⟨hp,g,d,tk,os⟩:=s
  obtain ⟨hl,he,h⟩:=h
  wp_walk using wpAny_loadPart' hl,qX _ (fun b8 b s'=>b.1=none∧s'=⟨hp,g,d,tk,os⟩∧∃ i,i≤j∧b8=List.range' i (items.size - i)) _
  case turn=>
   rintro y b8 b s' ⟨hb,rfl,i,hi,hr⟩
   have hlt:i < items.size:=by omega
   have e1:items.size - i=(items.size - (i + 1)) + 1:=by omega
   rw [e1,List.range'_succ] at hr
   injection hr with hy hr
   subst hy
   have hi1:items[y]?=some items[y]:=by simp [hlt]
   rw [hi1]
   refine wpAny_bind (he y hlt prog w _ _ ?_)
   by_cases hyj:y=j
   ·subst hyj
    rw [hit]
    wp_walk
    exact ⟨_,rfl,h⟩
   ·rw [hno y (by omega)]
    wp_walk
    exact ⟨rfl,rfl,y + 1,by omega,hr⟩
  case fin=>
   rintro b s' ⟨hb,rfl,i,hi,hr⟩
   have e1:items.size - i=(items.size - (i + 1)) + 1:=by omega
   rw [e1,List.range'_succ] at hr
   cases hr
  case h=>
   refine ⟨rfl,rfl,0,Nat.zero_le _,?_⟩
   simp [Std.Legacy.Range.size]
section
variable {X:Cx}
theorem aIl {m:Bool}{H:Hp}{x1:V}{ds:List PyData} (h:cW m H [x1] ds):∃ d1,ds=[d1]∧RdV m H x1 d1:=by
 cases h with
 | cons r1 h=>
 cases h
 exact ⟨_,rfl,r1⟩
theorem aIm {m:Bool}{H:Hp}{x1 x2:V}{ds:List PyData} (h:cW m H [x1,x2] ds):∃ d1 d2,ds=[d1,d2]∧RdV m H x1 d1∧RdV m H x2 d2:=by
 cases h with
 | cons r1 h=>
 cases h with
 | cons r2 h=>
 cases h
 exact ⟨_,_,rfl,r1,r2⟩
theorem aIo {m:Bool}{H:Hp}{x1 x2 x3:V}{ds:List PyData} (h:cW m H [x1,x2,x3] ds):∃ d1 d2 d3,ds=[d1,d2,d3]∧RdV m H x1 d1∧RdV m H x2 d2∧RdV m H x3 d3:=by
 cases h with
 | cons r1 h=>
 cases h with
 | cons r2 h=>
 cases h with
 | cons r3 h=>
 cases h
 exact ⟨_,_,_,rfl,r1,r2,r3⟩
theorem aIp {m:Bool}{H:Hp}{x1 x2 x3 x4:V}{ds:List PyData} (h:cW m H [x1,x2,x3,x4] ds):∃ d1 d2 d3 d4,ds=[d1,d2,d3,d4]∧RdV m H x1 d1∧RdV m H x2 d2∧RdV m H x3 d3∧RdV m H x4 d4:=by
 cases h with
 | cons r1 h=>
 cases h with
 | cons r2 h=>
 cases h with
 | cons r3 h=>
 cases h with
 | cons r4 h=>
 cases h
 exact ⟨_,_,_,_,rfl,r1,r2,r3,r4⟩
open Classical in
theorem yF {n:Nat} (hu:X.A.units + 4 * n + 8 < cLine):MtR X "tuple.index" (fun x xs H Q=>∃ (a:Addr) (ys:List V) (ds:List PyData) (y:V) (d:PyData) (j:Nat),x=.ref a∧xs=[y]∧H a=some (.tup ys)∧cW false H ys ds∧RdV false H y d∧(∀ e∈ds,OkS n e)∧OkS n d∧ds[j]?=some d∧(∀ i,i < j→ds[i]?≠some d)∧Q (.int j) H):=by
 intro pins s σ H x xs v us Q I rx r h
 obtain ⟨a,ys,ds,y,d,j,rfl,rfl,ha,rds,rd,ok1,ok2,hj,hno,q⟩:=h
 cases rx
 obtain ⟨u,rfl,ru⟩:=i0 r
 obtain ⟨its,rv,p,_⟩:=I.tuple (SqT.of ha)
 have l1:=rv.length
 have l2:=rds.len
 have hjl:=(List.getElem?_eq_some_iff.mp hj).1
 obtain ⟨⟨cls,dd,data,sl⟩,ho,hc,n',hd⟩:=id p
 simp only at hc hd
 subst hc hd
 refine call_meets F.slot_tuple_index ⟨_,ho,rfl⟩ F.entry_tuple_index (F.args_tuple_index_2 _ _) (uG a its.toArray n' dd sl u (fun i=>decide (ds[i]?=some d)) j (by rw [List.size_toArray];omega) (decide_eq_true hj) (fun m hm=>decide_eq_false (hno m hm))) ⟨ho,fun i hi=>?_,⟨.int j,H,I.tok _,⟨_,rfl⟩,q⟩⟩
 have i1:i < ys.length:=by simpa [l1] using hi
 obtain ⟨di,hdi,rdi⟩:=rds.at (List.getElem?_eq_getElem i1)
 obtain ⟨ui,eui,rui⟩:=rv.get (List.getElem?_eq_getElem i1)
 have g1:its.toArray[i]=ui:=by
  rw [List.getElem?_eq_getElem (by simpa using hi)] at eui
  simpa using eui
 rw [g1,hdi]
 have e5:decide (some di=some d)=decide (di=d):=by simp
 rw [e5]
 exact aDI I n (ok1 di (List.mem_of_getElem? hdi)) ok2 (by show X.A.units + 1 + 4 * n + 4 < _;omega) rdi rd rui ru
def aGl (z:Str):Value→Bool
 | .str z' _=>z' == z
 | _=>false
inductive jX (x:V) (xs:List V) (H:Hp) (Q:VK):Prop
 | mk (a:Addr) (zs:List Str) (z:Str) (j:Nat) (q0:x=.ref a) (q1:xs=[.str z]) (q2:H a=some (.lst (zs.map V.str))) (q3:zs.length≤1000) (q4:zs[j]?=some z) (q5:(∀ i,i < j→zs[i]?≠some z)) (q6:Q (.int j) H):jX x xs H Q
def tF:V→List V→Hp→VK→Prop:=fun x xs H Q=>jX x xs H Q
theorem oP:MtR X "list.index" tF:=by
 intro pins s σ H x xs v us Q I rx r h
 obtain ⟨a,zs,z,j,rfl,rfl,ha,hz,hj,hno,q⟩:=h
 cases rx
 obtain ⟨u,rfl,ru⟩:=i0 r
 obtain ⟨t,rfl⟩:=ru
 obtain ⟨its,rv,p,_⟩:=I.list (SqL.of ha)
 have l1:=rv.length
 rw [List.length_map] at l1
 have hjl:=(List.getElem?_eq_some_iff.mp hj).1
 obtain ⟨⟨cls,dd,data,sl⟩,ho,hc,n',hd⟩:=id p.isList
 simp only at hc hd
 subst hc hd
 have at':∀ (i:Nat) (hi:i < its.toArray.size),∃ (y:Str) (t':Tok),zs[i]?=some y∧its.toArray[i]=.str y t':=fun i hi=>by
  have hi':i < zs.length:=by rw [List.size_toArray] at hi;omega
  obtain ⟨ui,eui,rui⟩:=rv.get (i:=i) (x:=V.str zs[i]) (by rw [List.getElem?_map,List.getElem?_eq_getElem hi'];rfl)
  obtain ⟨t',rfl⟩:=rui
  rw [List.getElem?_eq_getElem (by simpa using hi)] at eui
  exact ⟨zs[i],t',List.getElem?_eq_getElem hi',by simpa using eui⟩
 refine call_meets F.slot_list_index ⟨_,ho,rfl⟩ F.entry_list_index (F.args_list_index_2 _ _) (SeqAt.list_indexAt a its.toArray n' dd sl (.str z t) (aGl z) j (by rw [List.size_toArray];omega) (by omega) ?_ (fun m hm hmj=>?_)) ⟨ho,fun y hy=>?_,⟨.int j,H,I.tok _,⟨_,rfl⟩,q⟩⟩
 ·obtain ⟨y,t',h1,h2⟩:=at' j (by rw [List.size_toArray];omega)
  rw [h2]
  rw [hj] at h1
  cases h1
  exact beq_self_eq_true z
 ·obtain ⟨y,t',h1,h2⟩:=at' m hm
  rw [h2]
  have hne:y≠z:=fun q=>hno m hmj (by rw [h1,q])
  show (y == z)=false
  simpa using hne
 ·obtain ⟨i,hi,rfl⟩:=Array.getElem_of_mem hy
  obtain ⟨y,t',h1,h2⟩:=at' i hi
  rw [h2]
  exact SeqAt.EqAt.str_str _ _ _ _
end
end L2
namespace L2
open PySem PySem.Spec PyProof.Rows
section
variable {X:Cx}
end
end L2
namespace L2
open PySem PySem.Spec PyProof.Rows PySem.W
inductive aHj (X:Cx) (pins:List (Addr×Obj)) (σ:St) (E':XK) (x:Value) (s':Shared):Prop
 | mk (H1:_) (s1:_) (q0:Inv X pins σ H1 s1) (q1:CXr X.prog X.w X.stack H1 s1 E' x s'):aHj X pins σ E' x s'
def XP (X:Cx) (pins:List (Addr×Obj)) (σ:St) (E':XK) (x:Value) (s':Shared):Prop:=aHj X pins σ E' x s'
structure PX (X:Cx) (e:Expr) (te:XK→TE):Prop where
 run:∀ (E':XK) (pins:List (Addr×Obj)) (s:Shared) (σ:St) (H:Hp) (Q:VK),Inv X pins σ H s→te E' σ H Q→wpAny (model X.prog X.w) X.A (eval e X.env) (EP X pins σ Q) (XP X pins σ E') s
structure PXs (X:Cx) (b:List Stmt) (tb:XK→TS):Prop where
 run:∀ (E':XK) (pins:List (Addr×Obj)) (s:Shared) (σ:St) (H:Hp) (D:dW),Inv X pins σ H s→tb E' D σ H→wpAny (model X.prog X.w) X.A (execs b X.env) (SP X pins D) (XP X pins σ E') s
section
variable {X:Cx}{k:Nat}{f:Addr}{fd:FuncData}{ps:List Str}{sp:Sp}{x:Str}{p pos:Pos}{e:Expr}{es:List Expr}{t:TA}{te:XK→TE}
theorem aEZ {i:Nat}{pos':Pos} (hN:X.N.Nodup) (hi:X.N[i]?=some x) (hx:Loc X.env.scope x) (he:PX X e te) (hs:swapsWith e (some (.Name x pos')) pos.line X.env=pure false:=by rfl) (hf:X.fn x=true∨X.env.scope.names.lookup x=some .local:=by first | exact .inl rfl | exact .inr rfl | assumption):
  PXs X [.Assign [.Name x pos'] e pos] (fun E' D σ H=>te E' σ H fun v H1=>D.nx (σ.set i (some v)) H1):=by
 constructor
 intro E' pins s σ H D I h
 refine wpAny_execs_cons (wpAny_Assign_Name (thn (he.run E' pins s σ H _ I h) fun v s1 ⟨y,H1,I1,r1,q1⟩=>?_) hs)
 exact iX I1 hN hi hx r1 (fun s2 I2=>wpAny_execs_nil ⟨_,H1,I2,q1⟩) hf
end
abbrev Cx.hand (X:Cx) (v:Value):Cx:={ X with A:=X.A.mark (some v),calm:=false,xe:=fun _ _=>False }
section
variable {X:Cx}{pins:List (Addr×Obj)}{σ:St}{H:Hp}{s:Shared}{v:Value}
theorem Inv.hand (I:Inv X pins σ H s) (v:Value):Inv (X.hand v) pins σ H s:=
 have ok:=I.ok
 ⟨⟨ok.mod,ok.kind,ok.glob,ok.blt,ok.above,ok.inj,ok.has,ok.cab,(fun z=>by cases z),ok.frames,ok.stk,ok.exf,ok.bs,ok.bsz,ok.noex,ok.exfs,ok.funs,ok.frf⟩,I.os,I.bare,I.base,I.loc,I.cell,I.free,I.freeC,I.pin,I.hok,I.len⟩
theorem Inv.unhand (I:Inv (X.hand v) pins σ H s) (ok:X.Ok):Inv X pins σ H s:=⟨ok,I.os,I.bare,I.base,I.loc,I.cell,I.free,I.freeC,I.pin,I.hok,I.len⟩
theorem l0 {M:Model}{A:Around}{E:Value→Shared→Prop}{i:Nat}{x:Str}{pos:Pos}{Q:Unit→Shared→Prop} (I:Inv X pins σ H s) (hN:X.N.Nodup) (hi:X.N[i]?=some x) (hk:X.env.scope.names.lookup x=some .local)
  (h:∀ s',Inv X pins (σ.set i none) H s'→Q () s'):wpAny M A (do bindName X.env x .none;unbindBehindTheSuite X.env x pos) Q E s:=by
 obtain ⟨m,hn,hl⟩:=id I.loc
 have hcls:(X.env.scope.kind == .class || (X.env.scope.kind == .module && X.env.locals != X.env.globals))=false:=by rw [I.ok.kind];rfl
 have hiσ:i < σ.length:=by rw [I.len];exact (List.getElem?_eq_some_iff.mp hi).1
 have cne:=I.cne
 refine wpAny_nameGoes_keeps hk hn hcls fun h' v hn' hs=>?_
 obtain ⟨oL,_,_,hoL,_⟩:=id hn
 refine h _ ⟨I.ok,I.os,I.bare,⟨fun b o e n hb hx=>?_,fun b o e n hb hx=>?_,I.base.free,fun b o e hx=>?_,I.base.tups,I.base.frzs,I.base.tbls⟩,⟨_,hn',fun j y v' e1 e2 e3=>?_⟩,fun y c e=>?_,I.free,I.freeC,fun p hp=>?_,fun b ob e=>?_,by simpa using I.len⟩
 ·exact (hs.2 b (Nat.ne_of_lt (Nat.lt_of_lt_of_le (Heap.lt_size e) I.ok.above))).trans (I.base.keep b o e n hb hx)
 ·obtain ⟨sl,e1⟩:=I.base.slot b o e n hb hx
  exact ⟨sl,(hs.2 b (Nat.ne_of_lt (Nat.lt_of_lt_of_le (Heap.lt_size e) I.ok.above))).trans e1⟩
 ·obtain ⟨o',e1⟩:=I.base.there b o e hx
  exact ⟨o',(hs.2 b (Nat.ne_of_lt (Nat.lt_of_lt_of_le (Heap.lt_size e) I.ok.above))).trans e1⟩
 ·by_cases hj:j=i
  ·subst hj
   rw [List.getElem?_set_self hiσ] at e2
   cases e2
  ·rw [List.getElem?_set_ne (Ne.symm hj)] at e2
   obtain ⟨u',r',q⟩:=hl j y v' e1 e2 e3
   refine ⟨u',r',?_⟩
   rcases q with ⟨k,e⟩ | ⟨k,c,e,z⟩
   ·refine .inl ⟨k,?_⟩
    have:y≠x:=fun e=>hj (rN hN e1 (e ▸ hi))
    simp [this,e]
   ·exact .inr ⟨k,c,e,z.sameBut hs (cne y c e)⟩
 ·obtain ⟨w',z⟩:=I.cell y c e
  exact ⟨w',z.sameBut hs (cne y c e)⟩
 ·obtain ⟨e,n,ne,nf,d⟩:=I.pin p hp
  exact ⟨(hs.2 p.1 ne).trans e,n,ne,nf,d⟩
 ·refine (I.hok b ob e).stay (fun c w' hc q=>(hs.2 c ?_).trans q) (fun _ q=>q) fun _ _ q=>q
  rintro rfl
  rcases hc with rfl | hc
  ·rw [I.free] at e;cases e
  ·rw [I.free] at hc;cases hc
end
def m7 (y:Addr) (C:Value):HO:=.ext fun h=>∃ ob vs,h.get? y=some ob∧ob.cls=C∧ob.data=.fields vs
theorem Fly.again {P:Program}{w:World}{M:Model}{A:Around}{env:Env}{outer:List Env}{base:Heap}{H H':Hp}{s s2:Shared}{x:Addr}{C:Value}{E:Value→Shared→Prop}{R:Shared→Prop} (F:Fly P w (env :: outer) H H' s x C s2)
  (hst:s.heap.FunFrames base (env :: outer)) (k:∀ h5,Fly P w (env :: outer) H H' s x C { s2 with heap:=h5 }→R { s2 with heap:=h5 }):
  wpAny M A (setFlight (.ref x) none) (fun _ s4=>R s4) E s2:=by
 obtain ⟨B,a0,fl,hokB,hkB,htB⟩:=F.ex
 refine lands_againW fl fun h5 fl5 u5=>k h5 ?_
 refine ⟨F.os,F.bare,⟨B,a0,fl5,hokB,hkB,htB⟩,F.frf,fun b o q n hm=>?_,F.free,F.tups,F.frzs,F.tbls⟩
 obtain ⟨sl,e1⟩:=F.slot b o q n hm
 obtain ⟨_,o2,e2,hd⟩:=hst.mem hm
 rw [q] at e2
 cases e2
 obtain ⟨sl2,e3⟩:=u5 b _ e1 hd
 exact ⟨sl2,e3⟩
theorem aAg {P:Program}{w:World}{H:Hp}{h:Heap}{a:Addr}{o:HO} (x:c6 P w H h a o):∃ ob,h.get? a=some ob:=by
 cases o with
 | lst xs=>obtain ⟨_,_,_,_,e⟩:=x;exact ⟨_,e⟩
 | tup xs=>obtain ⟨_,_,_,_,e,_⟩:=x;exact ⟨_,e⟩
 | dK kvs=>obtain ⟨_,_,_,_,o,_,_,e,_⟩:=x;exact ⟨_,e⟩
 | dT kvs=>obtain ⟨_,_,_,_,o,_,_,e,_⟩:=x;exact ⟨_,e⟩
 | set S n=>obtain ⟨o,_,_,_,e,_⟩:=x;exact ⟨_,e⟩
 | ins C dx fs=>obtain ⟨_,_,_,e,_⟩:=x;exact ⟨_,e⟩
 | own y=>exact x
 | xd fs=>obtain ⟨_,⟨_,_,_,e,_⟩,_⟩:=x;exact ⟨_,e⟩
 | rng lo hi=>obtain ⟨_,_,_,e⟩:=x;exact ⟨_,e⟩
 | frz ob u=>exact ⟨_,x.1⟩
 | tbl ps=>exact ⟨_,x⟩
 | met f y=>exact ⟨_,x⟩
 | ext φ=>exact x.2.1
theorem Fly.track {X:Cx}{pins:List (Addr×Obj)}{σ:St}{H H':Hp}{s s':Shared}{x:Addr}{C:Value} (I:Inv X pins σ H s) (hst:X.stack=X.env :: X.outer) (hfr:X.env.frame=some X.env.locals) (hex:X.ex=[]) (F:Fly X.prog X.w X.stack H H' s x C s'):
  H' x=none∧Inv X pins σ (upd H' x (m7 x C)) s':=by
 have I':=I.caught F
 obtain ⟨ob,vs,ho,hc,hd⟩:=F.obj
 obtain ⟨B,a0,fl,hokB,hkB,htB⟩:=F.ex
 have hB:B.get? x=none:=fl.2.1
 have hn:H' x=none:=by
  cases q:H' x with
  | none=>rfl
  | some o=>
   obtain ⟨o',e⟩:=aAg (hokB x o q)
   rw [hB] at e
   cases e
 have nfr:∀ b∈frs X.stack,b≠x:=fun b hb z=>by
  obtain ⟨_,o,e,h⟩:=fl.2.2.1.mem hb
  rw [z,ho] at e
  cases e
  exact h vs hd
 have hloc:X.env.locals∈frs X.stack:=by rw [hst];exact List.mem_filterMap.mpr ⟨_,List.mem_cons_self,hfr⟩
 have old:∀ b o,s.heap.get? b=some o→b≠x:=fun b o e z=>by
  by_cases hb:b∈frs X.stack
  ·exact nfr b hb z
  ·obtain ⟨o',e'⟩:=htB b o e hb
   rw [z,hB] at e'
   cases e'
 have old0:∀ b o,X.s₀.heap.get? b=some o→b≠x:=fun b o e=>by
  obtain ⟨o',e'⟩:=I.base.there b o e (by rw [hex];simp)
  exact old b o' e'
 have nD:∀ b u,H' b=some u→b≠x:=fun b u e=>aO e hn
 refine ⟨hn,⟨I'.ok,I'.os,I'.bare,⟨I'.base.keep,I'.base.slot,fun b o e n hx=>?_,I'.base.there,fun b xs e=>?_,fun b o u e=>?_,fun b ps e=>?_⟩,I'.loc,I'.cell,?_,fun y c e=>?_,fun p hp=>?_,fun b o e=>?_,I'.len⟩⟩
 ·rw [aJ (old0 b o e)]
  exact I'.base.free b o e n hx
 ·have q:=I'.base.tups b xs e
  rw [aJ (nD b _ q)]
  exact q
 ·have q:=I'.base.frzs b o u e
  rw [aJ (nD b _ q)]
  exact q
 ·obtain ⟨more,q⟩:=I'.base.tbls b ps e
  exact ⟨more,by rw [aJ (nD b _ q)];exact q⟩
 ·rw [aJ (nfr _ hloc)]
  exact I'.free
 ·obtain ⟨v,o,e2,h2⟩:=I'.cell y c e
  rw [aJ fun z=>by rw [z,ho] at e2;cases e2;rw [hd] at h2;cases h2]
  exact I'.freeC y c e
 ·obtain ⟨e,n,ne,nf,d⟩:=I'.pin p hp
  refine ⟨e,?_,ne,nf,d⟩
  rw [aJ (old _ _ (I.pin p hp).1)]
  exact n
 ·by_cases hb:b=x
  ·subst hb
   rw [aF] at e
   cases e
   exact ⟨⟨ob,vs,ho,hc,hd⟩,⟨ob,ho⟩,fun h1 h2 ⟨o1,v1,e1,c1,d1⟩ k=>⟨o1,v1,k _ e1,c1,d1⟩⟩
  ·rw [aJ hb] at e
   exact (I'.hok b o e).stay (fun c v _ q=>q) (fun c q=>by rw [aJ (nD c _ q)];exact q) fun c xs q=>by rw [aJ (nD c _ q)];exact q
def unE (ie:Nat) (D:dW):dW:={ nx:=fun σ H=>D.nx (σ.set ie none) H,rt:=D.rt,bk:=fun σ H=>D.bk (σ.set ie none) H,ct:=fun σ H=>D.ct (σ.set ie none) H }
theorem aDJ {X:Cx}{body:List Stmt}{tb:XK→TS}{ie:Nat}{dn n:Str}{C0:Addr}{b₀:Stmt}{hbody:List Stmt}{th:TS}{np hpos pos:Pos}
  (hst:X.stack=X.env :: X.outer) (hfr:X.env.frame=some X.env.locals) (hex:X.ex=[]) (hb:PXs X body tb) (hg:Gl X dn) (hm:X.mg dn=some (.ref C0)) (hN:X.N.Nodup) (hie:X.N[ie]?=some n) (hn:X.env.scope.names.lookup n=some .local)
  (hh:∀ v,PSs (X.hand v) (b₀ :: hbody) th) (hd:(dn == ("__debug__":Str))=false:=by decide):
  PS X (.Try body [.ExceptHandler (some (.Name dn np)) (some n) (b₀ :: hbody) hpos] [] [] pos) (fun D σ H=>tb (fun C _ H'=>exmOne X.K C (.ref C0)=some true∧∀ y,H' y=none→th (unE ie D) (σ.set ie (some (.ref y))) (upd H' y (m7 y C))) D σ H):=by
 constructor
 intro pins s σ H D I h
 refine wpAny_Try_except (wpAny_mono (hb.run _ pins s σ H D I h) (fun f s1 r=>?_) fun e s1 z=>?_)
 ·cases f with
  | next=>exact wpAny_execs_nil r
  | _=>exact r
 ·obtain ⟨H1,s0,I1,x,C,H',rfl,F,hx,hy⟩:=z
  have hs1:s0.heap.FunFrames X.base (X.env :: X.outer):=hst ▸ I1.stack
  have F':Fly X.prog X.w (X.env :: X.outer) H1 H' s0 x C s1:=hst ▸ F
  refine F'.lands (Q:=X.xe) (R:=fun s4=>wpAny (model X.prog X.w) X.A (handleBy (.ref x) X.env [.ExceptHandler (some (.Name dn np)) (some n) (b₀ :: hbody) hpos]) _ _ s4) hs1 (hst ▸ I1.ok.frames) hfr fun h5 F5=>?_
  have I5:=I1.caught (s':={ s1 with heap:=h5 }) (by rw [hst];exact F5)
  refine wpAny_handleBy_cons (codeAny_handlers_test ?_) (by intro q;cases q)
  refine nX (X:=X.hand (.ref x)) (I5.hand _) hg hm ?_ hd
  obtain ⟨ob,vs,ho,hc,hd5⟩:=F5.obj
  have LT:Looks (model X.prog X.w) h5 (typeOf (.ref x)) C:=by
   rw [← hc]
   unfold typeOf
   exact (Looks.ld ho).andThen .now
  refine (exm_one (M:=model X.prog X.w) I5.kIn LT hx).at ?_
  refine codeAny_handlers_suite_as ?_
  refine F5.again (R:=fun s4=>_) hs1 fun h6 F6=>?_
  obtain ⟨hnx,I6⟩:=Fly.track (s':={ s1 with heap:=h6 }) I1 hst hfr hex (by rw [hst];exact F6)
  refine iX (X:=X.hand (.ref x)) (I6.hand _) hN hie (.inl hn) (v:=.ref x) rfl (fun s7 I7=>?_) (.inr hn)
  refine wpAny_mono ((hh (.ref x)).run pins s7 _ _ (unE ie D) I7 (hy x hnx)) (fun f s8 r=>?_) fun _ _ z=>False.elim z
  cases f with
  | next=>
   obtain ⟨σ',H'',I8,q⟩:=r
   exact l0 (I8.unhand I.ok) hN hie hn fun s9 I9=>⟨_,_,I9,q⟩
  | brk=>
   obtain ⟨σ',H'',I8,q⟩:=r
   exact l0 (I8.unhand I.ok) hN hie hn fun s9 I9=>⟨_,_,I9,q⟩
  | cont=>
   obtain ⟨σ',H'',I8,q⟩:=r
   exact l0 (I8.unhand I.ok) hN hie hn fun s9 I9=>⟨_,_,I9,q⟩
  | ret u=>
   obtain ⟨v,σ',H'',I8,rr,q⟩:=r
   exact l0 (I8.unhand I.ok) hN hie hn fun s9 I9=>⟨v,_,_,I9,rr,q⟩
end L2
namespace L2
open PySem PySem.Spec PyProof.Rows PySem.W Builtin Builtin.ObjectAttr PySem.Calls Builtin.Getset_descriptor
structure wO (K:PySem.W.Frag) (D:Addr):Prop where
 ga:findIn K (.ref D) "__getattribute__"=some (some (.builtin "BaseException.__getattribute__"))
 gn:findIn K (.ref D) "__getattr__"=some none
 mb:mroIn K D (.type "BaseException")=some true
 hd:hasDictIn K D=true
 ha:findIn K (.ref D) "__class__"=some (some (.builtin "object.__class__"))
 hm:mroIn K D (.type "object")=some true
 hn:specialIn K (.builtin "object.__class__") "__get__"=some (some (.builtin "getset_descriptor.__get__"))
 ht:takesIn K (.builtin "object.__class__")=some true
def tG (y:Addr) (C:Value) (h:Heap):Prop:=∃ ob vs,h.get? y=some ob∧ob.cls=C∧ob.data=.fields vs
theorem tG.ty {y:Addr}{C:Value}{h:Heap}{M:Model} (x:tG y C h):Looks M h (typeOf (.ref y)) C:=by
 obtain ⟨ob,vs,ho,hc,_⟩:=x
 rw [← hc]
 unfold typeOf
 exact (Looks.ld ho).andThen .now
theorem aDK {K:PySem.W.Frag}{M:Model}{h:Heap}{D y:Addr} (k:wO K D) (X:K.In h):Looks M h (Builtin.ObjectAttr.find (.ref y) (.ref D) "__class__") (.bind (.builtin "getset_descriptor.__get__") (.builtin "object.__class__")):=by
 have a1:=looks_findIn (M:=M) X k.ha
 have a2:Looks M h (Builtin.ObjectAttr.getOf (some (.builtin "object.__class__"))) (some (.builtin "getset_descriptor.__get__")):=looks_specialIn X k.hn
 have a3:=looks_takesIn (M:=M) X k.ht
 exact a1.andThen (a2.andThen (Looks.andThen (a:=some (.builtin "getset_descriptor.__get__",.builtin "object.__class__")) (a3.andThen .now) (Looks.tag .now)))
theorem aE0 {prog:Program}{w:World}{A:Around}{s:Shared}{K:PySem.W.Frag}{D y:Addr}{tp:Value}{R:Result→Shared→Prop} (k:wO K D) (X:K.In s.heap) (p:tG y (.ref D) s.heap) (q:R (.ok (.ret (.ref D))) s):
  codeAny (model prog w) A (.call (.builtin "getset_descriptor.__get__") ⟨[.builtin "object.__class__",.ref y,tp],[]⟩) R s:=by
 obtain ⟨hp,g,d,t,os⟩:=s
 have L0:=p.ty (M:=model prog w)
 have L1:=looks_mroIn (M:=model prog w) X k.hm
 refine codeAny_call_builtin KF.slot_gs.plain KF.entry_gs (KF.slot_gs.check _ _ _ _ _ _ _ _ KF.type_class (KF.args_gs _ _ _) (?_))
 unfold Builtin.«getset_descriptor.__get__» descrGet;rw [dga_obj]
 refine wpAny_bind (wpAny_pure ?_)
 unfold descrGetter descrCheckInstance descrNameAndClass isInstance;simp only [KF.owner_class]
 repeat lk
 refine ⟨Code.quiet_builtin _ (by decide),codeAny_builtin KF.entry_class (?_)⟩
 unfold Builtin.«object.__class__» shownTypeOf
 repeat lk
 exact q
theorem aB7 {prog:Program}{w:World}{A:Around}{E:Value→Shared→Prop}{hp:Heap}{g:Array GenState}{d:Drawn}{t:Nat}{os:OsState}{K:PySem.W.Frag}{D y:Addr}{tk:Tok}{Q:Fin→Shared→Prop} (k:wO K D) (X:K.In hp) (p:tG y (.ref D) hp) (q:Q (.done (.ret (.ref D))) ⟨hp,g,d,t,os⟩):
  wpAny (model prog w) A (Builtin.«object.__getattribute__» ⟨[.ref y,.str "__class__" tk],[]⟩) Q E ⟨hp,g,d,t,os⟩:=by
 have b0:=p.ty (M:=model prog w)
 have b3:=aDK (M:=model prog w) (y:=y) k X
 unfold Builtin.«object.__getattribute__»
 refine wpAny_bind (wpAny_pure (wpAny_bind (wpAny_pure (wpAny_bind (b0.at (wpAny_bind (b3.at ?_)))))))
 show wpAny _ _ (holding [.builtin "object.__class__"] (call (.builtin "getset_descriptor.__get__") [.builtin "object.__class__",.ref y,.ref D]) >>= ret) _ _ _
 exact wpAny_bind (wpAny_holding (wpAny_call (aE0 (s:=⟨hp,g,d,t,os⟩) k X p (wpAny_pure q))))
theorem aB8 {M:Model}{A:Around}{E:Value→Shared→Prop}{hp:Heap}{g:Array GenState}{d:Drawn}{t:Nat}{os:OsState}{K:PySem.W.Frag}{D y:Addr}{nameV:Value}{Q:Unit→Shared→Prop} (k:wO K D) (X:K.In hp) (p:tG y (.ref D) hp) (q:Q () ⟨hp,g,d,t,os⟩):
  wpAny M A (checkBuiltinCall "BaseException.__getattribute__" ⟨[.ref y,nameV],[]⟩) Q E ⟨hp,g,d,t,os⟩:=by
 have b0:=p.ty (M:=M)
 have b4:=looks_mroIn (M:=M) X k.mb
 have ck:builtinKind "BaseException.__getattribute__"=some .slot:=by decide
 have cs:splitId "BaseException.__getattribute__"=some ("BaseException","__getattribute__"):=by decide
 have ca:=F.args_bexc_ga (.ref y) nameV
 simp only [checkBuiltinCall,ck,cs]
 refine wpAny_bind (wpAny_bind (b0.at (b4.at ?_)))
 repeat wp_step
 exact q
theorem aB9 {prog:Program}{w:World}{A:Around}{E:Value→Shared→Prop}{s:Shared}{K:PySem.W.Frag}{D y:Addr}{Q:Option Value→Shared→Prop} (k:wO K D) (X:K.In s.heap) (p:tG y (.ref D) s.heap) (q:Q (some (.ref D)) { s with toks:=s.toks + 1 }):
  wpAny (model prog w) A (getAttr? (.ref y) "__class__") Q E s:=by
 obtain ⟨hp,g,d,t,os⟩:=s
 have b0:=p.ty (M:=model prog w)
 have b1:=looks_findIn (M:=model prog w) X k.ga
 have b2:=looks_findIn (M:=model prog w) X k.gn
 have b4:=looks_mroIn (M:=model prog w) X k.mb
 have f3:=F.excAttr_ValueError.ga.bind (.ref y)
 unfold getAttr? getAttrBy? getAttrBy
 refine wpAny_bind (wpAny_mkText (wpAny_bind (wpAny_attempt (wpAny_holding (wpAny_bind (b0.at (wpAny_bind (b1.at ?_))))))))
 show wpAny _ _ (if (onTheHeap (.ref D) && Value.builtin "BaseException.__getattribute__" == Value.builtin "object.__getattribute__")=true then _ else getAttrByItsOwn _ _ _ _ _ _) _ _ _
 have hx2:(Value.builtin "BaseException.__getattribute__" == Value.builtin "object.__getattribute__")=false:=by decide
 rw [if_neg (by rw [hx2,Bool.and_false];exact Bool.false_ne_true)]
 unfold getAttrByItsOwn hookBefore
 refine wpAny_bind ?_
 show wpAny _ _ (typeLookup (.ref D) "__getattr__") _ _ _
 refine b2.at ?_
 refine wpAny_bind (wpAny_attempt (wpAny_holding ?_))
 show wpAny _ _ (boundAndCalled _ _ _) _ _ _
 unfold boundAndCalled
 rw [f3]
 refine wpAny_bind (wpAny_pure ?_)
 refine wpAny_call (codeAny_call_builtin F.excAttr_ValueError.ga.plain F.entry_bexc_ga (aB8 k X p (aB7 k X p ?_)))
 exact wpAny_pure (wpAny_pure q)
theorem yG {K:PySem.W.Frag}{y D:Addr} (k:wO K D):KitX K (.ref y) (.ref D) (tG y (.ref D)):=by
 have hc:∃ o cd,K.lookup D=some o∧o.data=.cls cd:=by
  obtain ⟨cdD,hcD,_⟩:=any_some k.hd
  unfold clsIn at hcD
  split at hcD
  ·rename_i c' d' cd' sl' ho
   exact ⟨_,cd',ho,rfl⟩
  ·cases hcD
 obtain ⟨o,cd,ho,hd⟩:=hc
 refine ⟨fun M h _ p=>p.ty,fun M h X _ A Q E s kp q=>?_,fun h tp dd its n sl X htp=>Bool.eq_false_iff.mpr fun q=>?_,fun X p q=>aB9 k X p q⟩
 ·have e:=kp _ _ (X _ _ ho)
  obtain ⟨oc,od,oda,osl⟩:=o
  dsimp only at hd
  subst hd
  unfold isType loadHead
  exact wpAny_bind (wpAny_loadPart e (wpAny_pure q))
 ·have e:D=tp:=Value.ref.inj (beq_iff_eq.mp q)
  subst e
  have z:=(X _ _ ho).symm.trans htp
  cases z
  cases hd
section
variable {X:Cx}
inductive jY (K:PySem.W.Frag) (xs:List V) (H:Hp) (Q:VK):Prop
 | mk (y D:Addr) (v:V) (c:Value) (b:Bool) (q0:xs=[.ref y,v]) (q1:(∀ u,cS v u→u=c)) (q2:H y=some (m7 y (.ref D))) (q3:wO K D) (q4:kitOne K (.ref D) c=some b) (q5:Q (.bl b) H):jY K xs H Q
def tH (K:PySem.W.Frag):List V→Hp→VK→Prop:=fun xs H Q=>jY K xs H Q
theorem d6:gW X (.builtin "isinstance") (tH X.K):=by
 intro pins s σ H xs us Q I r h
 obtain ⟨y,D,v,c,b,rfl,hv,hy,k,e,q⟩:=h
 cases r with
 | cons r1 r=>
 cases r with
 | cons r2 r=>
 cases r
 cases (show _=Value.ref y from r1)
 cases hv _ r2
 obtain ⟨p,_⟩:c6 X.prog X.w H s.heap y (m7 y (.ref D)):=I.hok _ _ hy
 exact kia_one (yG k) I.kIn p e (fun z=>nomatch z) fun tk=>⟨.bl b,H,I.tok tk,rfl,q⟩
inductive jH (K:PySem.W.Frag) (xs:List V) (H:Hp) (Q:VK):Prop
 | mk (y D tp:Addr) (cs:List Addr) (b:Bool) (q0:xs=[.ref y,.ref tp]) (q1:H tp=some (.tup (cs.map V.ref))) (q2:H y=some (m7 y (.ref D))) (q3:wO K D) (q4:kitAny K (.ref D) (cs.map Value.ref)=some b) (q5:Q (.bl b) H):jH K xs H Q
def qY (K:PySem.W.Frag):List V→Hp→VK→Prop:=fun xs H Q=>jH K xs H Q
theorem uH:gW X (.builtin "isinstance") (qY X.K):=by
 intro pins s σ H xs us Q I r h
 obtain ⟨y,D,tp,cs,b,rfl,ht,hy,k,e,q⟩:=h
 cases r with
 | cons r1 r=>
 cases r with
 | cons r2 r=>
 cases r
 cases (show _=Value.ref y from r1)
 cases (show _=Value.ref tp from r2)
 obtain ⟨p,_⟩:c6 X.prog X.w H s.heap y (m7 y (.ref D)):=I.hok _ _ hy
 obtain ⟨_,its,rv,hT⟩:c6 X.prog X.w H s.heap tp (.tup (cs.map V.ref)):=I.hok _ _ ht
 obtain ⟨⟨cls,dd,data,sl⟩,ho,hc,n,hd⟩:=hT.tup
 simp only at hc hd
 subst hc hd
 obtain rfl:=aA0 rv
 exact kia_tup (yG k) I.kIn p ho e (fun z=>nomatch z) fun tk=>⟨.bl b,H,I.tok tk,rfl,q⟩
end
end L2
namespace L2
open PySem PySem.Spec PyProof.Rows PySem.W
def jB (H:Hp) (L:List (Addr×Obj)):Hp:=fun b=>match L.lookup b with
 | some o=>some (.frz o (.own 0))
 | none=>H b
def eI (H:Hp) (L:List (Addr×Obj)):Hp:=fun b=>match L.lookup b with
 | some _=>none
 | none=>H b
section
variable {H H':Hp}{L:List (Addr×Obj)}{b:Addr}{o:Obj}
theorem gQ (e:L.lookup b=some o):jB H L b=some (.frz o (.own 0)):=by unfold jB;rw [e]
theorem dB (e:L.lookup b=none):jB H L b=H b:=by unfold jB;rw [e]
theorem eU (e:L.lookup b=some o):eI H L b=none:=by unfold eI;rw [e]
theorem cJ (e:L.lookup b=none):eI H L b=H b:=by unfold eI;rw [e]
variable {P:Program}{w:World}{h h':Heap}{fs:List Addr}
theorem wP (ok:HOk P w H h) (hg:∀ b o,L.lookup b=some o→h.get? b=some o∧H b=none):HOk P w (jB H L) h:=fun b u e=>by
 have st:∀ c v,H c=some v→jB H L c=some v:=fun c v q=>by
  cases el:L.lookup c with
  | none=>rw [dB el];exact q
  | some o=>rw [(hg c o el).2] at q;cases q
 cases el:L.lookup b with
 | none=>
  rw [dB el] at e
  exact (ok b u e).stay (fun _ _ _ q=>q) (fun c q=>st c _ q) fun c xs q=>st c _ q
 | some o=>
  rw [gQ el] at e
  cases e
  exact ⟨(hg b o el).1,_,(hg b o el).1⟩
theorem vF (ok:HOk P w H h) (hf:∀ b o,L.lookup b=some o→H b=some (.frz o (.own 0))):HOk P w (eI H L) h:=fun b u e=>by
 have st:∀ c v,(∀ o u,v≠.frz o u)→H c=some v→eI H L c=some v:=fun c v n q=>by
  cases el:L.lookup c with
  | none=>rw [cJ el];exact q
  | some o=>rw [hf c o el] at q;cases q;exact absurd rfl (n _ _)
 cases el:L.lookup b with
 | none=>
  rw [cJ el] at e
  exact (ok b u e).stay (fun _ _ _ q=>q) (fun c q=>st c _ (fun _ _ z=>nomatch z) q) fun c xs q=>st c _ (fun _ _ z=>nomatch z) q
 | some o=>rw [eU el] at e;cases e
theorem aDL (u:Un fs [] (jB H L) H' h h') (ok:HOk P w H' h') (hn:∀ b o,L.lookup b=some o→h.get? b=some o∧H b=none∧b ∉ fs):Un fs [] H (eI H' L) h h'∧HOk P w (eI H' L) h':=by
 have hf:∀ b o,L.lookup b=some o→H' b=some (.frz o (.own 0)):=fun b o e=>u.frzs b o _ (gQ e)
 have out:∀ b v,H b=some v→L.lookup b=none:=fun b v q=>by
  cases el:L.lookup b with
  | none=>rfl
  | some o=>rw [(hn b o el).2.1] at q;cases q
 have out':∀ b v,(∀ o u,v≠.frz o u)→H' b=some v→L.lookup b=none:=fun b v n q=>by
  cases el:L.lookup b with
  | none=>rfl
  | some o=>rw [hf b o el] at q;cases q;exact absurd rfl (n _ _)
 refine ⟨⟨fun b o q n nb x=>?_,fun b o q n nb x=>?_,fun b o q n x=>?_,fun b o q x=>?_,fun b xs q=>?_,fun b o v q=>?_,fun b ps q=>?_⟩,vF ok hf⟩
 ·cases el:L.lookup b with
  | none=>exact u.keep b o q (by rw [dB el];exact n) nb x
  | some o'=>
   have:=(hn b o' el).1
   rw [q] at this
   cases this
   exact (ok b _ (hf b o el)).1
 ·cases el:L.lookup b with
  | none=>exact u.slot b o q (by rw [dB el];exact n) nb x
  | some o'=>exact absurd nb (hn b o' el).2.2
 ·cases el:L.lookup b with
  | none=>rw [cJ el];exact u.free b o q (by rw [dB el];exact n) x
  | some o'=>exact eU el
 ·exact u.there b o q x
 ·have el:=out b _ q
  rw [cJ el]
  exact u.tups b xs (by rw [dB el];exact q)
 ·have el:=out b _ q
  rw [cJ el]
  exact u.frzs b o v (by rw [dB el];exact q)
 ·have el:=out b _ q
  obtain ⟨more,z⟩:=u.tbls b ps (by rw [dB el];exact q)
  exact ⟨more,by rw [cJ el];exact z⟩
theorem aDM (u:Un fs [] (eI H L) H' h h') (ok:HOk P w H' h') (hf:∀ b o,L.lookup b=some o→h.get? b=some o∧H b=some (.frz o (.own 0))∧b ∉ fs):Un fs [] H (jB H' L) h h'∧HOk P w (jB H' L) h':=by
 have keep:∀ b o,L.lookup b=some o→h'.get? b=some o∧H' b=none:=fun b o e=>⟨u.keep b o (hf b o e).1 (eU e) (hf b o e).2.2 (by simp),u.free b o (hf b o e).1 (eU e) (by simp)⟩
 have out:∀ b v,H b=v→(∀ o u,v≠some (.frz o u))→L.lookup b=none:=fun b v q n=>by
  cases el:L.lookup b with
  | none=>rfl
  | some o=>rw [(hf b o el).2.1] at q;exact absurd q.symm (n _ _)
 refine ⟨⟨fun b o q n nb x=>?_,fun b o q n nb x=>?_,fun b o q n x=>?_,fun b o q x=>u.there b o q x,fun b xs q=>?_,fun b o v q=>?_,fun b ps q=>?_⟩,wP ok keep⟩
 ·have el:=out b _ n (fun _ _ z=>nomatch z)
  exact u.keep b o q (by rw [cJ el];exact n) nb x
 ·have el:=out b _ n (fun _ _ z=>nomatch z)
  exact u.slot b o q (by rw [cJ el];exact n) nb x
 ·have el:=out b _ n (fun _ _ z=>nomatch z)
  rw [dB el]
  exact u.free b o q (by rw [cJ el];exact n) x
 ·have el:=out b _ q (fun _ _ z=>nomatch z)
  rw [dB el]
  exact u.tups b xs (by rw [cJ el];exact q)
 ·cases el:L.lookup b with
  | none=>rw [dB el];exact u.frzs b o v (by rw [cJ el];exact q)
  | some o'=>
   have:=(hf b o' el).2.1
   rw [q] at this
   cases this
   exact gQ el
 ·have el:=out b _ q (fun _ _ z=>nomatch z)
  obtain ⟨more,z⟩:=u.tbls b ps (by rw [cJ el];exact q)
  exact ⟨more,by rw [dB el];exact z⟩
theorem Fly.refrz {outer:List Env}{s s':Shared}{x:Addr}{C:Value} (F:Fly P w outer (eI H L) H' s x C s') (hf:∀ b o,L.lookup b=some o→s.heap.get? b=some o∧H b=some (.frz o (.own 0))∧b ∉ frs outer) (frf:∀ b∈frs outer,H b=none):Fly P w outer H (jB H' L) s x C s':=by
 obtain ⟨B,a0,fl,hokB,hkB,htB⟩:=F.ex
 have keep:∀ b o,L.lookup b=some o→B.get? b=some o∧H' b=none:=fun b o e=>⟨hkB b o (hf b o e).1 (eU e) (hf b o e).2.2,F.free b o (hf b o e).1 (eU e)⟩
 have out:∀ b v,H b=v→(∀ o u,v≠some (.frz o u))→L.lookup b=none:=fun b v q n=>by
  cases el:L.lookup b with
  | none=>rfl
  | some o=>rw [(hf b o el).2.1] at q;exact absurd q.symm (n _ _)
 refine ⟨F.os,F.bare,⟨B,a0,fl,wP hokB keep,fun b o q n nb=>?_,htB⟩,frf,fun b o q n nb=>?_,fun b o q n=>?_,fun b xs q=>?_,fun b o v q=>?_,fun b ps q=>?_⟩
 ·have el:=out b _ n (fun _ _ z=>nomatch z)
  exact hkB b o q (by rw [cJ el];exact n) nb
 ·have el:=out b _ n (fun _ _ z=>nomatch z)
  exact F.slot b o q (by rw [cJ el];exact n) nb
 ·have el:=out b _ n (fun _ _ z=>nomatch z)
  rw [dB el]
  exact F.free b o q (by rw [cJ el];exact n)
 ·have el:=out b _ q (fun _ _ z=>nomatch z)
  rw [dB el]
  exact F.tups b xs (by rw [cJ el];exact q)
 ·cases el:L.lookup b with
  | none=>rw [dB el];exact F.frzs b o v (by rw [cJ el];exact q)
  | some o'=>
   have:=(hf b o' el).2.1
   rw [q] at this
   cases this
   exact gQ el
 ·have el:=out b _ q (fun _ _ z=>nomatch z)
  obtain ⟨more,z⟩:=F.tbls b ps (by rw [cJ el];exact q)
  exact ⟨more,by rw [dB el];exact z⟩
end
end L2
namespace L2
open PySem PySem.Spec PyProof.Rows PySem.W
def cxL (P:Program) (w:World) (K:PySem.W.Frag) (mg:Str→Option Value) (base:Heap) (N:List Str) (qual:Str) (scope:Scope) (f:Addr) (cd:Value) (cl:List (Str×Addr)) (A:Around) (outer:List Env) (s:Shared) (H:Hp) (E:XK):Cx where
 prog:=P
 w:=w
 K:=K
 mg:=mg
 base:=base
 A:=A.deeper (envX qual scope s.heap.objs.size f cd cl)
 N:=N
 s₀:=s
 H₀:=H
 env:=envX qual scope s.heap.objs.size f cd cl
 outer:=outer
 stack:=envX qual scope s.heap.objs.size f cd cl :: outer
 ex:=[]
 calm:=true
 fn:=fun _=>false
 pn:=[]
 xe:=fun e s'=>wpAny (model P w) (A.deeper (envX qual scope s.heap.objs.size f cd cl)) (leaving (envX qual scope s.heap.objs.size f cd cl) e) (fun _ s''=>CXr P w outer H s E e s'') (fun e' s''=>CXr P w outer H s E e' s'') s'
section
variable {P:Program}{w:World}{K:PySem.W.Frag}{mg:Str→Option Value}{base:Heap}{N:List Str}{qual:Str}{scope:Scope}{f:Addr}{cd:Value}{A:Around}{outer:List Env}{s:Shared}{H:Hp}{E:XK}
theorem yH {cl:List (Str×Addr)}{E':XK} (hE:∀ C dx H',E' C dx H'→E C dx H'):lM (CXr P w) (cxL P w K mg base N qual scope f cd cl A outer s H E) E':=by
 rintro pins σ H1 s1 e s2 I ⟨x,C,H2,rfl,F,hE'⟩
 have hst:s1.heap.FunFrames base (envX qual scope s.heap.objs.size f cd cl :: outer):=I.stack
 have hsf:∀ b∈frs (envX qual scope s.heap.objs.size f cd cl :: outer),H1 b=none:=I.stkFree
 obtain ⟨B,a0,fl,hokB,hkB,htB⟩:=F.ex
 have fl:Heap.FlyingW B (envX qual scope s.heap.objs.size f cd cl :: outer) x C a0 s2.heap:=fl
 show wpAny _ _ (leaving _ _) _ _ _
 refine wpAny_leaves_onW (base:=B) (L:=s.heap.objs.size) I.ok.frames rfl fl fun h'' y1 y2=>?_
 have hL:∀ b,b∈frs (envX qual scope s.heap.objs.size f cd cl :: outer)→b=s.heap.objs.size∨b∈frs outer:=fun b hb=>by
  obtain ⟨env,he,hf⟩:=List.mem_filterMap.mp hb
  rcases List.mem_cons.mp he with rfl | he
  ·exact .inl (Option.some.inj hf).symm
  ·exact .inr (List.mem_filterMap.mpr ⟨env,he,hf⟩)
 have up:∀ b,b∈frs outer→b∈frs (envX qual scope s.heap.objs.size f cd cl :: outer):=fun b hf=>by
  obtain ⟨env,he,hf⟩:=List.mem_filterMap.mp hf
  exact List.mem_filterMap.mpr ⟨env,.tail _ he,hf⟩
 have nox:∀ b:Addr,b ∉ (cxL P w K mg base N qual scope f cd cl A outer s H E).ex:=fun b=>by simp [cxL]
 have slot2:∀ b o,s1.heap.get? b=some o→H1 b=none→b∈frs (envX qual scope s.heap.objs.size f cd cl :: outer)→∃ sl,h''.get? b=some { o with slots:=sl }:=fun b o q n hm=>by
  obtain ⟨sl,e1⟩:=F.slot b o q n hm
  obtain ⟨_,o2,e2,hd⟩:=hst.mem hm
  rw [q] at e2
  cases e2
  obtain ⟨sl2,e3⟩:=y2 b _ e1 hd
  exact ⟨sl2,e3⟩
 refine ⟨x,C,H2,rfl,⟨F.os.trans I.os,F.bare,⟨B,a0,y1,hokB,fun b o q n nf=>hkB b o (I.base.keep b o q n nf (nox b)) (I.base.free b o q n (nox b)) fun hm=>?_,fun b o q nf=>?_⟩,I.ok.frf,fun b o q n hf=>?_,fun b o q n=>?_,fun b xs q=>F.tups b xs (I.base.tups b xs q),fun b o u q=>F.frzs b o u (I.base.frzs b o u q),fun b ps q=>?_⟩,hE _ _ _ hE'⟩
 ·rcases hL b hm with z | z
  ·rw [z] at q;exact absurd (Heap.lt_size q) (Nat.lt_irrefl _)
  ·exact nf z
 ·obtain ⟨o1,e1⟩:=I.base.there b o q (nox b)
  refine htB b o1 e1 fun hm=>?_
  rcases hL b hm with z | z
  ·rw [z] at q;exact absurd (Heap.lt_size q) (Nat.lt_irrefl _)
  ·exact nf z
 ·obtain ⟨sl,e1⟩:=I.base.slot b o q n hf (nox b)
  obtain ⟨sl2,e2⟩:=slot2 b _ e1 (I.base.free b o q n (nox b)) (up b hf)
  exact ⟨sl2,e2⟩
 ·obtain ⟨o1,e1⟩:=I.base.there b o q (nox b)
  exact F.free b o1 e1 (I.base.free b o q n (nox b))
 ·obtain ⟨m1,e1⟩:=I.base.tbls b ps q
  obtain ⟨m2,e2⟩:=F.tbls b _ e1
  exact ⟨m1 ++ m2,by rw [← Array.append_assoc];exact e2⟩
structure aDN (cl:List (Str×Addr)) (L:List (Addr×Obj)) (fs:List Str) (zs:List V):Prop where
 pr:Paired (fun (x:Str) (v:V)=>∃ b o u,cl.lookup x=some b∧L.lookup b=some o∧o.data=.cell (some u)∧cS v u) fs zs
 all:∀ x b,cl.lookup x=some b→∃ o u,L.lookup b=some o∧o.data=.cell u
 inj:∀ x y b,cl.lookup x=some b→cl.lookup y=some b→x=y
theorem aA7 {fs:List Str}{c:Addr}{params:Arguments}{body:Expr}{cl:List (Str×Addr)}{L:List (Addr×Obj)}{zs:List V}{Q:VK}{k:Nat}{te:TE}
  (e0:qU P w K mg base A outer s H) (hr:dF (k + 1) A) (S:sZ [] fs scope) (hhas:∀ x,scope.names.lookup x=some .free→∃ b,cl.lookup x=some b)
  (hf:H f=some (jG f qual params body scope cl c)) (hc:H c=some (i7 c qual)) (hb:∀ (pm cdv ctv:Value),bindArgs (kla_fn "<lambda>" qual params body scope cl pm cdv ctv) ⟨[],[]⟩=pure [])
  (tk:aDN cl L fs zs) (hL:∀ b o,L.lookup b=some o→H b=some (.frz o (.own 0))) (hLf:∀ b o,L.lookup b=some o→b ∉ frs outer)
  (hbody:∀ s,PE (cxL P w K mg base fs qual scope f (.ref c) cl A outer s (eI H L) (fun C dx H'=>(∀ b o,L.lookup b=some o→H' b=none)→E C dx (jB H' L))) body te) (hq:te (zs.map some) (eI H L) (fun v H'=>(∀ b o,L.lookup b=some o→H' b=none)→Q v (jB H' L))):
  codeAny (model P w) A (.call (.ref f) ⟨[],[]⟩) (CR (CXr P w) outer P w H s Q E) s:=by
 obtain ⟨⟨pm,ctv,ho⟩,_,_⟩:c6 P w H s.heap f (jG f qual params body scope cl c):=e0.hok _ _ hf
 obtain ⟨hrec,_,_⟩:c6 P w H s.heap c (i7 c qual):=e0.hok _ _ hc
 have hg:∀ b o,L.lookup b=some o→s.heap.get? b=some o∧H b=some (.frz o (.own 0))∧b ∉ frs outer:=fun b o e=>⟨(e0.hok _ _ (hL b o e)).1,hL b o e,hLf b o e⟩
 have hok1:=vF e0.hok hL
 have e1:qU P w K mg base A outer s (eI H L):=⟨e0.frames,e0.mod,fun b o q=>⟨(e0.bs b o q).1,by
  cases el:L.lookup b with
  | none=>rw [cJ el];exact (e0.bs b o q).2
  | some o'=>exact eU el⟩,e0.bsz,e0.funs,fun b hb=>by
  cases el:L.lookup b with
  | none=>rw [cJ el];exact e0.frf b hb
  | some o'=>exact eU el,hok1,e0.bare⟩
 refine kla_callFunE hr.depth ho rfl S.co S.gen rfl hrec ?_
 rw [hb]
 refine wpAny_pure (wpAny_newFunctionEnv S.nocell (fun y hy=>nomatch hy) (fun h₁ hns hsb=>?_) S.kind)
 have hk₁:∀ b o,s.heap.get? b=some o→h₁.get? b=some o:=fun b o e=>hsb.extBut b o (Nat.ne_of_lt (Heap.lt_size e)) (Heap.get?_push_of_some _ e)
 refine ⟨(e0.mod.nolimit.keeps fun b o e=>(e0.bs b o e).1).keeps hk₁,?_⟩
 show codeAny _ _ (.expr body (envX qual scope s.heap.objs.size f (.ref c) cl)) _ _
 have noA:∀ b:Addr,b ∉ (cxL P w K mg base fs qual scope f (.ref c) cl A outer s (eI H L) (fun C dx H'=>(∀ b o,L.lookup b=some o→H' b=none)→E C dx (jB H' L))).ex:=fun b z=>absurd (show b∈([]:List Addr) from z) (by simp)
 have J:Inv (cxL P w K mg base fs qual scope f (.ref c) cl A outer s (eI H L) (fun C dx H'=>(∀ b o,L.lookup b=some o→H' b=none)→E C dx (jB H' L))) [] (zs.map some) (eI H L) { s with heap:=h₁,toks:=s.toks + 0 }:=by
  refine ⟨⟨e1.mod,S.kind,rfl,rfl,Nat.le_refl _,fun y z b h1 h2=>tk.inj y z b h1 h2,fun y hy=>?_,fun y b z _=>absurd z (by simp [cxL]),fun _=>hr.hd,Around.frames_deeper e1.frames,.inr ⟨rfl,rfl⟩,fun b z=>absurd z (noA b),e1.bs,e1.bsz,fun b _ _=>noA b,fun b z=>absurd z (noA b),e1.funs,e1.frf⟩,
   rfl,e1.bare,Un.kept hk₁,⟨_,hns,fun i y v h1 h2 h3=>?_⟩,fun y b h=>?_,e1.hok.fresh (Nat.le_refl _),fun y b h=>?_,fun p hp=>absurd (show p∈([]:List (Addr×Obj)) from hp) (by simp),e1.hok.kept hk₁,?_⟩
  ·rcases hy with hy | hy
   ·exact absurd rfl (S.nocell _ (PySem.mem_of_lookup (show scope.names.lookup y=some .cell from hy)))
   ·exact hhas y hy
  ·have h1':fs[i]?=some y:=h1
   have hz:zs[i]?=some v:=by
    rw [List.getElem?_map] at h2
    cases e:zs[i]? with
    | none=>rw [e] at h2;cases h2
    | some a=>rw [e] at h2;cases h2;rfl
   obtain ⟨b,o,u,a1,a2,a3,a4⟩:=Paired.at tk.pr h1' hz
   exact ⟨u,a4,.inr ⟨.inr (S.fr y (List.mem_of_getElem? h1')),b,a1,o,hk₁ _ _ (hg b o a2).1,a3⟩⟩
  ·obtain ⟨o,u,a2,a3⟩:=tk.all y b h
   exact ⟨u,o,hk₁ _ _ (hg b o a2).1,a3⟩
  ·obtain ⟨o,u,a2,a3⟩:=tk.all y b h
   exact eU a2
  ·show _=fs.length
   rw [List.length_map,tk.pr.length]
 refine kla_codeExpr (wpAny_mono ((hbody s) [] _ _ (eI H L) _ J hq) (fun u s' hu=>?_) fun e s' z=>?_)
 ·obtain ⟨v,H',J',rv,q⟩:=hu
  obtain ⟨u2,ok2⟩:=aDM J'.base J'.hok hg
  exact ⟨v,_,J'.os,J'.bare,u2,ok2,rv,q fun b o e=>J'.base.free b o (hg b o e).1 (eU e) (by simp [cxL])⟩
 ·have fix:∀ e s'',CXr P w outer (eI H L) s (fun C dx H'=>(∀ b o,L.lookup b=some o→H' b=none)→E C dx (jB H' L)) e s''→CXr P w outer H s E e s'':=fun e s'' ⟨x,C,H',e1,F,q⟩=>⟨x,C,_,e1,F.refrz hg e0.frf,q fun b o e=>F.free b o (hg b o e).1 (eU e)⟩
  exact wpAny_mono z (fun _ s'' q=>fix e s'' q) fun e' s'' q=>fix e' s'' q
end
end L2
namespace L2
open PySem PySem.Spec PyProof.Rows PySem.W
def aDO (P:Program) (w:World) (K:PySem.W.Frag) (mg:Str→Option Value) (base:Heap) (k:Nat) (f:Addr) (H:Hp) (Q:VK) (E:XK):Prop:=
 (∃ qual params body scope cl c,H f=some (jG f qual params body scope cl c))∧∀ (A:Around) (outer:List Env) (s:Shared),dF k A→qU P w K mg base A outer s H→codeAny (model P w) A (.call (.ref f) ⟨[],[]⟩) (CR (CXr P w) outer P w H s Q E) s
theorem aCb {M:Model}{f:Addr} (h:Heap) (x:∃ o fd,h.get? f=some o∧o.data=.func fd):∃ k,(k=Keeper.frame∨k=Keeper.machine∨k=Keeper.boundFrame)∧Looks M h (keeperOf (.ref f)) k:=by
 obtain ⟨⟨oc,od,oda,osl⟩,fd,ho,hd⟩:=x
 dsimp only at hd
 subst hd
 exact ⟨.frame,.inl rfl,(Looks.ld (part:=none) ho).andThen .now⟩
section
variable {X:Cx}{k:Nat}{x:Str}{p pos:Pos}
theorem aGm {tv:TE} (hv:PE X.nox (.Name x p) tv) (hr:dF k X.A):
  PX X (.Call (.Name x p) [] [] pos) (fun E'=>fun σ H Q=>tv σ H fun v H1=>∃ f,v=.ref f∧aDO X.prog X.w X.K X.mg X.base k f H1 Q E'):=by
 constructor
 intro E' pins s σ H Q I h
 refine wpAny_Call_Name_kw (wpAny_mono (hv pins s σ H _ (I.wish _) h) (fun u s1 ⟨y,H1,I1,ry,f,ey,⟨qual,params,body,scope,cl,c,hf⟩,hc⟩=>?_) fun _ _ z=>False.elim z)
 subst ey
 cases ry
 have I1:=I1.unwish
 obtain ⟨⟨pm,ctv,ho⟩,_,_⟩:c6 X.prog X.w H1 s1.heap f (jG f qual params body scope cl c):=I1.hok _ _ hf
 refine callWith_of rfl aCb (evalArgs_nil3 ⟨⟨_,_,ho,rfl⟩,?_⟩)
 refine wpAny_call (codeAny_mono (hc X.A X.stack s1 hr I1.env0) fun r s' hq=>?_)
 cases r with
 | error e=>exact ⟨H1,s1,I1,hq⟩
 | ok fl=>
  cases fl with
  | ret u=>exact I1.after hq
  | next=>exact False.elim hq
  | brk=>exact False.elim hq
  | cont=>exact False.elim hq
theorem qJ {pins:List (Addr×Obj)}{σ:St}{H:Hp}{s:Shared}{cl:List (Str×Addr)} (I:Inv X pins σ H s) (hhas:∀ x b,X.env.cells.lookup x=some b→∃ b',cl.lookup x=some b'∨True):∀ {fs:List Str}{zs:List V},aA3 X σ fs zs→
  ∃ L:List (Addr×Obj),(∀ q∈L,s.heap.get? q.1=some q.2∧∃ y∈fs,X.env.cells.lookup y=some q.1)∧Paired (fun (y:Str) (v:V)=>∃ b o u,X.env.cells.lookup y=some b∧(b,o)∈L∧o.data=.cell (some u)∧cS v u) fs zs
 | _,_,.nil=>⟨[],(fun q hq=>nomatch hq),.nil⟩
 | y :: fs,v :: zs,.cons r t=>by
  obtain ⟨L,h1,h2⟩:=qJ I hhas t
  obtain ⟨i,a1,a2,a3⟩:=r
  obtain ⟨m,_,lk⟩:=I.loc
  obtain ⟨u,ru,lo⟩:=lk i y v a1 a2 (.inr (.inl a3))
  rcases lo with ⟨a4,_⟩ | ⟨_,b,a4,o,a5,a6⟩
  ·rw [a3] at a4
   cases a4
  ·refine ⟨(b,o) :: L,fun q hq=>?_,.cons ⟨b,o,u,a4,List.mem_cons_self,a6,ru⟩ (L2.Paired.mapP h2 fun y v ⟨b,o,u,c1,c2,c3⟩=>⟨b,o,u,c1,List.mem_cons_of_mem _ c2,c3⟩)⟩
   rcases List.mem_cons.mp hq with rfl | hq
   ·exact ⟨a5,y,List.mem_cons_self,a4⟩
   ·obtain ⟨c1,z,c2,c3⟩:=h1 q hq
    exact ⟨c1,z,List.mem_cons_of_mem _ c2,c3⟩
theorem vG:∀ {L:List (Addr×Obj)}{b:Addr}{o:Obj},L.lookup b=some o→(b,o)∈L
 | [],_,_,h=>nomatch h
 | (c,q) :: L,b,o,h=>by
  rw [List.lookup_cons] at h
  cases e:b == c with
  | true=>
   rw [e] at h
   cases h
   rw [beq_iff_eq.mp e]
   exact List.mem_cons_self
  | false=>
   rw [e] at h
   exact List.mem_cons_of_mem _ (vG h)
theorem pO:∀ {L:List (Addr×Obj)}{b:Addr}{o:Obj},(b,o)∈L→∃ o',L.lookup b=some o'
 | [],_,_,h=>nomatch h
 | (c,q) :: L,b,o,h=>by
  rw [List.lookup_cons]
  cases e:b == c with
  | true=>exact ⟨q,rfl⟩
  | false=>
   rcases List.mem_cons.mp h with z | z
   ·cases z
    rw [beq_self_eq_true] at e
    cases e
   ·exact pO z
inductive aA8 (X:Cx) (T:Addr) (iT:Pos) (params:Arguments) (body:Expr) (scope:Scope) (cl:List (Str×Addr)) (fs:List Str) (sp:Sp) (σ:St) (H:Hp) (Q:VK):Prop
 | mk (zs:_) (q0:aA3 X σ fs zs) (q1:dQ T iT (X.env.qual ++ "<lambda>") H) (q2:∀ f c H1 L,dD T H H1→dQ T iT (X.env.qual ++ "<lambda>") H1→H1 c=some (i7 c (X.env.qual ++ "<lambda>"))→H1 f=some (jG f (X.env.qual ++ "<lambda>") params body scope cl c)→aDN cl L fs zs→(∀ b o,L.lookup b=some o→H1 b=none)→
  sp [.ref f] (jB H1 L) (fun v H2=>Q v (eI H2 L)) E0):aA8 X T iT params body scope cl fs sp σ H Q
def aHk (X:Cx) (T:Addr) (iT:Pos) (params:Arguments) (body:Expr) (scope:Scope) (cl:List (Str×Addr)) (fs:List Str) (sp:Sp):TE:=fun σ H Q=>aA8 X T iT params body scope cl fs sp σ H Q
theorem aA9 {g c T:Addr}{fd:FuncData}{pn:Str}{sp:Sp}{params:Arguments}{body:Expr}{scope:Scope}{cl:List (Str×Addr)}{fs:List Str}{iT:Pos} (F:cC X.prog X.w X.K X.mg X.base CX0 k g fd [pn] sp) (hr:dF k X.A) (hg:Gl X x) (hm:X.mg x=some (.ref g)) (hk:PySem.W.keepIn X.K (.ref g)=true) (hb:cQ X.K fd [pn] [])
  (hcode:X.env.code=.ref c) (hC:codeHdIn X.K c T=true) (hB:pN X.mg X.base) (hc:∀ y b,cl.lookup y=some b→X.env.cells.lookup y=some b∧y∈fs) (hhas:∀ y∈fs,∃ b,cl.lookup y=some b) (hfn:∀ y,X.fn y=true) (hex:X.ex=[]) (hst:X.stack=X.env :: X.outer) (hfr:X.env.frame=some X.env.locals)
  (hcl:closureFor scope X.env=pure cl:=by rfl) (hdef:defaultsOf params X.env=([],[]):=by rfl) (hdb:(x == ("__debug__":Str))=false:=by decide) (he:starEach [.Lambda params body scope iT] X.env=[(false,eval (.Lambda params body scope iT) X.env)]:=by rfl):
  PE X (.Call (.Name x p) [.Lambda params body scope iT] [] pos) (aHk X T iT params body scope cl fs sp):=by
 constructor
 intro pins s σ H Q I h
 obtain ⟨zs,tk,gt,q⟩:=h
 refine wpAny_Call_Name_kw (nX I hg hm ?_ hdb)
 have ha:PA X [.Lambda params body scope iT] (uM (aGj T iT (X.env.qual ++ "<lambda>") params body scope cl) aCO):=jC (aDE hcode hC hB hcl hdef) aB he
 refine PySem.W.callWith_K (h₀:=X.base) I.ok.mod.kin hk (thn (ha pos pins s σ H (fun vs H1=>∃ f c,vs=[V.ref f]∧dD T H H1∧dQ T iT (X.env.qual ++ "<lambda>") H1∧H1 c=some (i7 c (X.env.qual ++ "<lambda>"))∧H1 f=some (jG f (X.env.qual ++ "<lambda>") params body scope cl c)) I ⟨gt,fun f c H2 a1 a2 a3 a4=>⟨f,c,rfl,a1,a2,a3,a4⟩⟩) fun us s1 ⟨vs,H1,I1,r,f,c',ev,a1,a2,a3,a4⟩=>⟨I1.kIn,?_⟩) he rfl
 subst ev
 obtain ⟨L,hL,hP⟩:=qJ (cl:=cl) I1 (fun _ b _=>⟨b,.inr trivial⟩) tk
 have hl:∀ b o,L.lookup b=some o→s1.heap.get? b=some o∧∃ y∈fs,X.env.cells.lookup y=some b:=fun b o e=>hL _ (vG e)
 have hn:∀ b o,L.lookup b=some o→H1 b=none:=fun b o e=>by
  obtain ⟨_,y,_,hy⟩:=hl b o e
  exact I1.freeC y b hy
 have hbig:∀ b o,L.lookup b=some o→X.s₀.heap.objs.size≤b:=fun b o e=>by
  obtain ⟨_,y,_,hy⟩:=hl b o e
  exact I1.ok.cab y b (hfn y) hy
 have hns:∀ b o,L.lookup b=some o→b ∉ frs X.stack:=fun b o e z=>by
  rw [hst] at z
  obtain ⟨env,hz,hf⟩:=List.mem_filterMap.mp z
  rcases List.mem_cons.mp hz with rfl | hz
  ·rw [hfr] at hf
   cases hf
   obtain ⟨_,y,_,hy⟩:=hl _ o e
   exact I1.cne y _ hy rfl
  ·have hm':b∈frs X.outer:=List.mem_filterMap.mpr ⟨env,hz,hf⟩
   obtain ⟨_,o2,e2,_⟩:=I1.ok.funs.mem hm'
   exact absurd (Nat.lt_of_lt_of_le (Heap.lt_size e2) (hbig b o e)) (Nat.lt_irrefl _)
 have hlt:aDN cl L fs zs:=by
  refine ⟨?_,fun y b e=>?_,fun y z b h1 h2=>I1.ok.inj y z b (hc y b h1).1 (hc z b h2).1⟩
  ·have key:∀ {fs':List Str} {zs':List V},(∀ y∈fs',y∈fs)→Paired (fun (y:Str) (v:V)=>∃ b o u,X.env.cells.lookup y=some b∧(b,o)∈L∧o.data=.cell (some u)∧cS v u) fs' zs'→Paired (fun (x:Str) (v:V)=>∃ b o u,cl.lookup x=some b∧L.lookup b=some o∧o.data=.cell (some u)∧cS v u) fs' zs':=by
    intro fs' zs' hs pr
    induction pr with
    | nil=>exact .nil
    | @cons y v _ _ r _ ih=>
     refine .cons ?_ (ih fun z hz=>hs z (List.mem_cons_of_mem _ hz))
     obtain ⟨b,o,u,c1,c2,c3,c4⟩:=r
     obtain ⟨b',hb'⟩:=hhas y (hs y List.mem_cons_self)
     have:=(hc y b' hb').1
     rw [c1] at this
     cases this
     obtain ⟨o',e'⟩:=pO c2
     have e1:=(hl b o' e').1
     rw [(hL _ c2).1] at e1
     cases e1
     exact ⟨b,o,u,hb',e',c3,c4⟩
   exact key (fun y hy=>hy) hP
  ·obtain ⟨c1,c2⟩:=hc y b e
   have:=I1.cell y b c1
   obtain ⟨u,o,d1,d2⟩:=this
   obtain ⟨i,hi⟩:=List.getElem?_of_mem c2
   obtain ⟨v,hv⟩:∃ v,zs[i]?=some v:=⟨_,List.getElem?_eq_getElem (by rw [← hP.length];exact (List.getElem?_eq_some_iff.mp hi).1)⟩
   obtain ⟨b',o',u',f1,f2,f3,_⟩:=Paired.at hP hi hv
   rw [c1] at f1
   cases f1
   obtain ⟨o'',e'⟩:=pO f2
   have e1:=(hl b o'' e').1
   rw [d1] at e1
   cases e1
   exact ⟨o,u,e',d2⟩
 have hsp:=q f c' H1 L a1 a2 a3 a4 hlt hn
 have env:qU X.prog X.w X.K X.mg X.base X.A X.stack s1 (jB H1 L):=by
  have e0:=I1.env0
  refine ⟨e0.frames,e0.mod,fun b o z=>⟨(e0.bs b o z).1,?_⟩,e0.bsz,e0.funs,fun b hb=>?_,wP e0.hok fun b o e=>⟨(hl b o e).1,hn b o e⟩,e0.bare⟩
  ·cases el:L.lookup b with
   | none=>rw [dB el];exact (e0.bs b o z).2
   | some o'=>exact absurd (Nat.lt_of_lt_of_le (Heap.lt_size z) (Nat.le_trans I1.ok.bsz (hbig b o' el))) (Nat.lt_irrefl _)
  ·cases el:L.lookup b with
   | none=>rw [dB el];exact e0.frf b hb
   | some o'=>exact absurd hb (hns b o' el)
 have hl1:us.length=1:=r.length.symm
 have hb':=hb s1 us I1.kIn (by rw [List.append_nil];exact hl1)
 rw [List.append_nil] at hb'
 refine wpAny_call (codeAny_mono (F.run X.A X.stack s1 (jB H1 L) ⟨us,[]⟩ us [.ref f] _ E0 hr env hb' r hsp) fun rr s' hq=>?_)
 cases rr with
 | error e=>exact False.elim hq
 | ok fl=>
  cases fl with
  | ret u=>
   obtain ⟨v,H2,os,bare,un,hok,rv,hQ⟩:=hq
   obtain ⟨un2,hok2⟩:=aDL un hok fun b o e=>⟨(hl b o e).1,hn b o e,hns b o e⟩
   exact I1.after ⟨v,_,os,bare,un2,hok2,rv,hQ⟩
  | next=>exact False.elim hq
  | brk=>exact False.elim hq
  | cont=>exact False.elim hq
end
end L2
namespace L2
open PySem PySem.Spec PyProof.Rows PySem.W
inductive Thn (H:Hp):V→Prop
 | non:Thn H .non
 | bl (b:Bool):Thn H (.bl b)
 | int (i:Int):Thn H (.int i)
 | str (z:Str):Thn H (.str z)
 | lst {a:Addr} {xs:List V} (e:H a=some (.lst xs)):Thn H (.ref a)
 | tup {a:Addr} {xs:List V} (e:H a=some (.tup xs)):Thn H (.ref a)
 | dct {a:Addr} {kvs:List (Key×V)} (e:H a=some (.dK kvs)):Thn H (.ref a)
theorem Thn.on {H H':Hp}{x:V} (h:Thn H x) (k:∀ a o,H a=some o→(∀ ps,o≠.tbl ps)→H' a=some o):Thn H' x:=by
 cases h with
 | non=>exact .non
 | bl b=>exact .bl b
 | int i=>exact .int i
 | str z=>exact .str z
 | lst e=>exact .lst (k _ _ e fun _ z=>nomatch z)
 | tup e=>exact .tup (k _ _ e fun _ z=>nomatch z)
 | dct e=>exact .dct (k _ _ e fun _ z=>nomatch z)
theorem tI (b:Str) (u:Tok) (l:Addr) (cd:Option Addr) (es:Array DictEntry) (ep:Nat) (sd:Array (Option Value)):
  Meets (Builtin.«str.__eq__» ⟨[.str b u,.ref l],[]⟩) (fun _ R s=>s.heap.get? l=some { cls:=.type "dict",dict:=cd,data:=.dict es ep,slots:=sd }∧R (.ok (.ret .notImplemented)) s):=
 .of_wp fun prog w A R s h=>by
  obtain ⟨hp,g,d,tk,os⟩:=s
  obtain ⟨hl,h⟩:=h
  wp_walk using wpAny_loadPart' hl,wpAny_load hl
  exact ⟨_,rfl,h⟩
theorem tJ (b:Str) (u:Tok) (l:Addr) (cd:Option Addr) (es:Array DictEntry) (ep:Nat) (sd:Array (Option Value)):
  Meets (Builtin.«dict.__eq__» ⟨[.ref l,.str b u],[]⟩) (fun _ R s=>s.heap.get? l=some { cls:=.type "dict",dict:=cd,data:=.dict es ep,slots:=sd }∧R (.ok (.ret .notImplemented)) s):=
 .of_wp fun prog w A R s h=>by
  obtain ⟨hp,g,d,tk,os⟩:=s
  obtain ⟨hl,h⟩:=h
  have f1:=F.sub_str_dict
  wp_walk using wpAny_loadPart' hl
  exact ⟨_,rfl,h⟩
section
variable {X:Cx}
inductive oQ (x:V) (y:V) (H:Hp) (Q:VK):Prop
 | mk (z:_) (q0:x=.str z) (q1:Thn H y) (q2:Q (.bl (decide (x=y))) H):oQ x y H Q
def aAh:V→V→Hp→VK→Prop:=fun x y H Q=>oQ x y H Q
theorem aDP (hu:X.A.units < cLine):OpR X (compareOp .Eq) aAh:=by
 intro pins s σ H x y v u Q I rx ry h
 obtain ⟨z,rfl,ht,hq⟩:=h
 have flat:aF0 (.str z) y=true→wpAny (model X.prog X.w) X.A (compareOp .Eq v u) (EP X pins σ Q) X.xe s:=fun e=>e7 pins s σ H _ _ v u Q I rx ry ⟨e,hq⟩
 obtain ⟨t,rfl⟩:=id rx
 cases ht with
 | non=>exact flat rfl
 | bl b=>exact flat rfl
 | int i=>exact flat rfl
 | str z'=>exact flat rfl
 | lst e=>
  cases ry
  obtain ⟨us,r1,p1,_⟩:=I.list (SqL.of e)
  exact SeqAt.RcAt.str_list _ _ p1.isList hu X.prog X.w _ _ ⟨.bl false,H,I,rfl,hq⟩
 | tup e=>
  cases ry
  obtain ⟨its,r,p,_⟩:=I.tuple (SqT.of e)
  exact SeqAt.RcAt.str_tuple _ _ p hu X.prog X.w _ _ ⟨.bl false,H,I,rfl,hq⟩
 | @dct a kvs e=>
  cases ry
  obtain ⟨_,_,vs,r,⟨cls,dd,data,sl⟩,es,ep,ho,hx,hdt,_⟩:=I.hok a _ e
  obtain ⟨hc,_⟩:=hx
  simp only at hc hdt
  subst hc hdt
  exact (SeqAt.rc_eq_decline_or (k:=false) (typeIs_str s z t) ⟨_,ho,rfl⟩ (by decide) F.sub_dict_str F.slot_str_eq F.slot_dict_eq
   (fun _ hq=>call_meets F.slot_str_eq (typeIs_str s z t) F.entry_str_eq (F.args_str_eq_2 _ _) (tI z t a dd es ep sl) ⟨ho,hq⟩)
   (fun _ hq=>call_meets F.slot_dict_eq ⟨_,ho,rfl⟩ F.entry_dict_eq (F.args_dict_eq_2 _ _) (tJ z t a dd es ep sl) ⟨ho,hq⟩)
   (fun _ hq=>wpAny_of_eq (rfl:isSame (.str z t) (.ref a)=pure false) hq) (.inr hu) ⟨.bl false,H,I,rfl,hq⟩)
end
end L2
namespace K36
open PySem L2
abbrev Mnd:=List (Key×V)
def nxt (m:Mnd) (h:Str):Option Str:=match dH m (Sum.inr h) with
 | some (.str o)=>some o
 | _=>none
inductive dW (m:Mnd):Str→List Str→Prop
 | stop {h:Str} (e:nxt m h=none):dW m h [h]
 | on {h o:Str} {l:List Str} (e:nxt m h=some o) (r:dW m o l):dW m h (h :: l)
theorem dW.uniq {m:Mnd}{h:Str}{l l':List Str} (a:dW m h l) (b:dW m h l'):l=l':=by
 induction a generalizing l' with
 | stop e=>
  cases b with
  | stop _=>rfl
  | on e' _=>rw [e] at e';cases e'
 | on e _ ih=>
  cases b with
  | stop e'=>rw [e] at e';cases e'
  | on e' r'=>
   rw [e] at e'
   cases e'
   rw [ih r']
theorem dW.from {m:Mnd}{h x:Str}{l:List Str} (a:dW m h l) (hx:x∈l):∃ p r,l=p ++ r∧dW m x r:=by
 induction a with
 | @stop h e=>
  rw [List.mem_singleton.mp hx]
  exact ⟨[],[h],rfl,.stop e⟩
 | @on h o l e r ih=>
  rcases List.mem_cons.mp hx with rfl | hx
  ·exact ⟨[],x :: l,rfl,.on e r⟩
  ·obtain ⟨p,q,rfl,z⟩:=ih hx
   exact ⟨h :: p,q,rfl,z⟩
theorem dW.nodup {m:Mnd}{h:Str}{l:List Str} (a:dW m h l):l.Nodup:=by
 induction a with
 | stop _=>exact List.nodup_cons.mpr ⟨by simp,List.nodup_nil⟩
 | @on h o l e r ih=>
  refine List.nodup_cons.mpr ⟨fun hx=>?_,ih⟩
  obtain ⟨p,q,rfl,z⟩:=r.from hx
  have:=congrArg List.length (z.uniq (.on e r))
  simp at this
  omega
theorem aDQ:∀ {l k:List Str},l.Nodup→(∀ x∈l,x∈k)→l.length≤k.length
 | [],k,_,_=>Nat.zero_le _
 | a :: l,k,hn,hs=>by
  obtain ⟨h1,h2⟩:=List.nodup_cons.mp hn
  have ha:=hs a List.mem_cons_self
  have:=aDQ (k:=k.erase a) h2 fun x hx=>(List.mem_erase_of_ne (fun e=>h1 (by rw [← e];exact hx))).mpr (hs x (List.mem_cons_of_mem _ hx))
  rw [List.length_erase_of_mem ha] at this
  have:0 < k.length:=List.length_pos_of_mem ha
  rw [List.length_cons]
  omega
theorem dW.keys {m:Mnd}{h:Str}{l:List Str} (a:dW m h l):∃ r x,l=r ++ [x]∧∀ y∈r,y∈m.filterMap fun p=>match p.1 with | .inr z=>some z | _=>none:=by
 induction a with
 | @stop h e=>exact ⟨[],h,rfl,fun y hy=>by simp at hy⟩
 | @on h o l e r ih=>
  obtain ⟨q,x,rfl,hq⟩:=ih
  refine ⟨h :: q,x,rfl,fun y hy=>?_⟩
  rcases List.mem_cons.mp hy with rfl | hy
  ·unfold nxt at e
   cases hv:dH m (Sum.inr y) with
   | none=>rw [hv] at e;cases e
   | some v=>
    obtain ⟨p,hp,e2⟩:=List.mem_map.mp (aEM hv)
    exact List.mem_filterMap.mpr ⟨p,hp,by rw [e2]⟩
  ·exact hq y hy
theorem dW.len {m:Mnd}{h:Str}{l:List Str} (a:dW m h l):l.length≤m.length + 1:=by
 obtain ⟨r,x,rfl,hr⟩:=a.keys
 have h1:=aDQ (List.nodup_append.mp a.nodup).1 hr
 have h2:=List.length_filterMap_le (fun p:Key×V=>match p.1 with | .inr z=>some z | _=>none) m
 simp
 omega
theorem aBa (m:Mnd) (h o x:Str):nxt (c5 m (Sum.inr h) (.str o)) x=if x=h then some o else nxt m x:=by
 unfold nxt
 rw [sA]
 by_cases e:x=h
 ·subst e
  rw [if_pos rfl,if_pos rfl]
 ·rw [if_neg e,if_neg fun z=>e (Sum.inr.inj z)]
theorem vH (m:Mnd) (k j:Key):dH (dC m k) j=if j=k then none else dH m j:=by
 induction m with
 | nil=>split <;> rfl
 | cons p m ih=>
  by_cases e:p.1=k
  ·rw [lX e,ih]
   by_cases e2:j=k
   ·rw [if_pos e2,if_pos e2]
   ·rw [if_neg e2,if_neg e2,c7 fun z=>e2 (z.symm.trans e)]
  ·rw [lY e]
   by_cases e2:p.1=j
   ·rw [dN e2,dN e2,if_neg fun z=>e (e2.trans z)]
   ·rw [c7 e2,c7 e2,ih]
theorem yI (m:Mnd) (h x:Str):nxt (dC m (Sum.inr h)) x=if x=h then none else nxt m x:=by
 unfold nxt
 rw [vH]
 by_cases e:x=h
 ·subst e
  rw [if_pos rfl,if_pos rfl]
 ·rw [if_neg e,if_neg fun z=>e (Sum.inr.inj z)]
theorem dW.keep {m m':Mnd}{h x:Str}{l:List Str} (a:dW m x l) (hn:h ∉ l) (e:∀ y,y≠h→nxt m' y=nxt m y):dW m' x l:=by
 induction a with
 | @stop y e1=>exact .stop ((e y fun z=>hn (by rw [z];exact List.mem_cons_self)).trans e1)
 | @on y o l e1 r ih=>exact .on ((e y fun z=>hn (by rw [z];exact List.mem_cons_self)).trans e1) (ih fun z=>hn (List.mem_cons_of_mem _ z))
theorem dW.bend {m m':Mnd}{h x:Str}{l lh:List Str} (a:dW m x l) (hh:dW m' h lh) (e:∀ y,y≠h→nxt m' y=nxt m y):∃ l',dW m' x l':=by
 induction a with
 | @stop y e1=>
  by_cases z:y=h
  ·rw [z];exact ⟨lh,hh⟩
  ·exact ⟨_,.stop ((e y z).trans e1)⟩
 | @on y o l e1 r ih=>
  by_cases z:y=h
  ·rw [z];exact ⟨lh,hh⟩
  ·obtain ⟨l',ih⟩:=ih
   exact ⟨_,.on ((e y z).trans e1) ih⟩
structure gU (m:Mnd):Prop where
 tx:∀ p∈m,∃ o,p.2=.str o
 ends : ∀ h, ∃ l, dW m h l
theorem gU.nil:gU []:=⟨fun p hp=>by simp at hp,fun h=>⟨[h],.stop rfl⟩⟩
theorem aDR {m:Mnd}{k:Key}{v:V}{p:Key×V} (hp:p∈c5 m k v):p∈m∨p.2=v:=by
 unfold c5 at hp
 split at hp
 ·obtain ⟨q,hq,e⟩:=List.mem_map.mp hp
  split at e
  ·exact .inr (by rw [← e])
  ·exact .inl (by rw [← e];exact hq)
 ·rcases List.mem_append.mp hp with hp | hp
  ·exact .inl hp
  ·exact .inr (by rw [List.mem_singleton.mp hp])
theorem gU.put {m:Mnd}{h o:Str}{l:List Str} (a:gU m) (e:dW m o l) (hn:h ∉ l):gU (c5 m (Sum.inr h) (.str o)):=by
 have e1:∀ y,y≠h→nxt (c5 m (Sum.inr h) (.str o)) y=nxt m y:=fun y z=>by rw [aBa,if_neg z]
 have e2:dW (c5 m (Sum.inr h) (.str o)) h (h :: l):=.on (by rw [aBa,if_pos rfl]) (e.keep hn e1)
 refine ⟨fun p hp=>?_,fun x=>?_⟩
 ·rcases aDR hp with z | z
  ·exact a.tx p z
  ·exact ⟨o,z⟩
 ·obtain ⟨lx,hx⟩:=a.ends x
  exact hx.bend e2 e1
theorem gU.drop {m:Mnd}{h:Str} (a:gU m):gU (dC m (Sum.inr h)):=by
 have e1:∀ y,y≠h→nxt (dC m (Sum.inr h)) y=nxt m y:=fun y z=>by rw [yI,if_neg z]
 refine ⟨fun p hp=>a.tx p (uX hp),fun x=>?_⟩
 obtain ⟨lx,hx⟩:=a.ends x
 exact hx.bend (h:=h) (.stop (by rw [yI,if_pos rfl])) e1
open Classical in
noncomputable def rd (m:Mnd) (h:Str):List Str:=if e:∃ l,dW m h l then e.choose else [h]
theorem gU.rd {m:Mnd} (a:gU m) (h:Str):dW m h (rd m h):=by
 unfold K36.rd
 rw [dif_pos (a.ends h)]
 exact (a.ends h).choose_spec
theorem gU.val {m:Mnd} (a:gU m) (h:Str):dH m (Sum.inr h)=(nxt m h).map V.str:=by
 unfold nxt
 cases e:dH m (Sum.inr h) with
 | none=>rfl
 | some v=>
  have:∃ p∈m,p.2=v:=by
   unfold dH at e
   obtain ⟨p,hp,e2⟩:=Option.map_eq_some_iff.mp e
   exact ⟨p,List.mem_of_find?_eq_some hp,e2⟩
  obtain ⟨p,hp,e2⟩:=this
  obtain ⟨o,e3⟩:=a.tx p hp
  rw [e2] at e3
  subst e3
  rfl
noncomputable def oR (m:Mnd) (h o:Str):Mnd:=if h∈rd m o then m else c5 m (Sum.inr h) (.str o)
def kY (m:Mnd) (h:Str):Mnd:=if (dH m (Sum.inr h)).isSome=true then dC m (Sum.inr h) else m
theorem gU.mend {m:Mnd} (a:gU m) (h o:Str):gU (oR m h o):=by
 unfold oR
 split
 ·exact a
 ·exact a.put (a.rd o) ‹_›
theorem gU.alone {m:Mnd} (a:gU m) (h:Str):gU (kY m h):=by
 unfold kY
 split
 ·exact a.drop
 ·exact a
theorem vI (m:Mnd) (h o:Str):(oR m h o).length≤m.length + 1:=by
 unfold oR
 split
 ·omega
 ·exact dL _ _ _
theorem aAi (m:Mnd) (h:Str):(kY m h).length≤m.length:=by
 unfold kY
 split
 ·exact lQ _ _
 ·exact Nat.le_refl _
end K36
namespace K36
open PySem L2
def top (i:Nat):Stmt:=PySem.Challenge.pw_dykelengths_k36_rings_told.main.body.getD i (.Pass ⟨0,0,0,0⟩)
abbrev aE1:Stmt:=top 16
abbrev nJ:Stmt:=top 17
abbrev aCc:Stmt:=top 18
abbrev pP:Stmt:=top 19
abbrev iU:Stmt:=top 20
abbrev jI:Stmt:=top 21
abbrev jJ:Stmt:=top 22
abbrev hV:Stmt:=top 23
abbrev hX:Stmt:=top 24
abbrev l7:Stmt:=top 25
abbrev jZ:Stmt:=top 26
abbrev l9:Stmt:=top 27
abbrev pQ:Stmt:=top 29
abbrev mE:Stmt:=top 30
abbrev aCd:Stmt:=top 36
abbrev tK:Stmt:=top 37
abbrev nN:Stmt:=top 38
abbrev pR:Stmt:=top 39
abbrev tL:Stmt:=top 40
abbrev mG:Stmt:=top 41
abbrev pS:Stmt:=top 42
abbrev tO:Stmt:=top 43
abbrev nO:Stmt:=top 44
abbrev aCe:Stmt:=top 45
abbrev pT:Stmt:=top 46
abbrev j6:Stmt:=top 47
abbrev iV:Stmt:=top 48
abbrev pU:Stmt:=top 51
abbrev hZ:Stmt:=top 32
abbrev tP:Stmt:=top 34
abbrev pV:Stmt:=top 49
abbrev iW:Stmt:=top 50
abbrev pW:Stmt:=top 52
abbrev vJ:Stmt:=top 53
abbrev pX:Stmt:=top 54
abbrev pY:Stmt:=top 55
abbrev qZ:Stmt:=top 56
def dE (z:Str):Bool:=decide (1≤z.length∧z.length≤8) && z.cps.toList.all fun c=>decide (97≤c∧c≤122)
def isL (c:Nat):Bool:=decide (97≤c∧c≤122)
def iM (i:Nat):Nat:=97 + i % 26
theorem wQ (i:Nat):isL (iM i)=true:=by
 unfold isL iM
 exact decide_eq_true (by omega)
abbrev abc:Str:=Str.ofString "abcdefghijklmnopqrstuvwxyz"
theorem aDS:abc.cps.toList=List.range' 97 26:=by decide
theorem aDT {i:Int} (h0:0≤i) (h1:i < 26):atI abc.cps.toList i=some (iM i.toNat):=by
 obtain ⟨j,rfl⟩:∃ j:Nat,i=j:=⟨i.toNat,by omega⟩
 unfold atI ixN
 rw [aDS,if_pos h0,if_pos (by simpa using h1)]
 simp only [Int.toNat_natCast,Option.bind_some]
 rw [List.getElem?_range' (by omega)]
 unfold iM
 congr 1
 omega
theorem aE2:abc.length=26:=by decide
def mk (l:List Nat):Str:=⟨l.toArray⟩
theorem aGn {a b:List Nat} (h:mk a=mk b):a=b:=by
 have:=congrArg (fun z:Str=>z.cps.toList) h
 simpa [mk] using this
theorem kZ (l:List Nat):(mk l).length=l.length:=by
 show l.toArray.size=_
 simp
theorem aAj (a b:List Nat):mk a ++ mk b=mk (a ++ b):=by
 show (⟨a.toArray ++ b.toArray⟩:Str)=_
 simp [mk]
def yJ (t k:Nat):List Nat:=[iM (t + 7 * k),iM (t + k / 26)]
def bij:Nat→Nat→List Nat
 | 0,_=>[]
 | f + 1,n=>if n=0 then [] else bij f ((n - 1) / 2) ++ [n % 2]
def bin (t n:Nat):List Nat:=(bij 6 n).map fun d=>iM (t + 9 * d)
theorem aE3:∀ t < 26,((List.range 44).map (yJ t)).Nodup:=by decide
theorem aGo:∀ t < 26,((List.range 44).map fun k=>bin t (k + 1)).Nodup:=by decide
theorem aE4:∀ k < 44,1≤(bij 6 (k + 1)).length∧(bij 6 (k + 1)).length≤8:=by decide
def word (one:Bool) (b:List Nat) (sp t k:Nat):List Nat:=if one then bin t (k + 1) else b.take sp ++ yJ t k ++ b.drop sp
theorem aGp {α:Type}{f:Nat→α}{n m:Nat} (h:((List.range n).map f).Nodup) (hm:m≤n):((List.range m).map f).Nodup:=by
 obtain ⟨d,rfl⟩:∃ d,n=m + d:=⟨n - m,by omega⟩
 rw [List.range_add,List.map_append] at h
 exact (List.nodup_append.mp h).1
theorem aDU {α β:Type}{f:α→β} (hf:∀ a b,f a=f b→a=b) {l:List α} (h:l.Nodup):(l.map f).Nodup:=by
 rw [List.nodup_iff_pairwise_ne] at h ⊢
 exact List.pairwise_map.mpr (h.imp fun hne e=>hne (hf _ _ e))
theorem aE5 {one:Bool}{b:List Nat}{sp t m:Nat} (ht:t < 26) (hm:m≤44):((List.range m).map fun k=>mk (word one b sp t k)).Nodup:=by
 refine aGp (n:=44) ?_ hm
 have e:((List.range 44).map fun k=>mk (word one b sp t k))=((List.range 44).map (word one b sp t)).map mk:=by rw [List.map_map];rfl
 rw [e]
 refine aDU (fun _ _ h=>aGn h) ?_
 cases one with
 | true=>exact aGo t ht
 | false=>
  have e2:(List.range 44).map (word false b sp t)=((List.range 44).map (yJ t)).map fun q=>b.take sp ++ q ++ b.drop sp:=by rw [List.map_map];rfl
  rw [e2]
  refine aDU (fun x y h=>?_) (aE3 t ht)
  exact List.append_cancel_left (List.append_cancel_right h)
theorem yK {l:List Nat} (h1:1≤l.length) (h8:l.length≤8) (ha:∀ c∈l,isL c=true):dE (mk l)=true:=by
 unfold dE
 rw [kZ,decide_eq_true ⟨h1,h8⟩,Bool.true_and]
 have e:(mk l).cps.toList=l:=by simp [mk]
 rw [e,List.all_eq_true]
 exact ha
theorem j7 {z:Str} (h:dE z=true):1≤z.length∧z.length≤8:=by
 unfold dE at h
 rw [Bool.and_eq_true] at h
 exact of_decide_eq_true h.1
theorem aCf {one:Bool}{b:List Nat}{sp t k:Nat} (hk:k < 44) (hb:b.length≤6) (ha:∀ c∈b,isL c=true):dE (mk (word one b sp t k))=true:=by
 cases one with
 | true=>
  have h:=aE4 k hk
  refine yK (by show 1≤(bin t (k + 1)).length;unfold bin;rw [List.length_map];omega) (by show (bin t (k + 1)).length≤8;unfold bin;rw [List.length_map];omega) (fun c hc=>?_)
  have hc':c∈bin t (k + 1):=hc
  unfold bin at hc'
  obtain ⟨d,_,rfl⟩:=List.mem_map.mp hc'
  exact wQ _
 | false=>
  have hl:(word false b sp t k).length=b.length + 2:=by
   show (b.take sp ++ yJ t k ++ b.drop sp).length=_
   rw [List.length_append,List.length_append,List.length_take,List.length_drop]
   show min sp b.length + 2 + (b.length - sp)=_
   omega
  refine yK (by omega) (by omega) (fun c hc=>?_)
  have hc':c∈b.take sp ++ yJ t k ++ b.drop sp:=hc
  rcases List.mem_append.mp hc' with h | h
  ·rcases List.mem_append.mp h with h | h
   ·exact ha c (List.mem_of_mem_take h)
   ·unfold yJ at h
    simp only [List.mem_cons,List.not_mem_nil,or_false] at h
    rcases h with rfl | rfl
    ·exact wQ _
    ·exact wQ _
  ·exact ha c (List.mem_of_mem_drop h)
theorem aDV {α:Type}{x:α}:∀ {l:List α}{j:Nat},l.Nodup→x ∉ l→(l.set j x).Nodup
 | [],_,_,_=>by simp
 | y :: r,0,h,hx=>by
  rw [List.set_cons_zero,List.nodup_cons] at *
  exact ⟨fun z=>hx (List.mem_cons_of_mem _ z),h.2⟩
 | y :: r,j + 1,h,hx=>by
  rw [List.set_cons_succ]
  rw [List.nodup_cons] at *
  refine ⟨fun z=>?_,aDV h.2 fun z=>hx (List.mem_cons_of_mem _ z)⟩
  rcases List.mem_or_eq_of_mem_set z with z | z
  ·exact h.1 z
  ·exact hx (z ▸ List.mem_cons_self)
def m8:List Str:=["as","with","part","field","none","done","write","back","join"]
theorem aAk:∀ z∈m8,dE z=true:=by decide
theorem dX:∀ ns:List Str,(ns.map V.str).all iG=true
 | []=>rfl
 | _ :: r=>by simpa [iG] using dX r
theorem wR (z:Str):∀ ns:List Str,inV (.str z) (ns.map V.str)=decide (z∈ns):=by
 intro ns
 unfold inV
 rw [List.any_map]
 rw [Bool.eq_iff_iff,List.any_eq_true,decide_eq_true_iff]
 constructor
 ·rintro ⟨y,hy,e⟩
  have:y=z:=by simpa [eqV] using e
  exact this ▸ hy
 ·intro h
  exact ⟨z,h,by simp [eqV]⟩
end K36
namespace K36
open PySem L2
abbrev gR:Key:=Sum.inr ("cells":Str)
abbrev kAt:Key:=Sum.inr ("at":Str)
abbrev jK:Key:=Sum.inr ("left":Str)
def iN (c:Addr) (a l:Int):List (Key×V):=[(gR,.ref c),(kAt,.int a),(jK,.int l)]
theorem aGq:¬ (gR=kAt):=by decide
theorem aGr:¬ (gR=jK):=by decide
theorem aE6:¬ (kAt=jK):=by decide
theorem aH2:¬ (jK=kAt):=fun e=>aE6 e.symm
theorem aCg (c:Addr) (a l:Int):dH (iN c a l) gR=some (.ref c):=by
 unfold iN
 rw [dN rfl]
theorem aGs (c:Addr) (a l:Int):dH (iN c a l) kAt=some (.int a):=by
 unfold iN
 rw [c7 aGq,dN rfl]
theorem aDW (c:Addr) (a l:Int):dH (iN c a l) jK=some (.int l):=by
 unfold iN
 rw [c7 aGr,c7 aE6,dN rfl]
theorem aGt (c:Addr) (a l a':Int):c5 (iN c a l) kAt (.int a')=iN c a' l:=by
 unfold c5 iN
 rw [if_pos (by rw [List.any_eq_true];exact ⟨(kAt,.int a),by simp,decide_eq_true rfl⟩)]
 simp only [List.map_cons,List.map_nil,if_neg aGq,if_neg aH2,if_pos]
theorem aDX (c:Addr) (a l l':Int):c5 (iN c a l) jK (.int l')=iN c a l':=by
 unfold c5 iN
 rw [if_pos (by rw [List.any_eq_true];exact ⟨(jK,.int l),by simp,decide_eq_true rfl⟩)]
 simp only [List.map_cons,List.map_nil,if_neg aGr,if_neg aE6,if_pos]
theorem aGu {H:Hp}{p c:Addr}{a l:Int} (h:H p=some (.dK (iN c a l))):lS H p (.str "left") (some (.int l)):=by
 have:=lS.k (k:=jK) h
 rw [aDW] at this
 exact this
theorem aH3 {H:Hp}{p c:Addr}{a l:Int} (h:H p=some (.dK (iN c a l))):lS H p (.str "at") (some (.int a)):=by
 have:=lS.k (k:=kAt) h
 rw [aGs] at this
 exact this
theorem aH4 {H:Hp}{p c:Addr}{a l:Int} (h:H p=some (.dK (iN c a l))):lS H p (.str "cells") (some (.ref c)):=by
 have:=lS.k (k:=gR) h
 rw [aCg] at this
 exact this
theorem aHl {H:Hp}{p c:Addr}{a l:Int} (l':Int) (h:H p=some (.dK (iN c a l))):lE H p (.str "left") (.int l') (upd H p (.dK (iN c a l'))):=by
 have:=lE.k (k:=jK) (v:=.int l') h (gG (by show 3≤1000;decide))
 rw [aDX] at this
 exact this
theorem aH5 {H:Hp}{p c:Addr}{a l:Int} (a':Int) (h:H p=some (.dK (iN c a l))):lE H p (.str "at") (.int a') (upd H p (.dK (iN c a' l))):=by
 have:=lE.k (k:=kAt) (v:=.int a') h (gG (by show 3≤1000;decide))
 rw [aGt] at this
 exact this
structure cV (H:Hp) (p c:Addr) (ns:List Int) (a:Int):Prop where
 ob:∃ l,0≤l∧H p=some (.dK (iN c a l))
 ce:H c=some (.lst (ns.map V.int))
 ge:0≤a
 sm:ns.length≤63
theorem cV.same {H H':Hp}{p c:Addr}{ns:List Int}{a:Int} (x:cV H p c ns a) (h:aU H H'):cV H' p c ns a:=by
 obtain ⟨⟨l,hl,e⟩,ce,ge,sm⟩:=x
 exact ⟨⟨l,hl,h _ _ e⟩,h _ _ ce,ge,sm⟩
theorem cV.ne {H:Hp}{p c:Addr}{ns:List Int}{a:Int} (x:cV H p c ns a):c≠p:=by
 obtain ⟨⟨l,hl,e⟩,ce,_,_⟩:=x
 exact dS ce e (by intro z;cases z)
inductive aBb (K:PySem.W.Frag) (vs:List V) (H:Hp) (Q:VK) (u3_:XK):Prop
 | mk (a:Addr) (ns:List Int) (q0:vs=[.ref a]) (q1:SqL K H a (ns.map V.int)) (q2:ns.length≤63) (q3:∀ p c H',cV H' p c ns 0→aU H H'→H p=none→Q (.ref p) H'):aBb K vs H Q u3_
def aFD (K:PySem.W.Frag):Sp:=fun vs H Q u3_=>aBb K vs H Q u3_
inductive yL (vs:List V) (H:Hp) (Q:VK) (u3_:XK):Prop
 | mk (p c:Addr) (ns:List Int) (a m:Int) (q0:vs=[.ref p,.int m]) (q1:cV H p c ns a) (q2:a≤1000000) (q3:0 < m) (q4:m < 2 ^ 512) (q5:∀ r a' H',0≤r→r < m→a≤a'→a'≤a + 1→cV H' p c ns a'→aY p H H'→Q (.int r) H'):yL vs H Q u3_
def iC:Sp:=fun vs H Q u3_=>yL vs H Q u3_
section
variable {P:Program}{w:World}{K:PySem.W.Frag}{mg:Str→Option Value}{base:Heap}
theorem aHm:cA ["_law_script"] ["_law_script"] (aM aCd):=⟨rfl,rfl,rfl,by decide,rfl,by decide,by decide⟩
theorem aHn (ns:List Int) (h:ns.length≤63):lC (ns.map V.int) none (some 63)=ns.map V.int:=by
 have e:HT.sIx (ns.map V.int).length (ns.map V.int).length (some 63)=(ns.map V.int).length:=by
  have:=HT.sIx_nat (ns.map V.int).length (ns.map V.int).length 63
  rw [List.length_map] at this ⊢
  refine Eq.trans this ?_
  omega
 unfold lC
 rw [e,HT.sIx_none,List.drop_zero,Nat.sub_zero,List.take_length]
theorem aGv {f:Addr}{fd:FuncData} (F:Fun K "_law_pen" "_law_pen" aCd f fd) (hlist:mg "list"=none):cC P w K mg base CX0 1 f fd ["_law_script"] (aFD K):=by
 refine F.ok aHm (fun vs H Q E h=>?_) (fun cdv A outer s H vs Q E hr h=>?_)
 ·obtain ⟨a,ns,rfl,_⟩:=h
  rfl
 ·obtain ⟨a,ns,rfl,hS,hn,k⟩:=h
  refine ⟨_,aQ (bE (aAP (iH aV (fJ n8 (by rfl) hlist (by kernel_rfl) (jC (eB kH (pv 0) fQ (fU aG)) aB)) (iH aV aG (iH aV aG aAO))) rfl rfl (by simp) (by decide))),?_⟩
  intro p hp
  refine ⟨_,rfl,_,rfl,_,_,rfl,(aU.new hp).seq hS,fun q hq=>?_⟩
  rw [aHn ns hn]
  refine ⟨q,_,rfl,.inl (SqL.of aF),fun c hc=>?_⟩
  have nqp:q≠p:=(aO aF hq).symm
  have ncp:c≠p:=(aO (show upd (upd H p (HO.dK [])) q (.lst (ns.map V.int)) p=some (HO.dK []) by rw [aJ nqp.symm,aF]) hc).symm
  refine ⟨by rw [aJ ncp.symm,aJ nqp.symm,aF],[(gR,.ref c),(kAt,.int 0),(jK,.int 0)],rfl,by show 3≤15;decide,?_⟩
  have em:nE [] [(gR,V.ref c),(kAt,.int 0),(jK,.int 0)]=iN c 0 0:=by
   have e1:c5 ([]:List (Key×V)) gR (.ref c)=[(gR,.ref c)]:=by rw [oA _ rZ];rfl
   have e2:c5 [(gR,V.ref c)] kAt (.int 0)=[(gR,.ref c),(kAt,.int 0)]:=by rw [oA _ (by rw [c7 aGq,rZ])];rfl
   have e3:c5 [(gR,V.ref c),(kAt,.int 0)] jK (.int 0)=[(gR,.ref c),(kAt,.int 0),(jK,.int 0)]:=by rw [oA _ (by rw [c7 aGr,c7 aE6,rZ])];rfl
   show c5 (c5 (c5 [] gR (.ref c)) kAt (.int 0)) jK (.int 0)=_
   rw [e1,e2,e3]
   rfl
  rw [em]
  refine k p c _ ⟨⟨0,Int.le_refl _,aF⟩,by rw [aJ ncp,aF],Int.le_refl _,hn⟩ (fun b o e=>?_) hp
  have nbp:b≠p:=aO e hp
  have nbq:b≠q:=aO (show upd H p (HO.dK []) b=some o by rw [aJ nbp];exact e) hq
  have nbc:b≠c:=aO (show upd (upd H p (HO.dK [])) q (.lst (ns.map V.int)) b=some o by rw [aJ nbq,aJ nbp];exact e) hc
  rw [aJ nbp,aJ nbc,aJ nbq,aJ nbp]
  exact e
theorem lV:cA ["_law_pen_here","_law_many","_law_found","_law_at","_law_cells","_law_cell","_law_one","_law_two"] ["_law_pen_here","_law_many"] (aM tK):=⟨rfl,rfl,rfl,by decide,rfl,by decide,by decide⟩
theorem aHo {c a b:Int} (hc:0≤c) (h:0≤a) (h2:a≤b):0≤c * a * a∧c * a * a≤c * b * b:=by
 have h1:0≤c * a:=Int.mul_nonneg hc h
 have h3:c * a≤c * b:=Int.mul_le_mul_of_nonneg_left h2 hc
 exact ⟨Int.mul_nonneg h1 h,Int.mul_le_mul h3 h2 h (Int.mul_nonneg hc (Int.le_trans h h2))⟩
theorem aH6 (x:Int) {a:Int} (h:0≤a) (h2:a≤1000000):Int.natAbs (x % (2147483629:Int) + (1213:Int) * a * a + (3:Int)) < 2 ^ 64:=by
 obtain ⟨b1,b2⟩:=aHo (c:=(1213:Int)) (a:=a) (b:=1000000) (by decide) h h2
 have e1:=Int.emod_nonneg x (show (2147483629:Int)≠0 by decide)
 have e2:=Int.emod_lt_of_pos x (show 0 < (2147483629:Int) by decide)
 omega
theorem aH7 {x:Int}:-(2 ^ 64) < x % (2147483543:Int)∧x % (2147483543:Int) < 2 ^ 64:=by
 have e1:=Int.emod_nonneg x (show (2147483543:Int)≠0 by decide)
 have e2:=Int.emod_lt_of_pos x (show 0 < (2147483543:Int) by decide)
 omega
theorem aE7 {f:Addr}{fd:FuncData} (F:Fun K "_law_take" "_law_take" tK f fd) (hlen:mg "len"=none) (habs:mg "abs"=none):cC P w K mg base CX0 1 f fd ["_law_pen_here","_law_many"] iC:=by
 refine F.ok lV (fun vs H Q E h=>?_) (fun cdv A outer s H vs Q E hr h=>?_)
 ·obtain ⟨p,c,ns,a,m,rfl,_⟩:=h
  rfl
 ·obtain ⟨p,c,ns,a,m,rfl,hp,ha,hm,hm2,k⟩:=h
  have hu:=jE hr
  have hu':(A.deeper (PyProof.Rows.envOfC "_law_take" (aM tK) s.heap.objs.size f cdv)).units < cLine:=by omega
  refine ⟨_,aA (cU (bV aFu (fV hu (pv 0) aV (fun _ _=>rfl)) aG (cM _))
    (aA (aW (i:=2) lV.nd rfl (Or.inl rfl) (aZ f8 (fV hu (pv 0) aV (fun _ _=>rfl)) (pv 1)))
    (aA (fY hu (pv 0) aV (aZ sH (fV hu (pv 0) aV (fun _ _=>rfl)) (pv 1)) rfl)
    (aQ (bE (pv 2))))) bH)
   (aA (aW (i:=3) lV.nd rfl (Or.inl rfl) (fV hu (pv 0) aV (fun _ _=>rfl)))
   (aA (fY hu (pv 0) aV (aZ c8 (pv 3) aG) rfl)
   (aA (aW (i:=4) lV.nd rfl (Or.inl rfl) (fV hu (pv 0) aV (fun _ _=>rfl)))
   (aA (aW (i:=5) lV.nd rfl (Or.inl rfl) (aZ c8 (aZ c8 (aZ jM (aZ jM aG (pv 3)) (pv 3)) (aZ jM aG (pv 3))) aG))
   (aA (sP <| cU (bV (wK hu') (pv 4) (dA aB) (cM _))
    (aQ (aW (i:=5) lV.nd rfl (Or.inl rfl) (aX cF (pv 4) (aZ f8 (pv 3) (bF cG (by rfl) hlen PySem.boot_len (jC (pv 4) aB))) (fun _ _=>rfl)))) bH)
   (aA (sP <| cU (f6 (bV aAH (pv 3) (bF cG (by rfl) hlen PySem.boot_len (jC (pv 4) aB)) (cM _))
     (gC (bV aGT (bF rT (by rfl) habs (by kernel_rfl) (jC (pv 5) aB)) (aZ jN aG aG) (cM _)))).pt
    (aA (fY hu (pv 0) aV (aZ sH (bF rT (by rfl) habs (by kernel_rfl) (jC (pv 5) aB)) (pv 1)) rfl)
    (aQ (bE (aZ f8 (bF rT (by rfl) habs (by kernel_rfl) (jC (pv 5) aB)) (pv 1))))) bH)
   (aA (aW (i:=6) lV.nd rfl (Or.inl rfl) (aZ f8 (aZ jN (aZ c8 (aZ c8 (aZ f8 (pv 5) aG) (aZ jM aG (pv 3))) aG) aG) aG))
   (aA (aW (i:=7) lV.nd rfl (Or.inl rfl) (aZ f8 (aZ jN (aZ c8 (aZ c8 (pv 6) (aZ jM (aZ jM aG (pv 3)) (pv 3))) aG) aG) aG))
   (aQ (bE (aZ f8 (aZ sH (aZ f8 (aZ jM (pv 7) (aZ c8 (aZ f8 (pv 6) aG) aG)) aG) aG) (pv 1)))))))))))),?_⟩
  obtain ⟨⟨l,hl0,hob⟩,hce,hge,hsm⟩:=id hp
  have ncp:=hp.ne
  refine ⟨_,rfl,p,_,rfl,aGu hob,_,_,rfl,rfl,_,rfl,?_⟩
  refine eG (fun h0=>?_) (fun h0=>?_)
  ·refine ⟨_,rfl,p,_,rfl,aGu hob,_,rfl,_,_,rfl,rfl,hm,?_⟩
   refine ⟨_,rfl,p,_,rfl,aGu hob,_,rfl,_,_,rfl,rfl,u7.of hm hm2,_,rfl,p,_,rfl,aHl _ hob,?_⟩
   refine ⟨_,rfl,?_⟩
   exact k (l % m) a _ (Int.emod_nonneg _ (by omega)) (Int.emod_lt_of_pos _ hm) (Int.le_refl _) (by omega) ⟨⟨l / m,Int.ediv_nonneg hl0 (by omega),aF⟩,by rw [aJ ncp];exact hce,hge,hsm⟩ (aY.refl p H).upd
  ·refine ⟨_,rfl,p,_,rfl,aH3 hob,?_⟩
   refine ⟨_,rfl,_,_,rfl,rfl,_,rfl,p,_,rfl,aH5 _ hob,?_⟩
   refine ⟨_,rfl,p,_,rfl,aH4 aF,?_⟩
   refine ⟨_,rfl,_,_,rfl,rfl,.inl (by decide),_,rfl,_,_,rfl,rfl,.inr (by omega),_,rfl,_,_,rfl,rfl,.inl (by decide),_,_,rfl,rfl,_,_,rfl,rfl,?_⟩
   have keep1:aY p H (upd H p (.dK (iN c (a + 1) l))):=(aY.refl p H).upd
   have hc1:(upd H p (.dK (iN c (a + 1) l))) c=some (.lst (ns.map V.int)):=by rw [aJ ncp];exact hce
   refine ⟨fun σ' H'=>∃ cv:Int,σ'=[some (.ref p),some (.int m),none,some (.int a),some (.ref c),some (.int cv),none,none]∧aY p H H'∧H' p=some (.dK (iN c (a + 1) l))∧H' c=some (.lst (ns.map V.int)),?_,?_⟩
   ·refine ⟨_,rfl,Nat.zero_le _,fun q hq=>?_⟩
    have s2:=aU.new (o:=.lst []) hq
    refine ⟨c,q,ns.map V.int,[],rfl,rfl,SqL.of (s2 _ _ hc1),SqL.of aF,vB ns,rfl,_,rfl,?_⟩
    refine eG (fun hne=>?_) (fun hne=>?_)
    ·have hpos:0 < ns.length:=by
      cases ns with
      | nil=>exact absurd hne (by simp [pK])
      | cons x r=>simp
     have hlt:(a % (ns.length:Int)).toNat < ns.length:=by
      have h1:=Int.emod_lt_of_pos a (show (0:Int) < ns.length by omega)
      have h2:=Int.emod_nonneg a (show (ns.length:Int)≠0 by omega)
      omega
     have hat:atI (ns.map V.int) (a % (ns.length:Int))=some (.int (ns[(a % (ns.length:Int)).toNat])):=by
      have h2:=Int.emod_nonneg a (show (ns.length:Int)≠0 by omega)
      have e:=gM (xs:=ns.map V.int) (j:=(a % (ns.length:Int)).toNat) (v:=.int (ns[(a % (ns.length:Int)).toNat])) (by rw [List.getElem?_map,List.getElem?_eq_getElem hlt];rfl)
      rw [Int.toNat_of_nonneg h2] at e
      exact e
     have hat':atI (ns.map V.int) (a % ((ns.map V.int).length:Int))=some (.int (ns[(a % (ns.length:Int)).toNat])):=by
      rw [List.length_map];exact hat
     refine ⟨_,rfl,_,rfl,_,rfl,c,_,rfl,.inl (SqL.of (s2 _ _ hc1)),_,_,rfl,rfl,(by rw [List.length_map];omega),c,_,_,_,rfl,rfl,SqL.of (s2 _ _ hc1),hat',?_⟩
     exact ⟨_,rfl,keep1.same s2,s2 _ _ aF,s2 _ _ hc1⟩
    ·exact ⟨_,rfl,keep1.same s2,s2 _ _ aF,s2 _ _ hc1⟩
   ·rintro σ' H' ⟨cv,rfl,kp,hpp,hcc⟩
    refine ⟨fun σ' H'=>∃ cv:Int,σ'=[some (.ref p),some (.int m),none,some (.int a),some (.ref c),some (.int cv),none,none]∧aY p H H'∧H' p=some (.dK (iN c (a + 1) l))∧H' c=some (.lst (ns.map V.int)),?_,?_⟩
    ·refine ⟨_,rfl,_,rfl,c,_,rfl,.inl (SqL.of hcc),_,_,rfl,rfl,_,rfl,?_⟩
     refine eG (fun h1=>?_) (fun h1=>?_)
     ·refine ⟨_,rfl,_,rfl,_,_,rfl,rfl,⟨by decide,by decide,by decide⟩,_,_,rfl,rfl,_,rfl,?_⟩
      refine eG (fun h2=>?_) (fun h2=>?_)
      ·refine ⟨_,rfl,_,rfl,_,rfl,_,_,rfl,rfl,u7.of hm hm2,_,rfl,p,_,rfl,aHl _ hpp,?_⟩
       refine ⟨_,rfl,_,rfl,_,rfl,_,_,rfl,rfl,hm,?_⟩
       have habs0:0≤(if cv < 0 then -cv else cv):=by split <;> omega
       exact k _ (a + 1) _ (Int.emod_nonneg _ (by omega)) (Int.emod_lt_of_pos _ hm) (by omega) (Int.le_refl _) ⟨⟨_,Int.ediv_nonneg habs0 (by omega),aF⟩,by rw [aJ ncp];exact hcc,by omega,hsm⟩ kp.upd
      ·exact ⟨cv,rfl,kp,hpp,hcc⟩
     ·exact dP ⟨cv,rfl,kp,hpp,hcc⟩
    ·rintro σ' H' ⟨cv,rfl,kp,hpp,hcc⟩
     refine ⟨_,rfl,_,_,rfl,rfl,(by show (0:Int) < _;decide),_,rfl,_,_,rfl,rfl,.inl (by decide),_,_,rfl,rfl,_,_,rfl,rfl,_,_,rfl,rfl,⟨by decide,by decide,?_⟩,_,_,rfl,rfl,(by show (0:Int) < _;decide),?_⟩
     ·have e1:=Int.emod_nonneg cv (show (2147483587:Int)≠0 by decide)
      have e2:=Int.emod_lt_of_pos cv (show 0 < (2147483587:Int) by decide)
      show Int.natAbs (cv % (2147483587:Int) + (45007:Int) * a + (11:Int)) < 2 ^ 64
      omega
     ·refine ⟨_,rfl,_,rfl,_,_,rfl,rfl,.inl (by decide),_,rfl,_,_,rfl,rfl,.inr (by omega),_,_,rfl,rfl,_,_,rfl,rfl,_,_,rfl,rfl,⟨by decide,by decide,aH6 _ hge ha⟩,_,_,rfl,rfl,(by show (0:Int) < _;decide),?_⟩
      refine ⟨_,rfl,_,rfl,_,_,rfl,rfl,(by show (0:Int) < _;decide),_,_,rfl,rfl,_,_,rfl,rfl,.inl aH7,_,_,rfl,rfl,(by show (0:Int) < _;decide),_,_,rfl,rfl,u7.of (by decide) (by decide),_,rfl,_,_,rfl,rfl,hm,?_⟩
      exact k _ (a + 1) _ (Int.emod_nonneg _ (by omega)) (Int.emod_lt_of_pos _ hm) (by omega) (Int.le_refl _) ⟨⟨l,hl0,hpp⟩,hcc,by omega,hsm⟩ kp
end
end K36
namespace K36
open PySem L2
structure Nms (ws:List Str):Prop where
 nd:ws.Nodup
 ok:∀ w∈ws,dE w=true
theorem Nms.take {ws:List Str} (h:Nms ws) (n:Nat):Nms (ws.take n):=⟨h.nd.sublist (List.take_sublist n ws),fun w hw=>h.ok w (List.mem_of_mem_take hw)⟩
inductive vK (vs:List V) (H:Hp) (Q:VK) (u3_:XK):Prop
 | mk (p c:Addr) (ns:List Int) (a:Int) (m:Nat) (q0:vs=[.ref p,.int m]) (q1:cV H p c ns a) (q2:a≤900000) (q3:m≤44) (q4:∀ l ws a' H',H l=none→H' l=some (.lst (ws.map V.str))→ws.length=m→Nms ws→a≤a'→a'≤a + 30→cV H' p c ns a'→aY p H H'→Q (.ref l) H'):vK vs H Q u3_
def wS:Sp:=fun vs H Q u3_=>vK vs H Q u3_
theorem nP (l:List Nat):∀ (m s:Nat),(List.range' s m).filterMap (fun j=>l.toArray[j]?)=(l.drop s).take m
 | 0,s=>by simp
 | m + 1,s=>by
  rw [List.range'_succ,List.filterMap_cons]
  have ih:=nP l m (s + 1)
  by_cases h:s < l.length
  ·have e:l.toArray[s]?=some l[s]:=by simp [h]
   rw [e]
   dsimp only
   rw [ih,List.drop_eq_getElem_cons h,List.take_succ_cons]
  ·have e:l.toArray[s]?=none:=by simp;omega
   rw [e]
   dsimp only
   rw [ih,List.drop_eq_nil_of_le (by omega),List.drop_eq_nil_of_le (by omega)]
   simp
theorem aE8:∀ n:Nat,n < 7→∀ s:Nat,s < 7→s≤n→Builtin.Str.strSliceIndices none (some (s:Int)) 1 n=List.range' 0 s:=by decide
theorem aCh:∀ n:Nat,n < 7→∀ s:Nat,s < 7→s≤n→Builtin.Str.strSliceIndices (some (s:Int)) none 1 n=List.range' s (n - s):=by decide
theorem aHp {b:List Nat}{s:Nat} (hb:b.length≤6) (hs:s≤b.length):Txt.slice (mk b) none (some (s:Int))=mk (b.take s):=by
 unfold Txt.slice
 rw [kZ,aE8 _ (by omega) _ (by omega) hs]
 split
 ·next h=>
  simp at h
  rw [h,List.take_length]
 ·have e:=nP b s 0
  rw [List.drop_zero] at e
  exact congrArg mk e
theorem aE9 {b:List Nat}{s:Nat} (hb:b.length≤6) (hs:s≤b.length):Txt.slice (mk b) (some (s:Int)) none=mk (b.drop s):=by
 unfold Txt.slice
 rw [kZ,aCh _ (by omega) _ (by omega) hs]
 split
 ·next h=>
  simp at h
  have:s=0∨b.length=0:=by omega
  rcases this with rfl | h0
  ·rfl
  ·rw [List.length_eq_zero_iff.mp h0];simp
 ·have e:=nP b (b.length - s) s
  rw [show (b.drop s).take (b.length - s)=b.drop s from List.take_of_length_le (by rw [List.length_drop];exact Nat.le_refl _)] at e
  exact congrArg mk e
theorem aCi (bs:List Nat):∀ acc:Array Nat,(bs.map fun c=>mk [c]).foldl (fun (acc:Array Nat) (p:Str)=>acc ++ (Str.ofString "").cps ++ p.cps) acc=acc ++ bs.toArray:=by
 have e0:(Str.ofString "").cps=#[]:=by decide
 induction bs with
 | nil=>intro acc;simp
 | cons x r ih=>
  intro acc
  rw [List.map_cons,List.foldl_cons,ih,e0]
  simp [mk]
theorem aFa (bs:List Nat):Txt.join "" (bs.map fun c=>mk [c])=mk bs:=by
 show Builtin.Str.glued _ _=_
 unfold Builtin.Str.glued
 cases bs with
 | nil=>rfl
 | cons x r=>
  have:=aCi r #[x]
  simp only [List.map_cons,List.headD_cons,List.drop_succ_cons,List.drop_zero]
  show (⟨List.foldl _ _ _⟩:Str)=_
  rw [show (mk [x]).cps=#[x] from rfl]
  rw [this]
  simp [mk]
theorem wT (x:Nat) {j:Int} (hj:j=(x:Int) % 26):atI abc.cps.toList j=some (iM x):=by
 have h0:0≤j:=by omega
 have h1:j < 26:=by omega
 rw [aDT h0 h1]
 unfold iM
 congr 1
 omega
theorem aDY (f n:Nat) (h:n≠0):bij (f + 1) n=bij f ((n - 1) / 2) ++ [n % 2]:=by
 show (if n=0 then [] else _)=_
 rw [if_neg h]
section
variable {P:Program}{w:World}{K:PySem.W.Frag}{mg:Str→Option Value}{base:Heap}
theorem d9:cA ["_law_pen_here","_law_many","_law_letters","_law_way","_law_turn","_law_k","_law_base","_law_spot","_law_found","_law_word","_law_rest","_law_terms"] ["_law_pen_here","_law_many"] (aM nN):=⟨rfl,rfl,rfl,by decide,rfl,by decide,by decide⟩
theorem aFb {ws:List Str} (h:∀ w∈ws,w.length=1):(ws.map (·.length)).sum=ws.length:=by
 induction ws with
 | nil=>rfl
 | cons x r ih=>
  rw [List.map_cons,List.sum_cons,ih fun w hw=>h w (List.mem_cons_of_mem _ hw),h x List.mem_cons_self,List.length_cons]
  omega
theorem aDZ {f fT:Addr}{fd fdT:FuncData} (F:Fun K "_law_names" "_law_names" nN f fd) (hlen:mg "len"=none) (hrng:mg "range"=none) (hmin:mg "min"=none)
  (GT:cC P w K mg base CX0 1 fT fdT ["_law_pen_here","_law_many"] iC) (mT:mg "_law_take"=some (.ref fT)) (kT:PySem.W.keepIn K (.ref fT)=true) (bT:cQ K fdT ["_law_pen_here","_law_many"] []):
  cC P w K mg base CX0 2 f fd ["_law_pen_here","_law_many"] wS:=by
 refine F.ok d9 (fun vs H Q E h=>?_) (fun cdv A outer s H vs Q E hr h=>?_)
 ·obtain ⟨p,c,ns,a,m,rfl,_⟩:=h
  rfl
 ·obtain ⟨p,c,ns,a,m,rfl,hp,ha,hm,k⟩:=h
  refine ⟨_,aA (aW (i:=2) d9.nd rfl (Or.inr rfl) aV)
   (aA (aW (i:=3) d9.nd rfl (Or.inl rfl) (aS GT hr rfl mT kT bT .nil bY (aE (pv 0) (aE aG aB))))
   (aA (aW (i:=4) d9.nd rfl (Or.inl rfl) (aS GT hr rfl mT kT bT .nil bY (aE (pv 0) (aE aG aB))))
   (aA (aW (i:=6) d9.nd rfl (Or.inl rfl) (fF PySem.F.plainAttrs_str PySem.F.slot_str_join PySem.F.type_str_join aEP aV (aE (jF (N:=["_law_k","_law_letters","_law_pen_here"]) (src:=[none,some 2,some 0]) (osc:=aM nN) (oN:=["_law_pen_here","_law_many","_law_letters","_law_way","_law_turn","_law_k","_law_base","_law_spot","_law_found","_law_word","_law_rest","_law_terms"]) ⟨by rfl,by decide,by decide,by decide,rfl,by rfl⟩
      (eV rfl hrng (aE (aX cF (dA (aE (aS GT hr rfl mT kT bT .nil bY (aE (pv 0) (aE aG aB))) (aE aG (aE aG aB)))) (pv 3) (fun _ _=>rfl)) aB))
      fun cl s H fp pins C=>⟨bG (i:=0) (show (["_law_k","_law_letters","_law_pen_here"]:List Str).Nodup by decide) rfl (Or.inl rfl),gP,aX wG (pv 1) (aS GT hr rfl mT kT bT .nil bY (aE (pv 2) (aE aG aB))) (fun _ _=>rfl)⟩) aB)))
   (aA (aW (i:=7) d9.nd rfl (Or.inl rfl) (aS GT hr rfl mT kT bT .nil bY (aE (pv 0) (aE (aZ c8 (bF wI (by rfl) hlen PySem.boot_len (aE (pv 6) aB)) aG) aB))))
   (aA (aW (i:=8) d9.nd rfl (Or.inl rfl) (dA aB))
   (aA (f7 PassesOwn.never rfl (eV rfl hrng (aE (pv 1) aB)) (bG (i:=5) d9.nd rfl (Or.inl rfl))
    (aA (aW (i:=9) d9.nd rfl (Or.inl rfl) (aZ kG (aX wG (pv 2) (aZ f8 (aZ c8 (pv 4) (aZ jM aG (pv 5))) aG) (fun _ _=>rfl)) (aX wG (pv 2) (aZ f8 (aZ c8 (pv 4) (aZ aAD (pv 5) aG)) aG) (fun _ _=>rfl))))
    (aA (aW (i:=9) d9.nd rfl (Or.inl rfl) (aZ kG (aZ kG (eB aDc (pv 6) fQ (fU (pv 7))) (pv 9)) (eB aDc (pv 6) (fU (pv 7)) fQ)))
    (aA (sP <| cU (bV e7 (pv 3) aG (cM _))
     (aA (aW (i:=9) d9.nd rfl (Or.inl rfl) aV)
     (aA (aW (i:=10) d9.nd rfl (Or.inl rfl) (aZ c8 (pv 5) aG))
     (aQ (rP PassesOwn.never (bV aFu (pv 10) aG (cM _))
      (aA (aW (i:=9) d9.nd rfl (Or.inl rfl) (aZ kG (aX wG (pv 2) (aZ f8 (aZ c8 (pv 4) (aZ jM aG (aZ f8 (pv 10) aG))) aG) (fun _ _=>rfl)) (pv 9)))
      (aQ (aW (i:=10) d9.nd rfl (Or.inl rfl) (aZ aAD (aZ iZ (pv 10) aG) aG)))))))) bH)
    (aQ (dJ (fF PySem.F.plainAttrs_list PySem.F.slot_list_append PySem.F.type_list_append dG (pv 8) (aE (pv 9) aB))))))))
   (aA (aW (i:=11) d9.nd rfl (Or.inl rfl) (dA (aE aV (aE aV (aE aV (aE aV (aE aV (aE aV (aE aV (aE aV (aE aV aB)))))))))))
   (aA (sP <| cU (bV e7 (aS GT hr rfl mT kT bT .nil bY (aE (pv 0) (aE aG aB))) aG (cM _))
    (aQ (f7 PassesOwn.never rfl (eV rfl hrng (aE (bF (pB rfl) (by rfl) hmin (by kernel_rfl) (aE (pv 1) (aE aG aB))) aB)) (bG (i:=5) d9.nd rfl (Or.inl rfl))
     (aQ (cU (PW.pt (f6 (bV e7 (aS GT hr rfl mT kT bT .nil bY (aE (pv 0) (aE aG aB))) aG (cM _)) (gC (bV gN (aX cF (pv 11) (pv 5) (fun _ _=>rfl)) (pv 8) (by with_unfolding_all rfl)))))
      (aQ (lH (aX cF (pv 11) (pv 5) (fun _ _=>rfl)) (aCD (pv 8) (pv 5) xJ))) bH)))) bH)
   (aQ (bE (pv 8))))))))))),?_⟩
  have e0:(Str.ofString "").length=0:=by decide
  have zA:abc.length≤sizeLine:=aH (by rw [aE2];decide)
  refine ⟨_,rfl,p,c,ns,a,_,rfl,hp,by omega,by decide,by decide,fun wy a1 H1 w0 w1 l1 u1 hp1 kp1=>?_⟩
  refine ⟨_,rfl,p,c,ns,a1,_,rfl,hp1,by omega,by decide,by decide,fun tt a2 H2 t0 t1 l2 u2 hp2 kp2=>?_⟩
  obtain ⟨t,rfl⟩:∃ t:Nat,tt=t:=⟨tt.toNat,by omega⟩
  refine ⟨rfl,_,rfl,p,c,ns,a2,_,rfl,hp2,by omega,by decide,by decide,fun r3 a3 H3 r30 r31 l3 u3 hp3 kp3=>?_⟩
  refine ⟨aH (by show 3≤1000000;decide),fun q hq=>?_⟩
  have sq:=aU.new (o:=.lst [V.int r3,.int 0,.int 6]) hq
  obtain ⟨v,hv,hat⟩:=g8 (xs:=[V.int r3,.int 0,.int 6]) (i:=wy) w0 (by show wy < 3;omega)
  obtain ⟨n,rfl,hn0,hn6⟩:∃ n:Int,v=.int n∧0≤n∧n≤6:=by
   simp only [List.mem_cons,List.not_mem_nil,or_false] at hv
   rcases hv with rfl | rfl | rfl
   ·exact ⟨_,rfl,by omega,by omega⟩
   ·exact ⟨_,rfl,by omega,by omega⟩
   ·exact ⟨_,rfl,by omega,by omega⟩
  refine ⟨_,rfl,q,_,wy,_,rfl,rfl,SqL.of aF,hat,?_⟩
  refine ⟨n,rfl,by omega,by omega,?_⟩
  have kq:aY p H (upd H3 q (.lst [V.int r3,.int 0,.int 6])):=((kp1.trans kp2).trans kp3).same sq
  have hpq:=hp3.same sq
  generalize upd H3 q (.lst [V.int r3,.int 0,.int 6])=H4 at kq hpq ⊢
  refine kQ (fun i ys σ' H'=>∃ (a':Int) (bs:List Nat) (o:Option V),σ'=[o,some (.str abc),some (.ref p)]∧cV H' p c ns a'∧aY p H H'∧a3≤a'∧a'≤a3 + i∧ys=(bs.map fun c=>mk [c]).map V.str∧bs.length=i∧(∀ c∈bs,isL c=true))
   ⟨a3,[],none,rfl,hpq,kq,by omega,by omega,rfl,rfl,fun w hw=>by simp at hw⟩ (aH (by omega)) (fun i ys σ H p=>by obtain ⟨_,bs,_,_,_,_,_,_,rfl,e,_⟩:=p;rw [List.length_map,List.length_map,e];exact Nat.le_refl _) ?_ ?_
  ·rintro i' ys σ' H5 hi' ⟨a',bs,o,rfl,hp5,kp5,la',ha',rfl,hl,hb⟩
   dsimp only [cY]
   refine fZ ?_
   refine ⟨_,rfl,_,rfl,p,c,ns,a',_,rfl,hp5,by omega,by decide,by decide,fun r6 a6 H6 r60 r61 l6 u6 hp6 kp6=>?_⟩
   refine ⟨_,r6,iM r6.toNat,rfl,rfl,zA,aDT r60 r61,?_⟩
   refine ⟨a6,bs ++ [iM r6.toNat],_,rfl,hp6,kp5.trans kp6,by omega,by omega,by rw [List.map_append,List.map_append];rfl,by rw [List.length_append,hl];rfl,fun c hc=>?_⟩
   rcases List.mem_append.mp hc with z | z
   ·exact hb c z
   ·rw [List.mem_singleton.mp z];exact wQ _
  ·rintro ys σ' H5 ⟨a4,b,o,rfl,hp5,kp5,l4,u4,rfl,hbl,hb⟩ D hD
   have hb6:b.length≤6:=by omega
   refine ⟨_,D,b.map (fun c=>mk [c]),rfl,rfl,SqL.of aF,by
    rw [aFb (fun w hw=>by obtain ⟨x,_,rfl⟩:=List.mem_map.mp hw;rfl),List.length_map,e0];omega,?_⟩
   rw [aFa]
   have hp6:=hp5.same (aU.new (o:=.lst ((b.map fun c=>mk [c]).map V.str)) hD)
   have kp6:aY p H _:=kp5.same (aU.new (o:=.lst ((b.map fun c=>mk [c]).map V.str)) hD)
   generalize upd H5 D (.lst ((b.map fun c=>mk [c]).map V.str))=H6 at hp6 kp6 ⊢
   refine ⟨_,rfl,_,rfl,mk b,rfl,aH (by rw [kZ];omega),_,_,rfl,rfl,p,c,ns,a4,_,rfl,hp6,by omega,by omega,by rw [kZ];omega,fun ss a5 H7 s0 s1 l5 u5 hp7 kp7=>?_⟩
   rw [kZ] at s1
   obtain ⟨sp,rfl⟩:∃ sp:Nat,ss=sp:=⟨ss.toNat,by omega⟩
   refine ⟨Nat.zero_le _,fun L hL=>?_⟩
   have kp8:=kp6.trans kp7
   have nLp:L≠p:=by
    obtain ⟨l,_,z⟩:=hp7.ob
    exact (aO z hL).symm
   have nLc:L≠c:=(aO hp7.ce hL).symm
   have hHL:H L=none:=by
    cases e:H L with
    | none=>rfl
    | some x=>exact absurd (kp8 L x e nLp) (by rw [hL];simp)
   refine ⟨_,rfl,m,rfl,by omega,by omega,gZ (n:=(m:Int).toNat) (fun i σ H'=>∃ o5 o9 o10,σ=[some (.ref p),some (.int m),some (.str abc),some (.int wy),some (.int t),o5,some (.str (mk b)),some (.int sp),some (.ref L),o9,o10,none]∧H'=upd H7 L (.lst (((List.range i).map fun k=>mk (word (decide (wy=1)) b sp t k)).map V.str))) ⟨_,_,_,rfl,rfl⟩ ?_ ?_⟩
   ·rintro i σ H' hi ⟨o5,o9,o10,rfl,rfl⟩
    dsimp only [cY]
    have hi44:i < 44:=by omega
    refine ⟨_,rfl,_,rfl,_,rfl,_,_,rfl,rfl,.inl ⟨by decide,by decide⟩,_,_,rfl,rfl,_,_,rfl,rfl,(by show (0:Int) < 26;decide),_,_,iM (t + 7 * i),rfl,rfl,zA,wT _ (by omega),?_⟩
    refine ⟨_,rfl,_,rfl,_,rfl,_,_,rfl,rfl,⟨by decide,by decide⟩,_,_,rfl,rfl,_,_,rfl,rfl,(by show (0:Int) < 26;decide),_,_,iM (t + i / 26),rfl,rfl,zA,wT _ (by omega),?_⟩
    refine ⟨_,_,rfl,rfl,aH (by show 1 + 1≤1000000;decide),?_⟩
    have zB:(mk b).length≤sizeLine:=aH (by rw [kZ];omega)
    have hs6:∀ {x y},(Txt.slice (mk b) x y).length≤6:=fun {x y}=>Nat.le_trans (Txt.slice_le _ x y) (by rw [kZ];omega)
    have h2:((⟨#[iM (t + 7 * i)]⟩:Str) ++ ⟨#[iM (t + i / 26)]⟩).length=2:=rfl
    refine ⟨_,rfl,_,rfl,_,rfl,mk b,rfl,zB,_,rfl,_,_,rfl,rfl,aH (by have:=hs6 (x:=none) (y:=some (sp:Int));omega),_,rfl,_,rfl,_,rfl,mk b,rfl,zB,_,_,rfl,rfl,aH (by have:=hs6 (x:=none) (y:=some (sp:Int));have:=hs6 (x:=some (sp:Int)) (y:=none);rw [Str.length_append];omega),?_⟩
    have ew:(Txt.slice (mk b) none (some (sp:Int)) ++ ((⟨#[iM (t + 7 * i)]⟩:Str) ++ ⟨#[iM (t + i / 26)]⟩)) ++ Txt.slice (mk b) (some (sp:Int)) none=mk (b.take sp ++ yJ t i ++ b.drop sp):=by
     rw [aHp hb6 (by omega),aE9 hb6 (by omega)]
     rw [show ((⟨#[iM (t + 7 * i)]⟩:Str) ++ ⟨#[iM (t + i / 26)]⟩)=mk (yJ t i) from rfl,aAj,aAj]
    rw [ew]
    refine ⟨fun σ' H'=>∃ o10,σ'=[some (.ref p),some (.int m),some (.str abc),some (.int wy),some (.int t),some (.int (0 + i)),some (.str (mk b)),some (.int sp),some (.ref L),some (.str (mk (word (decide (wy=1)) b sp t i))),o10,none]∧H'=upd H7 L (.lst (((List.range i).map fun k=>mk (word (decide (wy=1)) b sp t k)).map V.str)),?_,?_⟩
    ·refine ⟨_,rfl,rfl,_,rfl,?_⟩
     refine eG (fun g=>?_) (fun g=>?_)
     ·have g':wy=1:=V.int.inj (of_decide_eq_true g)
      subst g'
      refine ⟨_,rfl,_,_,rfl,rfl,?_⟩
      refine ⟨fun mm σ' H'=>∃ (r f:Nat) (suf:List Nat) (rv:Int) (wv:Str),mm=r∧rv=(r:Int)∧wv=mk (suf.map fun d=>iM (t + 9 * d))∧σ'=[some (.ref p),some (.int m),some (.str abc),some (.int 1),some (.int t),some (.int (0 + i)),some (.str (mk b)),some (.int sp),some (.ref L),some (.str wv),some (.int rv),none]∧H'=upd H7 L (.lst (((List.range i).map fun k=>mk (word (decide ((1:Int)=1)) b sp t k)).map V.str))∧bij f r ++ suf=bij 6 (i + 1)∧r < 2 ^ f∧suf.length + f≤6,⟨i + 1,i + 1,6,[],_,_,rfl,(by show 0 + (i:Int) + 1=((i + 1:Nat):Int);omega),(by show Str.ofString ""=mk [];decide),rfl,rfl,by simp,by omega,by simp⟩,?_⟩
      rintro mm σ' H' ⟨r,f,suf,rv,wv,rfl,rfl,rfl,rfl,rfl,hbij,hrf,hsl⟩
      refine ⟨_,rfl,_,_,rfl,rfl,_,rfl,?_⟩
      refine eG (fun g2=>?_) (fun g2=>?_)
      ·have g2':(0:Int) < mm:=of_decide_eq_true g2
       refine ⟨_,fun σ'' H'' h=>h,?_⟩
       obtain ⟨f',rfl⟩:∃ f',f=f' + 1:=by
        cases f with
        | zero=>exact absurd hrf (by omega)
        | succ x=>exact ⟨x,rfl⟩
       have e2:mk [iM (t + 9 * (mm % 2))] ++ mk (suf.map fun d=>iM (t + 9 * d))=mk (((mm % 2) :: suf).map fun d=>iM (t + 9 * d)):=by rw [aAj];rfl
       refine ⟨_,rfl,_,rfl,_,rfl,_,_,rfl,rfl,(by show (0:Int) < 2;decide),_,_,rfl,rfl,.inl ⟨by decide,by decide⟩,_,_,rfl,rfl,_,_,rfl,rfl,(by show (0:Int) < 26;decide),_,_,iM (t + 9 * (mm % 2)),rfl,rfl,zA,wT _ (by omega),?_⟩
       refine ⟨_,rfl,_,_,rfl,rfl,aH (by rw [kZ,List.length_map];show 1 + _≤_;omega),?_⟩
       refine ⟨_,rfl,_,_,rfl,rfl,_,_,rfl,rfl,⟨by decide,by decide⟩,?_⟩
       refine ⟨(mm - 1) / 2,by omega,(mm - 1) / 2,f',(mm % 2) :: suf,_,_,rfl,?_,e2,rfl,rfl,?_,?_,?_⟩
       ·show ((mm:Int) - 1) / 2=_
        omega
       ·rw [← hbij,aDY f' mm (by omega)]
        simp
       ·rw [Nat.pow_succ] at hrf
        omega
       ·rw [List.length_cons];omega
      ·have g2':¬ (0:Int) < mm:=fun z=>g2 (decide_eq_true z)
       have hz:mm=0:=by omega
       subst hz
       have e3:bij f 0=[]:=by cases f <;> rfl
       rw [e3,List.nil_append] at hbij
       have e4:word (decide ((1:Int)=1)) b sp t i=suf.map fun d=>iM (t + 9 * d):=by
        rw [hbij];rfl
       exact ⟨some (V.int ((0:Nat):Int)),by rw [e4],rfl⟩
     ·have g':¬ wy=1:=fun z=>g (decide_eq_true (by rw [z]))
      rw [decide_eq_false g']
      exact ⟨_,rfl,rfl⟩
    ·rintro σ' H' ⟨o10,rfl,rfl⟩
     refine ⟨_,rfl,.inl ⟨rfl,_,SqL.of aF⟩,_,rfl,L,_,_,rfl,rfl,aF,by rw [List.length_map,List.length_map,List.length_range];exact gG (by omega),?_⟩
     refine ⟨_,_,_,rfl,?_⟩
     rw [aAA,List.range_succ,List.map_append,List.map_append]
     rfl
   ·rintro σ H' ⟨o5,o9,o10,rfl,rfl⟩
    have S8:=aU.new (o:=.lst (((List.range (m:Int).toNat).map fun k=>mk (word (decide (wy=1)) b sp t k)).map V.str)) hL
    have hp8:=hp7.same S8
    have kp9:=kp8.same S8
    have hL8:upd H7 L (.lst (((List.range (m:Int).toNat).map fun k=>mk (word (decide (wy=1)) b sp t k)).map V.str)) L=_:=aF
    have hN:Nms ((List.range (m:Int).toNat).map fun k=>mk (word (decide (wy=1)) b sp t k)):=by
     refine ⟨aE5 (by omega) (by omega),fun w hw=>?_⟩
     obtain ⟨k',hk',rfl⟩:=List.mem_map.mp hw
     have:=List.mem_range.mp hk'
     exact aCf (by omega) hb6 hb
    have hwl:((List.range (m:Int).toNat).map fun k=>mk (word (decide (wy=1)) b sp t k)).length=m:=by rw [List.length_map,List.length_range];omega
    generalize ((List.range (m:Int).toNat).map fun k=>mk (word (decide (wy=1)) b sp t k))=ws at hp8 kp9 hL8 hN hwl ⊢
    generalize upd H7 L (.lst (ws.map V.str))=H8 at hp8 kp9 hL8 ⊢
    refine ⟨aH (by show 9≤1000000;decide),fun T hT=>?_⟩
    have S9:=aU.new (o:=.lst (m8.map V.str)) hT
    have hT9:upd H8 T (.lst (m8.map V.str)) T=some (.lst (m8.map V.str)):=aF
    have hp9:=hp8.same S9
    have kp10:=kp9.same S9
    have hL9:=S9 _ _ hL8
    have nTL:T≠L:=(aO hL8 hT).symm
    have nTp:T≠p:=by
     obtain ⟨l,_,z⟩:=hp8.ob
     exact (aO z hT).symm
    have eT:upd H8 T (.lst [V.str "as",.str "with",.str "part",.str "field",.str "none",.str "done",.str "write",.str "back",.str "join"])=upd H8 T (.lst (m8.map V.str)):=rfl
    rw [eT]
    generalize upd H8 T (.lst (m8.map V.str))=H9 at hp9 kp10 hL9 hT9 ⊢
    refine ⟨fun σ' H'=>∃ (o5:Option V) (vs:List Str) (a6:Int),σ'=[some (.ref p),some (.int m),some (.str abc),some (.int wy),some (.int t),o5,some (.str (mk b)),some (.int sp),some (.ref L),o9,o10,some (.ref T)]∧H' L=some (.lst (vs.map V.str))∧vs.length=m∧Nms vs∧cV H' p c ns a6∧a≤a6∧a6≤a + 30∧aY p H H',?_,?_⟩
    ·refine ⟨_,rfl,p,c,ns,a5,_,rfl,hp9,by omega,by decide,by decide,fun r6 a6 H10 r60 r61 l6 u6 hp10 kp11=>?_⟩
     have hL10:=kp11 _ _ hL9 nLp
     have hT10:=kp11 _ _ hT9 nTp
     have kp12:=kp10.trans kp11
     refine ⟨rfl,_,rfl,?_⟩
     refine eG (fun g=>?_) (fun g=>?_)
     ·refine ⟨_,rfl,_,_,rfl,?_⟩
      obtain ⟨n9,hn9,n90,n91,n92⟩:∃ n9:Int,(if (9:Int) < m then (9:Int) else m)=n9∧0≤n9∧n9≤9∧n9≤m:=by
       refine ⟨_,rfl,?_⟩
       split <;> omega
      rw [hn9]
      refine ⟨n9,rfl,by omega,by omega,gZ (n:=n9.toNat) (fun i σ H'=>∃ (o5:Option V) (vs:List Str) (a7:Int),σ=[some (.ref p),some (.int m),some (.str abc),some (.int wy),some (.int t),o5,some (.str (mk b)),some (.int sp),some (.ref L),o9,o10,some (.ref T)]∧H' L=some (.lst (vs.map V.str))∧H' T=some (.lst (m8.map V.str))∧vs.length=m∧Nms vs∧cV H' p c ns a7∧a6≤a7∧a7≤a6 + i∧aY p H H') ⟨_,ws,a6,rfl,hL10,hT10,hwl,hN,hp10,by omega,by simp,kp12⟩ ?_ ?_⟩
      ·rintro i σ H' hi ⟨o5',vs,a7,rfl,hLv,hTv,hvl,hvN,hpv,la7,ua7,kv⟩
       dsimp only [cY]
       refine ⟨_,rfl,p,c,ns,a7,_,rfl,hpv,by omega,by decide,by decide,fun r8 a8 H11 r80 r81 l8 u8 hp11 kp13=>?_⟩
       have hL11:=kp13 _ _ hLv nLp
       have hT11:=kp13 _ _ hTv nTp
       have k11:=kv.trans kp13
       refine ⟨rfl,_,rfl,?_⟩
       refine eG (fun g2=>?_) (fun g2=>?_)
       ·obtain ⟨term,hterm⟩:∃ x,m8[i]?=some x:=⟨_,List.getElem?_eq_getElem (show i < 9 by omega)⟩
        have hix:ixN (m8.map V.str).length (0 + (i:Int))=some i:=by
         unfold ixN
         rw [List.length_map,if_pos (by omega),if_pos (by show 0 + (i:Int) < 9;omega)]
         congr 1
         omega
        have hat:atI (m8.map V.str) (0 + (i:Int))=some (V.str term):=by
         unfold atI
         rw [hix]
         simp [hterm]
        have hix2:ixN (vs.map V.str).length (0 + (i:Int))=some i:=by
         unfold ixN
         rw [List.length_map,if_pos (by omega),if_pos (by omega)]
         congr 1
         omega
        refine ⟨_,rfl,_,rfl,T,_,_,_,rfl,rfl,SqL.of hT11,hat,_,rfl,L,_,rfl,.inl (SqL.of hL11),rfl,dX vs,_,rfl,?_⟩
        rw [if_pos rfl,wR]
        refine eG (fun g3=>?_) (fun g3=>?_)
        ·have g3':term ∉ vs:=by simpa using g3
         refine ⟨_,rfl,_,rfl,T,_,_,_,rfl,rfl,SqL.of hT11,hat,?_⟩
         refine ⟨_,rfl,_,rfl,L,_,_,i,rfl,rfl,hL11,hix2,?_⟩
         refine ⟨_,vs.set i term,a8,rfl,by rw [aF,← List.map_set],by rw [aJ nTL];exact hT11,by rw [List.length_set,hvl],⟨aDV hvN.nd g3',fun w hw=>?_⟩,?_,by omega,by omega,?_⟩
         ·rcases List.mem_or_eq_of_mem_set hw with z | z
          ·exact hvN.ok w z
          ·rw [z];exact aAk term (List.mem_of_getElem? hterm)
         ·obtain ⟨⟨l,hl,e⟩,ce,ge,sm⟩:=hp11
          exact ⟨⟨l,hl,by rw [aJ nLp.symm];exact e⟩,by rw [aJ nLc.symm];exact ce,ge,sm⟩
         ·intro x o e ne
          have nx:x≠L:=aO e hHL
          rw [aJ nx]
          exact k11 x o e ne
        ·exact ⟨_,vs,a8,rfl,hL11,hT11,hvl,hvN,hp11,by omega,by omega,k11⟩
       ·exact ⟨_,vs,a8,rfl,hL11,hT11,hvl,hvN,hp11,by omega,by omega,k11⟩
      ·rintro σ H' ⟨o5',vs,a7,rfl,hLv,hTv,hvl,hvN,hpv,la7,ua7,kv⟩
       exact ⟨_,vs,a7,rfl,hLv,hvl,hvN,hpv,by omega,by omega,kv⟩
     ·exact ⟨_,ws,a6,rfl,hL10,hwl,hN,hp10,by omega,by omega,kp12⟩
    ·rintro σ' H' ⟨o5',vs,a6,rfl,hLv,hvl,hvN,hpv,la6,ua6,kv⟩
     exact ⟨_,rfl,k L vs a6 H' hHL hLv hvl hvN la6 ua6 hpv kv⟩
end
end K36
namespace K36
open PySem L2
section
variable {P:Program}{w:World}{K:PySem.W.Frag}{mg:Str→Option Value}{base:Heap}
structure OkD (b k:Nat) (d:PyData):Prop where
 sh:d.showable=true
 dp:d.depth≤k
 len:d.shown.length≤b
theorem OkD.mono {b b' k k':Nat}{d:PyData} (h:OkD b k d) (hb:b≤b') (hk:k≤k'):OkD b' k' d:=⟨h.sh,Nat.le_trans h.dp hk,Nat.le_trans h.len hb⟩
theorem aFE {b k:Nat}:∀ {ds:List PyData},(∀ d∈ds,OkD b k d)→PyData.showableAll ds=true∧PyData.depthAll ds≤k∧((ds.map PyData.shown).map (·.length)).sum≤ds.length * b
 | [],_=>⟨rfl,Nat.zero_le _,by simp⟩
 | d :: r,h=>by
  obtain ⟨h1,h2,h3⟩:=aFE (ds:=r) fun x hx=>h x (List.mem_cons_of_mem _ hx)
  obtain ⟨g1,g2,g3⟩:=h d List.mem_cons_self
  refine ⟨?_,?_,?_⟩
  ·unfold PyData.showableAll
   rw [g1,h1]
   rfl
  ·unfold PyData.depthAll
   exact Nat.max_le.mpr ⟨g2,h2⟩
  ·rw [List.map_cons,List.map_cons,List.sum_cons,List.length_cons,Nat.succ_mul]
   omega
theorem OkD.tuple {b k n:Nat}{ds:List PyData} (h:∀ d∈ds,OkD b k d) (hn:ds.length≤n):OkD (n * (b + 2) + 3) (k + 1) (.tuple ds):=by
 obtain ⟨h1,h2,h3⟩:=aFE h
 refine ⟨?_,?_,?_⟩
 ·unfold PyData.showable;exact h1
 ·unfold PyData.depth;omega
 ·unfold PyData.shown
  rw [PyProof.Rows.shownAll_eq_map]
  unfold tupleText
  have hj:=StrLaws.join_length_le (Str.ofString ", ") (ds.map PyData.shown)
  have e1:(Str.ofString ", ").length=2:=by decide
  have e2:(Str.ofString "(").length=1:=by decide
  have e3:∀ c:Bool,(Str.ofString (if c=true then ",)" else ")")).length≤2:=by decide
  have e4:=e3 ((ds.map PyData.shown).length == 1)
  rw [e1,List.length_map] at hj
  rw [Str.length_append,Str.length_append,e2]
  have:ds.length * b + ds.length * 2≤n * (b + 2):=by
   rw [← Nat.mul_add]
   exact Nat.mul_le_mul_right _ hn
  omega
theorem OkD.str {z:Str} (h:PyData.strOk z=true) (hl:z.length≤10):OkD 102 0 (.str z):=by
 refine ⟨by unfold PyData.showable;rfl,by unfold PyData.depth;exact Nat.le_refl _,?_⟩
 have hz:z.cps.size≤10:=hl
 have hlay:(PyData.str z).layable0=true:=by
  unfold PyData.layable0 PyData.canLay0 PyData.depth PyData.weight
  rw [h,decide_eq_true (show (0:Nat)≤64 by decide),decide_eq_true (show z.cps.size≤2 ^ 20 by omega)]
  rfl
 have:=PyProof.Rows.len_repr_of_layable hlay
 unfold PyData.shown
 omega
theorem aFc {i:Int} (h0:0≤i) (h1:i < 10 ^ 60):(Str.ofString (toString i)).length≤60:=by
 obtain ⟨n,rfl⟩:∃ n:Nat,i=n:=⟨i.toNat,by omega⟩
 rw [PySem.ofString_length]
 show (Int.repr (n:Int)).length≤60
 have e:Int.repr (n:Int)=Nat.repr n:=rfl
 rw [e]
 exact (Nat.length_repr_le_iff (by decide)).mpr (by omega)
theorem OkD.int {i:Int} (h0:0≤i) (h1:i < 10 ^ 60):OkD 102 0 (.int i):=by
 refine ⟨?_,by unfold PyData.depth;exact Nat.le_refl _,?_⟩
 ·unfold PyData.showable
  refine decide_eq_true ?_
  have h2:i.natAbs < 2 ^ 200:=by
   have:(10:Int) ^ 60 < ((2 ^ 200:Nat):Int):=by decide
   omega
  by_cases hz:i.natAbs=0
  ·rw [hz];decide
  ·have:=(Nat.log2_lt hz).mpr h2
   omega
 ·unfold PyData.shown
  have:=aFc h0 h1
  omega
theorem aD0 {z:Str} (h:dE z=true):PyData.strOk z=true:=by
 unfold dE at h
 rw [Bool.and_eq_true,List.all_eq_true] at h
 unfold PyData.strOk
 rw [Array.all_eq_true_iff_forall_mem]
 intro c hc
 have:=of_decide_eq_true (h.2 c (by simpa using hc))
 exact decide_eq_true (by omega)
theorem OkD.name {z:Str} (h:dE z=true):OkD 102 0 (.str z):=OkD.str (aD0 h) (by have:=j7 h;omega)
def i8:PyData→Bool | .str z=>dE z | _=>false
def lW (lo hi:Int):PyData→Bool | .int i=>decide (lo≤i∧i≤hi) | _=>false
def aBc:PyData→Bool
 | .tuple [l,h,a]=>i8 l && i8 h && lW 1 10000000 a
 | _=>false
def wU (ss:List Str):Bool:=decide (ss.Pairwise fun a b=>a.cps.toList < b.cps.toList)
def yM:PyData→Str
 | .tuple (.str z :: _)=>z
 | _=>Str.ofString ""
def iO:List Str:=["part","join","forfeit","measure","mend","alone","breach","view"]
theorem k9 {H:Hp}{p c a:Addr}{ns:List Int}{t:Int}{o:HO} (hp:cV H p c ns t) (e:H a=some o) (h:∀ kv r,o≠.dK (kv :: r)):a≠p:=by
 obtain ⟨l,_,e2⟩:=hp.ob
 exact dS e e2 (h _ _)
theorem wV {m:Bool}{H H':Hp}{p c:Addr}{ns:List Int}{t:Int}{x:List V}{d:List PyData} (r:cW m H x d) (hp:cV H p c ns t) (k:aY p H H'):cW m H' x d:=r.keep fun a o e h=>k a o e (k9 hp e h)
theorem bU {H H':Hp}{p c a:Addr}{ns:List Int}{t:Int}{xs:List V} (e:H a=some (.lst xs)) (hp:cV H p c ns t) (k:aY p H H'):H' a=some (.lst xs):=k a _ e (k9 hp e (fun _ _ z=>nomatch z))
theorem oS {H H':Hp}{p c a:Addr}{ns:List Int}{t:Int}{xs:List V} (e:H a=some (.tup xs)) (hp:cV H p c ns t) (k:aY p H H'):H' a=some (.tup xs):=k a _ e (k9 hp e (fun _ _ z=>nomatch z))
inductive aBd (vs:List V) (H:Hp) (Q:VK) (u3_:XK):Prop
 | mk (p c:Addr) (ns:List Int) (a lo hi:Int) (q0:vs=[.ref p,.int lo,.int hi]) (q1:cV H p c ns a) (q2:a≤900000) (q3:0≤lo) (q4:lo≤hi) (q5:hi≤10 ^ 9) (q6:∀ n a' H',lo≤n→n≤hi→a≤a'→a'≤a + 3→cV H' p c ns a'→aY p H H'→Q (.int n) H'):aBd vs H Q u3_
def aD1:Sp:=fun vs H Q u3_=>aBd vs H Q u3_
theorem aD2:cA ["_law_pen_here","_law_bottom","_law_most","_law_way","_law_near"] ["_law_pen_here","_law_bottom","_law_most"] (aM mG):=⟨rfl,rfl,rfl,by decide,rfl,by decide,by decide⟩
theorem aGw {f fT:Addr}{fd fdT:FuncData} (F:Fun K "_law_number" "_law_number" mG f fd) (hmin:mg "min"=none) (GT:cC P w K mg base CX0 1 fT fdT ["_law_pen_here","_law_many"] iC) (mT:mg "_law_take"=some (.ref fT)) (kT:PySem.W.keepIn K (.ref fT)=true) (bT:cQ K fdT ["_law_pen_here","_law_many"] []):
  cC P w K mg base CX0 2 f fd ["_law_pen_here","_law_bottom","_law_most"] aD1:=by
 refine F.ok aD2 (fun vs H Q E h=>?_) (fun cdv A outer s H vs Q E hr h=>?_)
 ·obtain ⟨p,c,ns,a,lo,hi,rfl,_⟩:=h
  rfl
 ·obtain ⟨p,c,ns,a,lo,hi,rfl,hp,ha,h0,h1,h2,k⟩:=h
  refine ⟨_,aA (aW (i:=3) aD2.nd rfl (Or.inl rfl) (aS GT hr rfl mT kT bT .nil bY (aE (pv 0) (aE aG aB))))
   (aA (aW (i:=4) aD2.nd rfl (Or.inl rfl) (aZ c8 (pv 1) (aS GT hr rfl mT kT bT .nil bY (aE (pv 0) (aE (bF (pB rfl) (by rfl) hmin (by kernel_rfl) (aE aG (aE (aZ c8 (aZ iZ (pv 2) (pv 1)) aG) aB))) aB)))))
   (aQ (bE (aX cF (dA (aE (pv 1) (aE (pv 2) (aE (pv 4) (aE (aZ c8 (pv 1) (aS GT hr rfl mT kT bT .nil bY (aE (pv 0) (aE (aZ c8 (aZ iZ (pv 2) (pv 1)) aG) aB)))) aB))))) (pv 3) (fun _ _=>rfl))))),?_⟩
  have b9:(10:Int) ^ 9 + 1 < 2 ^ 512:=by decide
  have e9:(10:Int) ^ 9=1000000000:=by decide
  refine ⟨_,rfl,p,c,ns,a,_,rfl,hp,by omega,by decide,by decide,fun r1 a1 H1 r10 r11 l1 u1 hp1 kp1=>?_⟩
  refine ⟨_,rfl,_,rfl,_,rfl,_,rfl,_,_,rfl,rfl,_,_,rfl,rfl,_,_,rfl,?_⟩
  obtain ⟨mm,hmm,m0,m1⟩:∃ mm:Int,(if hi - lo + 1 < 12 then hi - lo + 1 else 12)=mm∧0 < mm∧mm≤hi - lo + 1:=by
   refine ⟨_,rfl,?_⟩
   split <;> omega
  rw [hmm]
  refine ⟨p,c,ns,a1,_,rfl,hp1,by omega,m0,by omega,fun r2 a2 H2 r20 r21 l2 u2 hp2 kp2=>?_⟩
  refine ⟨_,_,rfl,rfl,?_⟩
  refine ⟨_,rfl,_,rfl,_,rfl,_,rfl,_,rfl,_,rfl,_,rfl,_,_,rfl,rfl,_,_,rfl,rfl,p,c,ns,a2,_,rfl,hp2,by omega,by omega,by omega,fun r3 a3 H3 r30 r31 l3 u3 hp3 kp3=>?_⟩
  refine ⟨_,_,rfl,rfl,aH (by show 4≤1000000;decide),fun q hq=>?_⟩
  have sq:=aU.new (o:=.lst [V.int lo,.int hi,.int (lo + r2),.int (lo + r3)]) hq
  obtain ⟨v,hv,hat⟩:=g8 (xs:=[V.int lo,.int hi,.int (lo + r2),.int (lo + r3)]) (i:=r1) r10 (by show r1 < 4;omega)
  obtain ⟨n,rfl,hn0,hn1⟩:∃ n:Int,v=.int n∧lo≤n∧n≤hi:=by
   simp only [List.mem_cons,List.not_mem_nil,or_false] at hv
   rcases hv with rfl | rfl | rfl | rfl
   ·exact ⟨_,rfl,by omega,by omega⟩
   ·exact ⟨_,rfl,by omega,by omega⟩
   ·exact ⟨_,rfl,by omega,by omega⟩
   ·exact ⟨_,rfl,by omega,by omega⟩
  refine ⟨_,rfl,q,_,r1,_,rfl,rfl,SqL.of aF,hat,?_⟩
  exact k n a3 _ hn0 hn1 (by omega) (by omega) (hp3.same sq) (((kp1.trans kp2).trans kp3).same sq)
theorem tQ {α:Type}:∀ (l:List α) (j:Nat) (y:α),l[j]?=some y→(y :: l.eraseIdx j).Perm l
 | [],j,y,h=>by simp at h
 | x :: r,0,y,h=>by
  simp at h
  subst h
  simp
 | x :: r,j + 1,y,h=>by
  simp at h
  have ih:=tQ r j y h
  rw [List.eraseIdx_cons_succ]
  exact (List.Perm.swap x y _).trans (ih.cons x)
theorem vL {α β:Type} (f:α→β):∀ (l:List α) (j:Nat),(l.map f).eraseIdx j=(l.eraseIdx j).map f
 | [],j=>by simp
 | x :: r,0=>by simp
 | x :: r,j + 1=>by simp [vL f r j]
inductive vM (vs:List V) (H:Hp) (Q:VK) (u3_:XK):Prop
 | mk (p c:Addr) (ns:List Int) (a:Int) (nf nr:Nat) (q0:vs=[.ref p,.int nf,.int nr]) (q1:cV H p c ns a) (q2:a≤800000) (q3:nf≤44) (q4:nr≤44) (q5:∀ (t l1 l2 l3 l4:Addr) (ws ps hs rs:List Str) (a':Int) (H':Hp),H' t=some (.tup [.ref l1,.ref l2,.ref l3,.ref l4])→H' l1=some (.lst (ws.map V.str))→ws.length=nf→Nms ws→H' l2=some (.lst (ps.map V.str))→ps.length=10→Nms ps→H' l3=some (.lst (hs.map V.str))→hs.length=5→Nms hs→H' l4=some (.lst (rs.map V.str))→rs.length=nr→Nms rs→a≤a'→a'≤a + 200→cV H' p c ns a'→aY p H H'→Q (.ref t) H'):vM vs H Q u3_
def aBf:Sp:=fun vs H Q u3_=>vM vs H Q u3_
inductive yN (vs:List V) (H:Hp) (Q:VK) (u3_:XK):Prop
 | mk (p c:Addr) (ns:List Int) (a:Int) (m:Nat) (q0:vs=[.ref p,.int m]) (q1:cV H p c ns a) (q2:a≤800000) (q3:m≤44) (q4:∀ (l:Addr) (ds:List Int) (a':Int) (H':Hp),H' l=some (.lst (ds.map V.int))→ds.length=m→(∀ d∈ds,0≤d∧d≤9999)→a≤a'→a'≤a + 200→cV H' p c ns a'→aY p H H'→Q (.ref l) H'):yN vs H Q u3_
def aD3:Sp:=fun vs H Q u3_=>yN vs H Q u3_
inductive yO (vs:List V) (H:Hp) (Q:VK) (u3_:XK):Prop
 | mk (p c:Addr) (ns:List Int) (a:Int) (l:Addr) (ws:List Str) (m:Nat) (q0:vs=[.ref p,.ref l,.int m]) (q1:cV H p c ns a) (q2:a≤800000) (q3:H l=some (.lst (ws.map V.str))) (q4:ws.length=10) (q5:m≤6) (q6:∀ (q:Addr) (ms:List Str) (a':Int) (H':Hp),H' q=some (.lst (ms.map V.str))→ms.length=m→PyProof.Rows.sortedS ms=true→(∃ us vs:List Str,ms.Perm us∧(us ++ vs).Perm ws)→a≤a'→a'≤a + 10→cV H' p c ns a'→aY p H H'→Q (.ref q) H'):yO vs H Q u3_
def aD4:Sp:=fun vs H Q u3_=>yO vs H Q u3_
theorem rG:cA ["_law_pen_here","_law_fields","_law_rows","_law_some_here","_law_plots","_law_houses"] ["_law_pen_here","_law_fields","_law_rows"] (aM pR):=⟨rfl,rfl,rfl,by decide,rfl,by decide,by decide⟩
theorem aD5 {f fT fN:Addr}{fd fdT fdN:FuncData} (F:Fun K "_law_sorts" "_law_sorts" pR f fd)
  (GT:cC P w K mg base CX0 1 fT fdT ["_law_pen_here","_law_many"] iC) (mT:mg "_law_take"=some (.ref fT)) (kT:PySem.W.keepIn K (.ref fT)=true) (bT:cQ K fdT ["_law_pen_here","_law_many"] [])
  (GN:cC P w K mg base CX0 2 fN fdN ["_law_pen_here","_law_many"] wS) (mN:mg "_law_names"=some (.ref fN)) (kN:PySem.W.keepIn K (.ref fN)=true) (bN:cQ K fdN ["_law_pen_here","_law_many"] []):
  cC P w K mg base CX0 3 f fd ["_law_pen_here","_law_fields","_law_rows"] aBf:=by
 refine F.ok rG (fun vs H Q E h=>?_) (fun cdv A outer s H vs Q E hr h=>?_)
 ·obtain ⟨p,c,ns,a,nf,nr,rfl,_⟩:=h
  rfl
 ·obtain ⟨p,c,ns,a,nf,nr,rfl,hp,ha,hf,hrr,k⟩:=h
  have hr1:dF 1 _:=hr.mono (by decide)
  refine ⟨_,aA (cU (bV e7 (aS GT hr1 rfl mT kT bT .nil bY (aE (pv 0) (aE aG aB))) aG (cM _))
    (aA (aW (i:=3) rG.nd rfl (Or.inl rfl) (aS GN hr rfl mN kN bN .nil bY (aE (pv 0) (aE aG aB))))
    (aQ (bE (c0 (aE (eB kH (pv 3) fQ (fU (pv 1))) (aE (eB kH (pv 3) fQ (fU aG)) (aE (eB kH (pv 3) fQ (fU aG)) (aE (eB kH (pv 3) fQ (fU (pv 2))) aB)))))))) bH)
   (aA (aW (i:=4) rG.nd rfl (Or.inl rfl) (aS GN hr rfl mN kN bN .nil bY (aE (pv 0) (aE aG aB))))
   (aA (aW (i:=5) rG.nd rfl (Or.inl rfl) (aS GN hr rfl mN kN bN .nil bY (aE (pv 0) (aE aG aB))))
   (aQ (bE (c0 (aE (aS GN hr rfl mN kN bN .nil bY (aE (pv 0) (aE (pv 1) aB))) (aE (pv 4) (aE (pv 5) (aE (aS GN hr rfl mN kN bN .nil bY (aE (pv 0) (aE (pv 2) aB))) aB))))))))),?_⟩
  refine ⟨_,rfl,p,c,ns,a,_,rfl,hp,by omega,by decide,by decide,fun r1 a1 H1 r10 r11 l1 u1 hp1 kp1=>?_⟩
  refine ⟨rfl,_,rfl,?_⟩
  have z4:(4:Nat)≤sizeLine:=aH (by decide)
  refine eG (fun g=>?_) (fun g=>?_)
  ·refine ⟨_,rfl,p,c,ns,a1,44,rfl,hp1,by omega,by omega,fun L ws a2 H2 nL hL hwl hN l2 u2 hp2 kp2=>?_⟩
   have ec:∀ n:Nat,lC (ws.map V.str) none (some (n:Int))=(ws.take n).map V.str:=fun n=>by rw [pL (α:=Nat),List.map_take]
   have ec10:lC (ws.map V.str) none (some 10)=(ws.take 10).map V.str:=ec 10
   have ec5:lC (ws.map V.str) none (some 5)=(ws.take 5).map V.str:=ec 5
   refine ⟨_,rfl,_,rfl,_,rfl,L,_,rfl,SqL.of hL,fun q1 hq1=>?_⟩
   rw [ec nf]
   have s1:=aU.new (o:=.lst ((ws.take nf).map V.str)) hq1
   refine ⟨_,rfl,_,rfl,L,_,rfl,SqL.of (s1 _ _ hL),fun q2 hq2=>?_⟩
   rw [ec10]
   have s2n:=aU.new (o:=.lst ((ws.take 10).map V.str)) hq2
   have s2:=s1.trans s2n
   refine ⟨_,rfl,_,rfl,L,_,rfl,SqL.of (s2 _ _ hL),fun q3 hq3=>?_⟩
   rw [ec5]
   have s3n:=aU.new (o:=.lst ((ws.take 5).map V.str)) hq3
   have s3:=s2.trans s3n
   refine ⟨_,rfl,_,rfl,_,rfl,L,_,rfl,SqL.of (s3 _ _ hL),fun q4 hq4=>?_⟩
   rw [ec nr]
   have s4n:=aU.new (o:=.lst ((ws.take nr).map V.str)) hq4
   have s4:=s3.trans s4n
   refine ⟨z4,fun t ht=>?_⟩
   have s5n:=aU.new (o:=.tup [V.ref q1,.ref q2,.ref q3,.ref q4]) ht
   have s5:=s4.trans s5n
   refine k t q1 q2 q3 q4 (ws.take nf) (ws.take 10) (ws.take 5) (ws.take nr) a2 _ aF (s5n _ _ (s4n _ _ (s3n _ _ (s2n _ _ aF)))) (by rw [List.length_take];omega) (hN.take nf) (s5n _ _ (s4n _ _ (s3n _ _ aF))) (by rw [List.length_take];omega) (hN.take 10) (s5n _ _ (s4n _ _ aF)) (by rw [List.length_take];omega) (hN.take 5) (s5n _ _ aF) (by rw [List.length_take];omega) (hN.take nr) (by omega) (by omega) (hp2.same s5) ((kp1.trans kp2).same s5)
  ·refine ⟨_,rfl,p,c,ns,a1,10,rfl,hp1,by omega,by omega,fun L1 ws1 a2 H2 nL1 hL1 hwl1 hN1 l2 u2 hp2 kp2=>?_⟩
   refine ⟨_,rfl,p,c,ns,a2,5,rfl,hp2,by omega,by omega,fun L2 ws2 a3 H3 nL2 hL2 hwl2 hN2 l3 u3 hp3 kp3=>?_⟩
   refine ⟨_,rfl,_,rfl,p,c,ns,a3,nf,rfl,hp3,by omega,by omega,fun L3 ws3 a4 H4 nL3 hL3 hwl3 hN3 l4 u4 hp4 kp4=>?_⟩
   refine ⟨_,rfl,_,rfl,_,rfl,_,rfl,p,c,ns,a4,nr,rfl,hp4,by omega,by omega,fun L4 ws4 a5 H5 nL4 hL4 hwl4 hN4 l5 u5 hp5 kp5=>?_⟩
   refine ⟨z4,fun t ht=>?_⟩
   have s5n:=aU.new (o:=.tup [V.ref L3,.ref L1,.ref L2,.ref L4]) ht
   exact k t L3 L1 L2 L4 ws3 ws1 ws2 ws4 a5 _ aF (s5n _ _ (bU hL3 hp4 kp5)) hwl3 hN3 (s5n _ _ (bU (bU (bU hL1 hp2 kp3) hp3 kp4) hp4 kp5)) hwl1 hN1 (s5n _ _ (bU (bU hL2 hp3 kp4) hp4 kp5)) hwl2 hN2 (s5n _ _ hL4) hwl4 hN4 (by omega) (by omega) (hp5.same s5n) (((((kp1.trans kp2).trans kp3).trans kp4).trans kp5).same s5n)
theorem aAm:cA ["_law_pen_here","_law_names_here","_law_many","_law_left","_law_found"] ["_law_pen_here","_law_names_here","_law_many"] (aM tO):=⟨rfl,rfl,rfl,by decide,rfl,by decide,by decide⟩
theorem aFd {f fT:Addr}{fd fdT:FuncData} (F:Fun K "_law_some" "_law_some" tO f fd) (hlist:mg "list"=none) (hrng:mg "range"=none) (hsor:mg "sorted"=none) (hlen:mg "len"=none)
  (GT:cC P w K mg base CX0 1 fT fdT ["_law_pen_here","_law_many"] iC) (mT:mg "_law_take"=some (.ref fT)) (kT:PySem.W.keepIn K (.ref fT)=true) (bT:cQ K fdT ["_law_pen_here","_law_many"] []):
  cC P w K mg base CX0 2 f fd ["_law_pen_here","_law_names_here","_law_many"] aD4:=by
 refine F.ok aAm (fun vs H Q E h=>?_) (fun cdv A outer s H vs Q E hr h=>?_)
 ·obtain ⟨p,c,ns,a,l,ws,m,rfl,_⟩:=h
  rfl
 ·obtain ⟨p,c,ns,a,l,ws,m,rfl,hp,ha,hl,hwl,hm,k⟩:=h
  refine ⟨_,aA (aW (i:=3) aAm.nd rfl (Or.inr rfl) (fJ n8 (by rfl) hlist (by kernel_rfl) (aE (pv 1) aB)))
   (aA (kJ (i:=4) (N:=["_law_k","_law_left","_law_pen_here"]) (src:=[none,some 3,some 0]) (osc:=aM tO) (oN:=["_law_pen_here","_law_names_here","_law_many","_law_left","_law_found"]) ⟨by rfl,by decide,by decide,by decide,rfl,by rfl⟩ aAm.nd rfl
     (eV rfl hrng (aE (pv 2) aB))
     fun cl s H fp pins C=>⟨bG (i:=0) (show (["_law_k","_law_left","_law_pen_here"]:List Str).Nodup by decide) rfl (Or.inl rfl),gP,aGh (K:=K) PySem.F.plainAttrs_list PySem.F.slot_list_pop PySem.F.type_list_pop aC3 (pv 1) (aE (aS GT hr rfl mT kT bT .nil bY (aE (pv 2) (aE (bF (r:=i5 K) cG (by rfl) hlen PySem.boot_len (aE (pv 1) aB)) aB))) aB)⟩)
   (aQ (bE (bF wM (by rfl) hsor (by kernel_rfl) (aE (pv 4) aB))))),?_⟩
  refine ⟨_,rfl,l,_,rfl,.inl (SqL.of hl),fun L hL=>?_⟩
  have s0:=aU.new (o:=.lst (ws.map V.str)) hL
  have nLp:L≠p:=by
   obtain ⟨z,_,e⟩:=hp.ob
   exact (aO e hL).symm
  have nLc:L≠c:=(aO hp.ce hL).symm
  refine ⟨_,rfl,m,rfl,by omega,by omega,?_⟩
  refine kQ (fun i ys σ' H'=>∃ (a':Int) (us vs:List Str) (o:Option V),σ'=[o,some (.ref L),some (.ref p)]∧cV H' p c ns a'∧aY p H H'∧a≤a'∧a'≤a + i∧ys=us.map V.str∧us.length=i∧H' L=some (.lst (vs.map V.str))∧vs.length + i=10∧(us ++ vs).Perm ws)
   ⟨a,[],ws,none,rfl,hp.same s0,aU.but s0,by omega,by omega,rfl,rfl,aF,by omega,List.Perm.refl _⟩ (aH (by omega)) (fun i ys σ H p=>by obtain ⟨_,us,_,_,_,_,_,_,_,rfl,e,_⟩:=p;rw [List.length_map,e];exact Nat.le_refl _) ?_ ?_
  ·rintro i ys σ' H1 hi ⟨a1,us,vs,o,rfl,hp1,kp1,la1,ua1,rfl,hul,hL1,hvl,hpe⟩
   dsimp only [cY]
   refine fZ ?_
   refine ⟨_,rfl,.inl ⟨rfl,_,SqL.of hL1⟩,_,rfl,_,rfl,L,_,rfl,.inl (SqL.of hL1),p,c,ns,a1,_,rfl,hp1,by omega,by rw [List.length_map];omega,by rw [List.length_map];omega,fun r1 a2 H2 r10 r11 la2 ua2 hp2 kp2=>?_⟩
   rw [List.length_map] at r11
   obtain ⟨j,rfl⟩:∃ j:Nat,r1=j:=⟨r1.toNat,by omega⟩
   have hL2:=bU hL1 hp1 kp2
   obtain ⟨y,hy⟩:∃ y,vs[j]?=some y:=⟨_,List.getElem?_eq_getElem (by omega)⟩
   have hsx:seqIndex? (j:Int) (vs.map V.str).length=some j:=by
    rw [List.length_map]
    unfold seqIndex?
    simp
    omega
   refine ⟨L,_,_,j,V.str y,rfl,rfl,hL2,by omega,by omega,hsx,by rw [List.getElem?_map,hy];rfl,?_⟩
   refine ⟨a2,us ++ [y],vs.eraseIdx j,_,rfl,?_,?_,by omega,by omega,by rw [List.map_append];rfl,by rw [List.length_append,hul];rfl,?_,?_,?_⟩
   ·obtain ⟨⟨z,hz,e⟩,ce,ge,sm⟩:=hp2
    exact ⟨⟨z,hz,by rw [aJ nLp.symm];exact e⟩,by rw [aJ nLc.symm];exact ce,ge,sm⟩
   ·intro b o e ne
    rw [aJ (aO e hL)]
    exact (kp1.trans kp2) b o e ne
   ·rw [aF]
    congr 2
    exact vL V.str vs j
   ·rw [List.length_eraseIdx_of_lt (by omega)]
    omega
   ·rw [List.append_assoc]
    exact (List.Perm.append_left us (tQ vs j y hy)).trans hpe
  ·rintro ys σ' H1 ⟨a1,us,vs,o,rfl,hp1,kp1,la1,ua1,rfl,hul,hL1,hvl,hpe⟩ D hD
   have sD:=aU.new (o:=.lst (us.map V.str)) hD
   refine ⟨_,rfl,D,us,rfl,SqL.of aF,by omega,fun q ms hq hpm hsm=>?_⟩
   have s2:=aU.new (o:=.lst (ms.map V.str)) hq
   exact k q ms a1 _ aF (by rw [hpm.length_eq,hul];omega) hsm ⟨us,vs,hpm,hpe⟩ (by omega) (by omega) ((hp1.same sD).same s2) ((kp1.same sD).same s2)
theorem pZ:cA ["_law_pen_here","_law_many","_law_way","_law_some_here","_law_k","_law_few","_law_found"] ["_law_pen_here","_law_many"] (aM tL):=⟨rfl,rfl,rfl,by decide,rfl,by decide,by decide⟩
theorem aFe {f fT:Addr}{fd fdT:FuncData} (F:Fun K "_law_days" "_law_days" tL f fd) (hrng:mg "range"=none) (hlen:mg "len"=none) (hint:mg "int"=none)
  (GT:cC P w K mg base CX0 1 fT fdT ["_law_pen_here","_law_many"] iC) (mT:mg "_law_take"=some (.ref fT)) (kT:PySem.W.keepIn K (.ref fT)=true) (bT:cQ K fdT ["_law_pen_here","_law_many"] []):
  cC P w K mg base CX0 2 f fd ["_law_pen_here","_law_many"] aD3:=by
 refine F.ok pZ (fun vs H Q E h=>?_) (fun cdv A outer s H vs Q E hr h=>?_)
 ·obtain ⟨p,c,ns,a,m,rfl,_⟩:=h
  rfl
 ·obtain ⟨p,c,ns,a,m,rfl,hp,ha,hm,k⟩:=h
  refine ⟨_,aA (aW (i:=2) pZ.nd rfl (Or.inl rfl) (aS GT hr rfl mT kT bT .nil bY (aE (pv 0) (aE aG aB))))
   (aA (aW (i:=3) pZ.nd rfl (Or.inr rfl) (dA (aE aG (aE aG (aE aG (aE aG (aE (aS GT hr rfl mT kT bT .nil bY (aE (pv 0) (aE aG aB))) (aE (aS GT hr rfl mT kT bT .nil bY (aE (pv 0) (aE aG aB))) aB))))))))
   (aA (kJ (i:=5) (N:=["_law_k","_law_some_here","_law_pen_here"]) (src:=[none,some 3,some 0]) (osc:=aM tL) (oN:=["_law_pen_here","_law_many","_law_way","_law_some_here","_law_k","_law_few","_law_found"]) ⟨by rfl,by decide,by decide,by decide,rfl,by rfl⟩ pZ.nd rfl
     (eV rfl hrng (aE (aZ c8 aG (aS GT hr rfl mT kT bT .nil bY (aE (pv 0) (aE aG aB)))) aB))
     fun cl s H fp pins C=>⟨bG (i:=0) (show (["_law_k","_law_some_here","_law_pen_here"]:List Str).Nodup by decide) rfl (Or.inl rfl),gP,aX (r:=aF4 K) cF (pv 1) (aS GT hr rfl mT kT bT .nil bY (aE (pv 2) (aE aG aB))) (fun _ _=>rfl)⟩)
   (aA (aW (i:=6) pZ.nd rfl (Or.inl rfl) (dA aB))
   (aA (f7 PassesOwn.never rfl (eV rfl hrng (aE (pv 1) aB)) (bG (i:=4) pZ.nd rfl (Or.inl rfl))
    (aQ (dJ (fF PySem.F.plainAttrs_list PySem.F.slot_list_append PySem.F.type_list_append dG (pv 6) (aE (aX cF (dA (aE (aX cF (pv 5) (aS GT hr rfl mT kT bT .nil bY (aE (pv 0) (aE (bF cG (by rfl) hlen PySem.boot_len (aE (pv 5) aB)) aB))) (fun _ _=>rfl)) (aE (aS GT hr rfl mT kT bT .nil bY (aE (pv 0) (aE aG aB))) aB)))
      (fJ aBQ (by rfl) hint (by kernel_rfl) (aE (rB e7 (pv 2) aG (cM _)) aB)) (fun _ _=>rfl)) aB)))))
   (aQ (bE (pv 6))))))),?_⟩
  refine ⟨_,rfl,p,c,ns,a,_,rfl,hp,by omega,by decide,by decide,fun wy a1 H1 w0 w1 la1 ua1 hp1 kp1=>?_⟩
  refine ⟨_,rfl,p,c,ns,a1,_,rfl,hp1,by omega,by decide,by decide,fun x1 a2 H2 x10 x11 la2 ua2 hp2 kp2=>?_⟩
  refine ⟨_,rfl,p,c,ns,a2,_,rfl,hp2,by omega,by decide,by decide,fun x2 a3 H3 x20 x21 la3 ua3 hp3 kp3=>?_⟩
  refine ⟨aH (by show 6≤1000000;decide),fun L hL=>?_⟩
  have sL:=aU.new (o:=.lst [V.int 0,.int 1,.int 9,.int 9999,.int x1,.int x2]) hL
  have hin:∀ v∈[V.int 0,.int 1,.int 9,.int 9999,.int x1,.int x2],∃ d:Int,v=.int d∧0≤d∧d≤9999:=by
   intro v hv
   simp only [List.mem_cons,List.not_mem_nil,or_false] at hv
   rcases hv with rfl | rfl | rfl | rfl | rfl | rfl
   ·exact ⟨_,rfl,by omega,by omega⟩
   ·exact ⟨_,rfl,by omega,by omega⟩
   ·exact ⟨_,rfl,by omega,by omega⟩
   ·exact ⟨_,rfl,by omega,by omega⟩
   ·exact ⟨_,rfl,by omega,by omega⟩
   ·exact ⟨_,rfl,by omega,by omega⟩
  have hp4:=hp3.same sL
  have k4:aY p H _:=((kp1.trans kp2).trans kp3).same sL
  have hL4:upd H3 L (.lst [V.int 0,.int 1,.int 9,.int 9999,.int x1,.int x2]) L=_:=aF
  generalize upd H3 L (.lst [V.int 0,.int 1,.int 9,.int 9999,.int x1,.int x2])=H4 at hp4 k4 hL4 ⊢
  refine ⟨_,rfl,p,c,ns,a3,_,rfl,hp4,by omega,by decide,by decide,fun r1 a5 H5 r10 r11 la5 ua5 hp5 kp5=>?_⟩
  refine ⟨_,_,rfl,rfl,_,rfl,by omega,by omega,?_⟩
  have hL5:=bU hL4 hp4 kp5
  refine kQ (fun i ys σ' H'=>∃ (a':Int) (ds:List Int) (o:Option V),σ'=[o,some (.ref L),some (.ref p)]∧cV H' p c ns a'∧aY p H H'∧a5≤a'∧a'≤a5 + i∧ys=ds.map V.int∧ds.length=i∧(∀ d∈ds,0≤d∧d≤9999)∧H' L=some (.lst [V.int 0,.int 1,.int 9,.int 9999,.int x1,.int x2]))
   ⟨a5,[],none,rfl,hp5,k4.trans kp5,by omega,by omega,rfl,rfl,(fun d hd=>by simp at hd),hL5⟩ (aH (by omega)) (fun i ys σ H p=>by obtain ⟨_,ds,_,_,_,_,_,_,rfl,e,_⟩:=p;rw [List.length_map,e];exact Nat.le_refl _) ?_ ?_
  ·rintro i ys σ' H6 hi ⟨a6,ds,o,rfl,hp6,k6,la6,ua6,rfl,hdl,hds,hL6⟩
   dsimp only [cY]
   refine fZ ?_
   refine ⟨_,rfl,_,rfl,p,c,ns,a6,_,rfl,hp6,by omega,by decide,by decide,fun r2 a7 H7 r20 r21 la7 ua7 hp7 kp7=>?_⟩
   have hL7:=bU hL6 hp6 kp7
   obtain ⟨v,hv,hat⟩:=g8 (xs:=[V.int 0,.int 1,.int 9,.int 9999,.int x1,.int x2]) (i:=r2) r20 (by show r2 < 6;omega)
   obtain ⟨d,rfl,hd0,hd1⟩:=hin v hv
   refine ⟨L,_,r2,_,rfl,rfl,SqL.of hL7,hat,?_⟩
   refine ⟨a7,ds ++ [d],_,rfl,hp7,k6.trans kp7,by omega,by omega,by rw [List.map_append];rfl,by rw [List.length_append,hdl];rfl,fun z hz=>?_,hL7⟩
   rcases List.mem_append.mp hz with y | y
   ·exact hds z y
   ·rw [List.mem_singleton.mp y];exact ⟨hd0,hd1⟩
  ·rintro ys σ' H6 ⟨a6,ds,o,rfl,hp6,k6,la6,ua6,rfl,hdl,hds,hL6⟩ D hD
   have sD:=aU.new (o:=.lst (ds.map V.int)) hD
   have hp7:=hp6.same sD
   have k7:=k6.same sD
   have hD7:upd H6 D (.lst (ds.map V.int)) D=_:=aF
   generalize upd H6 D (.lst (ds.map V.int))=H7 at hp7 k7 hD7 ⊢
   refine ⟨Nat.zero_le _,fun R hR=>?_⟩
   have sR:=aU.new (o:=.lst []) hR
   have nRp:R≠p:=by
    obtain ⟨z,_,e⟩:=hp7.ob
    exact (aO e hR).symm
   have nRc:R≠c:=(aO hp7.ce hR).symm
   have nDR:D≠R:=aO hD7 hR
   have hHR:H R=none:=by
    cases e:H R with
    | none=>rfl
    | some x=>exact absurd (k7 R x e nRp) (by rw [hR];simp)
   refine ⟨_,rfl,m,rfl,by omega,by omega,gZ (n:=(m:Int).toNat) (fun i σ H'=>∃ (o4:Option V) (a':Int) (es:List Int),σ=[some (.ref p),some (.int m),some (.int wy),some (.ref L),o4,some (.ref D),some (.ref R)]∧cV H' p c ns a'∧a6≤a'∧a'≤a6 + 2 * i∧aY p H H'∧H' D=some (.lst (ds.map V.int))∧H' R=some (.lst (es.map V.int))∧es.length=i∧∀ d∈es,0≤d∧d≤9999)
    ⟨_,a6,[],rfl,hp7.same sR,by omega,by simp,k7.same sR,sR _ _ hD7,aF,rfl,fun d hd=>by simp at hd⟩ ?_ ?_⟩
   ·rintro i σ H8 hi ⟨o4,a8,es,rfl,hp8,la8,ua8,k8,hD8,hR8,hel,hes⟩
    dsimp only [cY]
    refine ⟨_,rfl,.inl ⟨rfl,_,SqL.of hR8⟩,_,rfl,_,rfl,_,rfl,D,_,rfl,.inl (SqL.of hD8),p,c,ns,a8,_,rfl,hp8,by omega,by rw [List.length_map];omega,by rw [List.length_map];omega,fun r3 a9 H9 r30 r31 la9 ua9 hp9 kp9=>?_⟩
    have hD9:=bU hD8 hp8 kp9
    have hR9:=bU hR8 hp8 kp9
    obtain ⟨v,hv,hat⟩:=g8 (xs:=ds.map V.int) (i:=r3) r30 r31
    obtain ⟨d,hd,rfl⟩:=List.mem_map.mp hv
    refine ⟨D,_,r3,_,rfl,rfl,SqL.of hD9,hat,?_⟩
    refine ⟨_,rfl,p,c,ns,a9,_,rfl,hp9,by omega,by decide,by decide,fun r4 b1 G1 r40 r41 lb1 ub1 hpb kpb=>?_⟩
    refine ⟨aH (by show 2≤1000000;decide),fun q hq=>?_⟩
    have sq:=aU.new (o:=.lst [V.int d,.int r4]) hq
    refine ⟨_,rfl,rfl,.inr ⟨_,rfl,?_⟩⟩
    obtain ⟨z,hz,z0,z1⟩:∃ z:Int,(if decide (V.int wy=V.int 0)=true then (1:Int) else 0)=z∧0≤z∧z≤1:=by
     refine ⟨_,rfl,?_⟩
     split <;> omega
    rw [hz]
    obtain ⟨v,hv,hat⟩:=g8 (xs:=[V.int d,.int r4]) (i:=z) z0 (by show z < 2;omega)
    obtain ⟨dd,rfl,hdd⟩:∃ dd:Int,v=.int dd∧0≤dd∧dd≤9999:=by
     simp only [List.mem_cons,List.not_mem_nil,or_false] at hv
     rcases hv with rfl | rfl
     ·exact ⟨_,rfl,hds d hd⟩
     ·exact ⟨_,rfl,by omega,by omega⟩
    refine ⟨q,_,z,_,rfl,rfl,SqL.of aF,hat,?_⟩
    have hRq:=sq _ _ (bU hR9 hp9 kpb)
    have hDq:=sq _ _ (bU hD9 hp9 kpb)
    have hpq:=hpb.same sq
    have kq:=((k8.trans kp9).trans kpb).same sq
    refine ⟨R,_,_,rfl,rfl,hRq,by rw [List.length_map];exact gG (by omega),?_⟩
    refine ⟨_,b1,es ++ [dd],rfl,?_,by omega,by omega,?_,by rw [aJ nDR];exact hDq,by rw [aF,List.map_append];rfl,by rw [List.length_append,hel];rfl,fun z hz=>?_⟩
    ·obtain ⟨⟨z,hz,e⟩,ce,ge,sm⟩:=hpq
     exact ⟨⟨z,hz,by rw [aJ nRp.symm];exact e⟩,by rw [aJ nRc.symm];exact ce,ge,sm⟩
    ·intro b o e ne
     rw [aJ (aO e hHR)]
     exact kq b o e ne
    ·rcases List.mem_append.mp hz with y | y
     ·exact hes z y
     ·rw [List.mem_singleton.mp y];exact hdd
   ·rintro σ H8 ⟨o4,a8,es,rfl,hp8,la8,ua8,k8,hD8,hR8,hel,hes⟩
    exact ⟨_,rfl,k R es a8 H8 hR8 (by omega) hes (by omega) (by omega) hp8 k8⟩
def pD (x:P3):PyData:=.tuple [.str x.1,.str x.2.1,.int x.2.2]
theorem vN {m:Bool}{H:Hp}:∀ {T:List Str},(∀ z∈T,z.length≤1000)→cW m H (T.map V.str) (T.map PyData.str)
 | [],_=>.nil
 | t :: T,h=>.cons (.str t (h t (by simp))) (vN fun z hz=>h z (by simp [hz]))
end
end K36
namespace K36
open PySem L2
section
variable {P:Program}{w:World}{K:PySem.W.Frag}{mg:Str→Option Value}{base:Heap}
theorem vO {n j:Nat}{r:Int} (hj:j < n) (h0:0≤r) (h1:r < (n:Int) - 1):∃ j4:Nat,((j:Int) + 1 + r) % (n:Int)=j4∧j4 < n∧j4≠j:=by
 by_cases h:(j:Int) + 1 + r < n
 ·exact ⟨((j:Int) + 1 + r).toNat,by rw [Int.emod_eq_of_lt (by omega) h];omega,by omega,by omega⟩
 ·refine ⟨((j:Int) + 1 + r - n).toNat,?_,by omega,by omega⟩
  rw [← Int.sub_emod_right,Int.emod_eq_of_lt (by omega) (by omega)]
  omega
structure S3 (H:Hp) (lf lp lh:Addr) (fs ps hs:List Str):Prop where
 f:H lf=some (.lst (fs.map V.str))
 p:H lp=some (.lst (ps.map V.str))
 h:H lh=some (.lst (hs.map V.str))
 f1:1≤fs.length
 f2:fs.length≤44
 p1:ps.length=10
 h1:2≤hs.length∧hs.length≤44
 nf:Nms fs
 np:Nms ps
 nh:Nms hs
theorem S3.but {H H':Hp}{lf lp lh:Addr}{fs ps hs:List Str}{p c:Addr}{ns:List Int}{t:Int} (x:S3 H lf lp lh fs ps hs) (hp:cV H p c ns t) (k:aY p H H'):S3 H' lf lp lh fs ps hs:=⟨bU x.f hp k,bU x.p hp k,bU x.h hp k,x.f1,x.f2,x.p1,x.h1,x.nf,x.np,x.nh⟩
theorem S3.same {H H':Hp}{lf lp lh:Addr}{fs ps hs:List Str} (x:S3 H lf lp lh fs ps hs) (k:aU H H'):S3 H' lf lp lh fs ps hs:=⟨k _ _ x.f,k _ _ x.p,k _ _ x.h,x.f1,x.f2,x.p1,x.h1,x.nf,x.np,x.nh⟩
inductive j8:Str→List PyData→Prop
 | part {land:Str} {R:List P3} (hl:dE land=true) (hr:aFB R) (h2:2≤R.length) (h6:R.length≤6) (ha:(R.map pD).all aBc=true):j8 "part" [.str land,.tuple (R.map pD)]
 | join {land:Str} {R:List Str} (hl:dE land=true) (hr:wU R=true) (h2:2≤R.length) (h6:R.length≤6) (ha:(R.map PyData.str).all i8=true):j8 "join" [.tuple (R.map PyData.str),.str land]
 | forfeit {land house:Str} (hl:dE land=true) (hh:dE house=true):j8 "forfeit" [.str land,.str house]
 | measure {field:Str} {n:Int} (hf:dE field=true) (h0:0≤n) (h1:n≤10000000):j8 "measure" [.str field,.int n]
 | mend {house other:Str} (hh:dE house=true) (ho:dE other=true) (hne:house≠other):j8 "mend" [.str house,.str other]
 | alone {house:Str} (hh:dE house=true):j8 "alone" [.str house]
 | breach {field:Str} {n1 n2 n3:Int} (hf:dE field=true) (h10:0≤n1) (h11:n1≤9999999) (h20:0≤n2) (h21:n2≤1000000000) (h30:0≤n3) (h31:n3≤1000000):j8 "breach" [.str field,.int n1,.int n2,.int n3]
 | view {field house:Str} {n1:Int} (hf:dE field=true) (h10:0≤n1) (h11:n1≤9999999) (hh:dE house=true):j8 "view" [.str field,.int n1,.str house]
def p4 (word name:Str) (day:Int) (ds:List PyData):PyData:=.tuple (.str word :: .str name :: .int day :: ds)
theorem eM {m:Bool}{H:Hp}{z:Str} (h:dE z=true):RdV m H (.str z) (.str z):=.str z (by have:=(j7 h).2;omega)
theorem tR {w:Str} (h:w∈iO):w.length≤1000:=by
 have:∀ w∈iO,w.length≤1000:=by decide
 exact this w h
theorem aAn {ms us vs ws:List Str} (hs:PyProof.Rows.sortedS ms=true) (hp:ms.Perm us) (hq:(us ++ vs).Perm ws) (hn:Nms ws):wU ms=true∧∀ z∈ms,dE z=true:=by
 have hnu:us.Nodup:=(List.nodup_append.mp (hq.nodup_iff.mpr hn.nd)).1
 have hnm:ms.Nodup:=hp.nodup_iff.mpr hnu
 refine ⟨decide_eq_true (((wN ms hs).and hnm).imp fun {a b} h=>?_),fun z hz=>hn.ok z (hq.mem_iff.mp (List.mem_append_left _ (hp.mem_iff.mp hz)))⟩
 rcases Decidable.em (a.cps.toList < b.cps.toList) with z | z
 ·exact z
 ·exact absurd (aEU (List.le_antisymm (List.not_lt.mp h.1) (List.not_lt.mp z))) h.2
def FIn (word:Str) (ds:List PyData) (fs:List Str):Prop:=inV (.str word) [V.str "measure",.str "breach",.str "view"]=true→∀ z b8,ds=.str z :: b8→z∈fs
inductive vP (vs:List V) (H:Hp) (Q:VK) (u3_:XK):Prop
 | mk (p c:Addr) (ns:List Int) (a:Int) (word name:Str) (day:Int) (tS lf lp lh:Addr) (fs ps hs:List Str) (q0:vs=[.ref p,.str word,.str name,.int day,.ref tS]) (q1:cV H p c ns a) (q2:a≤700000) (q3:H tS=some (.tup [.ref lf,.ref lp,.ref lh])) (q4:S3 H lf lp lh fs ps hs) (q5:word∈iO) (q6:dE name=true) (q7:∀ (t:Addr) (ds:List PyData) (b8:List V) (a':Int) (H':Hp),H' t=some (.tup (.str word :: .str name :: .int day :: b8))→cW false H' b8 ds→j8 word ds→FIn word ds fs→a≤a'→a'≤a + 80→cV H' p c ns a'→aY p H H'→Q (.ref t) H'):vP vs H Q u3_
def aBg:Sp:=fun vs H Q u3_=>vP vs H Q u3_
theorem gS:cA ["_law_pen_here","_law_word","_law_name","_law_day","_law_sorts_here","_law_fields","_law_plots","_law_houses","_law_land","_law_at","_law_house","_law_field","_law_some_here","_law_parts","_law_inch"] ["_law_pen_here","_law_word","_law_name","_law_day","_law_sorts_here"] (aM nO):=⟨rfl,rfl,rfl,by decide,rfl,by decide,by decide⟩
theorem aD6 {f fT fN fS:Addr}{fd fdT fdN fdS:FuncData} (F:Fun K "_law_row_of" "_law_row_of" nO f fd) (hlen:mg "len"=none) (htup:mg "tuple"=none)
  (GT:cC P w K mg base CX0 1 fT fdT ["_law_pen_here","_law_many"] iC) (mT:mg "_law_take"=some (.ref fT)) (kT:PySem.W.keepIn K (.ref fT)=true) (bT:cQ K fdT ["_law_pen_here","_law_many"] [])
  (GN:cC P w K mg base CX0 2 fN fdN ["_law_pen_here","_law_bottom","_law_most"] aD1) (mN:mg "_law_number"=some (.ref fN)) (kN:PySem.W.keepIn K (.ref fN)=true) (bN:cQ K fdN ["_law_pen_here","_law_bottom","_law_most"] [])
  (GS:cC P w K mg base CX0 2 fS fdS ["_law_pen_here","_law_names_here","_law_many"] aD4) (mS:mg "_law_some"=some (.ref fS)) (kS:PySem.W.keepIn K (.ref fS)=true) (bS:cQ K fdS ["_law_pen_here","_law_names_here","_law_many"] []):
  cC P w K mg base CX0 3 f fd ["_law_pen_here","_law_word","_law_name","_law_day","_law_sorts_here"] aBg:=by
 refine F.ok gS (fun vs H Q E h=>?_) (fun cdv A outer s H vs Q E hr h=>?_)
 ·obtain ⟨p,c,ns,a,word,name,day,tS,lf,lp,lh,fs,ps,hs,rfl,_⟩:=h
  rfl
 ·obtain ⟨p,c,ns,a,word,name,day,tS,lf,lp,lh,fs,ps,hs,rfl,hp,ha,htS,h3,hwd,hnm,k⟩:=h
  have hr1:dF 1 _:=hr.mono (by decide)
  refine ⟨_,aA (lH (pv 4) (iY rfl (cH (bG (i:=5) gS.nd rfl (Or.inl rfl)) (cH (bG (i:=6) gS.nd rfl (Or.inl rfl)) (cH (bG (i:=7) gS.nd rfl (Or.inr rfl)) gL)))))
   (aA (aW (i:=8) gS.nd rfl (Or.inl rfl) (aX cF (pv 6) (aS GT hr1 rfl mT kT bT .nil bY (aE (pv 0) (aE (bF cG (by rfl) hlen PySem.boot_len (aE (pv 6) aB)) aB))) (fun _ _=>rfl)))
   (aA (aW (i:=9) gS.nd rfl (Or.inl rfl) (aS GT hr1 rfl mT kT bT .nil bY (aE (pv 0) (aE (bF cG (by rfl) hlen PySem.boot_len (aE (pv 7) aB)) aB))))
   (aA (aW (i:=10) gS.nd rfl (Or.inl rfl) (aX cF (pv 7) (pv 9) (fun _ _=>rfl)))
   (aA (aW (i:=11) gS.nd rfl (Or.inl rfl) (aX cF (pv 5) (aS GT hr1 rfl mT kT bT .nil bY (aE (pv 0) (aE (bF cG (by rfl) hlen PySem.boot_len (aE (pv 5) aB)) aB))) (fun _ _=>rfl)))
   (aA (cU (bV uQ (pv 1) (c0 (aE aV (aE aV aB))) (by with_unfolding_all rfl))
    (aA (aW (i:=12) gS.nd rfl (Or.inl rfl) (aS GS hr rfl mS kS bS .nil bY (aE (pv 0) (aE (pv 6) (aE (aX cF (dA (aE aG (aE aG (aE (aZ c8 aG (aS GT hr1 rfl mT kT bT .nil bY (aE (pv 0) (aE aG aB)))) aB)))) (aS GT hr1 rfl mT kT bT .nil bY (aE (pv 0) (aE aG aB))) (fun _ _=>rfl)) aB)))))
    (aA (cU (bV e7 (pv 1) aV (cM _)) (aQ (bE (c0 (aE (pv 1) (aE (pv 2) (aE (pv 3) (aE (fJ eY (by rfl) htup (by kernel_rfl) (aE (pv 12) aB)) (aE (pv 8) aB)))))))) bH)
    (aA (kJ (i:=13) (N:=["_law_one","_law_houses","_law_pen_here"]) (src:=[none,some 7,some 0]) (osc:=aM nO) (oN:=["_law_pen_here","_law_word","_law_name","_law_day","_law_sorts_here","_law_fields","_law_plots","_law_houses","_law_land","_law_at","_law_house","_law_field","_law_some_here","_law_parts","_law_inch"]) ⟨by rfl,by decide,by decide,by decide,rfl,by rfl⟩ gS.nd rfl
      (nY (pv 12))
      fun cl s H fp pins C=>⟨bG (i:=0) (show (["_law_one","_law_houses","_law_pen_here"]:List Str).Nodup by decide) rfl (Or.inl rfl),gP,c0 (aE (pv 0) (aE (aX (r:=aF4 K) cF (pv 1) (aS GT hr1 rfl mT kT bT .nil bY (aE (pv 2) (aE (bF (r:=i5 K) cG (by rfl) hlen PySem.boot_len (aE (pv 1) aB)) aB))) (fun _ _=>rfl)) (aE (aS GN hr rfl mN kN bN .nil bY (aE (pv 2) (aE aG (aE (aZ jN aG aG) aB)))) aB)))⟩)
    (aQ (bE (c0 (aE (pv 1) (aE (pv 2) (aE (pv 3) (aE (pv 8) (aE (fJ eY (by rfl) htup (by kernel_rfl) (aE (pv 13) aB)) aB)))))))))))
    bH)
   (aA (cU (bV e7 (pv 1) aV (cM _)) (aQ (bE (c0 (aE (pv 1) (aE (pv 2) (aE (pv 3) (aE (pv 8) (aE (pv 10) aB)))))))) bH)
   (aA (cU (bV e7 (pv 1) aV (cM _)) (aQ (bE (c0 (aE (pv 1) (aE (pv 2) (aE (pv 3) (aE (pv 11) (aE (aS GN hr rfl mN kN bN .nil bY (aE (pv 0) (aE aG (aE (aZ jN aG aG) aB)))) aB)))))))) bH)
   (aA (cU (bV e7 (pv 1) aV (cM _)) (aQ (bE (c0 (aE (pv 1) (aE (pv 2) (aE (pv 3) (aE (pv 10) (aE (aX cF (pv 7) (aZ f8 (aZ c8 (aZ c8 (pv 9) aG) (aS GT hr1 rfl mT kT bT .nil bY (aE (pv 0) (aE (aZ iZ (bF cG (by rfl) hlen PySem.boot_len (aE (pv 7) aB)) aG) aB)))) (bF cG (by rfl) hlen PySem.boot_len (aE (pv 7) aB))) (fun _ _=>rfl)) aB)))))))) bH)
   (aA (cU (bV e7 (pv 1) aV (cM _)) (aQ (bE (c0 (aE (pv 1) (aE (pv 2) (aE (pv 3) (aE (pv 10) aB))))))) bH)
   (aA (aW (i:=14) gS.nd rfl (Or.inl rfl) (aS GN hr rfl mN kN bN .nil bY (aE (pv 0) (aE aG (aE (aZ iZ (aZ jN aG aG) aG) aB)))))
   (aA (cU (bV e7 (pv 1) aV (cM _)) (aQ (bE (c0 (aE (pv 1) (aE (pv 2) (aE (pv 3) (aE (pv 11) (aE (pv 14) (aE (pv 10) aB))))))))) bH)
   (aQ (bE (c0 (aE (pv 1) (aE (pv 2) (aE (pv 3) (aE (pv 11) (aE (pv 14) (aE (aS GN hr rfl mN kN bN .nil bY (aE (pv 0) (aE aG (aE (aZ jN aG aG) aB)))) (aE (aS GN hr rfl mN kN bN .nil bY (aE (pv 0) (aE aG (aE (aZ jN aG aG) aB)))) aB))))))))))))))))))))),?_⟩
  have fin:∀ (b8:List V) (ds:List PyData) (H':Hp) (a':Int),cW false H' b8 ds→j8 word ds→FIn word ds fs→cV H' p c ns a'→aY p H H'→a≤a'→a'≤a + 80→∀ t,H' t=none→Q (.ref t) (upd H' t (.tup (.str word :: .str name :: .int day :: b8))):=fun b8 ds H' a' hR hS hFI h1 h2 h4 h5 t ht=>k t ds b8 a' _ aF (hR.same (aU.new ht)) hS hFI h4 h5 (h1.same (aU.new ht)) (h2.same (aU.new ht))
  have cp:∀ j:Int,0≤j→j≤1000000→aFY 10 j:=fun j h1 h2=>⟨h1,h2,by decide⟩
  have p6:((10:Int) ^ Int.toNat 6)=1000000:=by decide
  have p7:((10:Int) ^ Int.toNat 7)=10000000:=by decide
  have p9:((10:Int) ^ Int.toNat 9)=1000000000:=by decide
  have e9:(10:Int) ^ 9=1000000000:=by decide
  have z2:(2:Nat)≤sizeLine:=aH (by decide)
  have z3:(3:Nat)≤sizeLine:=aH (by decide)
  have z4:(4:Nat)≤sizeLine:=aH (by decide)
  have z5:(5:Nat)≤sizeLine:=aH (by decide)
  have z6:(6:Nat)≤sizeLine:=aH (by decide)
  have z7:(7:Nat)≤sizeLine:=aH (by decide)
  have b10:=h3.p1
  have b5:=h3.h1
  have bf1:=h3.f1
  have bf2:=h3.f2
  refine ⟨_,rfl,tS,_,rfl,SqT.of htS,rfl,_,_,rfl,_,_,rfl,_,_,rfl,rfl,?_⟩
  refine ⟨_,rfl,_,rfl,_,rfl,lp,_,rfl,.inl (SqL.of h3.p),p,c,ns,a,_,rfl,hp,by omega,by rw [List.length_map];omega,by rw [List.length_map];omega,fun r1 a1 H1 r10 r11 la1 ua1 hp1 kp1=>?_⟩
  have h31:=h3.but hp kp1
  obtain ⟨v,hv,hat⟩:=g8 (xs:=ps.map V.str) (i:=r1) r10 r11
  obtain ⟨land,hland,rfl⟩:=List.mem_map.mp hv
  have nland:=h3.np.ok land hland
  refine ⟨lp,_,r1,_,rfl,rfl,SqL.of h31.p,hat,?_⟩
  refine ⟨_,rfl,_,rfl,lh,_,rfl,.inl (SqL.of h31.h),p,c,ns,a1,_,rfl,hp1,by omega,by rw [List.length_map];omega,by rw [List.length_map];omega,fun r2 a2 H2 r20 r21 la2 ua2 hp2 kp2=>?_⟩
  have h32:=h31.but hp1 kp2
  rw [List.length_map] at r21
  obtain ⟨j2,rfl⟩:∃ j2:Nat,r2=j2:=⟨r2.toNat,by omega⟩
  obtain ⟨house,hj2⟩:∃ y,hs[j2]?=some y:=⟨_,List.getElem?_eq_getElem (by omega)⟩
  have nhouse:=h3.nh.ok house (List.mem_of_getElem? hj2)
  have hat:atI (hs.map V.str) ((j2:Nat):Int)=some (V.str house):=gM (by rw [List.getElem?_map,hj2];rfl)
  refine ⟨_,rfl,_,rfl,lh,_,(j2:Int),_,rfl,rfl,SqL.of h32.h,hat,?_⟩
  refine ⟨_,rfl,_,rfl,_,rfl,lf,_,rfl,.inl (SqL.of h32.f),p,c,ns,a2,_,rfl,hp2,by omega,by rw [List.length_map];omega,by rw [List.length_map];omega,fun r3 a3 H3 r30 r31 la3 ua3 hp3 kp3=>?_⟩
  have h33:=h32.but hp2 kp3
  obtain ⟨v,hv,hat⟩:=g8 (xs:=fs.map V.str) (i:=r3) r30 r31
  obtain ⟨field,hfield,rfl⟩:=List.mem_map.mp hv
  have nfield:=h3.nf.ok field hfield
  refine ⟨lf,_,r3,_,rfl,rfl,SqL.of h33.f,hat,?_⟩
  have k3:=(kp1.trans kp2).trans kp3
  refine ⟨_,rfl,z2,fun q hq=>?_⟩
  have sq:=aU.new (o:=.tup [V.str "part",.str "join"]) hq
  have hp4:=hp3.same sq
  have h34:=h33.same sq
  have k4:=k3.same sq
  have hq4:upd H3 q (.tup [V.str "part",.str "join"]) q=_:=aF
  refine ⟨q,_,rfl,.inr (SqT.of hq4),rfl,rfl,_,rfl,?_⟩
  generalize upd H3 q (.tup [V.str "part",.str "join"])=H4 at hp4 h34 k4 hq4 ⊢
  refine eG (fun g1=>?_) (fun g1=>?_)
  ·refine ⟨_,rfl,_,rfl,_,rfl,p,c,ns,a3,_,rfl,hp4,by omega,by decide,by decide,fun x1 a5 H5 x10 x11 la5 ua5 hp5 kp5=>?_⟩
   refine ⟨_,_,rfl,rfl,z3,fun u hu=>?_⟩
   have su:=aU.new (o:=.lst [V.int 2,.int 6,.int (2 + x1)]) hu
   refine ⟨_,rfl,p,c,ns,a5,_,rfl,hp5.same su,by omega,by decide,by decide,fun x2 a6 H6 x20 x21 la6 ua6 hp6 kp6=>?_⟩
   obtain ⟨v,hv,hat⟩:=g8 (xs:=[V.int 2,.int 6,.int (2 + x1)]) (i:=x2) x20 (by show x2 < 3;omega)
   obtain ⟨n,rfl,hn,hn2⟩:∃ n:Nat,v=.int n∧n≤6∧2≤n:=by
    simp only [List.mem_cons,List.not_mem_nil,or_false] at hv
    rcases hv with rfl | rfl | rfl
    ·exact ⟨2,rfl,by omega,by omega⟩
    ·exact ⟨6,rfl,by omega,by omega⟩
    ·exact ⟨(2 + x1).toNat,by congr 1;omega,by omega,by omega⟩
   have k46:aY p H4 H6:=(kp5.same su).trans kp6
   refine ⟨u,_,x2,_,rfl,rfl,SqL.of (bU aF (hp5.same su) kp6),hat,?_⟩
   have h36:=h34.but hp4 k46
   refine ⟨p,c,ns,a6,lp,ps,n,rfl,hp6,by omega,h36.p,b10,hn,fun L ms a7 H7 hL hml hsm hper la7 ua7 hp7 kp7=>?_⟩
   obtain ⟨us,vv,hpu,hpw⟩:=hper
   obtain ⟨hris,hnms⟩:=aAn hsm hpu hpw h3.np
   have h37:=h36.but hp6 kp7
   have k7:=(k4.trans k46).trans kp7
   refine ⟨_,rfl,rfl,_,rfl,?_⟩
   refine eG (fun g2=>?_) (fun g2=>?_)
   ·refine ⟨_,rfl,_,rfl,_,rfl,_,rfl,L,_,rfl,.inl ⟨SqL.of hL,fun tt htt=>?_⟩⟩
    have st:=aU.new (o:=.tup (ms.map V.str)) htt
    have ew:word="join":=by
     have:=of_decide_eq_true g2
     injection this
    have hallN:(ms.map PyData.str).all i8=true:=by
     rw [List.all_map,List.all_eq_true]
     exact fun z hz=>hnms z hz
    exact ⟨_,rfl,z5,fun t ht=>fin _ [.tuple (ms.map PyData.str),.str land] _ a7 (.cons (.tup aF (by rw [List.length_map];omega) (vN fun z hz=>by have:=(j7 (hnms z hz)).2;omega)) (.cons (eM nland) .nil)) (by rw [ew];exact .join nland hris (by omega) (by omega) hallN) (by rw [ew];exact fun z=>absurd z (by decide)) (hp7.same st) (k7.same st) (by omega) (by omega) t ht⟩
   ·refine ⟨_,rfl,L,rfl,⟨_,SqL.of hL⟩,?_⟩
    refine vA (K:=K) (xs:=ms.map V.str) (fun i ys σ' H'=>∃ (a':Int) (o:Option V),σ'=[o,some (.ref lh),some (.ref p)]∧cV H' p c ns a'∧aY p H7 H'∧a7≤a'∧a'≤a7 + 4 * i∧ys.length=i∧∃ R:List P3,cW false H' ys (R.map pD)∧R.map (·.1)=ms.take i∧(R.map pD).all aBc=true)
     ⟨a7,none,rfl,hp7,aY.refl p H7,by omega,by omega,rfl,[],.nil,by simp,rfl⟩ (aH (by rw [List.length_map];omega)) (fun i ys σ H p=>by obtain ⟨_,_,_,_,_,_,_,e,_⟩:=p;omega) (fun i ys σ H p=>by obtain ⟨_,_,_,_,kk,_⟩:=p;exact SqL.of (bU hL hp7 kk)) ?_ ?_
    ·rintro i x ys σ' H8 hx ⟨a8,o,rfl,hp8,k8,la8,ua8,hyl,R,rR,eR,aR⟩
     have hi:i < ms.length:=by
      have:=(List.getElem?_eq_some_iff.mp hx).1
      simpa using this
     have ex:x=V.str ms[i]:=by
      rw [List.getElem?_map,List.getElem?_eq_getElem hi] at hx
      cases hx
      rfl
     subst ex
     have nmi:=hnms _ (List.getElem_mem hi)
     dsimp only [cY]
     have hh8:=bU h37.h hp7 k8
     refine fZ ?_
     refine ⟨_,rfl,_,rfl,_,rfl,_,rfl,lh,_,rfl,.inl (SqL.of hh8),p,c,ns,a8,_,rfl,hp8,by omega,by rw [List.length_map];omega,by rw [List.length_map];omega,fun r4 a9 H9 r40 r41 la9 ua9 hp9 kp9=>?_⟩
     obtain ⟨v,hv,hat⟩:=g8 (xs:=hs.map V.str) (i:=r4) r40 r41
     obtain ⟨hse,hhse,rfl⟩:=List.mem_map.mp hv
     have nhse:=h3.nh.ok hse hhse
     refine ⟨lh,_,r4,_,rfl,rfl,SqL.of (bU hh8 hp8 kp9),hat,?_⟩
     refine ⟨_,rfl,_,_,rfl,rfl,cp _ (by decide) (by decide),p,c,ns,a9,1,10000000,(by show [V.ref p,V.int 1,V.int ((10:Int) ^ Int.toNat 7)] ++ []=_;rw [p7];rfl),hp9,by omega,by decide,by decide,by omega,fun n1 b1 G1 n10 n11 lb1 ub1 hpb kpb=>?_⟩
     refine ⟨z3,fun q1 hq1=>?_⟩
     have sq1:=aU.new (o:=.tup [V.str ms[i],.str hse,.int n1]) hq1
     refine ⟨b1,_,rfl,hpb.same sq1,((k8.trans kp9).trans kpb).same sq1,by omega,by omega,by rw [List.length_append,hyl];rfl,R ++ [(ms[i],hse,n1)],?_,?_,?_⟩
     ·rw [List.map_append]
      exact cW.app ((wV (wV rR hp8 kp9) hp9 kpb).same sq1) (.cons (.tup aF (by show 3≤1000;decide) (.cons (eM nmi) (.cons (eM nhse) (.cons (.int n1) .nil)))) .nil)
     ·rw [List.map_append,eR,List.take_add_one,List.getElem?_eq_getElem hi]
      rfl
     ·rw [List.map_append,List.all_append,aR]
      show (true && ((dE ms[i] && dE hse && decide (1≤n1∧n1≤10000000)) && true))=true
      rw [nmi,nhse,decide_eq_true (show 1≤n1∧n1≤10000000 from ⟨n10,n11⟩)]
      rfl
    ·rintro ys σ' H8 ⟨a8,o,rfl,hp8,k8,la8,ua8,hyl,R,rR,eR,aR⟩ D hD
     rw [List.length_map] at ua8
     have sD:=aU.new (o:=.lst ys) hD
     refine ⟨_,rfl,_,rfl,_,rfl,_,rfl,_,rfl,D,_,rfl,.inl ⟨SqL.of aF,fun tt htt=>?_⟩⟩
     have st:=aU.new (o:=.tup ys) htt
     have ew:word="part":=by
      have h0:"part"=word∨"join"=word:=by simpa [inV,eqV] using g1
      have h1:word="part"∨word="join":=h0.imp Eq.symm Eq.symm
      rcases h1 with h1 | h1
      ·exact h1
      ·exact absurd (decide_eq_true (by rw [h1])) g2
     rw [List.length_map,List.take_length] at eR
     have hRl:R.length=ms.length:=by rw [← eR,List.length_map]
     have hRr:aFB R:=by
      have:=of_decide_eq_true hris
      rw [← eR] at this
      exact (List.pairwise_map (f:=fun x:P3=>x.1) (R:=fun a b:Str=>a.cps.toList < b.cps.toList)).mp this
     exact ⟨z5,fun t ht=>fin _ [.str land,.tuple (R.map pD)] _ a8 (.cons (eM nland) (.cons (.tup aF (by rw [hyl,List.length_map];omega) ((rR.same sD).same st)) .nil)) (by rw [ew];exact .part nland hRr (by omega) (by omega) aR) (by rw [ew];exact fun z=>absurd z (by decide)) ((hp8.same sD).same st) (((k7.trans k8).same sD).same st) (by omega) (by omega) t ht⟩
  ·refine ⟨_,rfl,rfl,_,rfl,?_⟩
   refine eG (fun g2=>?_) (fun g2=>?_)
   ·have ew:word="forfeit":=by
     have:=of_decide_eq_true g2
     injection this
    exact ⟨_,rfl,_,rfl,_,rfl,_,rfl,_,rfl,z5,fun t ht=>fin _ [.str land,.str house] _ a3 (.cons (eM nland) (.cons (eM nhouse) .nil)) (by rw [ew];exact .forfeit nland nhouse) (by rw [ew];exact fun z=>absurd z (by decide)) hp4 k4 (by omega) (by omega) t ht⟩
   ·refine ⟨_,rfl,rfl,_,rfl,?_⟩
    refine eG (fun g3=>?_) (fun g3=>?_)
    ·refine ⟨_,rfl,_,rfl,_,rfl,_,rfl,_,rfl,_,_,rfl,rfl,cp _ (by decide) (by decide),p,c,ns,a3,0,10000000,(by show [V.ref p,V.int 0,V.int ((10:Int) ^ Int.toNat 7)] ++ []=_;rw [p7];rfl),hp4,by omega,by decide,by decide,by omega,fun n1 b1 G1 n10 n11 lb1 ub1 hpb kpb=>?_⟩
     have ew:word="measure":=by
      have:=of_decide_eq_true g3
      injection this
     exact ⟨z5,fun t ht=>fin _ [.str field,.int n1] _ b1 (.cons (eM nfield) (.cons (.int n1) .nil)) (by rw [ew];exact .measure nfield n10 n11) (fun _ z b8 e=>by cases e;exact hfield) hpb (k4.trans kpb) (by omega) (by omega) t ht⟩
    ·refine ⟨_,rfl,rfl,_,rfl,?_⟩
     refine eG (fun g4=>?_) (fun g4=>?_)
     ·refine ⟨_,rfl,_,rfl,_,rfl,_,rfl,_,rfl,_,rfl,_,_,rfl,rfl,_,rfl,_,rfl,lh,_,rfl,.inl (SqL.of h34.h),_,_,rfl,rfl,p,c,ns,a3,_,rfl,hp4,by omega,by rw [List.length_map];omega,by rw [List.length_map];omega,fun r4 b1 G1 r40 r41 lb1 ub1 hpb kpb=>?_⟩
      have hh:=bU h34.h hp4 kpb
      refine ⟨_,_,rfl,rfl,_,rfl,lh,_,rfl,.inl (SqL.of hh),_,_,rfl,rfl,by rw [List.length_map];omega,?_⟩
      rw [List.length_map] at r41
      obtain ⟨j4,ej4,hj4⟩:=vO (n:=hs.length) (j:=j2) (r:=r4) (by omega) r40 (by omega)
      rw [← List.length_map (f:=V.str)] at ej4
      obtain ⟨other,hot⟩:∃ y,hs[j4]?=some y:=⟨_,List.getElem?_eq_getElem (by omega)⟩
      have nother:=h3.nh.ok other (List.mem_of_getElem? hot)
      have hne:house≠other:=fun z=>by
       have hl2:j2 < hs.length:=by omega
       have hl4:j4 < hs.length:=by omega
       rw [List.getElem?_eq_getElem hl2] at hj2
       rw [List.getElem?_eq_getElem hl4] at hot
       injection hj2 with hj2
       injection hot with hot
       rw [← hj2,← hot] at z
       exact hj4.2 ((List.getElem_inj h3.nh.nd).mp z).symm
      have hat4:atI (hs.map V.str) ((j4:Nat):Int)=some (V.str other):=gM (by rw [List.getElem?_map,hot];rfl)
      rw [← ej4] at hat4
      have ew:word="mend":=by
       have:=of_decide_eq_true g4
       injection this
      refine ⟨lh,_,_,_,rfl,rfl,SqL.of hh,hat4,?_⟩
      exact ⟨z5,fun t ht=>fin _ [.str house,.str other] _ b1 (.cons (eM nhouse) (.cons (eM nother) .nil)) (by rw [ew];exact .mend nhouse nother hne) (by rw [ew];exact fun z=>absurd z (by decide)) hpb (k4.trans kpb) (by omega) (by omega) t ht⟩
     ·refine ⟨_,rfl,rfl,_,rfl,?_⟩
      refine eG (fun g5=>?_) (fun g5=>?_)
      ·have ew:word="alone":=by
        have:=of_decide_eq_true g5
        injection this
       exact ⟨_,rfl,_,rfl,_,rfl,_,rfl,z4,fun t ht=>fin _ [.str house] _ a3 (.cons (eM nhouse) .nil) (by rw [ew];exact .alone nhouse) (by rw [ew];exact fun z=>absurd z (by decide)) hp4 k4 (by omega) (by omega) t ht⟩
      ·refine ⟨_,rfl,_,_,rfl,rfl,cp _ (by decide) (by decide),_,_,rfl,rfl,p,c,ns,a3,0,9999999,(by show [V.ref p,V.int 0,V.int ((10:Int) ^ Int.toNat 7 - 1)] ++ []=_;rw [p7];rfl),hp4,by omega,by decide,by decide,by omega,fun n1 b1 G1 n10 n11 lb1 ub1 hpb kpb=>?_⟩
       refine ⟨_,rfl,rfl,_,rfl,?_⟩
       refine eG (fun g6=>?_) (fun g6=>?_)
       ·have ew:word="view":=by
         have:=of_decide_eq_true g6
         injection this
        exact ⟨_,rfl,_,rfl,_,rfl,_,rfl,_,rfl,_,rfl,z6,fun t ht=>fin _ [.str field,.int n1,.str house] _ b1 (.cons (eM nfield) (.cons (.int n1) (.cons (eM nhouse) .nil))) (by rw [ew];exact .view nfield n10 n11 nhouse) (fun _ z b8 e=>by cases e;exact hfield) hpb (k4.trans kpb) (by omega) (by omega) t ht⟩
       ·refine ⟨_,rfl,_,rfl,_,rfl,_,rfl,_,rfl,_,rfl,_,_,rfl,rfl,cp _ (by decide) (by decide),p,c,ns,b1,0,1000000000,(by show [V.ref p,V.int 0,V.int ((10:Int) ^ Int.toNat 9)] ++ []=_;rw [p9];rfl),hpb,by omega,by decide,by decide,by omega,fun n2 b2 G2 n20 n21 lb2 ub2 hpb2 kpb2=>?_⟩
        refine ⟨_,rfl,_,_,rfl,rfl,cp _ (by decide) (by decide),p,c,ns,b2,0,1000000,(by show [V.ref p,V.int 0,V.int ((10:Int) ^ Int.toNat 6)] ++ []=_;rw [p6];rfl),hpb2,by omega,by decide,by decide,by omega,fun n3 b3 G3 n30 n31 lb3 ub3 hpb3 kpb3=>?_⟩
        have ew:word="breach":=by
         have ng:∀ z:Str,¬ decide (V.str word=V.str z)=true→word≠z:=fun z hz e=>hz (decide_eq_true (by rw [e]))
         have hg1:word≠"part"∧word≠"join":=by
          constructor
          ·intro z;exact g1 (by rw [z];rfl)
          ·intro z;exact g1 (by rw [z];rfl)
         have hm:=hwd
         simp only [iO,List.mem_cons,List.not_mem_nil,or_false] at hm
         rcases hm with z | z | z | z | z | z | z | z
         ·exact absurd z hg1.1
         ·exact absurd z hg1.2
         ·exact absurd z (ng _ g2)
         ·exact absurd z (ng _ g3)
         ·exact absurd z (ng _ g4)
         ·exact absurd z (ng _ g5)
         ·exact z
         ·exact absurd z (ng _ g6)
        exact ⟨z7,fun t ht=>fin _ [.str field,.int n1,.int n2,.int n3] _ b3 (.cons (eM nfield) (.cons (.int n1) (.cons (.int n2) (.cons (.int n3) .nil)))) (by rw [ew];exact .breach nfield n10 n11 n20 n21 n30 n31) (fun _ z b8 e=>by cases e;exact hfield) hpb3 (((k4.trans kpb).trans kpb2).trans kpb3) (by omega) (by omega) t ht⟩
theorem j8.word {word:Str}{ds:List PyData} (h:j8 word ds):word∈iO:=by
 cases h <;> decide
theorem j8.len {word:Str}{ds:List PyData} (h:j8 word ds):ds.length≤4:=by
 cases h <;> simp
theorem oT:∀ R:List P3,PyData.hasDictAll (R.map pD)=false
 | []=>rfl
 | x :: R=>by
  show ((pD x).hasDict || PyData.hasDictAll (R.map pD))=false
  rw [oT R]
  rfl
theorem qK:∀ R:List Str,PyData.hasDictAll (R.map PyData.str)=false
 | []=>rfl
 | x :: R=>by
  show ((PyData.str x).hasDict || PyData.hasDictAll (R.map PyData.str))=false
  rw [qK R]
  rfl
theorem j8.nodict {word:Str}{ds:List PyData} (h:j8 word ds):PyData.hasDictAll ds=false:=by
 cases h with
 | @part land R _ _ _ _ _=>
  show (false || (PyData.hasDictAll (R.map pD) || false))=false
  rw [oT]
  rfl
 | @join land R _ _ _ _ _=>
  show (PyData.hasDictAll (R.map PyData.str) || (false || false))=false
  rw [qK]
  rfl
 | _=>rfl
def i9:PyData→Bool
 | .tuple [f,h,a,i]=>i8 f && i8 h && lW 1 1000000 a && lW 0 10000000 i
 | _=>false
theorem aAo {d:PyData} (h:i9 d=true):∃ (f:Str) (g a i:PyData),d=.tuple [.str f,g,a,i]∧dE f=true∧i8 g=true∧lW 1 1000000 a=true∧lW 0 10000000 i=true:=by
 match d,h with
 | .tuple [.str f,g,a,i],h=>
  simp only [i9,i8,Bool.and_eq_true] at h
  exact ⟨f,g,a,i,rfl,h.1.1.1,h.1.1.2,h.1.2,h.2⟩
 | .tuple [.none,g,a,i],h=>simp [i9,i8] at h
 | .tuple [.bool _,g,a,i],h=>simp [i9,i8] at h
 | .tuple [.int _,g,a,i],h=>simp [i9,i8] at h
 | .tuple [.list _,g,a,i],h=>simp [i9,i8] at h
 | .tuple [.tuple _,g,a,i],h=>simp [i9,i8] at h
 | .tuple [.dict _,g,a,i],h=>simp [i9,i8] at h
def fmV (g0 g1 g2 g3 g4 g5 g6 g7:Addr):List (Key×V):=[(Sum.inr "part",.ref g0),(Sum.inr "join",.ref g1),(Sum.inr "forfeit",.ref g2),(Sum.inr "measure",.ref g3),(Sum.inr "mend",.ref g4),(Sum.inr "alone",.ref g5),(Sum.inr "breach",.ref g6),(Sum.inr "view",.ref g7)]
def fmR (g0 g1 g2 g3 g4 g5 g6 g7:Addr):List (Key×Value):=[(Sum.inr "part",.ref g0),(Sum.inr "join",.ref g1),(Sum.inr "forfeit",.ref g2),(Sum.inr "measure",.ref g3),(Sum.inr "mend",.ref g4),(Sum.inr "alone",.ref g5),(Sum.inr "breach",.ref g6),(Sum.inr "view",.ref g7)]
theorem aGx (g0 g1 g2 g3 g4 g5 g6 g7:Addr):KV (fmV g0 g1 g2 g3 g4 g5 g6 g7) (fmR g0 g1 g2 g3 g4 g5 g6 g7):=.cons ⟨rfl,rfl⟩ (.cons ⟨rfl,rfl⟩ (.cons ⟨rfl,rfl⟩ (.cons ⟨rfl,rfl⟩ (.cons ⟨rfl,rfl⟩ (.cons ⟨rfl,rfl⟩ (.cons ⟨rfl,rfl⟩ (.cons ⟨rfl,rfl⟩ (.nil))))))))
theorem iK (w:World) (s:Str):PyData.keyHash w.params s=aFL w (Sum.inr s):=by
 first | rfl | (unfold aFL hashStr PyData.keyHash;rfl)
theorem isS (s:Str) (t:Tok):rL (Sum.inr s) (.str s t)=true:=by
 show Value.isStrOf s (.str s t)=true
 simp [Value.isStrOf]
theorem aFf {P:Program}{w:World}{K:PySem.W.Frag}{a:Addr}{e:Nat}{x0 x1 x2 x3 x4 x5 x6 x7:Tok}{g0 g1 g2 g3 g4 g5 g6 g7:Addr} (l:K.lookup a=some { cls:=.type "dict",data:=.dict #[⟨PyData.keyHash w.params "part",.str "part" x0,.ref g0⟩,⟨PyData.keyHash w.params "join",.str "join" x1,.ref g1⟩,⟨PyData.keyHash w.params "forfeit",.str "forfeit" x2,.ref g2⟩,⟨PyData.keyHash w.params "measure",.str "measure" x3,.ref g3⟩,⟨PyData.keyHash w.params "mend",.str "mend" x4,.ref g4⟩,⟨PyData.keyHash w.params "alone",.str "alone" x5,.ref g5⟩,⟨PyData.keyHash w.params "breach",.str "breach" x6,.ref g6⟩,⟨PyData.keyHash w.params "view",.str "view" x7,.ref g7⟩] e }):∀ h:Heap,K.In h→h.DictOf (dM P w) a (fmR g0 g1 g2 g3 g4 g5 g6 g7):=by
 intro h hK
 refine ⟨_,_,_,hK _ _ l,⟨rfl,rfl,rfl⟩,rfl,?_,?_,?_⟩
 ·intro en he
  simp only [List.mem_toArray,List.mem_cons,List.not_mem_nil,or_false] at he
  rcases he with rfl | rfl | rfl | rfl | rfl | rfl | rfl | rfl
  ·exact ⟨Sum.inr "part",isS "part" x0,iK w "part"⟩
  ·exact ⟨Sum.inr "join",isS "join" x1,iK w "join"⟩
  ·exact ⟨Sum.inr "forfeit",isS "forfeit" x2,iK w "forfeit"⟩
  ·exact ⟨Sum.inr "measure",isS "measure" x3,iK w "measure"⟩
  ·exact ⟨Sum.inr "mend",isS "mend" x4,iK w "mend"⟩
  ·exact ⟨Sum.inr "alone",isS "alone" x5,iK w "alone"⟩
  ·exact ⟨Sum.inr "breach",isS "breach" x6,iK w "breach"⟩
  ·exact ⟨Sum.inr "view",isS "view" x7,iK w "view"⟩
 ·exact .cons (isS "part" x0) rfl (.cons (isS "join" x1) rfl (.cons (isS "forfeit" x2) rfl (.cons (isS "measure" x3) rfl (.cons (isS "mend" x4) rfl (.cons (isS "alone" x5) rfl (.cons (isS "breach" x6) rfl (.cons (isS "view" x7) rfl (.nil))))))))
 ·show ([Sum.inr "part",Sum.inr "join",Sum.inr "forfeit",Sum.inr "measure",Sum.inr "mend",Sum.inr "alone",Sum.inr "breach",Sum.inr "view"]:List Key).Nodup
  decide
def rkD:List (Key×V):=[(Sum.inr "measure",.int 0),(Sum.inr "mend",.int 2),(Sum.inr "alone",.int 2),(Sum.inr "breach",.int 3),(Sum.inr "view",.int 3)]
def rk (w:Str):Int:=if w="measure" then 0 else if w="mend"∨w="alone" then 2 else if w="breach"∨w="view" then 3 else 1
theorem aGy:∀ w∈iO,(dH rkD (Sum.inr w)).getD (.int 1)=.int (rk w):=by decide
inductive aBh (H:Hp) (x:V) (word name:Str) (day:Int):Prop
 | mk (t:_) (b8:_) (q0:x=.ref t) (q1:H t=some (.tup (.str word :: .str name :: .int day :: b8))) (q2:word∈iO):aBh H x word name day
def aFF (H:Hp) (x:V) (word name:Str) (day:Int):Prop:=aBh H x word name day
theorem tT {word name:Str}{day:Int}{b8:List V}:atI (V.str word :: .str name :: .int day :: b8) 0=some (.str word)∧atI (V.str word :: .str name :: .int day :: b8) 1=some (.str name)∧atI (V.str word :: .str name :: .int day :: b8) 2=some (.int day):=by
 have hl:(V.str word :: V.str name :: V.int day :: b8).length=b8.length + 3:=rfl
 unfold atI ixN
 rw [hl,if_pos (by decide),if_pos (by omega),if_pos (by decide),if_pos (by omega),if_pos (by decide),if_pos (by omega)]
 exact ⟨rfl,rfl,rfl⟩
inductive vQ (vs:List V) (H:Hp) (Q:VK) (u3_:XK):Prop
 | mk (x:V) (word name:Str) (day:Int) (q0:vs=[x]) (q1:aFF H x word name day) (q2:∀ (q:Addr) (H':Hp),aU H H'→H' q=some (.tup [.int day,.int (rk word),.str name])→Q (.ref q) H'):vQ vs H Q u3_
def wW:Sp:=fun vs H Q u3_=>vQ vs H Q u3_
theorem aBi:cA ["_law_row_here","_law_ranks"] ["_law_row_here"] (aM pT):=⟨rfl,rfl,rfl,by decide,rfl,by decide,by decide⟩
theorem aD7 {f:Addr}{fd:FuncData} (F:Fun K "_law_place" "_law_place" pT f fd):cC P w K mg base CX0 1 f fd ["_law_row_here"] wW:=by
 refine F.ok aBi (fun vs H Q E h=>?_) (fun cdv A outer s H vs Q E hr h=>?_)
 ·obtain ⟨x,word,name,day,rfl,_⟩:=h
  rfl
 ·obtain ⟨x,word,name,day,rfl,⟨t,b8,rfl,ht,hw⟩,k⟩:=h
  have hu:=jE hr
  refine ⟨_,aA (aW (i:=1) aBi.nd rfl (Or.inl rfl) (aAP (iH aV aG (iH aV aG (iH aV aG (iH aV aG (iH aV aG aAO))))) rfl rfl (by simp) (by decide)))
   (aQ (bE (c0 (aE (aX bJ (pv 0) aG (fun _ _=>rfl)) (aE (aC8 hu (pv 1) (aX bJ (pv 0) aG (fun _ _=>rfl)) aG ⟨rfl,rfl,rfl,rfl⟩) (aE (aX bJ (pv 0) aG (fun _ _=>rfl)) aB)))))),?_⟩
  obtain ⟨r0,r1,r2⟩:=tT (word:=word) (name:=name) (day:=day) (b8:=b8)
  refine fun d hd=>?_
  refine ⟨aF,rkD,rfl,(by show 5≤15;decide),?_⟩
  rw [show nE [] rkD=rkD by first | rfl | decide]
  have sd:aU H (upd (upd H d (.dK [])) d (.dK rkD)):=fun b o e=>by rw [aAA,aJ (aO e hd)];exact e
  have hd2:upd (upd H d (.dK [])) d (.dK rkD) d=some (.dK rkD):=aF
  generalize upd (upd H d (.dK [])) d (.dK rkD)=H2 at sd hd2 ⊢
  have ht2:=sd _ _ ht
  refine ⟨_,rfl,t,_,2,_,rfl,rfl,SqT.of ht2,r2,?_⟩
  refine ⟨_,rfl,d,rfl,.inl ⟨rkD,.inl hd2⟩,_,rfl,t,_,0,_,rfl,rfl,SqT.of ht2,r0,_,.inl ⟨rkD,Sum.inr word,.inl hd2,rfl,rfl⟩,?_⟩
  rw [aGy word hw]
  refine ⟨_,rfl,t,_,1,_,rfl,rfl,SqT.of ht2,r1,?_⟩
  refine ⟨aH (by show 3≤1000000;decide),fun q hq=>?_⟩
  exact k q _ (sd.trans (aU.new hq)) aF
def aD8 (ds:List PyData):Prop:=∀ d∈ds,i9 d=true∧OkD 5000 1 d∧d.hasDict=false
def rH (f h:Str) (a i:Int):PyData:=.tuple [.str f,.str h,.int a,.int i]
theorem aAp {f h:Str}{a i:Int} (hf:dE f=true) (hh:dE h=true) (a1:1≤a) (a2:a≤1000000) (i1:0≤i) (i2:i≤10000000):i9 (rH f h a i)=true∧OkD 5000 1 (rH f h a i)∧(rH f h a i).hasDict=false:=by
 refine ⟨?_,?_,rfl⟩
 ·show (dE f && dE h && decide (1≤a∧a≤1000000) && decide (0≤i∧i≤10000000))=true
  rw [hf,hh,decide_eq_true ⟨a1,a2⟩,decide_eq_true ⟨i1,i2⟩]
  rfl
 ·have b:(10000000:Int) < 10 ^ 60:=by decide
  refine (OkD.tuple (n:=4) (b:=102) (k:=0) (fun d hd=>?_) (by show 4≤4;decide)).mono (by decide) (by decide)
  simp only [List.mem_cons,List.not_mem_nil,or_false] at hd
  rcases hd with rfl | rfl | rfl | rfl
  ·exact OkD.name hf
  ·exact OkD.name hh
  ·exact OkD.int (by omega) (by omega)
  ·exact OkD.int (by omega) (by omega)
inductive vR (vs:List V) (H:Hp) (Q:VK) (u3_:XK):Prop
 | mk (p c:Addr) (ns:List Int) (a:Int) (lf lh:Addr) (ws hs:List Str) (q0:vs=[.ref p,.ref lf,.ref lh]) (q1:cV H p c ns a) (q2:a≤800000) (q3:H lf=some (.lst (ws.map V.str))) (q4:(∀ w∈ws,dE w=true)) (q5:ws.length≤44) (q6:H lh=some (.lst (hs.map V.str))) (q7:(∀ w∈hs,dE w=true)) (q8:1≤hs.length) (q9:hs.length≤44) (q10:∀ t xs ds a' H',H' t=some (.tup xs)→cW false H' xs ds→aD8 ds→ds.map yM=ws→a≤a'→a'≤a + 400→cV H' p c ns a'→aY p H H'→Q (.ref t) H'):vR vs H Q u3_
def aBj:Sp:=fun vs H Q u3_=>vR vs H Q u3_
theorem rJ:cA ["_law_pen_here","_law_fields","_law_houses","_law_found","_law_field","_law_house"] ["_law_pen_here","_law_fields","_law_houses"] (aM pS):=⟨rfl,rfl,rfl,by decide,rfl,by decide,by decide⟩
theorem aD9 {f fT fN:Addr}{fd fdT fdN:FuncData} (F:Fun K "_law_laying" "_law_laying" pS f fd) (hlen:mg "len"=none) (htup:mg "tuple"=none)
  (GT:cC P w K mg base CX0 1 fT fdT ["_law_pen_here","_law_many"] iC) (mT:mg "_law_take"=some (.ref fT)) (kT:PySem.W.keepIn K (.ref fT)=true) (bT:cQ K fdT ["_law_pen_here","_law_many"] [])
  (GN:cC P w K mg base CX0 2 fN fdN ["_law_pen_here","_law_bottom","_law_most"] aD1) (mN:mg "_law_number"=some (.ref fN)) (kN:PySem.W.keepIn K (.ref fN)=true) (bN:cQ K fdN ["_law_pen_here","_law_bottom","_law_most"] []):
  cC P w K mg base CX0 3 f fd ["_law_pen_here","_law_fields","_law_houses"] aBj:=by
 refine F.ok rJ (fun vs H Q E h=>?_) (fun cdv A outer s H vs Q E hr h=>?_)
 ·obtain ⟨p,c,ns,a,lf,lh,ws,hs,rfl,_⟩:=h
  rfl
 ·obtain ⟨p,c,ns,a,lf,lh,ws,hs,rfl,hp,ha,hlf,hw,hwl,hlh,hh,hl1,hl2,k⟩:=h
  have hr1:dF 1 _:=hr.mono (by decide)
  refine ⟨_,aA (aW (i:=3) rJ.nd rfl (Or.inl rfl) (dA aB))
   (aA (f7 PassesOwn.never rfl (nY (pv 1)) (bG (i:=4) rJ.nd rfl (Or.inl rfl))
    (aA (aW (i:=5) rJ.nd rfl (Or.inl rfl) (aX cF (pv 2) (aS GT hr1 rfl mT kT bT .nil bY (aE (pv 0) (aE (bF cG (by rfl) hlen PySem.boot_len (aE (pv 2) aB)) aB))) (fun _ _=>rfl)))
    (aQ (dJ (fF PySem.F.plainAttrs_list PySem.F.slot_list_append PySem.F.type_list_append dG (pv 3) (aE (c0 (aE (pv 4) (aE (pv 5) (aE (aS GN hr rfl mN kN bN .nil bY (aE (pv 0) (aE aG (aE (aZ jN aG aG) aB)))) (aE (aS GN hr rfl mN kN bN .nil bY (aE (pv 0) (aE aG (aE (aZ jN aG aG) aB)))) aB))))) aB))))))
   (aQ (bE (fJ eY (by rfl) htup (by kernel_rfl) (aE (pv 3) aB))))),?_⟩
  have cp:∀ j:Int,0≤j→j≤1000000→aFY 10 j:=fun j h1 h2=>⟨h1,h2,by decide⟩
  have p6:((10:Int) ^ Int.toNat 6)=1000000:=by decide
  have p7:((10:Int) ^ Int.toNat 7)=10000000:=by decide
  have e9:(10:Int) ^ 9=1000000000:=by decide
  refine ⟨Nat.zero_le _,fun L hL=>?_⟩
  have S0:=aU.new (o:=.lst []) hL
  have nLp:L≠p:=by
   obtain ⟨l,_,z⟩:=hp.ob
   exact (aO z hL).symm
  have nLc:L≠c:=(aO hp.ce hL).symm
  have nfL:lf≠L:=aO hlf hL
  have nhL:lh≠L:=aO hlh hL
  refine ⟨_,rfl,lf,rfl,⟨_,SqL.of (S0 _ _ hlf)⟩,rQ (K:=K) (xs:=ws.map V.str) (fun i σ H'=>∃ (o4 o5:Option V) (a':Int) (xs:List V) (ds:List PyData),σ=[some (.ref p),some (.ref lf),some (.ref lh),some (.ref L),o4,o5]∧H' L=some (.lst xs)∧cW false H' xs ds∧aD8 ds∧ds.map yM=ws.take i∧cV H' p c ns a'∧a≤a'∧a'≤a + 8 * i∧aY p H H'∧H' lf=some (.lst (ws.map V.str))∧H' lh=some (.lst (hs.map V.str)))
   ⟨none,none,a,[],[],rfl,aF,.nil,(fun d hd=>by simp at hd),by simp,hp.same S0,by omega,by simp,aU.but S0,S0 _ _ hlf,S0 _ _ hlh⟩ (fun i σ H' _ h=>?_) ?_ ?_⟩
  ·obtain ⟨_,_,_,_,_,_,_,_,_,_,_,_,_,_,h,_⟩:=h
   exact SqL.of h
  ·rintro i x σ H1 hx ⟨o4,o5,a1,xs,ds,rfl,hLx,hrd,hfl,hhd,hp1,la1,ua1,kp1,hlf1,hlh1⟩
   have hi:i < ws.length:=by
    have:=(List.getElem?_eq_some_iff.mp hx).1
    simpa using this
   obtain ⟨fn,hfn,rfl⟩:∃ fn,ws[i]?=some fn∧x=V.str fn:=by
    rw [List.getElem?_map] at hx
    cases e:ws[i]? with
    | none=>rw [e] at hx;cases hx
    | some z=>rw [e] at hx;exact ⟨z,rfl,(Option.some.inj hx).symm⟩
   dsimp only [cY]
   refine ⟨_,rfl,_,rfl,_,rfl,lh,_,rfl,.inl (SqL.of hlh1),p,c,ns,a1,_,rfl,hp1,by omega,by rw [List.length_map];omega,by rw [List.length_map];omega,fun r1 a2 H2 r10 r11 l2 u2 hp2 kp2=>?_⟩
   have hlh2:=bU hlh1 hp1 kp2
   obtain ⟨v,hv,hat⟩:=g8 (xs:=hs.map V.str) (i:=r1) r10 r11
   obtain ⟨hn,hhn,rfl⟩:=List.mem_map.mp hv
   refine ⟨lh,_,r1,_,rfl,rfl,SqL.of hlh2,hat,?_⟩
   have hL2:=bU hLx hp1 kp2
   refine ⟨_,rfl,.inl ⟨rfl,_,SqL.of hL2⟩,_,rfl,_,rfl,_,rfl,_,_,rfl,rfl,cp _ (by decide) (by decide),p,c,ns,a2,1,1000000,(by show [V.ref p,V.int 1,V.int ((10:Int) ^ Int.toNat 6)] ++ []=_;rw [p6];rfl),hp2,by omega,by decide,by decide,by omega,fun n1 a3 H3 n10 n11 l3 u3 hp3 kp3=>?_⟩
   refine ⟨_,rfl,_,_,rfl,rfl,cp _ (by decide) (by decide),p,c,ns,a3,0,10000000,(by show [V.ref p,V.int 0,V.int ((10:Int) ^ Int.toNat 7)] ++ []=_;rw [p7];rfl),hp3,by omega,by decide,by decide,by omega,fun n2 a4 H4 n20 n21 l4 u4 hp4 kp4=>?_⟩
   refine ⟨aH (by show 4≤1000000;decide),fun q hq=>?_⟩
   have sq:=aU.new (o:=.tup [V.str fn,.str hn,.int n1,.int n2]) hq
   have kall:=((kp2.trans kp3).trans kp4).same sq
   have hL5:=bU hLx hp1 kall
   have nqL:q≠L:=(aO (bU hLx hp1 ((kp2.trans kp3).trans kp4)) hq).symm
   have hfk:=aAp (hw fn (List.mem_of_getElem? hfn)) (hh hn hhn) n10 n11 n20 n21
   have hfl':xs.length≤44:=by
    have e1:=hrd.len
    have e2:=congrArg List.length hhd
    rw [List.length_map,List.length_take] at e2
    omega
   refine ⟨L,xs,_,rfl,rfl,hL5,gG (by omega),?_⟩
   have hrd5:=wV hrd hp1 kall
   have kL:∀ (b:Addr) (o:HO),upd H4 q (.tup [V.str fn,.str hn,.int n1,.int n2]) b=some o→b≠L→upd (upd H4 q (.tup [V.str fn,.str hn,.int n1,.int n2])) L (.lst (xs ++ [V.ref q])) b=some o:=fun b o e ne=>by rw [aJ ne];exact e
   refine ⟨_,_,a4,xs ++ [V.ref q],ds ++ [rH fn hn n1 n2],rfl,aF,?_,?_,?_,?_,by omega,by omega,?_,?_,?_⟩
   ·refine cW.app (hrd5.keepF fun b o e _ hnl=>kL b o e fun z=>?_) (.cons (.tup (kL _ _ aF nqL) (by show 4≤1000;decide) (.cons (.str _ (by have:=j7 (hw fn (List.mem_of_getElem? hfn));omega)) (.cons (.str _ (by have:=j7 (hh hn hhn);omega)) (.cons (.int _) (.cons (.int _) .nil))))) .nil)
    rw [z,hL5] at e
    exact hnl _ (Option.some.inj e).symm
   ·intro d hd
    rcases List.mem_append.mp hd with z | z
    ·exact hfl d z
    ·rw [List.mem_singleton.mp z];exact hfk
   ·rw [List.map_append,hhd,List.take_add_one,hfn]
    rfl
   ·obtain ⟨⟨l,hl,e⟩,ce,ge,sm⟩:=hp4.same sq
    exact ⟨⟨l,hl,kL _ _ e nLp.symm⟩,kL _ _ ce nLc.symm,ge,sm⟩
   ·intro b o e ne
    exact kL b o ((kp1.trans kall) b o e ne) (aO e hL)
   ·exact kL _ _ (bU hlf1 hp1 kall) nfL
   ·exact kL _ _ (bU hlh1 hp1 kall) nhL
  ·rintro σ H1 ⟨o4,o5,a1,xs,ds,rfl,hLx,hrd,hfl,hhd,hp1,la1,ua1,kp1,hlf1,hlh1⟩
   rw [List.length_map] at ua1 hhd
   rw [List.take_length] at hhd
   refine ⟨_,rfl,L,xs,rfl,.inl ⟨SqL.of hLx,fun t ht=>?_⟩⟩
   have S1:=aU.new (o:=.tup xs) ht
   exact k t xs ds a1 _ aF (hrd.same S1) hfl hhd la1 (by omega) (hp1.same S1) (kp1.same S1)
structure cE where
 word:Str
 name:Str
 day:Int
 ds:List PyData
def cE.d (r:cE):PyData:=p4 r.word r.name r.day r.ds
structure cE.Ok (r:cE) (fs:List Str):Prop where
 rs:j8 r.word r.ds
 nm:dE r.name=true
 d0:0≤r.day
 d1:r.day≤9999
 fi:FIn r.word r.ds fs
theorem cE.Ok.at {r:cE}{fs:List Str} (h:r.Ok fs) {m:Bool}{H:Hp}{x:V} (rd:RdV m H x r.d):aFF H x r.word r.name r.day:=by
 unfold cE.d p4 at rd
 cases rd with
 | @tup a xs _ e hl q=>
  cases q with
  | cons q1 q=>
   cases q with
   | cons q2 q=>
    cases q with
    | cons q3 q=>
     cases q1
     cases q2
     cases q3
     exact ⟨a,_,rfl,e,h.rs.word⟩
structure iD (H:Hp) (xs:List V) (us:List cE) (fs:List Str):Prop where
 len:xs.length=us.length
 at':∀ (i:Nat) (x:V),xs[i]?=some x→∃ u,us[i]?=some u∧RdV false H x u.d∧u.Ok fs
inductive aBk (H:Hp) (y:V) (k:L2.K3):Prop
 | mk (t:_) (b8:_) (w:_) (n:_) (d:_) (q0:y=.ref t) (q1:H t=some (.tup (.str w :: .str n :: .int d :: b8))) (q2:k=(d,rk w,n)):aBk H y k
def aHq (H:Hp) (y:V) (k:L2.K3):Prop:=aBk H y k
theorem aFg {H1:Hp}{xs:List V}{us:List cE}{fs:List Str} (hR:iD H1 xs us fs):∀ y∈xs,∀ (H':Hp) (Q:VK),aU H1 H'→(∀ t a b c H'',aU H' H''→H'' t=some (.tup [.int a,.int b,.str c])→aHq H1 y (a,b,c)→Q (.ref t) H'')→wW [y] H' Q E0:=fun y hy H' Q S h=>by
 obtain ⟨i,hi⟩:=List.getElem?_of_mem hy
 obtain ⟨u,_,r,ok⟩:=hR.at' i y hi
 have hat:=ok.at r
 obtain ⟨t,b8,rfl,e,hw⟩:=hat
 exact ⟨_,u.word,u.name,u.day,rfl,⟨t,b8,rfl,S _ _ e,hw⟩,fun q H2 S2 e2=>h q _ _ _ H2 S2 e2 ⟨t,b8,_,_,_,rfl,e,rfl⟩⟩
inductive aBl (vs:List V) (H:Hp) (Q:VK) (u3_:XK):Prop
 | mk (p c:Addr) (ns:List Int) (a:Int) (name:Str) (day:Int) (tS lf lp lh:Addr) (fs ps hs:List Str) (q0:vs=[.ref p,.str name,.int day,.ref tS]) (q1:cV H p c ns a) (q2:a≤600000) (q3:H tS=some (.tup [.ref lf,.ref lp,.ref lh])) (q4:S3 H lf lp lh fs ps hs) (q5:dE name=true) (q6:0≤day) (q7:day≤9999) (q8:∀ (x:V) (r:cE) (a':Int) (H':Hp),RdV false H' x r.d→r.name=name→r.Ok fs→a≤a'→a'≤a + 90→cV H' p c ns a'→aY p H H'→Q x H'):aBl vs H Q u3_
def aFG:Sp:=fun vs H Q u3_=>aBl vs H Q u3_
theorem aFH:cA ["_law_pen_here","_law_name","_law_day","_law_sorts_here","_law_terms"] ["_law_pen_here","_law_name","_law_day","_law_sorts_here"] (aM aCe):=⟨rfl,rfl,rfl,by decide,rfl,by decide,by decide⟩
theorem aGz {f fT fR:Addr}{fd fdT fdR:FuncData} (F:Fun K "_law_row" "_law_row" aCe f fd)
  (GT:cC P w K mg base CX0 1 fT fdT ["_law_pen_here","_law_many"] iC) (mT:mg "_law_take"=some (.ref fT)) (kT:PySem.W.keepIn K (.ref fT)=true) (bT:cQ K fdT ["_law_pen_here","_law_many"] [])
  (GR:cC P w K mg base CX0 3 fR fdR ["_law_pen_here","_law_word","_law_name","_law_day","_law_sorts_here"] aBg) (mR:mg "_law_row_of"=some (.ref fR)) (kR:PySem.W.keepIn K (.ref fR)=true) (bR:cQ K fdR ["_law_pen_here","_law_word","_law_name","_law_day","_law_sorts_here"] []):
  cC P w K mg base CX0 4 f fd ["_law_pen_here","_law_name","_law_day","_law_sorts_here"] aFG:=by
 refine F.ok aFH (fun vs H Q E h=>?_) (fun cdv A outer s H vs Q E hr h=>?_)
 ·obtain ⟨p,c,ns,a,name,day,tS,lf,lp,lh,fs,ps,hs,rfl,_⟩:=h
  rfl
 ·obtain ⟨p,c,ns,a,name,day,tS,lf,lp,lh,fs,ps,hs,rfl,hp,ha,htS,h3,hnm,d0,d1,k⟩:=h
  have hr1:dF 1 _:=hr.mono (by decide)
  refine ⟨_,aA (aW (i:=4) aFH.nd rfl (Or.inl rfl) (dA (aE aV (aE aV (aE aV (aE aV (aE aV (aE aV (aE aV (aE aV (aE aV (aE aV aB))))))))))))
   (aQ (bE (aS GR hr rfl mR kR bR .nil bY (aE (pv 0) (aE (aX cF (pv 4) (aS GT hr1 rfl mT kT bT .nil bY (aE (pv 0) (aE aG aB))) (fun _ _=>rfl)) (aE (pv 1) (aE (pv 2) (aE (pv 3) aB)))))))),?_⟩
  refine ⟨aH (by show 10≤1000000;decide),fun L hL=>?_⟩
  have sL:=aU.new (o:=.lst [V.str "part",.str "join",.str "forfeit",.str "measure",.str "mend",.str "alone",.str "breach",.str "view",.str "part",.str "join"]) hL
  refine ⟨_,rfl,_,rfl,_,rfl,p,c,ns,a,_,rfl,hp.same sL,by omega,by decide,by decide,fun r1 a1 H1 r10 r11 la1 ua1 hp1 kp1=>?_⟩
  obtain ⟨v,hv,hat⟩:=g8 (xs:=[V.str "part",.str "join",.str "forfeit",.str "measure",.str "mend",.str "alone",.str "breach",.str "view",.str "part",.str "join"]) (i:=r1) r10 (by show r1 < 10;omega)
  obtain ⟨word,rfl,hw⟩:∃ word:Str,v=.str word∧word∈iO:=by
   simp only [List.mem_cons,List.not_mem_nil,or_false] at hv
   rcases hv with rfl | rfl | rfl | rfl | rfl | rfl | rfl | rfl | rfl | rfl <;> exact ⟨_,rfl,by decide⟩
  have k1:aY p H H1:=(aU.but sL).trans kp1
  refine ⟨L,_,r1,_,rfl,rfl,SqL.of (bU aF (hp.same sL) kp1),hat,?_⟩
  refine ⟨_,rfl,_,rfl,_,rfl,p,c,ns,a1,word,name,day,tS,lf,lp,lh,fs,ps,hs,rfl,hp1,by omega,oS htS hp k1,h3.but hp k1,hw,hnm,fun t ds b8 a2 H2 ht hrest hRS hFI la2 ua2 hp2 kp2=>?_⟩
  have hl4:=hrest.len
  have hd4:=hRS.len
  exact k (.ref t) ⟨word,name,day,ds⟩ a2 H2 (.tup ht (by simp only [List.length_cons];omega) (.cons (.str word (tR hw)) (.cons (eM hnm) (.cons (.int day) hrest)))) rfl ⟨hRS,hnm,d0,d1,hFI⟩ (by omega) (by omega) hp2 (k1.trans kp2)
end
end K36
namespace K36
open PySem L2
abbrev Pc:=Str×Int×Int
def pcT (p:Pc):HO:=.tup [.str p.1,.int p.2.1,.int p.2.2]
def fE (H:Hp) (xs:List V) (ps:List Pc):Prop:=Paired (fun (x:V) (p:Pc)=>∃ q,x=.ref q∧H q=some (pcT p)) xs ps
def gI (H H':Hp):Prop:=∀ q xs,H q=some (.tup xs)→H' q=some (.tup xs)
theorem dO {H H':Hp} (s:aU H H'):gI H H':=fun q xs e=>s _ _ e
theorem fE.on {H H':Hp}{xs:List V}{ps:List Pc} (h:fE H xs ps) (t:gI H H'):fE H' xs ps:=Paired.mapP h fun x p ⟨q,e,hq⟩=>⟨q,e,t _ _ hq⟩
theorem fE.same {H H':Hp}{xs:List V}{ps:List Pc} (h:fE H xs ps) (s:aU H H'):fE H' xs ps:=h.on fun q xs e=>s _ _ e
theorem Paired.snoc {α β:Type}{R:α→β→Prop}{a:α}{b:β} (r:R a b):∀ {as:List α}{bs:List β},Paired R as bs→Paired R (as ++ [a]) (bs ++ [b])
 | _,_,.nil=>.cons r .nil
 | _,_,.cons q t=>.cons q (Paired.snoc r t)
theorem Paired.app {α β:Type}{R:α→β→Prop}:∀ {as as':List α}{bs bs':List β},Paired R as bs→Paired R as' bs'→Paired R (as ++ as') (bs ++ bs')
 | _,_,_,_,.nil,s=>s
 | _,_,_,_,.cons q t,s=>.cons q (Paired.app t s)
theorem fE.at {H:Hp}{xs:List V}{ps:List Pc} (h:fE H xs ps) {i:Nat}{x:V} (e:xs[i]?=some x):∃ p q,ps[i]?=some p∧x=.ref q∧H q=some (pcT p):=by
 have hl:=Paired.length h
 obtain ⟨hi,_⟩:=List.getElem?_eq_some_iff.mp e
 obtain ⟨q,e1,e2⟩:=Paired.at h e (List.getElem?_eq_getElem (show i < ps.length by omega))
 exact ⟨_,q,List.getElem?_eq_getElem (by omega),e1,e2⟩
def dU (p:Pc):Int:=p.2.2 - p.2.1
def acr (ps:List Pc):Int:=(ps.map dU).sum
theorem tU (p:Pc) (ps:List Pc):acr (p :: ps)=dU p + acr ps:=by simp [acr]
theorem lA (ps qs:List Pc):acr (ps ++ qs)=acr ps + acr qs:=by simp [acr]
structure gH (ws:List Str) (ps:List Pc):Prop where
 ok:∀ p∈ps,p.1∈ws∧p.2.1 < p.2.2
theorem gH.app {ws:List Str}{ps qs:List Pc} (a:gH ws ps) (b:gH ws qs):gH ws (ps ++ qs):=⟨fun p hp=>(List.mem_append.mp hp).elim (a.ok p) (b.ok p)⟩
theorem gH.len {ws:List Str}:∀ {ps:List Pc},gH ws ps→(ps.length:Int)≤acr ps
 | [],_=>by simp [acr]
 | p :: ps,h=>by
  have h1:=gH.len (ps:=ps) ⟨fun q hq=>h.ok q (List.mem_cons_of_mem _ hq)⟩
  have h2:=(h.ok p List.mem_cons_self).2
  rw [tU,List.length_cons]
  unfold dU
  omega
def oU (f:Str) (s e:Int):List Pc:=if s < e then [(f,s,e)] else []
def iP (p:Pc) (lo hi:Int):List Pc:=oU p.1 (if p.2.1 + lo > p.2.1 then p.2.1 + lo else p.2.1) (if p.2.1 + hi < p.2.2 then p.2.1 + hi else p.2.2)
def mU:List Pc→Int→Int→List Pc
 | [],_,_=>[]
 | p :: r,lo,hi=>iP p lo hi ++ mU r (lo - dU p) (hi - dU p)
theorem vS (p:Pc):∀ (ps:List Pc) (lo hi:Int),mU (ps ++ [p]) lo hi=mU ps lo hi ++ iP p (lo - acr ps) (hi - acr ps)
 | [],lo,hi=>by simp [mU,acr]
 | q :: ps,lo,hi=>by
  show iP q lo hi ++ mU (ps ++ [p]) (lo - dU q) (hi - dU q)=(iP q lo hi ++ mU ps (lo - dU q) (hi - dU q)) ++ _
  rw [vS p ps,List.append_assoc,tU,Int.sub_sub,Int.sub_sub]
def bef:List Pc→Int→Int
 | [],_=>0
 | p :: r,x=>(if x≤0 then 0 else if x≤dU p then x else dU p) + bef r (x - dU p)
theorem aBm {ws:List Str}:∀ {ps:List Pc}{lo hi:Int},gH ws ps→lo≤hi→acr (mU ps lo hi)=bef ps hi - bef ps lo
 | [],lo,hi,_,_=>by simp [mU,acr,bef]
 | p :: r,lo,hi,h,hl=>by
  have ih:=aBm (ps:=r) (lo:=lo - dU p) (hi:=hi - dU p) ⟨fun q hq=>h.ok q (List.mem_cons_of_mem _ hq)⟩ (by omega)
  have h2:=(h.ok p List.mem_cons_self).2
  show acr (iP p lo hi ++ mU r (lo - dU p) (hi - dU p))=((if hi≤0 then 0 else if hi≤dU p then hi else dU p) + bef r (hi - dU p)) - ((if lo≤0 then 0 else if lo≤dU p then lo else dU p) + bef r (lo - dU p))
  rw [lA,ih]
  have:acr (iP p lo hi)=(if hi≤0 then 0 else if hi≤dU p then hi else dU p) - (if lo≤0 then 0 else if lo≤dU p then lo else dU p):=by
   unfold iP oU dU at *
   repeat' split
   all_goals simp only [acr,List.map_cons,List.map_nil,List.sum_cons,List.sum_nil,dU]
   all_goals omega
  omega
theorem aAq {ws:List Str}{f:Str}{s e:Int} (hf:f∈ws):∀ q∈oU f s e,q.1∈ws∧q.2.1 < q.2.2:=fun q hq=>by
 unfold oU at hq
 split at hq
 ·rw [List.mem_singleton.mp hq]
  exact ⟨hf,by assumption⟩
 ·simp at hq
theorem aCj (f:Str) (s e:Int):(oU f s e).length≤1:=by
 unfold oU
 split <;> simp
theorem aCk (p:Pc) (lo hi a:Int):iP p (lo - a) (hi - a)=oU p.1 (if p.2.1 + lo - a > p.2.1 then p.2.1 + lo - a else p.2.1) (if p.2.1 + hi - a < p.2.2 then p.2.1 + hi - a else p.2.2):=by
 unfold iP
 rw [Int.add_sub_assoc,Int.add_sub_assoc]
theorem yP {ws:List Str}:∀ {ps:List Pc}{lo hi:Int},gH ws ps→gH ws (mU ps lo hi)
 | [],_,_,_=>⟨fun p hp=>by simp [mU] at hp⟩
 | p :: r,lo,hi,h=>by
  refine gH.app ⟨fun q hq=>?_⟩ (yP ⟨fun q hq=>h.ok q (List.mem_cons_of_mem _ hq)⟩)
  unfold iP at hq
  exact aAq (h.ok p List.mem_cons_self).1 q hq
theorem aFI:∀ (ps:List Pc) (x:Int),(∀ p∈ps,p.2.1 < p.2.2)→x≤0→bef ps x=0
 | [],_,_,_=>rfl
 | p :: r,x,h,hx=>by
  have h2:=h p List.mem_cons_self
  have ih:=aFI r (x - dU p) (fun q hq=>h q (List.mem_cons_of_mem _ hq)) (by unfold dU;omega)
  show (if x≤0 then 0 else _) + bef r (x - dU p)=0
  rw [ih,if_pos hx]
  rfl
theorem aEa:∀ (ps:List Pc) (x:Int),(∀ p∈ps,p.2.1 < p.2.2)→bef ps x≤acr ps
 | [],_,_=>by simp [bef,acr]
 | p :: r,x,h=>by
  have h2:=h p List.mem_cons_self
  have ih:=aEa r (x - dU p) fun q hq=>h q (List.mem_cons_of_mem _ hq)
  rw [tU]
  show (if x≤0 then 0 else if x≤dU p then x else dU p) + bef r (x - dU p)≤_
  have:(if x≤0 then 0 else if x≤dU p then x else dU p)≤dU p:=by
   unfold dU
   repeat' split
   all_goals omega
  omega
theorem yQ:∀ (ps:List Pc) (lo hi:Int),(mU ps lo hi).length≤ps.length
 | [],_,_=>Nat.le_refl _
 | p :: r,lo,hi=>by
  have:=yQ r (lo - dU p) (hi - dU p)
  have h2:(iP p lo hi).length≤1:=aCj _ _ _
  show (iP p lo hi ++ mU r (lo - dU p) (hi - dU p)).length≤_
  rw [List.length_append,List.length_cons]
  omega
inductive vT (vs:List V) (H:Hp) (Q:VK) (u3_:XK):Prop
 | mk (t:Addr) (xs:List V) (ps:List Pc) (q0:vs=[.ref t]) (q1:H t=some (.tup xs)) (q2:fE H xs ps) (q3:xs.length≤sizeLine) (q4:∀ H',aU H H'→Q (.int (acr ps)) H'):vT vs H Q u3_
def aBn:Sp:=fun vs H Q u3_=>vT vs H Q u3_
inductive aBo (vs:List V) (H:Hp) (Q:VK) (u3_:XK):Prop
 | mk (t:Addr) (xs:List V) (ps:List Pc) (lo hi:Int) (q0:vs=[.ref t,.int lo,.int hi]) (q1:H t=some (.tup xs)) (q2:fE H xs ps) (q3:xs.length≤sizeLine) (q4:∀ (t':Addr) (ys:List V) (H':Hp),aU H H'→H' t'=some (.tup ys)→fE H' ys (mU ps lo hi)→Q (.ref t') H'):aBo vs H Q u3_
def aFJ:Sp:=fun vs H Q u3_=>aBo vs H Q u3_
section
variable {P:Program}{w:World}{K:PySem.W.Frag}{mg:Str→Option Value}{base:Heap}
theorem aFh:cA ["pieces"] ["pieces"] (aM nJ):=⟨rfl,rfl,rfl,by decide,rfl,by decide,by decide⟩
theorem aEb {f:Addr}{fd:FuncData} (F:Fun K "acres_in" "acres_in" nJ f fd) (hsum:mg "sum"=none):cC P w K mg base CX0 1 f fd ["pieces"] aBn:=by
 refine F.ok aFh (fun vs H Q E h=>?_) (fun cdv A outer s H vs Q E hr h=>?_)
 ·obtain ⟨t,xs,ps,rfl,_⟩:=h
  rfl
 ·obtain ⟨t,xs,ps,rfl,ht,hps,hz,k⟩:=h
  have nd:(["field","low","high"]:List Str).Nodup:=by decide
  refine ⟨_,aQ (bE (bF (xY rfl) (by rfl) hsum PyProof.Rows.boot_sum (aE (jF (N:=["field","low","high"]) (src:=[none,none,none]) (osc:=aM nJ) (oN:=["pieces"]) (g:=aBN K 3 (iE (cY 0) (iE (cY 1) (iE (cY 2) aBM)))) ⟨by rfl,by decide,by decide,by decide,rfl,by rfl⟩ (gY (pv 0))
   fun cl s H fp pins C=>⟨iY rfl (cH (bG (i:=0) nd rfl (Or.inl rfl)) (cH (bG (i:=1) nd rfl (Or.inl rfl)) (cH (bG (i:=2) nd rfl (Or.inl rfl)) gL))),gP,aZ iZ (pv 2) (pv 1)⟩) aB))),?_⟩
  have hl:=Paired.length hps
  refine ⟨_,rfl,t,rfl,⟨_,SqT.of ht⟩,?_⟩
  refine jU (K:=K) (xs:=xs) (fun i ys σ' H'=>∃ (o1 o2 o3:Option V),σ'=[o1,o2,o3]∧aU H H'∧ys=((ps.take i).map dU).map V.int) ⟨none,none,none,rfl,aU.refl H,by simp⟩
   hz (fun i ys σ H' p=>by obtain ⟨_,_,_,_,_,rfl⟩:=p;simp;omega) (fun i ys σ H' p=>by obtain ⟨_,_,_,_,S,_⟩:=p;exact SqT.of (S _ _ ht)) ?_ ?_
  ·rintro i v ys σ' H1 hv ⟨o1,o2,o3,rfl,S,rfl⟩
   obtain ⟨p,q,hp,rfl,hq⟩:=hps.at hv
   refine ⟨q,_,rfl,SqT.of (S _ _ hq),rfl,_,_,rfl,_,_,rfl,_,_,rfl,rfl,?_⟩
   refine fZ ?_
   refine ⟨_,rfl,_,rfl,_,_,rfl,rfl,_,_,_,rfl,S,?_⟩
   rw [List.take_add_one,hp]
   simp [dU]
  ·rintro ys σ' H1 ⟨o1,o2,o3,rfl,S,rfl⟩ D hD
   rw [hl,List.take_length]
   refine ⟨D,ps.map dU,rfl,SqL.of aF,?_⟩
   exact k _ (S.trans (aU.new hD))
theorem oV:cA ["pieces","low","high","told","ahead","field","first","last","start","end"] ["pieces","low","high"] (aM aCc):=⟨rfl,rfl,rfl,by decide,rfl,by decide,by decide⟩
theorem aGA {f:Addr}{fd:FuncData} (F:Fun K "cut" "cut" aCc f fd) (hmax:mg "max"=none) (hmin:mg "min"=none) (htup:mg "tuple"=none):cC P w K mg base CX0 1 f fd ["pieces","low","high"] aFJ:=by
 refine F.ok oV (fun vs H Q E h=>?_) (fun cdv A outer s H vs Q E hr h=>?_)
 ·obtain ⟨t,xs,ps,lo,hi,rfl,_⟩:=h
  rfl
 ·obtain ⟨t,xs,ps,lo,hi,rfl,ht,hps,hz,k⟩:=h
  refine ⟨_,aA (aW (i:=3) oV.nd rfl (Or.inl rfl) (dA aB))
   (aA (aW (i:=4) oV.nd rfl (Or.inl rfl) aG)
   (aA (f7 PassesOwn.never rfl (gY (pv 0)) (g:=aBN K 3 (iE (cY 5) (iE (cY 6) (iE (cY 7) aBM)))) (iY rfl (cH (bG (i:=5) oV.nd rfl (Or.inl rfl)) (cH (bG (i:=6) oV.nd rfl (Or.inl rfl)) (cH (bG (i:=7) oV.nd rfl (Or.inl rfl)) gL))))
    (aA (aW (i:=8) oV.nd rfl (Or.inl rfl) (bF (aBP rfl) (by rfl) hmax (by kernel_rfl) (aE (pv 6) (aE (aZ iZ (aZ c8 (pv 6) (pv 1)) (pv 4)) aB))))
    (aA (aW (i:=9) oV.nd rfl (Or.inl rfl) (bF (pB rfl) (by rfl) hmin (by kernel_rfl) (aE (pv 7) (aE (aZ iZ (aZ c8 (pv 6) (pv 2)) (pv 4)) aB))))
    (aA (cU (bV aAH (pv 8) (pv 9) (cM _)) (aQ (dJ (fF PySem.F.plainAttrs_list PySem.F.slot_list_append PySem.F.type_list_append dG (pv 3) (aE (c0 (aE (pv 5) (aE (pv 8) (aE (pv 9) aB)))) aB)))) bH)
    (aQ (aCF (i:=4) oV.nd rfl (Or.inl rfl) (aZ iZ (pv 7) (pv 6)) aCG))))))
   (aQ (bE (fJ eY (by rfl) htup (by kernel_rfl) (aE (pv 3) aB)))))),?_⟩
  have hl:=Paired.length hps
  refine ⟨Nat.zero_le _,fun L hL=>?_⟩
  have sL:=aU.new (o:=.lst []) hL
  refine ⟨_,rfl,t,rfl,⟨_,SqT.of (sL _ _ ht)⟩,?_⟩
  refine kF (K:=K) (xs:=xs) (fun i σ H'=>∃ (o5 o6 o7 o8 o9:Option V) (ys:List V),σ=[some (.ref t),some (.int lo),some (.int hi),some (.ref L),some (.int (acr (ps.take i))),o5,o6,o7,o8,o9]∧aU H H'∧H' L=some (.lst ys)∧fE H' ys (mU (ps.take i) lo hi))
   ⟨none,none,none,none,none,[],rfl,sL,aF,.nil⟩ (fun i σ H' _ p=>by obtain ⟨_,_,_,_,_,_,_,S,_⟩:=p;exact SqT.of (S _ _ ht)) ?_ ?_
  ·rintro i v σ H1 hv ⟨o5,o6,o7,o8,o9,ys,rfl,S,hL1,hY⟩
   obtain ⟨p,q,hp,rfl,hq⟩:=hps.at hv
   refine ⟨q,_,rfl,SqT.of (S _ _ hq),rfl,_,_,rfl,_,_,rfl,_,_,rfl,rfl,?_⟩
   refine ⟨_,rfl,_,rfl,_,rfl,_,_,rfl,rfl,_,rfl,_,_,rfl,rfl,_,_,rfl,?_⟩
   refine ⟨_,rfl,_,rfl,_,rfl,_,_,rfl,rfl,_,rfl,_,_,rfl,rfl,_,_,rfl,?_⟩
   refine ⟨_,rfl,_,rfl,_,_,rfl,rfl,_,rfl,?_⟩
   have ea:acr (ps.take (i + 1))=acr (ps.take i) + (p.2.2 - p.2.1):=by
    rw [List.take_add_one,hp,lA]
    simp [acr,dU]
   have ec:=vS p (ps.take i) lo hi
   rw [aCk] at ec
   have et:ps.take (i + 1)=ps.take i ++ [p]:=by rw [List.take_add_one,hp];rfl
   rw [← et] at ec
   have hyl:=Paired.length hY
   have hcl:=yQ (ps.take i) lo hi
   have htl:=List.length_take_le i ps
   refine eG (fun g=>?_) fun g=>?_
   ·have g':=of_decide_eq_true g
    unfold oU at ec
    rw [if_pos g'] at ec
    refine ⟨_,rfl,.inl ⟨rfl,_,SqL.of hL1⟩,_,rfl,_,rfl,_,rfl,aH (by show 3≤1000000;decide),fun q2 hq2=>?_⟩
    have s2:=aU.new (o:=pcT (p.1,(if p.2.1 + lo - acr (ps.take i) > p.2.1 then p.2.1 + lo - acr (ps.take i) else p.2.1),(if p.2.1 + hi - acr (ps.take i) < p.2.2 then p.2.1 + hi - acr (ps.take i) else p.2.2))) hq2
    have hLn:L≠q2:=aO hL1 hq2
    refine ⟨L,ys,_,rfl,rfl,s2 _ _ hL1,?_,?_⟩
    ·obtain ⟨hi',_⟩:=List.getElem?_eq_some_iff.mp hp
     rw [List.length_take] at htl hcl
     omega
    ·refine ⟨_,rfl,_,rfl,_,rfl,_,_,rfl,rfl,_,_,rfl,rfl,?_⟩
     refine ⟨_,_,_,_,_,ys ++ [.ref q2],by rw [ea];rfl,fun b o e=>?_,aF,?_⟩
     ·rw [aJ (aO e hL)]
      exact s2 _ _ (S _ _ e)
     ·rw [ec]
      have hY2:=hY.on (H':=upd (upd H1 q2 _) L (.lst (ys ++ [.ref q2]))) fun b us e=>by
       rw [aJ (fun z=>by rw [z,hL1] at e;cases e)]
       exact s2 _ _ e
      exact Paired.snoc ⟨q2,rfl,by rw [aJ hLn.symm];exact aF⟩ hY2
   ·have g':¬ _:=fun z=>g (decide_eq_true z)
    unfold oU at ec
    rw [if_neg g',List.append_nil] at ec
    refine ⟨_,rfl,_,rfl,_,rfl,_,_,rfl,rfl,_,_,rfl,rfl,?_⟩
    exact ⟨_,_,_,_,_,ys,by rw [ea];rfl,S,hL1,by rw [ec];exact hY⟩
  ·rintro σ H1 ⟨o5,o6,o7,o8,o9,ys,rfl,S,hL1,hY⟩
   rw [hl,List.take_length] at hY
   refine ⟨_,rfl,L,ys,rfl,.inl ⟨SqL.of hL1,fun t' ht'=>?_⟩⟩
   have s2:=aU.new (o:=.tup ys) ht'
   exact k t' ys _ (S.trans s2) aF (hY.same s2)
end
end K36
namespace K36
open PySem L2
def iT:Pos:=⟨60,47,60,88⟩
def aHr:Str:=(("in_one":Str) ++ ".<locals>.") ++ "<lambda>"
abbrev Tb (T:Addr) (H:Hp):Prop:=dQ T iT aHr H
theorem eO {T:Addr}{H H':Hp} (s:dD T H H') (g:Tb T H):gI H H':=fun q xs e=>s _ _ (fun z=>by
 obtain ⟨ps,hT,_⟩:=g.ex
 rw [z,hT] at e
 cases e) e
theorem aEc {H:Hp}{xs ys:List V} (hp:ys.Perm xs):∀ {ps:List Pc},fE H xs ps→∃ qs,qs.Perm ps∧fE H ys qs:=by
 induction hp with
 | nil=>intro ps h;exact ⟨ps,.refl _,h⟩
 | cons a _ ih=>
  intro ps h
  cases h with
  | cons r t=>
   obtain ⟨qs,h1,h2⟩:=ih t
   exact ⟨_ :: qs,h1.cons _,.cons r h2⟩
 | swap a b l=>
  intro ps h
  cases h with
  | cons r t=>
   cases t with
   | cons r2 t2=>exact ⟨_ :: _ :: _,.swap _ _ _,.cons r2 (.cons r t2)⟩
 | trans _ _ ih1 ih2=>
  intro ps h
  obtain ⟨qs,h1,h2⟩:=ih2 h
  obtain ⟨rs,h3,h4⟩:=ih1 h2
  exact ⟨rs,h3.trans h1,h4⟩
theorem aEd {ps qs:List Pc} (h:qs.Perm ps):acr qs=acr ps:=by
 unfold acr
 induction h with
 | nil=>rfl
 | cons a _ ih=>simp [ih]
 | swap a b l=>simp;omega
 | trans _ _ h1 h2=>exact h1.trans h2
theorem gH.perm {ws:List Str}{ps qs:List Pc} (g:gH ws ps) (h:qs.Perm ps):gH ws qs:=⟨fun p hp=>g.ok p (h.mem_iff.mp hp)⟩
theorem qM {α β:Type}{R:α→β→Prop}{a:α}:∀ {as:List α}{bs:List β},Paired R (as ++ [a]) bs→∃ bs' b,bs=bs' ++ [b]∧Paired R as bs'∧R a b
 | [],_,h=>by
  cases h with
  | cons r t=>
   cases t
   exact ⟨[],_,rfl,.nil,r⟩
 | x :: as,_,h=>by
  cases h with
  | cons r t=>
   obtain ⟨bs',b,rfl,h1,h2⟩:=qM t
   exact ⟨_ :: bs',b,rfl,.cons r h1,h2⟩
theorem yR {α:Type} (l:List α):l=[]∨∃ r x,l=r ++ [x]:=by
 rcases List.eq_nil_or_concat l with h | ⟨r,x,h⟩
 ·exact .inl h
 ·exact .inr ⟨r,x,by rw [h,List.concat_eq_append]⟩
theorem aEe {T:Addr}{H H':Hp} (g:Tb T H) (k:∀ b o,H b=some o→¬ (∃ xs,H b=some (.lst xs))→H' b=some o):Tb T H':=by
 obtain ⟨ps,h1,h2,h3⟩:=g.ex
 refine ⟨ps,k _ _ h1 (fun ⟨xs,z⟩=>by rw [h1] at z;cases z),h2,?_⟩
 rcases h3 with h3 | ⟨c,h3,h4⟩
 ·exact .inl h3
 ·exact .inr ⟨c,h3,k _ _ h4 fun ⟨xs,z⟩=>by rw [h4] at z;cases z⟩
def qN (rks:List (Key×V)) (ws:List Str):Prop:=∀ w∈ws,∃ n:Int,dH rks (Sum.inr w)=some (.int n)
inductive vU (T:Addr) (vs:List V) (H:Hp) (Q:VK) (u3_:XK):Prop
 | mk (r l:Addr) (rks:List (Key×V)) (xs:List V) (ps:List Pc) (ws:List Str) (q0:vs=[.ref r,.ref l]) (q1:H r=some (.dK rks)) (q2:qN rks ws) (q3:H l=some (.lst xs)) (q4:fE H xs ps) (q5:gH ws ps) (q6:xs.length < sizeLine) (q7:Tb T H) (q8:∀ (t:Addr) (ys:List V) (qs:List Pc) (H':Hp),dD T H H'→Tb T H'→H' t=some (.tup ys)→fE H' ys qs→gH ws qs→acr qs=acr ps→Q (.ref t) H'):vU T vs H Q u3_
def aBp (T:Addr):Sp:=fun vs H Q u3_=>vU T vs H Q u3_
section
variable {P:Program}{w:World}{K:PySem.W.Frag}{mg:Str→Option Value}{base:Heap}
theorem aBq:cA ["ranks","pieces","told","field","low","high"] ["ranks","pieces"] (aM pP):=⟨rfl,rfl,rfl,by decide,rfl,by decide,by decide⟩
theorem aEf {f c T:Addr}{fd:FuncData} (F:Fun K "in_one" "in_one" pP f fd) (hfc:fd.code=.ref c) (hC:PySem.W.codeHdIn K c T=true) (hB:pN mg base) (hsor:mg "sorted"=none) (htup:mg "tuple"=none):cC P w K mg base CX0 4 f fd ["ranks","pieces"] (aBp T):=by
 refine F.okC aBq (fun vs H Q E h=>?_) (fun cdv A outer s H vs Q E hcd hr h=>?_)
 ·obtain ⟨r,l,rks,xs,ps,ws,rfl,_⟩:=h
  rfl
 ·obtain ⟨r,l,rks,xs,ps,ws,rfl,hR,hok,hl,hps,hg,hz,hT,k⟩:=h
  rw [hfc] at hcd
  subst hcd
  have nd:=aBq.nd
  refine ⟨_,aA (aW (i:=2) nd rfl (Or.inl rfl) (dA aB))
   (aA (f7 PassesOwn.never rfl (nY (aAd (k:=0) (x:="piece") (fs:=["ranks"]) (cl:=[("ranks",s.heap.objs.size + 1)]) (T:=T) hr rfl hC hB (by rfl) hsor ⟨rfl,rfl,rfl,by decide,by decide,by decide,by decide⟩ ?hc ?hhas (fun _ _ _ _=>rfl)
     (fun f c s H=>c0 (aE (fV ?hu (pv 1) (aX (r:=wF K) bJ (pv 0) aG (fun _ _=>rfl)) (fun _ _=>rfl)) (aE (aX (r:=wF K) bJ (pv 0) aG (fun _ _=>rfl)) aB))) (aE (pv 1) aB)))
    (g:=aBN K 3 (iE (cY 3) (iE (cY 4) (iE (cY 5) aBM)))) (iY rfl (cH (bG (i:=3) nd rfl (Or.inl rfl)) (cH (bG (i:=4) nd rfl (Or.inl rfl)) (cH (bG (i:=5) nd rfl (Or.inl rfl)) gL))))
    (aQ (cU (nF (PW.pt (f6 (aCL (pv 2) (fun _=>rfl)) (f6 (bV e7 (aX bJ (aX cF (pv 2) (iR f9 aG) (fun _ _=>rfl)) aG (fun _ _=>rfl)) (pv 3) (cM _)) (gC (bV e7 (aX bJ (aX cF (pv 2) (iR f9 aG) (fun _ _=>rfl)) aG (fun _ _=>rfl)) (pv 4) (cM _)))))))
     (aQ (lH (c0 (aE (pv 3) (aE (aX bJ (aX cF (pv 2) (iR f9 aG) (fun _ _=>rfl)) aG (fun _ _=>rfl)) (aE (pv 5) aB)))) (aCD (pv 2) (iR f9 aG) xJ)))
     (aQ (dJ (fF PySem.F.plainAttrs_list PySem.F.slot_list_append PySem.F.type_list_append dG (pv 2) (aE (c0 (aE (pv 3) (aE (pv 4) (aE (pv 5) aB)))) aB)))))))
   (aQ (bE (fJ eY (by rfl) htup (by kernel_rfl) (aE (pv 2) aB))))),?_⟩
  case hc=>exact fun x b h=>h
  case hhas=>
   intro x h
   have hm:=PySem.mem_of_lookup h
   obtain rfl:x="ranks":=(show ∀ y∈_,y.2=NameKind.free→y.1=("ranks":Str) from by decide) (x,NameKind.free) hm rfl
   exact ⟨_,rfl⟩
  case hu=>exact jE ((hr.in1).in1.deeper _)
  refine ⟨Nat.zero_le _,fun L hL=>?_⟩
  have sL:=aU.new (o:=.lst []) hL
  have hl0:=sL _ _ hl
  have hps0:=hps.same sL
  have hT0:Tb T _:=hT.same sL
  have hR0:=sL _ _ hR
  obtain ⟨tps,hTt,_⟩:=hT0.ex
  refine ⟨_,rfl,l,xs,[.ref r],rfl,SqL.of hl0,Nat.le_of_lt hz,.cons ⟨0,rfl,rfl,rfl⟩ .nil,hT0,fun y hy H' sT=>?_,fun D ys H1 sT gT nD hp hD=>?_⟩
  ·obtain ⟨i,hi⟩:=List.getElem?_of_mem hy
   obtain ⟨p,q,hp,rfl,hq⟩:=hps0.at hi
   have hq':=eO sT hT0 _ _ hq
   obtain ⟨n,hn⟩:=hok p.1 (hg.ok p (List.mem_of_getElem? hp)).1
   have hR':H' r=some (.dK rks):=sT _ _ (fun z=>by rw [z,hTt] at hR0;cases hR0) hR0
   refine ⟨_,rfl,_,rfl,q,_,0,_,rfl,rfl,SqT.of hq',rfl,r,.int n,rfl,.inl ⟨rks,Sum.inr p.1,.inl hR',rfl,hn.symm⟩,_,rfl,q,_,1,_,rfl,rfl,SqT.of hq',rfl,aH (by show 2≤1000000;decide),fun t2 ht2=>?_⟩
   exact ⟨t2,n,p.2.1,rfl,aF,aU.new ht2⟩
  ·obtain ⟨ps',hpp,hY⟩:=aEc hp hps0
   have hY1:=hY.on (eO sT hT0)
   have hg':=hg.perm hpp
   have hDL:D≠L:=fun z=>by rw [z,aF] at nD;cases nD
   have hLT:L≠T:=fun z=>by rw [← z,aF] at hTt;cases hTt
   have hl':=Paired.length hY
   have hyx:=hp.length_eq
   refine ⟨D,rfl,⟨_,SqL.of hD⟩,?_⟩
   refine rQ (K:=K) (xs:=ys) (fun i σ H'=>∃ (o3 o4 o5:Option V) (zs:List V) (qs:List Pc),σ=[some (.ref r),some (.ref l),some (.ref L),o3,o4,o5]∧dD T H H'∧Tb T H'∧H' D=some (.lst ys)∧H' L=some (.lst zs)∧fE H' ys ps'∧fE H' zs qs∧gH ws qs∧acr qs=acr (ps'.take i)∧qs.length≤i)
    ⟨none,none,none,[],[],rfl,sL.butT.trans sT,gT,hD,sT _ _ hLT aF,hY1,.nil,⟨fun p hp=>by simp at hp⟩,by simp [acr],Nat.le_refl _⟩ (fun i σ H' _ p=>by obtain ⟨_,_,_,_,_,_,_,_,e,_⟩:=p;exact SqL.of e) ?_ ?_
   ·rintro i v σ H2 hv ⟨o3,o4,o5,zs,qs,rfl,S2,T2,hD2,hL2,hY2,hZ2,hG2,hA2,hn2⟩
    obtain ⟨p,q,hp,rfl,hq⟩:=hY2.at hv
    have hpg:=hg'.ok p (List.mem_of_getElem? hp)
    have hzl:=Paired.length hZ2
    have ea:acr (ps'.take (i + 1))=acr (ps'.take i) + dU p:=by
     rw [List.take_add_one,hp,lA]
     simp [acr]
    have hi':i < ys.length:=(List.getElem?_eq_some_iff.mp hv).1
    refine ⟨q,_,rfl,SqT.of hq,rfl,_,_,rfl,_,_,rfl,_,_,rfl,rfl,?_⟩
    refine ⟨fun b H3=>H3=H2∧(b=true→∃ zs' q2 qs' p2,zs=zs' ++ [.ref q2]∧qs=qs' ++ [p2]∧fE H2 zs' qs'∧H2 q2=some (pcT p2)∧p2.1=p.1∧p2.2.2=p.2.1),?_,fun b H3 hb=>?_⟩
    ·refine ⟨_,rfl,!zs.isEmpty,.inl ⟨zs,SqL.of hL2,rfl⟩,?_⟩
     rcases yR zs with rfl | ⟨zs',z,rfl⟩
     ·exact dP ⟨rfl,fun z=>nomatch z⟩
     ·obtain ⟨qs',p2,rfl,hZ',q2,rfl,hq2⟩:∃ qs' p2,qs=qs' ++ [p2]∧fE H2 zs' qs'∧∃ q2,z=.ref q2∧H2 q2=some (pcT p2):=qM hZ2
      rw [show (!(zs' ++ [V.ref q2]).isEmpty)=true by cases zs' <;> rfl]
      refine fZ ?_
      refine ⟨_,rfl,_,rfl,L,_,-1,_,rfl,rfl,SqL.of hL2,iF _ _,q2,_,0,_,rfl,rfl,SqT.of hq2,rfl,_,rfl,rfl,_,rfl,?_⟩
      refine eG (fun g1=>?_) fun g1=>⟨rfl,fun z=>nomatch z⟩
      refine ⟨_,rfl,_,rfl,L,_,-1,_,rfl,rfl,SqL.of hL2,iF _ _,q2,_,2,_,rfl,rfl,SqT.of hq2,rfl,_,rfl,rfl,_,rfl,rfl,fun g2=>?_⟩
      have e1:=of_decide_eq_true g1
      have e2:=of_decide_eq_true g2
      injection e1 with e1
      injection e2 with e2
      exact ⟨zs',q2,qs',p2,rfl,rfl,hZ',hq2,e1,e2⟩
    ·obtain ⟨rfl,hb⟩:=hb
     have hLH:H L=none:=hL
     cases b with
     | true=>
      obtain ⟨zs',q2,qs',p2,rfl,rfl,hZ',hq2,e1,e2⟩:=hb rfl
      refine fZ ?_
      refine ⟨_,rfl,_,rfl,_,rfl,L,_,-1,_,rfl,rfl,SqL.of hL2,iF _ _,q2,_,1,_,rfl,rfl,SqT.of hq2,rfl,_,rfl,aH (by show 3≤1000000;decide),fun q3 hq3=>?_⟩
      have s3:=aU.new (o:=pcT (p.1,p2.2.1,p.2.2)) hq3
      have hLq:L≠q3:=aO hL2 hq3
      refine ⟨_,rfl,_,rfl,L,_,-1,zs'.length,rfl,rfl,s3 _ _ hL2,?_,?_⟩
      ·unfold ixN
       rw [List.length_append,List.length_singleton,if_neg (by decide),if_pos (by omega)]
       congr 1
       omega
      ·have es:(zs' ++ [V.ref q2]).set zs'.length (.ref q3)=zs' ++ [.ref q3]:=by simp
       rw [es]
       have keep:∀ b o,b≠L→H3 b=some o→upd (upd H3 q3 (pcT (p.1,p2.2.1,p.2.2))) L (.lst (zs' ++ [.ref q3])) b=some o:=fun b o n e=>by
        rw [aJ n]
        exact s3 _ _ e
       have kt:gI H3 (upd (upd H3 q3 (pcT (p.1,p2.2.1,p.2.2))) L (.lst (zs' ++ [.ref q3]))):=fun b us e=>keep b _ (fun z=>by rw [z,hL2] at e;cases e) e
       refine ⟨_,_,_,zs' ++ [.ref q3],qs' ++ [(p.1,p2.2.1,p.2.2)],rfl,fun b o n e=>keep b o (aO e hL) (S2 b o n e),?_,keep _ _ hDL hD2,aF,hY2.on kt,?_,?_,?_,by rw [List.length_append,List.length_singleton] at hn2 ⊢;omega⟩
       ·exact aEe T2 fun b o e n=>keep b o (fun z=>n ⟨_,z ▸ hL2⟩) e
       ·exact Paired.snoc ⟨q3,rfl,by rw [aJ hLq.symm];exact aF⟩ (hZ'.on kt)
       ·have h2:=hG2.ok p2 (List.mem_append_right _ List.mem_cons_self)
        exact gH.app ⟨fun x hx=>hG2.ok x (List.mem_append_left _ hx)⟩ ⟨fun x hx=>by rw [List.mem_singleton.mp hx];exact ⟨hpg.1,by dsimp only;omega⟩⟩
       ·rw [ea,← hA2,lA,lA]
        simp only [acr,dU,List.map_cons,List.map_nil,List.sum_cons,List.sum_nil]
        omega
     | false=>
      refine dP ?_
      refine ⟨_,rfl,.inl ⟨rfl,_,SqL.of hL2⟩,_,rfl,_,rfl,_,rfl,aH (by show 3≤1000000;decide),fun q3 hq3=>?_⟩
      have s3:=aU.new (o:=pcT p) hq3
      have hLq:L≠q3:=aO hL2 hq3
      refine ⟨L,zs,_,rfl,rfl,s3 _ _ hL2,by omega,?_⟩
      have keep:∀ b o,b≠L→H3 b=some o→upd (upd H3 q3 (pcT p)) L (.lst (zs ++ [.ref q3])) b=some o:=fun b o n e=>by
       rw [aJ n]
       exact s3 _ _ e
      have kt:gI H3 (upd (upd H3 q3 (pcT p)) L (.lst (zs ++ [.ref q3]))):=fun b us e=>keep b _ (fun z=>by rw [z,hL2] at e;cases e) e
      refine ⟨_,_,_,zs ++ [.ref q3],qs ++ [p],rfl,fun b o n e=>keep b o (aO e hL) (S2 b o n e),?_,keep _ _ hDL hD2,aF,hY2.on kt,?_,?_,?_,by rw [List.length_append,List.length_singleton];omega⟩
      ·exact aEe T2 fun b o e n=>keep b o (fun z=>n ⟨_,z ▸ hL2⟩) e
      ·exact Paired.snoc ⟨q3,rfl,by rw [aJ hLq.symm];exact aF⟩ (hZ2.on kt)
      ·exact hG2.app ⟨fun x hx=>by rw [List.mem_singleton.mp hx];exact hpg⟩
      ·rw [ea,← hA2,lA]
       simp [acr]
   ·rintro σ H2 ⟨o3,o4,o5,zs,qs,rfl,S2,T2,hD2,hL2,hY2,hZ2,hG2,hA2,hn2⟩
    rw [hl',List.take_length] at hA2
    refine ⟨_,rfl,L,zs,rfl,.inl ⟨SqL.of hL2,fun t' ht'=>?_⟩⟩
    have s2:=aU.new (o:=.tup zs) ht'
    exact k t' zs qs _ (S2.trans s2.butT) (T2.same s2) aF (hZ2.same s2) hG2 (hA2.trans (aEd hpp))
end
end K36
namespace K36
open PySem L2
inductive yS (vs:List V) (H:Hp) (Q:VK) (u3_:XK):Prop
 | mk (me:Addr) (h:Str) (m:Mnd) (q0:vs=[.ref me,.str h]) (q1:H me=some (.dK m)) (q2:gU m) (q3:m.length≤100000) (q4:∀ (L:Addr) (H':Hp),H L=none→aU H H'→H' L=some (.lst ((rd m h).map V.str))→Q (.ref L) H'):yS vs H Q u3_
def p5:Sp:=fun vs H Q u3_=>yS vs H Q u3_
section
variable {P:Program}{w:World}{K:PySem.W.Frag}{mg:Str→Option Value}{base:Heap}
theorem tV:cA ["menders","house","road"] ["menders","house"] (aM iU):=⟨rfl,rfl,rfl,by decide,rfl,by decide,by decide⟩
theorem yT {f:Addr}{fd:FuncData} (F:Fun K "road_from" "road_from" iU f fd):cC P w K mg base CX0 1 f fd ["menders","house"] p5:=by
 refine F.ok tV (fun vs H Q E h=>?_) (fun cdv A outer s H vs Q E hr h=>?_)
 ·obtain ⟨me,h,m,rfl,_⟩:=h
  rfl
 ·obtain ⟨me,h,m,rfl,hm,ha,hlen,k⟩:=h
  have hu:=jE hr
  refine ⟨_,aA (aW (i:=2) tV.nd rfl (Or.inl rfl) (dA (aE (pv 1) aB)))
   (aA (rP PassesOwn.never (gX (pG hu (aX cF (pv 2) (iR f9 aG) (fun _ _=>rfl)) (pv 0)))
    (aQ (dJ (fF PySem.F.plainAttrs_list PySem.F.slot_list_append PySem.F.type_list_append dG (pv 2) (aE (fV hu (pv 0) (aX cF (pv 2) (iR f9 aG) (fun _ _=>rfl)) (fun _ _=>rfl)) aB)))))
   (aQ (bE (pv 2)))),?_⟩
  refine ⟨_,rfl,aH (by show 1≤1000000;decide),fun L hL=>?_⟩
  have sL:=aU.new (o:=.lst [V.str h]) hL
  have hrd:=ha.rd h
  have hll:=hrd.len
  refine ⟨fun n σ H'=>∃ (pre l:List Str) (x:Str),σ=[some (.ref me),some (.str h),some (.ref L)]∧aU H H'∧H' L=some (.lst ((pre ++ [x]).map V.str))∧rd m h=pre ++ l∧dW m x l∧n=l.length,⟨_,[],rd m h,h,rfl,sL,aF,rfl,hrd,rfl⟩,?_⟩
  rintro n σ H1 ⟨pre,l,x,rfl,S,hL1,er,hx,rfl⟩
  have hat:atI ((pre ++ [x]).map V.str) (-1)=some (.str x):=by
   rw [List.map_append]
   exact iF _ _
  refine ⟨_,rfl,_,rfl,L,_,-1,_,rfl,rfl,SqL.of hL1,hat,_,rfl,me,_,rfl,.inl ⟨m,Sum.inr x,.inl (S _ _ hm),rfl,rfl⟩,_,rfl,?_⟩
  rw [ha.val x]
  cases hx with
  | stop e=>
   rw [e]
   refine dP ?_
   refine ⟨_,rfl,k L H1 hL S ?_⟩
   rw [er]
   exact hL1
  | @on _ y l e r=>
   rw [e]
   refine fZ ?_
   refine ⟨fun σ' H'=>∃ (pre l':List Str) (x:Str),σ'=[some (.ref me),some (.str h),some (.ref L)]∧aU H H'∧H' L=some (.lst ((pre ++ [x]).map V.str))∧rd m h=pre ++ l'∧dW m x l'∧l.length=l'.length,fun σ' H' z=>⟨l.length,by simp,z⟩,?_⟩
   have hev:some (V.str y)=dH m (Sum.inr x):=by rw [ha.val x,e];rfl
   refine ⟨_,rfl,.inl ⟨rfl,_,SqL.of hL1⟩,_,rfl,_,rfl,_,rfl,L,_,-1,_,rfl,rfl,SqL.of hL1,hat,me,_,rfl,.inl ⟨m,Sum.inr x,.inl (S _ _ hm),rfl,hev⟩,L,_,_,rfl,rfl,hL1,?_,?_⟩
   ·have:=congrArg List.length er
    simp at this ⊢
    exact Nat.lt_of_le_of_lt (show pre.length + 1≤1000000 by omega) (by decide)
   ·refine ⟨pre ++ [x],l,y,rfl,fun b o z=>?_,?_,by rw [er];simp,r,rfl⟩
    ·rw [aJ (aO z hL)]
     exact S _ _ z
    ·rw [aF]
     simp
end
end K36
namespace L2
open PySem PySem.Spec PyProof.Rows
mutual
theorem RdV.onT {H H':Hp} (t:∀ q xs,H q=some (.tup xs)→H' q=some (.tup xs)):∀ {x:V}{d:PyData},RdV false H x d→d.hasDict=false→RdV false H' x d
 | _,_,.non,_=>.non
 | _,_,.bl b,_=>.bl b
 | _,_,.int i,_=>.int i
 | _,_,.str z h,_=>.str z h
 | _,_,.lst hm _ _ _,_=>nomatch hm
 | _,_,.tup e hl r,h=>.tup (t _ _ e) hl (cW.onT t r (by unfold PyData.hasDict at h;exact h))
 | _,_,.dct _ _,h=>by unfold PyData.hasDict at h;cases h
theorem cW.onT {H H':Hp} (t:∀ q xs,H q=some (.tup xs)→H' q=some (.tup xs)):∀ {xs:List V}{ds:List PyData},cW false H xs ds→PyData.hasDictAll ds=false→cW false H' xs ds
 | _,_,.nil,_=>.nil
 | _,_,.cons a r,h=>by
  unfold PyData.hasDictAll at h
  rw [Bool.or_eq_false_iff] at h
  exact .cons (RdV.onT t a h.1) (cW.onT t r h.2)
end
end L2
namespace K36
open PySem L2
theorem cE.Ok.nd {r:cE}{fs:List Str} (h:r.Ok fs):r.d.hasDict=false:=by
 unfold cE.d p4
 unfold PyData.hasDict
 show (false || (false || (false || PyData.hasDictAll r.ds)))=false
 rw [h.rs.nodict]
 rfl
theorem cE.Ok.on {r:cE}{fs:List Str} (h:r.Ok fs) {H H':Hp}{x:V} (rd:RdV false H x r.d) (t:gI H H'):RdV false H' x r.d:=RdV.onT t rd h.nd
theorem cE.Ok.tup {r:cE}{fs:List Str}{H:Hp}{x:V} (rd:RdV false H x r.d):∃ t b8,x=.ref t∧H t=some (.tup (.str r.word :: .str r.name :: .int r.day :: b8))∧cW false H b8 r.ds:=by
 unfold cE.d p4 at rd
 cases rd with
 | tup e hl q=>
  cases q with
  | cons q1 q=>
   cases q with
   | cons q2 q=>
    cases q with
    | cons q3 q=>
     cases q1
     cases q2
     cases q3
     exact ⟨_,_,rfl,e,q⟩
def nQ (H:Hp) (ws:List Str) (v:V) (n:Int):Prop:=∃ (t tp:Addr) (hs:Str) (xs:List V) (ps:List Pc),v=.ref t∧H t=some (.tup [.str hs,.ref tp])∧H tp=some (.tup xs)∧fE H xs ps∧gH ws ps∧acr ps=n
theorem nQ.on {H H':Hp}{ws:List Str}{v:V}{n:Int} (h:nQ H ws v n) (t:gI H H'):nQ H' ws v n:=by
 obtain ⟨a,b,hs,xs,ps,h1,h2,h3,h4,h5⟩:=h
 exact ⟨a,b,hs,xs,ps,h1,t _ _ h2,t _ _ h3,h4.on t,h5⟩
theorem nQ.pos {H:Hp}{ws:List Str}{v:V}{n:Int} (h:nQ H ws v n):0≤n:=by
 obtain ⟨_,_,_,_,ps,_,_,_,_,g,rfl⟩:=h
 have:=g.len
 omega
inductive gF (H:Hp) (ws:List Str):List (Key×V)→Int→Prop
 | nil:gF H ws [] 0
 | cons {k:Key} {v:V} {r:List (Key×V)} {n m:Int} (h:nQ H ws v n) (t:gF H ws r m):gF H ws ((k,v) :: r) (n + m)
theorem gF.on {H H':Hp}{ws:List Str}{l:List (Key×V)}{n:Int} (h:gF H ws l n) (t:gI H H'):gF H' ws l n:=by
 induction h with
 | nil=>exact .nil
 | cons h _ ih=>exact .cons (h.on t) ih
theorem gF.pos {H:Hp}{ws:List Str}{l:List (Key×V)}{n:Int} (h:gF H ws l n):0≤n:=by
 induction h with
 | nil=>exact Int.le_refl _
 | cons h _ ih=>
  have:=h.pos
  omega
theorem gF.dropLe {H:Hp}{ws:List Str}{l:List (Key×V)}{n:Int} (h:gF H ws l n) (k:Key):∃ n',gF H ws (dC l k) n'∧n'≤n:=by
 induction h with
 | nil=>exact ⟨0,.nil,Int.le_refl _⟩
 | @cons j v r a m h t ih=>
  obtain ⟨n',h1,h2⟩:=ih
  have:=h.pos
  by_cases e:j=k
  ·rw [lX (p:=(j,v)) e]
   exact ⟨n',h1,by omega⟩
  ·rw [lY (p:=(j,v)) e]
   exact ⟨a + n',.cons h h1,by omega⟩
theorem gF.take {H:Hp}{ws:List Str}{l:List (Key×V)}{n:Int} (h:gF H ws l n) {k:Key}{v:V} (e:dH l k=some v):∃ a n',nQ H ws v a∧gF H ws (dC l k) n'∧a + n'≤n:=by
 induction h with
 | nil=>cases e
 | @cons j u r a m h t ih=>
  by_cases ek:j=k
  ·rw [dN (p:=(j,u)) ek] at e
   cases e
   obtain ⟨n',h1,h2⟩:=t.dropLe k
   rw [lX (p:=(j,u)) ek]
   exact ⟨a,n',h,h1,by omega⟩
  ·rw [c7 (p:=(j,u)) ek] at e
   obtain ⟨b,n',h1,h2,h3⟩:=ih e
   rw [lY (p:=(j,u)) ek]
   exact ⟨b,a + n',h1,.cons h h2,by omega⟩
theorem gF.snoc {H:Hp}{ws:List Str}{l:List (Key×V)}{n a:Int}{k:Key}{v:V} (h:gF H ws l n) (hv:nQ H ws v a):gF H ws (l ++ [(k,v)]) (n + a):=by
 induction h with
 | nil=>
  have:=gF.cons (k:=k) hv (gF.nil (H:=H) (ws:=ws))
  rw [Int.add_zero] at this
  rw [Int.zero_add]
  exact this
 | cons h _ ih=>
  rw [Int.add_assoc]
  exact .cons h ih
theorem nS:∀ {l:List (Key×V)}{k:Key}{v:V},¬ k∈l.map (·.1)→l.map (fun kv=>if kv.1=k then (kv.1,v) else kv)=l
 | [],_,_,_=>rfl
 | p :: l,k,v,h=>by
  rw [List.map_cons,if_neg (fun z=>h (by rw [← z];exact List.mem_cons_self)),nS fun z=>h (List.mem_cons_of_mem _ z)]
theorem gF.put {H:Hp}{ws:List Str}{l:List (Key×V)}{n a:Int}{k:Key}{v:V} (h:gF H ws l n) (hnd:(l.map (·.1)).Nodup) (hv:nQ H ws v a):∃ n',gF H ws (c5 l k v) n'∧n'≤n + a:=by
 unfold c5
 split
 ·rename_i hany
  clear hany
  induction h with
  | nil=>exact ⟨0,.nil,by have:=hv.pos;omega⟩
  | @cons j u r b m h t ih=>
   obtain ⟨h1,h2⟩:=List.nodup_cons.mp hnd
   rw [List.map_cons]
   by_cases e:j=k
   ·rw [if_pos e,nS (by rw [← e];exact h1)]
    exact ⟨a + m,.cons hv t,by have:=h.pos;omega⟩
   ·rw [if_neg e]
    obtain ⟨n',h3,h4⟩:=ih h2
    exact ⟨b + n',.cons h h3,by omega⟩
 ·exact ⟨n + a,h.snoc hv,Int.le_refl _⟩
theorem tW {l:List (Key×V)}{k:Key} (v:V) (hn:(l.map (·.1)).Nodup):((c5 l k v).map (·.1)).Nodup:=by
 cases e:dH l k with
 | none=>exact aEN v hn e
 | some u=>
  have e2:(l.any fun kv=>decide (kv.1=k))=true:=by rw [gO,e];rfl
  unfold c5
  rw [if_pos e2,List.map_map]
  have:((fun x:Key×V=>x.1) ∘ fun kv:Key×V=>if kv.1=k then (kv.1,v) else kv)=(·.1):=by
   funext kv
   show (if kv.1=k then (kv.1,v) else kv).1=kv.1
   split <;> rfl
  rw [this]
  exact hn
structure MA where
 dx:Addr
 r:Addr
 h:Addr
 a:Addr
 i:Addr
 me:Addr
def aAr (A:MA):List (Str×V):=[("ranks",.ref A.r),("holdings",.ref A.h),("acres",.ref A.a),("inches",.ref A.i),("menders",.ref A.me)]
structure MC (K:PySem.W.Frag) (C:Addr):Prop where
 cl:Cls K C
 r:i4 K C "ranks"
 h:i4 K C "holdings"
 a:i4 K C "acres"
 i:i4 K C "inches"
 m:i4 K C "menders"
structure Mom (H:Hp) (C M:Addr) (A:MA) (ws:List Str) (n:Nat) (m:Mnd):Prop where
 ins:H M=some (.ins C A.dx (aAr A))
 r:∃ rks,H A.r=some (.dK rks)∧qN rks ws
 h:∃ hol b,H A.h=some (.dK hol)∧(hol.map (·.1)).Nodup∧hol.length≤n∧gF H ws hol b∧b≤8000000
 i:∃ inc,H A.i=some (.dK inc)∧qN inc ws∧inc.length≤n
 me:H A.me=some (.dK m)
 ac:gU m
 ml:m.length≤n
 rh:A.r≠A.h
 ri:A.r≠A.i
 rm:A.r≠A.me
 hi:A.h≠A.i
 hm:A.h≠A.me
 im:A.i≠A.me
def cZ (E:List Addr) (H H':Hp):Prop:=∀ b o,b ∉ E→H b=some o→H' b=some o
theorem cZ.trans {E:List Addr}{H H1 H2:Hp} (a:cZ E H H1) (b:cZ E H1 H2):cZ E H H2:=fun c o n h=>b c o n (a c o n h)
theorem cZ.refl {E:List Addr} (H:Hp):cZ E H H:=fun _ _ _ h=>h
theorem cZ.same {E:List Addr}{H H1 H2:Hp} (a:cZ E H H1) (b:aU H1 H2):cZ E H H2:=fun c o n h=>b c o (a c o n h)
theorem dY {E:List Addr}{H H1:Hp} (a:aU H H1):cZ E H H1:=fun c o _ h=>a c o h
theorem Mom.ne {H:Hp}{C M:Addr}{A:MA}{ws:List Str}{n:Nat}{m:Mnd} (h:Mom H C M A ws n m):M≠A.r∧M≠A.h∧M≠A.i∧M≠A.me:=by
 obtain ⟨rks,hr,_⟩:=h.r
 obtain ⟨hol,b,hh,_⟩:=h.h
 obtain ⟨inc,hi,_⟩:=h.i
 exact ⟨dS h.ins hr (fun z=>nomatch z),dS h.ins hh (fun z=>nomatch z),dS h.ins hi (fun z=>nomatch z),dS h.ins h.me (fun z=>nomatch z)⟩
theorem Mom.same {H H':Hp}{C M:Addr}{A:MA}{ws:List Str}{n:Nat}{m:Mnd} (h:Mom H C M A ws n m) (s:aU H H'):Mom H' C M A ws n m:=by
 obtain ⟨rks,hr,r2⟩:=h.r
 obtain ⟨hol,b,hh,h2,h3,h4,h5⟩:=h.h
 obtain ⟨inc,hi,i2⟩:=h.i
 exact ⟨s _ _ h.ins,⟨rks,s _ _ hr,r2⟩,⟨hol,b,s _ _ hh,h2,h3,h4.on fun q xs e=>s _ _ e,h5⟩,⟨inc,s _ _ hi,i2⟩,s _ _ h.me,h.ac,h.ml,h.rh,h.ri,h.rm,h.hi,h.hm,h.im⟩
theorem Mom.mono {H:Hp}{C M:Addr}{A:MA}{ws:List Str}{n k:Nat}{m:Mnd} (h:Mom H C M A ws n m) (hk:n≤k):Mom H C M A ws k m:=by
 obtain ⟨hol,b,hh,h2,h3,h4,h5⟩:=h.h
 obtain ⟨inc,hi,i2,i3⟩:=h.i
 exact ⟨h.ins,h.r,⟨hol,b,hh,h2,by omega,h4,h5⟩,⟨inc,hi,i2,by omega⟩,h.me,h.ac,by have:=h.ml;omega,h.rh,h.ri,h.rm,h.hi,h.hm,h.im⟩
theorem Mom.setM {H:Hp}{C M:Addr}{A:MA}{ws:List Str}{n:Nat}{m m':Mnd} (h:Mom H C M A ws n m) (ac:gU m') (hl:m'.length≤n):Mom (upd H A.me (.dK m')) C M A ws n m':=by
 obtain ⟨n1,n2,n3,n4⟩:=h.ne
 obtain ⟨rks,hr,r2⟩:=h.r
 obtain ⟨hol,b,hh,h2,h3,h4,h5⟩:=h.h
 obtain ⟨inc,hi,i2⟩:=h.i
 have t:gI H (upd H A.me (.dK m')):=fun q xs e=>by rw [aJ (dS e h.me (fun z=>nomatch z))];exact e
 exact ⟨by rw [aJ n4];exact h.ins,⟨rks,by rw [aJ h.rm];exact hr,r2⟩,⟨hol,b,by rw [aJ h.hm];exact hh,h2,h3,h4.on t,h5⟩,⟨inc,by rw [aJ h.im];exact hi,i2⟩,aF,ac,hl,h.rh,h.ri,h.rm,h.hi,h.hm,h.im⟩
theorem Mom.setI {H:Hp}{C M:Addr}{A:MA}{ws:List Str}{n:Nat}{m:Mnd}{inc:List (Key×V)} (h:Mom H C M A ws n m) (ok:qN inc ws) (hl:inc.length≤n):Mom (upd H A.i (.dK inc)) C M A ws n m:=by
 obtain ⟨n1,n2,n3,n4⟩:=h.ne
 obtain ⟨rks,hr,r2⟩:=h.r
 obtain ⟨hol,b,hh,h2,h3,h4,h5⟩:=h.h
 obtain ⟨inc0,hi,i2⟩:=h.i
 have t:gI H (upd H A.i (.dK inc)):=fun q xs e=>by rw [aJ (dS e hi (fun z=>nomatch z))];exact e
 exact ⟨by rw [aJ n3];exact h.ins,⟨rks,by rw [aJ h.ri];exact hr,r2⟩,⟨hol,b,by rw [aJ h.hi];exact hh,h2,h3,h4.on t,h5⟩,⟨inc,aF,ok,hl⟩,by rw [aJ h.im.symm];exact h.me,h.ac,h.ml,h.rh,h.ri,h.rm,h.hi,h.hm,h.im⟩
theorem Mom.setH {H:Hp}{C M:Addr}{A:MA}{ws:List Str}{n k:Nat}{m:Mnd}{hol:List (Key×V)}{b:Int} (h:Mom H C M A ws n m) (hnd:(hol.map (·.1)).Nodup) (hl:hol.length≤k) (hk:n≤k) (ht:gF H ws hol b) (hb:b≤8000000):Mom (upd H A.h (.dK hol)) C M A ws k m:=by
 obtain ⟨n1,n2,n3,n4⟩:=h.ne
 obtain ⟨rks,hr,r2⟩:=h.r
 obtain ⟨hol0,b0,hh,_⟩:=h.h
 obtain ⟨inc,hi,i2,i3⟩:=h.i
 have t:gI H (upd H A.h (.dK hol)):=fun q xs e=>by rw [aJ (dS e hh (fun z=>nomatch z))];exact e
 exact ⟨by rw [aJ n2];exact h.ins,⟨rks,by rw [aJ h.rh];exact hr,r2⟩,⟨hol,b,aF,hnd,hl,ht.on t,hb⟩,⟨inc,by rw [aJ h.hi.symm];exact hi,i2,by omega⟩,by rw [aJ h.hm.symm];exact h.me,h.ac,by have:=h.ml;omega,h.rh,h.ri,h.rm,h.hi,h.hm,h.im⟩
end K36
namespace K36
open PySem L2
def aAs (m:Mnd) (r:cE) (z:Str):Prop:=(∀ a b,r.word="mend"→r.ds=[.str a,.str b]→z=if a∈rd m b then ("ring":Str) else "done")∧(∀ a,r.word="alone"→r.ds=[.str a]→z=if (dH m (Sum.inr a)).isSome=true then ("done":Str) else "none")
noncomputable def d7 (m:Mnd) (r:cE):Mnd:=match r.ds with
 | [.str a,.str b]=>if r.word="mend" then oR m a b else m
 | [.str a]=>if r.word="alone" then kY m a else m
 | _=>m
theorem mH {m:Mnd}{r:cE}{z:Str} (h1:r.word≠"mend") (h2:r.word≠"alone"):aAs m r z:=⟨fun a b e=>absurd e h1,fun a e=>absurd e h2⟩
theorem mJ {m:Mnd}{r:cE} (h1:r.word≠"mend") (h2:r.word≠"alone"):d7 m r=m:=by
 unfold d7
 split
 ·rw [if_neg h1]
 ·rw [if_neg h2]
 ·rfl
theorem p8 (m:Mnd) (name:Str) (day:Int) (a b:Str):d7 m ⟨"mend",name,day,[.str a,.str b]⟩=oR m a b:=by simp [d7]
theorem nU (m:Mnd) (name:Str) (day:Int) (a:Str):d7 m ⟨"alone",name,day,[.str a]⟩=kY m a:=by simp [d7]
inductive yU (C T:Addr) (W:List Str) (vs:List V) (H:Hp) (Q:VK) (u3_:XK):Prop
 | mk (M:Addr) (A:MA) (ws:List Str) (n:Nat) (m:Mnd) (x:V) (r:cE) (q0:vs=[.ref M,x]) (q1:Mom H C M A ws n m) (q2:n≤10000) (q3:Tb T H) (q4:RdV false H x r.d) (q5:r.Ok ws) (q6:r.word∈W) (q7:∀ z H',aAs m r z→cZ [T,A.h,A.i,A.me] H H'→Tb T H'→Mom H' C M A ws (n + 6) (d7 m r)→Q (.str z) H'):yU C T W vs H Q u3_
def iQ (C T:Addr) (W:List Str):Sp:=fun vs H Q u3_=>yU C T W vs H Q u3_
theorem jL {T a:Addr}{kvs kvs':List (Key×V)}{H:Hp} (g:Tb T H) (e:H a=some (.dK kvs)):Tb T (upd H a (.dK kvs')):=by
 obtain ⟨ps,h1,h2,h3⟩:=g.ex
 refine ⟨ps,by rw [aJ (dS h1 e (fun z=>nomatch z))];exact h1,h2,?_⟩
 rcases h3 with h3 | ⟨c,h3,h4⟩
 ·exact .inl h3
 ·exact .inr ⟨c,h3,by rw [aJ (dS h4 e (fun z=>nomatch z))];exact h4⟩
theorem eZ {E:List Addr}{a:Addr}{o:HO}{H:Hp} (h:a∈E):cZ E H (upd H a o):=fun b u n e=>by
 rw [aJ (fun z=>n (by rw [z];exact h))]
 exact e
theorem yV {H:Hp}:∀ {xs:List V}{ps qs:List Pc},fE H xs ps→fE H xs qs→ps=qs
 | _,_,_,.nil,.nil=>rfl
 | _,_,_,.cons r t,.cons r' t'=>by
  obtain ⟨q,e,h⟩:=r
  obtain ⟨q',e',h'⟩:=r'
  rw [e] at e'
  cases e'
  rw [h] at h'
  unfold pcT at h'
  injection h' with h'
  injection h' with h'
  injection h' with h1 h'
  injection h' with h2 h'
  injection h' with h3 h'
  injection h1 with h1
  injection h2 with h2
  injection h3 with h3
  rw [yV t t',Prod.ext h1 (Prod.ext h2 h3)]
theorem yW {H:Hp}{ws:List Str}{l:List (Key×V)}{n a:Int}{k:Key}{v u:V} (h:gF H ws l n) (hnd:(l.map (·.1)).Nodup) (e:dH l k=some v) (hu:nQ H ws u a) (hv:nQ H ws v a):∃ n',gF H ws (c5 l k u) n'∧n'≤n:=by
 have hany:(l.any fun kv=>decide (kv.1=k))=true:=by rw [gO,e];rfl
 unfold c5
 rw [if_pos hany]
 clear hany
 induction h with
 | nil=>cases e
 | @cons j x r b m h t ih=>
  obtain ⟨h1,h2⟩:=List.nodup_cons.mp hnd
  rw [List.map_cons]
  by_cases ek:j=k
  ·rw [dN (p:=(j,x)) ek] at e
   cases e
   rw [if_pos ek,nS (by rw [← ek];exact h1)]
   have:a=b:=by
    obtain ⟨t1,tp1,s1,xs1,ps1,e1,f1,g1,p1,_,q1⟩:=hv
    obtain ⟨t2,tp2,s2,xs2,ps2,e2,f2,g2,p2,_,q2⟩:=h
    subst e1
    cases e2
    rw [f1] at f2
    injection f2 with f2
    injection f2 with f2
    injection f2 with f3 f4
    injection f4 with f4
    injection f4 with f4
    subst f4
    rw [g1] at g2
    injection g2 with g2
    injection g2 with g2
    subst g2
    rw [← q1,← q2,yV p1 p2]
   exact ⟨a + m,.cons hu t,by omega⟩
  ·rw [c7 (p:=(j,x)) ek] at e
   rw [if_neg ek]
   obtain ⟨n',h3,h4⟩:=ih h2 e
   exact ⟨b + n',.cons h h3,by omega⟩
section
variable {P:Program}{w:World}{K:PySem.W.Frag}{mg:Str→Option Value}{base:Heap}
theorem vV:cA ["moment","row","land","house","holding","pieces"] ["moment","row"] (aM hV):=⟨rfl,rfl,rfl,by decide,rfl,by decide,by decide⟩
theorem wX {f C T:Addr}{fd:FuncData} (F:Fun K "do_forfeit" "do_forfeit" hV f fd) (hc:MC K C):cC P w K mg base CX0 1 f fd ["moment","row"] (iQ C T ["forfeit"]):=by
 refine F.ok vV (fun vs H Q E h=>?_) (fun cdv A outer s H vs Q E hr h=>?_)
 ·obtain ⟨M,A,ws,n,m,x,r,rfl,_⟩:=h
  rfl
 ·obtain ⟨M,MA,ws,n,m,x,r,rfl,mom,hn,tb,rdv,ok,hw,k⟩:=h
  have hu:=jE hr
  have nd:=vV.nd
  refine ⟨_,aA (wB (i:=2) (j:=3) rfl nd rfl rfl (by decide) rfl rfl (aE (aX bJ (pv 1) aG (fun _ _=>rfl)) (aE (aX bJ (pv 1) aG (fun _ _=>rfl)) aB)) rfl)
   (aA (cU (gX (pH hu (pv 2) (dR (pv 0) rfl))) (aQ (bE aV)) bH)
   (aA (lH (fV hu (dR (pv 0) rfl) (pv 2) (fun _ _=>rfl)) (iY rfl (cH (bG (i:=4) nd rfl (Or.inl rfl)) (cH (bG (i:=5) nd rfl (Or.inl rfl)) gL))))
   (aA (cU (bV e7 (pv 4) (pv 3) (cM _)) (aQ (bE aV)) bH)
   (aA (fY hu (dR (pv 0) rfl) (pv 2) (c0 (aE (pv 3) (aE (pv 5) aB))) rfl)
   (aQ (bE aV)))))),?_⟩
  obtain ⟨t,b8,rfl,ht,hrest⟩:=cE.Ok.tup (fs:=ws) rdv
  have hwd:r.word="forfeit":=by simpa using hw
  have rs:=ok.rs
  have t1:∀ z,aAs m r z:=fun z=>mH (by rw [hwd];decide) (by rw [hwd];decide)
  have t2:d7 m r=m:=mJ (by rw [hwd];decide) (by rw [hwd];decide)
  rw [t2] at k
  obtain ⟨word,name,day,ds⟩:=r
  dsimp only at hwd rs hrest ht
  subst hwd
  cases rs with
  | @forfeit land house hl hh=>
  cases hrest with
  | cons q1 hrest=>
  cases hrest with
  | cons q2 hrest=>
  cases hrest
  cases q1
  cases q2
  refine ⟨_,rfl,t,_,3,_,rfl,rfl,SqT.of ht,rfl,_,rfl,t,_,4,_,rfl,rfl,SqT.of ht,rfl,_,_,rfl,?_⟩
  obtain ⟨hol,b,hh1,hnd,hlen,hT,hb⟩:=mom.h
  refine ⟨_,rfl,_,rfl,M,C,_,_,_,rfl,mom.ins,hc.cl,hc.h,rfl,MA.h,_,rfl,.inl ⟨hol,Sum.inr land,.inl hh1,rfl,rfl⟩,_,rfl,?_⟩
  cases hv:dH hol (Sum.inr land) with
  | none=>exact fZ (k _ _ (t1 _) (cZ.refl H) tb (mom.mono (by omega)))
  | some v=>
   refine dP ?_
   obtain ⟨a,b',he,hT',hab⟩:=hT.take hv
   obtain ⟨t3,tp,hs,xs,ps,rfl,e1,e2,e3,e4,e5⟩:=id he
   refine ⟨_,rfl,M,C,_,_,_,rfl,mom.ins,hc.cl,hc.h,rfl,_,rfl,MA.h,_,rfl,.inl ⟨hol,Sum.inr land,.inl hh1,rfl,hv.symm⟩,?_⟩
   refine ⟨t3,_,rfl,SqT.of e1,rfl,_,_,rfl,_,_,rfl,rfl,?_⟩
   refine ⟨_,rfl,_,rfl,rfl,_,rfl,?_⟩
   refine eG (fun g=>k _ _ (t1 _) (cZ.refl H) tb (mom.mono (by omega))) fun g=>?_
   refine ⟨_,rfl,_,rfl,aH (by show 2≤1000000;decide),fun u2 hu2=>?_⟩
   have su2:=aU.new (o:=.tup [V.str house,.ref tp]) hu2
   have mom2:=mom.same su2
   have tb2:Tb T _:=tb.same su2
   refine ⟨_,rfl,M,C,_,_,_,rfl,mom2.ins,hc.cl,hc.h,rfl,_,rfl,MA.h,_,rfl,lE.k (k:=Sum.inr land) (su2 _ _ hh1) (Nat.lt_of_le_of_lt hlen (by rw [PySem.sizeLine_eq];omega)),?_⟩
   have he2:nQ (upd H u2 (.tup [V.str house,.ref tp])) ws (.ref u2) a:=⟨u2,tp,house,xs,ps,rfl,aF,su2 _ _ e2,e3.same su2,e4,e5⟩
   obtain ⟨b2,hT2,hb2⟩:=yW (k:=Sum.inr land) (hT.on (dO su2)) hnd hv he2 (he.on (dO su2))
   refine k _ _ (t1 _) ((dY su2).trans (eZ (by simp))) (jL tb2 (su2 _ _ hh1)) (mom2.setH (tW _ hnd) ?_ (by omega) hT2 (by omega))
   have:=dL hol (Sum.inr land) (.ref u2)
   omega
end
end K36
namespace K36
open PySem L2
theorem wY (x:Str):∀ l:List Str,inV (.str x) (l.map V.str)=decide (x∈l)
 | []=>by simp [inV]
 | y :: l=>by
  have ih:=wY x l
  unfold inV at ih ⊢
  rw [List.map_cons,List.any_cons,ih]
  by_cases e:y=x
  ·subst e
   simp [eqV]
  ·have:x≠y:=fun z=>e z.symm
   simp [eqV,e,this]
section
variable {P:Program}{w:World}{K:PySem.W.Frag}{mg:Str→Option Value}{base:Heap}
theorem aCl:cA ["moment","row"] ["moment","row"] (aM hX):=⟨rfl,rfl,rfl,by decide,rfl,by decide,by decide⟩
theorem wZ {f C T:Addr}{fd:FuncData} (F:Fun K "do_measure" "do_measure" hX f fd) (hc:MC K C):cC P w K mg base CX0 1 f fd ["moment","row"] (iQ C T ["measure"]):=by
 refine F.ok aCl (fun vs H Q E h=>?_) (fun cdv A outer s H vs Q E hr h=>?_)
 ·obtain ⟨M,A,ws,n,m,x,r,rfl,_⟩:=h
  rfl
 ·obtain ⟨M,MA,ws,n,m,x,r,rfl,mom,hn,tb,rdv,ok,hw,k⟩:=h
  have hu:=jE hr
  refine ⟨_,aA (fY hu (dR (pv 0) rfl) (aX bJ (pv 1) aG (fun _ _=>rfl)) (aX bJ (pv 1) aG (fun _ _=>rfl)) rfl) (aQ (bE aV)),?_⟩
  obtain ⟨t,b8,rfl,ht,hrest⟩:=cE.Ok.tup (fs:=ws) rdv
  have hwd:r.word="measure":=by simpa using hw
  have rs:=ok.rs
  have fi:=ok.fi
  have t1:∀ z,aAs m r z:=fun z=>mH (by rw [hwd];decide) (by rw [hwd];decide)
  have t2:d7 m r=m:=mJ (by rw [hwd];decide) (by rw [hwd];decide)
  rw [t2] at k
  obtain ⟨word,name,day,ds⟩:=r
  dsimp only at hwd rs hrest ht fi
  subst hwd
  cases rs with
  | @measure field num hf h0 h1=>
  cases hrest with
  | cons q1 hrest=>
  cases hrest with
  | cons q2 hrest=>
  cases hrest
  cases q1
  cases q2
  obtain ⟨inc,hi,i2,i3⟩:=mom.i
  refine ⟨_,rfl,t,_,4,_,rfl,rfl,SqT.of ht,rfl,_,rfl,M,C,_,_,_,rfl,mom.ins,hc.cl,hc.i,rfl,_,rfl,t,_,3,_,rfl,rfl,SqT.of ht,rfl,MA.i,_,rfl,lE.k (k:=Sum.inr field) hi (Nat.lt_of_le_of_lt i3 (by rw [PySem.sizeLine_eq];omega)),?_⟩
  have hl:=dL inc (Sum.inr field) (.int num)
  refine k _ _ (t1 _) (eZ (by simp)) (jL tb hi) ((mom.mono (show n≤n + 6 by omega)).setI (fun w hw=>?_) (by omega))
  rw [sA]
  by_cases e:w=field
  ·rw [if_pos (by rw [e])]
   exact ⟨num,rfl⟩
  ·rw [if_neg (fun z=>e (Sum.inr.inj z))]
   exact i2 w hw
theorem aGB:cA ["moment","row"] ["moment","row"] (aM l9):=⟨rfl,rfl,rfl,by decide,rfl,by decide,by decide⟩
theorem aCm {f C T:Addr}{fd:FuncData} (F:Fun K "do_look" "do_look" l9 f fd) (hc:MC K C):cC P w K mg base CX0 1 f fd ["moment","row"] (iQ C T ["breach","view"]):=by
 refine F.ok aGB (fun vs H Q E h=>?_) (fun cdv A outer s H vs Q E hr h=>?_)
 ·obtain ⟨M,A,ws,n,m,x,r,rfl,_⟩:=h
  rfl
 ·obtain ⟨M,MA,ws,n,m,x,r,rfl,mom,hn,tb,rdv,ok,hw,k⟩:=h
  have hu:=jE hr
  refine ⟨_,aQ (bE (aCB (bV aAH (aX bJ (pv 1) aG (fun _ _=>rfl)) (fV hu (dR (pv 0) rfl) (aX bJ (pv 1) aG (fun _ _=>rfl)) (fun _ _=>rfl)) (cM _)) aV aV)),?_⟩
  obtain ⟨t,b8,rfl,ht,hrest⟩:=cE.Ok.tup (fs:=ws) rdv
  have hwd:r.word="breach"∨r.word="view":=by simpa using hw
  have hw1:r.word≠"mend":=fun z=>by rcases hwd with e | e <;> (rw [e] at z;revert z;decide)
  have hw2:r.word≠"alone":=fun z=>by rcases hwd with e | e <;> (rw [e] at z;revert z;decide)
  rw [mJ hw1 hw2] at k
  obtain ⟨field,num,more,hds,hin⟩:∃ field num more,r.ds=.str field :: .int num :: more∧field∈ws:=by
   have rs:=ok.rs
   have fi:=ok.fi
   rcases hwd with e | e
   ·rw [e] at rs fi
    cases hd:r.ds with
    | nil=>rw [hd] at rs;cases rs
    | cons d0 ds0=>
     rw [hd] at rs fi
     cases rs
     exact ⟨_,_,_,rfl,fi (by decide) _ _ rfl⟩
   ·rw [e] at rs fi
    cases hd:r.ds with
    | nil=>rw [hd] at rs;cases rs
    | cons d0 ds0=>
     rw [hd] at rs fi
     cases rs
     exact ⟨_,_,_,rfl,fi (by decide) _ _ rfl⟩
  rw [hds] at hrest
  cases hrest with
  | cons q1 hrest=>
  cases hrest with
  | cons q2 hrest=>
  cases q1
  cases q2
  have hz:=ht
  obtain ⟨inc,hi,i2,i3⟩:=mom.i
  obtain ⟨v,hv⟩:=i2 field hin
  have a3:∀ (a b c d e:V) (r:List V),atI (a :: b :: c :: d :: e :: r) 3=some d∧atI (a :: b :: c :: d :: e :: r) 4=some e:=fun a b c d e r=>by
   have hl:(a :: b :: c :: d :: e :: r).length=r.length + 5:=rfl
   unfold atI ixN
   rw [hl,if_pos (by decide),if_pos (by omega),if_pos (by decide),if_pos (by omega)]
   exact ⟨rfl,rfl⟩
  refine ⟨_,rfl,t,_,4,_,rfl,rfl,SqT.of ht,(a3 _ _ _ _ _ _).2,_,rfl,M,C,_,_,_,rfl,mom.ins,hc.cl,hc.i,rfl,_,rfl,t,_,3,_,rfl,rfl,SqT.of ht,(a3 _ _ _ _ _ _).1,MA.i,_,rfl,.inl ⟨inc,Sum.inr field,.inl hi,rfl,hv.symm⟩,_,_,rfl,rfl,_,rfl,?_⟩
  exact eG (fun _=>k _ _ (mH hw1 hw2) (cZ.refl H) tb (mom.mono (by omega))) fun _=>k _ _ (mH hw1 hw2) (cZ.refl H) tb (mom.mono (by omega))
theorem aEg:cA ["moment","row","house","other"] ["moment","row"] (aM l7):=⟨rfl,rfl,rfl,by decide,rfl,by decide,by decide⟩
theorem aCn {f fR C T:Addr}{fd fdR:FuncData} (F:Fun K "do_mend" "do_mend" l7 f fd) (hc:MC K C)
  (GR:cC P w K mg base CX0 1 fR fdR ["menders","house"] p5) (mR:mg "road_from"=some (.ref fR)) (kR:PySem.W.keepIn K (.ref fR)=true) (bR:cQ K fdR ["menders","house"] []):cC P w K mg base CX0 2 f fd ["moment","row"] (iQ C T ["mend"]):=by
 refine F.ok aEg (fun vs H Q E h=>?_) (fun cdv A outer s H vs Q E hr h=>?_)
 ·obtain ⟨M,A,ws,n,m,x,r,rfl,_⟩:=h
  rfl
 ·obtain ⟨M,MA,ws,n,m,x,r,rfl,mom,hn,tb,rdv,ok,hw,k⟩:=h
  have hu:=jE hr
  have nd:=aEg.nd
  refine ⟨_,aA (wB (i:=2) (j:=3) rfl nd rfl rfl (by decide) rfl rfl (aE (aX bJ (pv 1) aG (fun _ _=>rfl)) (aE (aX bJ (pv 1) aG (fun _ _=>rfl)) aB)) rfl)
   (aA (cU (bV uQ (pv 2) (aS GR hr rfl mR kR bR .nil bY (aE (dR (pv 0) rfl) (aE (pv 3) aB))) (by with_unfolding_all rfl)) (aQ (bE aV)) bH)
   (aA (fY hu (dR (pv 0) rfl) (pv 2) (pv 3) rfl)
   (aQ (bE aV)))),?_⟩
  obtain ⟨t,b8,rfl,ht,hrest⟩:=cE.Ok.tup (fs:=ws) rdv
  have hwd:r.word="mend":=by simpa using hw
  have rs:=ok.rs
  obtain ⟨word,name,day,ds⟩:=r
  dsimp only at hwd rs hrest ht
  subst hwd
  cases rs with
  | @mend house other hh ho hne=>
  cases hrest with
  | cons q1 hrest=>
  cases hrest with
  | cons q2 hrest=>
  cases hrest
  cases q1
  cases q2
  have ml:=mom.ml
  refine ⟨_,rfl,t,_,3,_,rfl,rfl,SqT.of ht,rfl,_,rfl,t,_,4,_,rfl,rfl,SqT.of ht,rfl,_,_,rfl,?_⟩
  refine ⟨_,rfl,_,rfl,M,C,_,_,_,rfl,mom.ins,hc.cl,hc.m,rfl,_,rfl,MA.me,other,m,rfl,mom.me,mom.ac,by omega,fun L H1 hL S1 hL1=>?_⟩
  refine ⟨L,_,rfl,.inl (SqL.of hL1),rfl,dX _,_,rfl,?_⟩
  have mom1:=mom.same S1
  have tb1:Tb T H1:=tb.same S1
  have e1:d7 m ⟨"mend",name,day,[.str house,.str other]⟩=oR m house other:=p8 _ _ _ _ _
  rw [e1] at k
  show if (if false=true then !inV (V.str house) ((rd m other).map V.str) else inV (V.str house) ((rd m other).map V.str))=true then _ else _
  rw [if_neg Bool.false_ne_true,wY]
  by_cases g:house∈rd m other
  ·rw [decide_eq_true g]
   refine fZ (k _ _ ⟨fun a b _ e=>?_,fun a e=>?_⟩ (dY S1) tb1 ?_)
   ·cases e
    rw [if_pos g]
   ·exact absurd e (by show ("mend":Str)≠"alone";decide)
   ·unfold oR
    rw [if_pos g]
    exact mom1.mono (by omega)
  ·rw [decide_eq_false g]
   refine dP ?_
   refine ⟨_,rfl,_,rfl,M,C,_,_,_,rfl,mom1.ins,hc.cl,hc.m,rfl,_,rfl,MA.me,_,rfl,lE.k (k:=Sum.inr house) mom1.me (Nat.lt_of_le_of_lt ml (by rw [PySem.sizeLine_eq];omega)),?_⟩
   have hml:=vI m house other
   have ac:=mom.ac.mend house other
   have em:oR m house other=c5 m (Sum.inr house) (.str other):=if_neg g
   rw [em] at k hml ac
   refine k _ _ ⟨fun a b _ e=>?_,fun a e=>?_⟩ ((dY S1).trans (eZ (by simp))) (jL tb1 mom1.me) ((mom1.mono (show n≤n + 6 by omega)).setM ac (by omega))
   ·cases e
    rw [if_neg g]
   ·exact absurd e (by show ("mend":Str)≠"alone";decide)
theorem aFi:cA ["moment","row"] ["moment","row"] (aM jZ):=⟨rfl,rfl,rfl,by decide,rfl,by decide,by decide⟩
theorem aAt {f C T:Addr}{fd:FuncData} (F:Fun K "do_alone" "do_alone" jZ f fd) (hc:MC K C):cC P w K mg base CX0 1 f fd ["moment","row"] (iQ C T ["alone"]):=by
 refine F.ok aFi (fun vs H Q E h=>?_) (fun cdv A outer s H vs Q E hr h=>?_)
 ·obtain ⟨M,A,ws,n,m,x,r,rfl,_⟩:=h
  rfl
 ·obtain ⟨M,MA,ws,n,m,x,r,rfl,mom,hn,tb,rdv,ok,hw,k⟩:=h
  have hu:=jE hr
  refine ⟨_,aA (cU (gX (pH hu (aX bJ (pv 1) aG (fun _ _=>rfl)) (dR (pv 0) rfl))) (aQ (bE aV)) bH)
   (aA (dJ (oC (dR (pv 0) rfl) (aX bJ (pv 1) aG (fun _ _=>rfl)) ⟨rfl,rfl,rfl,rfl⟩))
   (aQ (bE aV))),?_⟩
  obtain ⟨t,b8,rfl,ht,hrest⟩:=cE.Ok.tup (fs:=ws) rdv
  have hwd:r.word="alone":=by simpa using hw
  have rs:=ok.rs
  obtain ⟨word,name,day,ds⟩:=r
  dsimp only at hwd rs hrest ht
  subst hwd
  cases rs with
  | @alone house hh=>
  cases hrest with
  | cons q1 hrest=>
  cases hrest
  cases q1
  have e1:d7 m ⟨"alone",name,day,[.str house]⟩=kY m house:=nU _ _ _ _
  rw [e1] at k
  have t1:∀ z:Str,z=(if (dH m (Sum.inr house)).isSome=true then ("done":Str) else "none")→aAs m ⟨"alone",name,day,[.str house]⟩ z:=fun z hz=>⟨fun a b e=>absurd e (by show ("alone":Str)≠"mend";decide),fun a _ e=>by cases e;exact hz⟩
  refine ⟨_,rfl,t,_,3,_,rfl,rfl,SqT.of ht,rfl,_,rfl,M,C,_,_,_,rfl,mom.ins,hc.cl,hc.m,rfl,MA.me,_,rfl,.inl ⟨m,Sum.inr house,.inl mom.me,rfl,rfl⟩,_,rfl,?_⟩
  cases hv:dH m (Sum.inr house) with
  | none=>
   rw [hv] at t1
   refine fZ (k _ _ (t1 _ rfl) (cZ.refl H) tb ?_)
   unfold kY
   rw [hv]
   exact mom.mono (by omega)
  | some v=>
   rw [hv] at t1
   refine dP ?_
   refine ⟨_,rfl,M,C,_,_,_,rfl,mom.ins,hc.cl,hc.m,rfl,MA.me,rfl,.inl ⟨m,.inl mom.me⟩,_,rfl,t,_,3,_,rfl,rfl,SqT.of ht,rfl,m,Sum.inr house,v,mom.me,rfl,hv,?_⟩
   have ea:kY m house=dC m (Sum.inr house):=if_pos (by rw [hv];rfl)
   rw [ea] at k
   have ml:=mom.ml
   have hd:=lQ m (Sum.inr house)
   exact k _ _ (t1 _ rfl) (eZ (by simp)) (jL tb mom.me) ((mom.mono (show n≤n + 6 by omega)).setM mom.ac.drop (by omega))
end
end K36
namespace L2
open PySem PySem.Spec PyProof.Rows
theorem w5 {X:Cx}{K:PySem.W.Frag}{e:Expr}{f:Str}{pos:Pos}{ta:TE} (he:PE X e ta) (hb:attributeBase e f X.env (eval e X.env)=eval e X.env:=by rfl) (hK:X.K=K:=by rfl):PE X (.Attribute e f pos) (aGW K ta f):=by
 subst hK
 exact dR he hb
end L2
namespace K36
open PySem L2
theorem oW {H:Hp}:∀ {us:List V}{R:List P3},cW false H us (R.map pD)→∀ {i:Nat}{v:V},us[i]?=some v→∃ p q,R[i]?=some p∧v=.ref q∧H q=some (.tup [.str p.1,.str p.2.1,.int p.2.2])
 | _,[],h,i,v,e=>by cases h;simp at e
 | _,p :: R,h,i,v,e=>by
  rw [List.map_cons] at h
  cases h with
  | cons a r=>
   cases i with
   | zero=>
    simp at e
    subst e
    unfold pD at a
    cases a with
    | tup e hl q=>
     cases q with
     | cons q1 q=>
      cases q with
      | cons q2 q=>
       cases q with
       | cons q3 q=>
        cases q
        cases q1
        cases q2
        cases q3
        exact ⟨p,_,rfl,rfl,e⟩
   | succ i=>
    obtain ⟨p',q,e1,e2⟩:=oW r (i:=i) (by simpa using e)
    exact ⟨p',q,by simpa using e1,e2⟩
theorem aAu {p:P3} (h:aBc (pD p)=true):1≤p.2.2:=by
 simp only [pD,aBc,lW,Bool.and_eq_true,decide_eq_true_eq] at h
 omega
section
variable {P:Program}{w:World}{K:PySem.W.Frag}{mg:Str→Option Value}{base:Heap}
theorem aEh:cA ["moment","row","parted","parts","pieces","low","land","house","acres"] ["moment","row"] (aM jI):=⟨rfl,rfl,rfl,by decide,rfl,by decide,by decide⟩
theorem aCo {f fA fC C T:Addr}{fd fdA fdC:FuncData} (F:Fun K "do_part" "do_part" jI f fd) (hc:MC K C) (hsum:mg "sum"=none) (hany:mg "any"=none)
  (GA:cC P w K mg base CX0 1 fA fdA ["pieces"] aBn) (mA:mg "acres_in"=some (.ref fA)) (kA:PySem.W.keepIn K (.ref fA)=true) (bA:cQ K fdA ["pieces"] [])
  (GC:cC P w K mg base CX0 1 fC fdC ["pieces","low","high"] aFJ) (mC:mg "cut"=some (.ref fC)) (kC:PySem.W.keepIn K (.ref fC)=true) (bC:cQ K fdC ["pieces","low","high"] []):cC P w K mg base CX0 2 f fd ["moment","row"] (iQ C T ["part"]):=by
 refine F.ok aEh (fun vs H Q E h=>?_) (fun cdv A outer s H vs Q E hr h=>?_)
 ·obtain ⟨M,A,ws,n,m,x,r,rfl,_⟩:=h
  rfl
 ·obtain ⟨M,MA,ws,n,m,x,r,rfl,mom,hn,tb,rdv,ok,hw,k⟩:=h
  have hu:=jE hr
  have nd:=aEh.nd
  have nd3:(["part","moment","parted"]:List Str).Nodup:=by decide
  refine ⟨_,aA (lH (c0 (aE (aX bJ (pv 1) aG (fun _ _=>rfl)) (aE (aX bJ (pv 1) aG (fun _ _=>rfl)) aB))) (iY rfl (cH (bG (i:=2) nd rfl (Or.inr rfl)) (cH (bG (i:=3) nd rfl (Or.inl rfl)) gL))))
   (aA (cU (gX (pH hu (pv 2) (dR (pv 0) rfl))) (aQ (bE aV)) bH)
   (aA (aW (i:=4) nd rfl (Or.inl rfl) (aX bJ (fV hu (dR (pv 0) rfl) (pv 2) (fun _ _=>rfl)) aG (fun _ _=>rfl)))
   (aA (cU (bV qB (bF (xY rfl) (by rfl) hsum PyProof.Rows.boot_sum (aE (jF (N:=["part"]) (src:=[none]) (osc:=aM jI) (oN:=["moment","row","parted","parts","pieces","low","land","house","acres"]) ⟨by rfl,by decide,by decide,by decide,rfl,by rfl⟩ (gY (pv 3))
     fun cl s H fp pins C=>⟨bG (i:=0) (show (["part"]:List Str).Nodup by decide) rfl (Or.inl rfl),gP,aX (r:=wF K) bJ (pv 0) aG (fun _ _=>rfl)⟩) aB))
     (aS GA hr rfl mA kA bA .nil bY (aE (pv 4) aB)) (cM _)) (aQ (bE aV)) bH)
   (aA (cU (gJ (bF (xW rfl) (by rfl) hany (by kernel_rfl) (aE (jF (N:=["part","moment","parted"]) (src:=[none,some 0,some 2]) (osc:=aM jI) (oN:=["moment","row","parted","parts","pieces","low","land","house","acres"]) ⟨by rfl,by decide,by decide,by decide,rfl,by rfl⟩ (gY (pv 3))
     fun cl s H fp pins C=>⟨bG (i:=0) nd3 rfl (Or.inl rfl),gP,aFS (rB qB (aX (r:=wF K) bJ (pv 0) aG (fun _ _=>rfl)) (pv 2) (cM _)) (aFR (aCz (pG hu (aX (r:=wF K) bJ (pv 0) aG (fun _ _=>rfl)) (w5 (K:=K) (pv 1)))))⟩) aB))) (aQ (bE aV)) bH)
   (aA (dJ (oC (dR (pv 0) rfl) (pv 2) ⟨rfl,rfl,rfl,rfl⟩))
   (aA (aW (i:=5) nd rfl (Or.inl rfl) aG)
   (aA (f7 PassesOwn.never rfl (gY (pv 3)) (g:=aBN K 3 (iE (cY 6) (iE (cY 7) (iE (cY 8) aBM)))) (iY rfl (cH (bG (i:=6) nd rfl (Or.inl rfl)) (cH (bG (i:=7) nd rfl (Or.inl rfl)) (cH (bG (i:=8) nd rfl (Or.inl rfl)) gL))))
    (aA (fY hu (dR (pv 0) rfl) (pv 6) (c0 (aE (pv 7) (aE (aS GC hr rfl mC kC bC .nil bY (aE (pv 4) (aE (pv 5) (aE (aZ c8 (pv 5) (pv 8)) aB)))) aB))) rfl)
    (aQ (aCF (i:=5) nd rfl (Or.inl rfl) (pv 8) aCG))))
   (aQ (bE aV))))))))),?_⟩
  obtain ⟨t,b8,rfl,ht,hrest⟩:=cE.Ok.tup (fs:=ws) rdv
  have hwd:r.word="part":=by simpa using hw
  have rs:=ok.rs
  have t1:∀ z,aAs m r z:=fun z=>mH (by rw [hwd];decide) (by rw [hwd];decide)
  have t2:d7 m r=m:=mJ (by rw [hwd];decide) (by rw [hwd];decide)
  rw [t2] at k
  obtain ⟨word,name,day,ds⟩:=r
  dsimp only at hwd rs hrest ht
  subst hwd
  cases rs with
  | @part parted R hl hrise h2 h6 hall=>
  cases hrest with
  | cons q1 hrest=>
  cases hrest with
  | cons q2 hrest=>
  cases hrest
  cases q1
  cases q2 with
  | @tup tp us _ etp htl hus=>
  have hul:=hus.len
  rw [List.length_map] at hul
  refine ⟨_,rfl,t,_,3,_,rfl,rfl,SqT.of ht,rfl,_,rfl,t,_,4,_,rfl,rfl,SqT.of ht,rfl,aH (by show 2≤1000000;decide),fun u hu0=>?_⟩
  have su:=aU.new (o:=.tup [V.str parted,.ref tp]) hu0
  refine ⟨u,_,rfl,SqT.of aF,rfl,_,_,rfl,_,_,rfl,rfl,?_⟩
  generalize upd H u (.tup [V.str parted,.ref tp])=H0 at su ⊢
  have mom0:=mom.same su
  have tb0:Tb T H0:=tb.same su
  have etp0:=su _ _ etp
  have hus0:=hus.same su
  obtain ⟨hol,b,hh1,hnd,hlen,hT,hb⟩:=mom0.h
  refine ⟨_,rfl,_,rfl,M,C,_,_,_,rfl,mom0.ins,hc.cl,hc.h,rfl,MA.h,_,rfl,.inl ⟨hol,Sum.inr parted,.inl hh1,rfl,rfl⟩,_,rfl,?_⟩
  cases hv:dH hol (Sum.inr parted) with
  | none=>exact fZ (k _ _ (t1 _) (dY su) tb0 (mom0.mono (by omega)))
  | some v=>
  refine dP ?_
  obtain ⟨a,b',he,hT',hab⟩:=hT.take hv
  obtain ⟨t3,tp3,hs,xs,ps,rfl,e1,e2,e3,e4,e5⟩:=he
  refine ⟨_,rfl,M,C,_,_,_,rfl,mom0.ins,hc.cl,hc.h,rfl,_,rfl,MA.h,_,rfl,.inl ⟨hol,Sum.inr parted,.inl hh1,rfl,hv.symm⟩,t3,_,1,_,rfl,rfl,SqT.of e1,rfl,?_⟩
  have hpl:=e4.len
  have hxl:=Paired.length e3
  have hpos:=hT'.pos
  have hxz:xs.length≤8000000:=by omega
  have z8:∀ i,i≤8000000→i≤sizeLine:=fun i h=>by rw [PySem.sizeLine_eq];omega
  refine ⟨_,rfl,tp,rfl,⟨_,SqT.of etp0⟩,?_⟩
  refine jU (K:=K) (xs:=us) (fun i ys σ' H'=>∃ o1:Option V,σ'=[o1]∧aU H0 H'∧ys=((R.take i).map fun p=>p.2.2).map V.int) ⟨none,rfl,aU.refl H0,by simp⟩
   (z8 _ (by omega)) (fun i ys σ H' p=>by obtain ⟨_,_,_,rfl⟩:=p;simp;omega) (fun i ys σ H' p=>by obtain ⟨_,_,S,_⟩:=p;exact SqT.of (S _ _ etp0)) ?_ ?_
  ·rintro i v ys σ' H1 hv ⟨o1,rfl,S,rfl⟩
   obtain ⟨p,q,hp,rfl,hq⟩:=oW hus0 hv
   dsimp only [cY]
   refine fZ ?_
   refine ⟨_,rfl,q,_,2,_,rfl,rfl,SqT.of (S _ _ hq),rfl,_,rfl,S,?_⟩
   rw [List.take_add_one,hp]
   simp
  rintro ys σ' H1 ⟨o1,rfl,S1,rfl⟩ D hD
  rw [hul,List.take_length]
  have S2:=S1.trans (aU.new (o:=.lst ((R.map fun p=>p.2.2).map V.int)) hD)
  refine ⟨D,R.map fun p=>p.2.2,rfl,SqL.of aF,?_⟩
  refine ⟨_,rfl,tp3,xs,ps,rfl,S2 _ _ e2,e3.same S2,z8 _ hxz,fun H3 S3=>?_⟩
  have S4:=S2.trans S3
  generalize upd H1 D _=H2 at S2 S3
  refine ⟨rfl,_,rfl,?_⟩
  refine eG (fun g=>k _ _ (t1 _) (dY (su.trans S4)) (tb0.same S4) ((mom0.same S4).mono (by omega))) fun g=>?_
  refine ⟨_,rfl,tp,rfl,⟨_,SqT.of (S4 _ _ etp0)⟩,?_⟩
  refine jU (K:=K) (xs:=us) (fun i ys σ' H'=>∃ (o1:Option V) (bs:List Bool),σ'=[o1,some (.ref M),some (.str parted)]∧aU H3 H'∧ys=bs.map V.bl∧bs.length=i) ⟨none,[],rfl,aU.refl H3,rfl,rfl⟩
   (z8 _ (by omega)) (fun i ys σ H' p=>by obtain ⟨_,_,_,_,rfl,e⟩:=p;simp;omega) (fun i ys σ H' p=>by obtain ⟨_,_,_,S,_⟩:=p;exact SqT.of (S _ _ (S4 _ _ etp0))) ?_ ?_
  ·rintro i v ys σ' H5 hv ⟨o1,bs,rfl,S,rfl,hbl⟩
   obtain ⟨p,q,hp,rfl,hq⟩:=oW hus0 hv
   have hq5:=S _ _ (S4 _ _ hq)
   have mom5:=(mom0.same S4).same S
   have nx:∀ c:Bool,∃ (o1:Option V) (bs':List Bool),[some (V.ref q),some (V.ref M),some (.str parted)]=[o1,some (.ref M),some (.str parted)]∧aU H3 H5∧bs.map V.bl ++ [.bl c]=bs'.map V.bl∧bs'.length=i + 1:=fun c=>⟨_,bs ++ [c],rfl,S,by simp,by simp [hbl]⟩
   dsimp only [cY]
   refine fZ ?_
   refine ⟨_,rfl,q,_,0,_,rfl,rfl,SqT.of hq5,rfl,_,rfl,rfl,_,rfl,?_⟩
   refine eG (fun g2=>?_) fun g2=>nx false
   refine ⟨_,rfl,q,_,0,_,rfl,rfl,SqT.of hq5,rfl,_,rfl,M,C,_,_,_,rfl,mom5.ins,hc.cl,hc.h,rfl,MA.h,_,rfl,.inl ⟨hol,Sum.inr p.1,.inl (S _ _ (S4 _ _ hh1)),rfl,rfl⟩,nx _⟩
  rintro ys σ' H5 ⟨o1,bs,rfl,S5,rfl,hbl⟩ D2 hD2
  have S6:=(S4.trans S5).trans (aU.new (o:=.lst (bs.map V.bl)) hD2)
  refine ⟨D2,bs,rfl,SqL.of aF,_,rfl,?_⟩
  generalize upd H5 D2 _=H6 at S6 ⊢
  have mom6:=mom0.same S6
  have tb6:Tb T H6:=tb0.same S6
  refine eG (fun g2=>k _ _ (t1 _) (dY (su.trans S6)) tb6 (mom6.mono (by omega))) fun g2=>?_
  refine ⟨_,rfl,M,C,_,_,_,rfl,mom6.ins,hc.cl,hc.h,rfl,MA.h,rfl,.inl ⟨hol,.inl (S6 _ _ hh1)⟩,_,rfl,hol,Sum.inr parted,_,S6 _ _ hh1,rfl,hv,?_⟩
  have hdl:=lQ hol (Sum.inr parted)
  have mom7:Mom (upd H6 MA.h (.dK (dC hol (Sum.inr parted)))) C M MA ws n m:=mom6.setH (jT hnd) (by omega) (Nat.le_refl _) (hT'.on (dO S6)) (by omega)
  have tb7:Tb T (upd H6 MA.h (.dK (dC hol (Sum.inr parted)))):=jL tb6 (S6 _ _ hh1)
  have K7:cZ [T,MA.h,MA.i,MA.me] H (upd H6 MA.h (.dK (dC hol (Sum.inr parted)))):=(dY (su.trans S6)).trans (eZ (by simp))
  have T7:gI H0 (upd H6 MA.h (.dK (dC hol (Sum.inr parted)))):=fun q us e=>by
   rw [aJ (dS (S6 _ _ e) (S6 _ _ hh1) (fun z=>nomatch z))]
   exact S6 _ _ e
  have hT7:gF (upd H6 MA.h (.dK (dC hol (Sum.inr parted)))) ws (dC hol (Sum.inr parted)) b':=hT'.on T7
  have hh7:upd H6 MA.h (.dK (dC hol (Sum.inr parted))) MA.h=some (.dK (dC hol (Sum.inr parted))):=aF
  generalize upd H6 MA.h (.dK (dC hol (Sum.inr parted)))=H7 at mom7 tb7 K7 T7 hT7 hh7 ⊢
  have hpp:∀ p∈ps,p.2.1 < p.2.2:=fun p hp=>(e4.ok p hp).2
  refine ⟨_,rfl,tp,rfl,⟨_,SqT.of (T7 _ _ etp0)⟩,?_⟩
  refine kF (K:=K) (xs:=us) (fun i σ H'=>∃ (o6 o7 o8:Option V) (lo c:Int) (hl:List (Key×V)),σ=[some (.ref M),some (.ref t),some (.str parted),some (.ref tp),some (.ref tp3),some (.int lo),o6,o7,o8]∧cZ [T,MA.h,MA.i,MA.me] H H'∧gI H0 H'∧Tb T H'∧Mom H' C M MA ws (n + i) m∧H' MA.h=some (.dK hl)∧(hl.map (·.1)).Nodup∧hl.length≤n + i∧gF H' ws hl c∧0≤lo∧c≤b' + bef ps lo)
   ⟨none,none,none,0,b',dC hol (Sum.inr parted),rfl,K7,T7,tb7,mom7,hh7,jT hnd,by omega,hT7,Int.le_refl _,by rw [aFI ps 0 hpp (Int.le_refl _)];omega⟩ (fun i σ H' _ p=>by obtain ⟨_,_,_,_,_,_,_,_,tt,_⟩:=p;exact SqT.of (tt _ _ etp0)) ?_ ?_
  ·rintro i v σ H8 hv8 ⟨o6,o7,o8,lo,c,hl8,rfl,K8,T8,tb8,mom8,hh8,hnd8,hlen8,hT8,hlo,hc8⟩
   obtain ⟨p,q,hp,rfl,hq⟩:=oW hus0 hv8
   have hac:1≤p.2.2:=aAu (List.all_eq_true.mp hall _ (List.mem_map_of_mem (List.mem_of_getElem? hp)))
   have hi6:i < R.length:=(List.getElem?_eq_some_iff.mp hp).1
   refine ⟨q,_,rfl,SqT.of (T8 _ _ hq),rfl,_,_,rfl,_,_,rfl,_,_,rfl,rfl,?_⟩
   refine ⟨_,rfl,_,rfl,_,rfl,_,rfl,_,rfl,_,_,rfl,rfl,tp3,xs,ps,lo,lo + p.2.2,rfl,T8 _ _ e2,e3.on T8,z8 _ hxz,fun t9 ys9 H9 S9 ht9 hY9=>?_⟩
   refine ⟨aH (by show 2≤1000000;decide),fun u9 hu9=>?_⟩
   have S10:=S9.trans (aU.new (o:=.tup [V.str p.2.1,.ref t9]) hu9)
   have hY10:=hY9.same (aU.new (o:=.tup [V.str p.2.1,.ref t9]) hu9)
   have ht10:=(aU.new (o:=.tup [V.str p.2.1,.ref t9]) hu9) _ _ ht9
   have hu10:upd H9 u9 (.tup [V.str p.2.1,.ref t9]) u9=_:=aF
   generalize upd H9 u9 (.tup [V.str p.2.1,.ref t9])=H10 at S10 hY10 ht10 hu10 ⊢
   have mom10:=mom8.same S10
   have hE:nQ H10 ws (.ref u9) (acr (mU ps lo (lo + p.2.2))):=⟨u9,t9,p.2.1,ys9,_,rfl,hu10,ht10,hY10,yP e4,rfl⟩
   obtain ⟨c',hT10,hc10⟩:=(hT8.on (dO S10)).put (k:=Sum.inr p.1) hnd8 hE
   have hcut:=aBm (lo:=lo) (hi:=lo + p.2.2) e4 (by omega)
   have hbl8:=aEa ps (lo + p.2.2) hpp
   have hlp:=dL hl8 (Sum.inr p.1) (.ref u9)
   refine ⟨_,rfl,M,C,_,_,_,rfl,mom10.ins,hc.cl,hc.h,rfl,_,rfl,MA.h,_,rfl,lE.k (k:=Sum.inr p.1) (S10 _ _ hh8) (Nat.lt_of_le_of_lt hlen8 (by rw [PySem.sizeLine_eq];omega)),?_⟩
   refine ⟨_,rfl,_,rfl,_,_,rfl,rfl,?_⟩
   have T11:gI H10 (upd H10 MA.h (.dK (c5 hl8 (Sum.inr p.1) (.ref u9)))):=fun q us e=>by
    rw [aJ (dS e (S10 _ _ hh8) (fun z=>nomatch z))]
    exact e
   exact ⟨_,_,_,lo + p.2.2,c',c5 hl8 (Sum.inr p.1) (.ref u9),rfl,(K8.same S10).trans (eZ (by simp)),fun q us e=>T11 _ _ (S10 _ _ (T8 _ _ e)),jL (tb8.same S10) (S10 _ _ hh8),mom10.setH (tW _ hnd8) (by omega) (by omega) hT10 (by omega),aF,tW _ hnd8,by omega,hT10.on T11,by omega,by omega⟩
  ·rintro σ H8 ⟨o6,o7,o8,lo,c,hl8,rfl,K8,T8,tb8,mom8,hh8,hnd8,hlen8,hT8,hlo,hc8⟩
   exact k _ _ (t1 _) K8 tb8 (mom8.mono (by omega))
end
end K36
namespace K36
open PySem L2
theorem Mom.sameT {H H':Hp}{C M T:Addr}{A:MA}{ws:List Str}{n:Nat}{m:Mnd} (h:Mom H C M A ws n m) (s:dD T H H') (g:Tb T H):Mom H' C M A ws n m:=by
 obtain ⟨tps,hT,_⟩:=g.ex
 have go:∀ b o,H b=some o→(∀ ps,o≠.tbl ps)→H' b=some o:=fun b o e ne=>s b o (fun z=>by rw [z,hT] at e;cases e;exact ne _ rfl) e
 obtain ⟨rks,hr,r2⟩:=h.r
 obtain ⟨hol,b,hh,h2,h3,h4,h5⟩:=h.h
 obtain ⟨inc,hi,i2⟩:=h.i
 exact ⟨go _ _ h.ins (fun _ z=>nomatch z),⟨rks,go _ _ hr (fun _ z=>nomatch z),r2⟩,⟨hol,b,go _ _ hh (fun _ z=>nomatch z),h2,h3,h4.on (eO s g),h5⟩,⟨inc,go _ _ hi (fun _ z=>nomatch z),i2⟩,go _ _ h.me (fun _ z=>nomatch z),h.ac,h.ml,h.rh,h.ri,h.rm,h.hi,h.hm,h.im⟩
theorem Mom.list {H:Hp}{C M L:Addr}{A:MA}{ws:List Str}{n:Nat}{m:Mnd}{xs ys:List V} (h:Mom H C M A ws n m) (e:H L=some (.lst xs)):Mom (upd H L (.lst ys)) C M A ws n m:=by
 have go:∀ b o,H b=some o→(∀ xs,o≠.lst xs)→upd H L (.lst ys) b=some o:=fun b o q ne=>by
  rw [aJ (fun z=>by rw [z,e] at q;cases q;exact ne _ rfl)]
  exact q
 obtain ⟨rks,hr,r2⟩:=h.r
 obtain ⟨hol,b,hh,h2,h3,h4,h5⟩:=h.h
 obtain ⟨inc,hi,i2⟩:=h.i
 exact ⟨go _ _ h.ins (fun _ z=>nomatch z),⟨rks,go _ _ hr (fun _ z=>nomatch z),r2⟩,⟨hol,b,go _ _ hh (fun _ z=>nomatch z),h2,h3,h4.on (fun q us z=>go _ _ z (fun _ z=>nomatch z)),h5⟩,⟨inc,go _ _ hi (fun _ z=>nomatch z),i2⟩,go _ _ h.me (fun _ z=>nomatch z),h.ac,h.ml,h.rh,h.ri,h.rm,h.hi,h.hm,h.im⟩
theorem aBr {T L:Addr}{xs ys:List V}{H:Hp} (g:Tb T H) (e:H L=some (.lst xs)):Tb T (upd H L (.lst ys)):=aEe g fun b o q n=>by
 rw [aJ (fun z=>n ⟨xs,by rw [z];exact e⟩)]
 exact q
theorem w6 {R:List Str} (h:wU R=true):R.Nodup:=by
 have h:=of_decide_eq_true h
 exact h.imp fun {a b} hab e=>by
  subst e
  exact List.lt_irrefl _ hab
theorem vW {m:Bool}{H:Hp}:∀ {us:List V}{R:List Str},cW m H us (R.map PyData.str)→us=R.map V.str
 | _,[],h=>by cases h;rfl
 | _,z :: R,h=>by
  rw [List.map_cons] at h
  cases h with
  | cons a r=>
   cases a
   rw [vW r]
   rfl
section
variable {P:Program}{w:World}{K:PySem.W.Frag}{mg:Str→Option Value}{base:Heap}
theorem aEi:cA ["moment","row","joined","land","house","pieces","name"] ["moment","row"] (aM jJ):=⟨rfl,rfl,rfl,by decide,rfl,by decide,by decide⟩
theorem aCp {f fI C T:Addr}{fd fdI:FuncData} (F:Fun K "do_join" "do_join" jJ f fd) (hc:MC K C) (hall:mg "all"=none) (hany:mg "any"=none)
  (GI:cC P w K mg base CX0 4 fI fdI ["ranks","pieces"] (aBp T)) (mI:mg "in_one"=some (.ref fI)) (kI:PySem.W.keepIn K (.ref fI)=true) (bI:cQ K fdI ["ranks","pieces"] []):cC P w K mg base CX0 5 f fd ["moment","row"] (iQ C T ["join"]):=by
 refine F.ok aEi (fun vs H Q E h=>?_) (fun cdv A outer s H vs Q E hr h=>?_)
 ·obtain ⟨M,A,ws,n,m,x,r,rfl,_⟩:=h
  rfl
 ·obtain ⟨M,MA,ws,n,m,x,r,rfl,mom,hn,tb,rdv,ok,hw,k⟩:=h
  have hu:=jE hr
  have nd:=aEi.nd
  have nd2:(["name","moment"]:List Str).Nodup:=by decide
  have nd3:(["name","moment","house"]:List Str).Nodup:=by decide
  refine ⟨_,aA (wB (i:=2) (j:=3) rfl nd rfl rfl (by decide) rfl rfl (aE (aX bJ (pv 1) aG (fun _ _=>rfl)) (aE (aX bJ (pv 1) aG (fun _ _=>rfl)) aB)) rfl)
   (aA (cU (wA (gJ (bF (xV rfl) (by rfl) hall (by kernel_rfl) (aE (jF (N:=["name","moment"]) (src:=[none,some 0]) (osc:=aM jJ) (oN:=["moment","row","joined","land","house","pieces","name"]) ⟨by rfl,by decide,by decide,by decide,rfl,by rfl⟩ (gY (pv 2))
     fun cl s H fp pins C=>⟨bG (i:=0) nd2 rfl (Or.inl rfl),gP,aCz (pG hu (pv 0) (w5 (K:=K) (pv 1)))⟩) aB)))) (aQ (bE aV)) bH)
   (aA (aW (i:=4) nd rfl (Or.inr rfl) (aX bJ (fV hu (dR (pv 0) rfl) (aX bJ (pv 2) aG (fun _ _=>rfl)) (fun _ _=>rfl)) aG (fun _ _=>rfl)))
   (aA (cU (gJ (bF (xW rfl) (by rfl) hany (by kernel_rfl) (aE (jF (N:=["name","moment","house"]) (src:=[none,some 0,some 4]) (osc:=aM jJ) (oN:=["moment","row","joined","land","house","pieces","name"]) ⟨by rfl,by decide,by decide,by decide,rfl,by rfl⟩ (gY (pv 2))
     fun cl s H fp pins C=>⟨bG (i:=0) nd3 rfl (Or.inl rfl),gP,rB qB (aX (r:=wF K) bJ (fV hu (w5 (K:=K) (pv 1)) (pv 0) (fun _ _=>rfl)) aG (fun _ _=>rfl)) (pv 2) (cM _)⟩) aB))) (aQ (bE aV)) bH)
   (aA (cU (nF (PW.pt (f6 (bV gN (pv 3) (pv 2) (by with_unfolding_all rfl)) (gC (gX (pG hu (pv 3) (dR (pv 0) rfl))))))) (aQ (bE aV)) bH)
   (aA (aW (i:=5) nd rfl (Or.inl rfl) (dA aB))
   (aA (f7 PassesOwn.never rfl (gY (pv 2)) (bG (i:=6) nd rfl (Or.inl rfl))
    (aQ (dJ (fF PySem.F.plainAttrs_list PySem.F.slot_list_extend PySem.F.type_list_extend aAe (pv 5) (aE (aX bJ (oC (dR (pv 0) rfl) (pv 6) ⟨rfl,rfl,rfl,rfl⟩) aG (fun _ _=>rfl)) aB)))))
   (aA (fY hu (dR (pv 0) rfl) (pv 3) (c0 (aE (pv 4) (aE (aS GI hr rfl mI kI bI .nil bY (aE (dR (pv 0) rfl) (aE (pv 5) aB))) aB))) rfl)
   (aQ (bE aV))))))))),?_⟩
  obtain ⟨t,b8,rfl,ht,hrest⟩:=cE.Ok.tup (fs:=ws) rdv
  have hwd:r.word="join":=by simpa using hw
  have rs:=ok.rs
  have t1:∀ z,aAs m r z:=fun z=>mH (by rw [hwd];decide) (by rw [hwd];decide)
  have t2:d7 m r=m:=mJ (by rw [hwd];decide) (by rw [hwd];decide)
  rw [t2] at k
  obtain ⟨word,name,day,ds⟩:=r
  dsimp only at hwd rs hrest ht
  subst hwd
  cases rs with
  | @join land R hl hrise h2 h6 hallR=>
  cases hrest with
  | cons q1 hrest=>
  cases hrest with
  | cons q2 hrest=>
  cases hrest
  cases q2
  cases q1 with
  | @tup tp us _ etp htl hus=>
  obtain rfl:=vW hus
  have hnR:=w6 hrise
  refine ⟨_,rfl,t,_,3,_,rfl,rfl,SqT.of ht,rfl,_,rfl,t,_,4,_,rfl,rfl,SqT.of ht,rfl,_,_,rfl,?_⟩
  obtain ⟨hol,b,hh1,hnd,hlen,hT,hb⟩:=mom.h
  have zs:∀ i,i≤8000000→i≤sizeLine:=fun i h=>by rw [PySem.sizeLine_eq];omega
  have hRl:(R.map V.str).length=R.length:=List.length_map _
  refine ⟨_,rfl,tp,rfl,⟨_,SqT.of etp⟩,?_⟩
  refine jU (K:=K) (xs:=R.map V.str) (fun i ys σ' H'=>∃ (o1:Option V),σ'=[o1,some (.ref M)]∧aU H H'∧ys=((R.take i).map fun z=>(dH hol (Sum.inr z)).isSome).map V.bl) ⟨none,rfl,aU.refl H,by simp⟩
   (zs _ (by omega)) (fun i ys σ H' p=>by obtain ⟨_,_,_,rfl⟩:=p;simp;omega) (fun i ys σ H' p=>by obtain ⟨_,_,S,_⟩:=p;exact SqT.of (S _ _ etp)) ?_ ?_
  ·rintro i v ys σ' H1 hv ⟨o1,rfl,S,rfl⟩
   rw [List.getElem?_map] at hv
   obtain ⟨z,hz,rfl⟩:=Option.map_eq_some_iff.mp hv
   dsimp only [cY]
   refine fZ ?_
   refine ⟨_,rfl,_,rfl,M,C,_,_,_,rfl,(mom.same S).ins,hc.cl,hc.h,rfl,MA.h,_,rfl,.inl ⟨hol,Sum.inr z,.inl (S _ _ hh1),rfl,rfl⟩,_,rfl,S,?_⟩
   rw [List.take_add_one,hz]
   simp
  rintro ys σ' H1 ⟨o1,rfl,S1,rfl⟩ D hD
  rw [hRl,List.take_length]
  have S2:=S1.trans (aU.new (o:=.lst ((R.map fun z=>(dH hol (Sum.inr z)).isSome).map V.bl)) hD)
  refine ⟨D,R.map fun z=>(dH hol (Sum.inr z)).isSome,rfl,SqL.of aF,_,rfl,?_⟩
  generalize upd H1 D _=H2 at S2 ⊢
  have mom2:=mom.same S2
  have tb2:Tb T H2:=tb.same S2
  refine eG (fun g=>k _ _ (t1 _) (dY S2) tb2 (mom2.mono (by omega))) fun g=>?_
  have hin:∀ z∈R,∃ v,dH hol (Sum.inr z)=some v:=fun z hz=>by
   have g':((R.map fun z=>(dH hol (Sum.inr z)).isSome).all id)=true:=by
    cases hh:((R.map fun z=>(dH hol (Sum.inr z)).isSome).all id) with
    | true=>rfl
    | false=>rw [hh] at g;exact absurd rfl g
   have:=List.all_eq_true.mp g' _ (List.mem_map_of_mem hz)
   exact Option.isSome_iff_exists.mp this
  have hT2:=hT.on (dO S2)
  have etp2:=S2 _ _ etp
  have hh2:=S2 _ _ hh1
  obtain ⟨z0,R',rfl⟩:∃ z0 R',R=z0 :: R':=by
   cases R with
   | nil=>simp at h2
   | cons z0 R'=>exact ⟨z0,R',rfl⟩
  obtain ⟨v0,hv0⟩:=hin z0 List.mem_cons_self
  obtain ⟨_,_,⟨t0,tp0,hs0,xs0,ps0,rfl,e1,_⟩,_⟩:=hT2.take hv0
  have at0:atI ((z0 :: R').map V.str) 0=some (.str z0):=gM (xs:=(z0 :: R').map V.str) (j:=0) rfl
  refine ⟨_,rfl,M,C,_,_,_,rfl,mom2.ins,hc.cl,hc.h,rfl,_,rfl,tp,_,0,_,rfl,rfl,SqT.of etp2,at0,MA.h,_,rfl,.inl ⟨hol,Sum.inr z0,.inl hh2,rfl,hv0.symm⟩,t0,_,0,_,rfl,rfl,SqT.of e1,rfl,?_⟩
  generalize hRR:z0 :: R'=R at *
  refine ⟨_,rfl,tp,rfl,⟨_,SqT.of etp2⟩,?_⟩
  refine jU (K:=K) (xs:=R.map V.str) (fun i ys σ' H'=>∃ (o1:Option V) (bs:List Bool),σ'=[o1,some (.ref M),some (.str hs0)]∧aU H2 H'∧ys=bs.map V.bl∧bs.length=i) ⟨none,[],rfl,aU.refl H2,rfl,rfl⟩
   (zs _ (by omega)) (fun i ys σ H' p=>by obtain ⟨_,_,_,_,rfl,e⟩:=p;simp;omega) (fun i ys σ H' p=>by obtain ⟨_,_,_,S,_⟩:=p;exact SqT.of (S _ _ etp2)) ?_ ?_
  ·rintro i v ys σ' H5 hv ⟨o1,bs,rfl,S,rfl,hbl⟩
   rw [List.getElem?_map] at hv
   obtain ⟨z,hz,rfl⟩:=Option.map_eq_some_iff.mp hv
   obtain ⟨v1,hv1⟩:=hin z (List.mem_of_getElem? hz)
   obtain ⟨_,_,⟨t5,tp5,hs5,xs5,ps5,rfl,e5,_⟩,_⟩:=hT2.take hv1
   dsimp only [cY]
   refine fZ ?_
   refine ⟨_,rfl,M,C,_,_,_,rfl,(mom2.same S).ins,hc.cl,hc.h,rfl,_,rfl,MA.h,_,rfl,.inl ⟨hol,Sum.inr z,.inl (S _ _ hh2),rfl,hv1.symm⟩,t5,_,0,_,rfl,rfl,SqT.of (S _ _ e5),rfl,_,rfl,rfl,?_⟩
   exact ⟨_,bs ++ [!decide (V.str hs5=V.str hs0)],rfl,S,by rw [List.map_append];rfl,by simp [hbl]⟩
  rintro ys σ' H5 ⟨o1,bs,rfl,S5,rfl,hbl⟩ D2 hD2
  have S6:=S5.trans (aU.new (o:=.lst (bs.map V.bl)) hD2)
  refine ⟨D2,bs,rfl,SqL.of aF,_,rfl,?_⟩
  generalize upd H5 D2 _=H6 at S6 ⊢
  have mom6:=mom2.same S6
  have tb6:Tb T H6:=tb2.same S6
  have S26:=S2.trans S6
  refine eG (fun g2=>k _ _ (t1 _) (dY S26) tb6 (mom6.mono (by omega))) fun g2=>?_
  refine ⟨fun _ H'=>H'=H6,?_,fun bb H' e=>?_⟩
  ·refine ⟨_,rfl,_,rfl,tp,_,rfl,.inr (SqT.of (S6 _ _ etp2)),rfl,dX _,_,rfl,?_⟩
   refine eG (fun g3=>?_) fun g3=>rfl
   exact ⟨_,rfl,_,rfl,M,C,_,_,_,rfl,mom6.ins,hc.cl,hc.h,rfl,MA.h,_,rfl,.inl ⟨hol,Sum.inr land,.inl (S6 _ _ hh2),rfl,rfl⟩,_,rfl,rfl⟩
  subst e
  refine eG (fun g3=>k _ _ (t1 _) (dY S26) tb6 (mom6.mono (by omega))) fun g3=>?_
  refine ⟨Nat.zero_le _,fun L hL=>?_⟩
  have sL:=aU.new (o:=.lst []) hL
  have mom7:=mom6.same sL
  have tb7:Tb T _:=tb6.same sL
  have hL7:upd H' L (.lst []) L=some (.lst []):=aF
  have S27:=S26.trans sL
  have nHL:H L=none:=S26.free hL
  generalize upd H' L (.lst [])=H7 at sL mom7 tb7 hL7 S27 ⊢
  have etp7:=S27 _ _ etp
  refine ⟨_,rfl,tp,rfl,⟨_,SqT.of etp7⟩,?_⟩
  refine kF (K:=K) (xs:=R.map V.str) (fun i σ H'=>∃ (o6:Option V) (hl:List (Key×V)) (c:Int) (xs:List V) (ps:List Pc),σ=[some (.ref M),some (.ref t),some (.ref tp),some (.str land),some (.str hs0),some (.ref L),o6]∧cZ [T,MA.h,MA.i,MA.me] H H'∧gI H H'∧Tb T H'∧Mom H' C M MA ws n m∧H' MA.h=some (.dK hl)∧(hl.map (·.1)).Nodup∧hl.length≤n∧gF H' ws hl c∧H' L=some (.lst xs)∧fE H' xs ps∧gH ws ps∧acr ps + c≤b∧∀ j z,i≤j→R[j]?=some z→∃ v,dH hl (Sum.inr z)=some v)
   ⟨none,hol,b,[],[],rfl,dY S27,dO S27,tb7,mom7,S27 _ _ hh1,hnd,hlen,hT.on (dO S27),hL7,.nil,⟨fun p hp=>by simp at hp⟩,by simp [acr],fun j z _ e=>hin z (List.mem_of_getElem? e)⟩ (fun i σ H' _ p=>by obtain ⟨_,_,_,_,_,_,_,tt,_⟩:=p;exact SqT.of (tt _ _ etp)) ?_ ?_
  ·rintro i v σ H8 hv8 ⟨o6,hl8,c,xs,ps,rfl,K8,T8,tb8,mom8,hh8,hnd8,hlen8,hT8,hL8,hP8,hG8,hA8,hin8⟩
   rw [List.getElem?_map] at hv8
   obtain ⟨z,hz,rfl⟩:=Option.map_eq_some_iff.mp hv8
   obtain ⟨v1,hv1⟩:=hin8 i z (Nat.le_refl _) hz
   obtain ⟨a9,c9,⟨t9,tp9,hs9,xs9,ps9,rfl,f1,f2,f3,f4,f5⟩,hT9,hac9⟩:=hT8.take hv1
   have hpos9:=hT9.pos
   have hg9:=f4.len
   have hg8:=hG8.len
   have hxl:=Paired.length hP8
   have hxl9:=Paired.length f3
   have hdl:=lQ hl8 (Sum.inr z)
   dsimp only [cY]
   have nLh:L≠MA.h:=dS hL8 hh8 (fun z=>nomatch z)
   have mom9:Mom (upd H8 MA.h (.dK (dC hl8 (Sum.inr z)))) C M MA ws n m:=mom8.setH (jT hnd8) (by omega) (Nat.le_refl _) hT9 (by omega)
   have T9:gI H8 (upd H8 MA.h (.dK (dC hl8 (Sum.inr z)))):=fun q us e=>by
    rw [aJ (dS e hh8 (fun z=>nomatch z))]
    exact e
   have hL9:upd H8 MA.h (.dK (dC hl8 (Sum.inr z))) L=some (.lst xs):=by
    rw [aJ nLh]
    exact hL8
   have tb9:Tb T (upd H8 MA.h (.dK (dC hl8 (Sum.inr z)))):=jL tb8 hh8
   have K9:cZ [T,MA.h,MA.i,MA.me] H (upd H8 MA.h (.dK (dC hl8 (Sum.inr z)))):=K8.trans (eZ (by simp))
   have hh9:upd H8 MA.h (.dK (dC hl8 (Sum.inr z))) MA.h=some (.dK (dC hl8 (Sum.inr z))):=aF
   refine ⟨_,rfl,.inl ⟨rfl,_,SqL.of hL8⟩,_,rfl,M,C,_,_,_,rfl,mom8.ins,hc.cl,hc.h,rfl,MA.h,rfl,.inl ⟨hl8,.inl hh8⟩,_,rfl,hl8,Sum.inr z,_,hh8,rfl,hv1,t9,_,1,_,rfl,rfl,SqT.of (T9 _ _ f1),rfl,L,tp9,xs,xs9,rfl,rfl,hL9,T9 _ _ f2,zs _ (by omega),?_⟩
   generalize upd H8 MA.h (.dK (dC hl8 (Sum.inr z)))=H9 at mom9 T9 hL9 tb9 K9 hh9 ⊢
   have T10:gI H9 (upd H9 L (.lst (xs ++ xs9))):=fun q us e=>by
    rw [aJ (dS e hL9 (fun z=>nomatch z))]
    exact e
   have T11:gI H8 (upd H9 L (.lst (xs ++ xs9))):=fun q us e=>T10 _ _ (T9 _ _ e)
   refine ⟨_,dC hl8 (Sum.inr z),c9,xs ++ xs9,ps ++ ps9,rfl,fun bb o nn e=>?_,fun q us e=>T11 _ _ (T8 _ _ e),aBr tb9 hL9,mom9.list hL9,by rw [aJ nLh.symm];exact hh9,jT hnd8,by omega,hT9.on T11,aF,Paired.app (hP8.on T11) (f3.on T11),hG8.app f4,by rw [lA];omega,fun j y hj ey=>?_⟩
   ·rw [aJ (aO e nHL)]
    exact K9 bb o nn e
   ·obtain ⟨vy,hvy⟩:=hin8 j y (by omega) ey
    rw [vH,if_neg]
    ·exact ⟨vy,hvy⟩
    ·intro zz
     have hzy:=Sum.inr.inj zz
     subst hzy
     obtain ⟨h1,e1⟩:=List.getElem?_eq_some_iff.mp hz
     obtain ⟨h2',e2⟩:=List.getElem?_eq_some_iff.mp ey
     have:=(List.getElem_inj hnR).mp (e1.trans e2.symm)
     omega
  ·rintro σ H8 ⟨o6,hl8,c,xs,ps,rfl,K8,T8,tb8,mom8,hh8,hnd8,hlen8,hT8,hL8,hP8,hG8,hA8,hin8⟩
   obtain ⟨rks,hr8,hrk8⟩:=mom8.r
   have hpos:=hT8.pos
   have hg8:=hG8.len
   have hxl:=Paired.length hP8
   refine ⟨_,rfl,_,rfl,M,C,_,_,_,rfl,mom8.ins,hc.cl,hc.r,rfl,_,rfl,MA.r,L,rks,xs,ps,ws,rfl,hr8,hrk8,hL8,hP8,hG8,Nat.lt_of_le_of_lt (show xs.length≤8000000 by omega) (by rw [PySem.sizeLine_eq];omega),tb8,fun t9 ys9 qs9 H9 S9 tb9 ht9 hY9 hG9 hA9=>?_⟩
   refine ⟨aH (by show 2≤1000000;decide),fun u9 hu9=>?_⟩
   have s10:=aU.new (o:=.tup [V.str hs0,.ref t9]) hu9
   have mom10:=(mom8.sameT S9 tb8).same s10
   have tb10:Tb T _:=tb9.same s10
   have hh10:upd H9 u9 (.tup [V.str hs0,.ref t9]) MA.h=some (.dK hl8):=by
    obtain ⟨tps,hTT,_⟩:=tb8.ex
    exact s10 _ _ (S9 _ _ (fun z=>by rw [z,hTT] at hh8;cases hh8) hh8)
   have T10:gI H8 (upd H9 u9 (.tup [V.str hs0,.ref t9])):=fun q us e=>s10 _ _ (eO S9 tb8 _ _ e)
   have K10:cZ [T,MA.h,MA.i,MA.me] H (upd H9 u9 (.tup [V.str hs0,.ref t9])):=fun bb o nn e=>s10 _ _ (S9 _ _ (fun z=>nn (by rw [z];simp)) (K8 bb o nn e))
   have hE:nQ (upd H9 u9 (.tup [V.str hs0,.ref t9])) ws (.ref u9) (acr qs9):=⟨u9,t9,hs0,ys9,qs9,rfl,aF,s10 _ _ ht9,hY9.same s10,hG9,rfl⟩
   obtain ⟨c',hT11,hc11⟩:=(hT8.on T10).put (k:=Sum.inr land) hnd8 hE
   have hlp:=dL hl8 (Sum.inr land) (.ref u9)
   generalize upd H9 u9 (.tup [V.str hs0,.ref t9])=H10 at mom10 tb10 hh10 K10 hT11 ⊢
   refine ⟨_,rfl,M,C,_,_,_,rfl,mom10.ins,hc.cl,hc.h,rfl,_,rfl,MA.h,_,rfl,lE.k (k:=Sum.inr land) hh10 (Nat.lt_of_le_of_lt hlen8 (by rw [PySem.sizeLine_eq];omega)),?_⟩
   exact k _ _ (t1 _) (K10.trans (eZ (by simp))) (jL tb10 hh10) (mom10.setH (tW _ hnd8) (by omega) (by omega) hT11 (by omega))
end
end K36
namespace K36
open PySem L2
structure nV (P:Program) (w:World) (K:PySem.W.Frag) (mg:Str→Option Value) (base:Heap) (C T:Addr) (g:Addr) (W:List Str):Prop where
 ex:∃ fd,cC P w K mg base CX0 5 g fd ["moment","row"] (iQ C T W)∧PySem.W.keepIn K (.ref g)=true∧cQ K fd ["moment","row"] []
section
variable {P:Program}{w:World}{K:PySem.W.Frag}{mg:Str→Option Value}{base:Heap}
theorem aBs:cA ["moment","row","deed"] ["moment","row"] (aM pQ):=⟨rfl,rfl,rfl,by decide,rfl,by decide,by decide⟩
theorem aEj {f C T ra g0 g1 g2 g3 g4 g5 g6:Addr}{fd:FuncData} (F:Fun K "carry_out" "carry_out" pQ f fd)
  (hdF:∀ h:Heap,K.In h→h.DictOf (dM P w) ra (fmR g0 g1 g2 g3 g4 g5 g6 g6)) (mF:mg "DEEDS"=some (.ref ra))
  (G0:nV P w K mg base C T g0 ["part"]) (G1:nV P w K mg base C T g1 ["join"]) (G2:nV P w K mg base C T g2 ["forfeit"]) (G3:nV P w K mg base C T g3 ["measure"]) (G4:nV P w K mg base C T g4 ["mend"]) (G5:nV P w K mg base C T g5 ["alone"]) (G6:nV P w K mg base C T g6 ["breach","view"]):
  cC P w K mg base CX0 6 f fd ["moment","row"] (iQ C T iO):=by
 refine F.ok aBs (fun vs H Q E h=>?_) (fun cdv A outer s H vs Q E hr h=>?_)
 ·obtain ⟨M,A,ws,n,m,x,r,rfl,_⟩:=h
  rfl
 ·obtain ⟨M,MA,ws,n,m,x,r,rfl,mom,hn,tb,rdv,ok,hw,k⟩:=h
  have nd:=aBs.nd
  refine ⟨_,aA (aW (i:=2) nd rfl (Or.inl rfl) (aET hdF (aGx g0 g1 g2 g3 g4 g5 g6 g6) (by rfl) mF (aX bJ (pv 1) aG (fun _ _=>rfl)) (fun _ _=>rfl)))
   (aQ (bE (aDo (k:=5) (ps:=["moment","row"]) (pv 2) hr (aE (pv 0) (aE (pv 1) aB))))),?_⟩
  obtain ⟨t,b8,rfl,ht,hrest⟩:=cE.Ok.tup (fs:=ws) rdv
  have a0:=(tT (word:=r.word) (name:=r.name) (day:=r.day) (b8:=b8)).1
  obtain ⟨g,W,hg,hW,fdg,Gg,kg,bg⟩:∃ g W,dH (fmV g0 g1 g2 g3 g4 g5 g6 g6) (Sum.inr r.word)=some (.ref g)∧r.word∈W∧∃ fd,cC P w K mg base CX0 5 g fd ["moment","row"] (iQ C T W)∧PySem.W.keepIn K (.ref g)=true∧cQ K fd ["moment","row"] []:=by
   have hw8:=ok.rs.word
   unfold iO at hw8
   simp only [List.mem_cons,List.not_mem_nil,or_false] at hw8
   rcases hw8 with e | e | e | e | e | e | e | e <;> rw [e]
   ·exact ⟨g0,_,rfl,List.mem_cons_self,G0.ex⟩
   ·exact ⟨g1,_,rfl,List.mem_cons_self,G1.ex⟩
   ·exact ⟨g2,_,rfl,List.mem_cons_self,G2.ex⟩
   ·exact ⟨g3,_,rfl,List.mem_cons_self,G3.ex⟩
   ·exact ⟨g4,_,rfl,List.mem_cons_self,G4.ex⟩
   ·exact ⟨g5,_,rfl,List.mem_cons_self,G5.ex⟩
   ·exact ⟨g6,_,rfl,List.mem_cons_self,G6.ex⟩
   ·exact ⟨g6,_,rfl,List.mem_cons_of_mem _ List.mem_cons_self,G6.ex⟩
  refine ⟨_,rfl,t,_,0,_,rfl,rfl,SqT.of ht,a0,Sum.inr r.word,.ref g,rfl,hg,?_⟩
  exact ⟨_,rfl,g,_,rfl,⟨fdg,Gg,kg,bg⟩,_,rfl,_,rfl,M,MA,ws,n,m,_,r,rfl,mom,hn,tb,rdv,ok,hW,k⟩
end
inductive yX (C:Addr) (vs:List V) (H:Hp) (Q:VK) (u3_:XK):Prop
 | mk (x dx lay:Addr) (xs:List V) (ds:List PyData) (ws:List Str) (q0:vs=[.ref x,.ref lay]) (q1:H x=some (.ins C dx [])) (q2:H lay=some (.tup xs)) (q3:cW false H xs ds) (q4:aD8 ds) (q5:ds.map yM=ws) (q6:ds.length≤8) (q7:∀ (A:MA) (H':Hp),aY x H H'→H A.h=none→H A.i=none→H A.me=none→Mom H' C x A ws 8 []→Q .non H'):yX C vs H Q u3_
def aEk (C:Addr):Sp:=fun vs H Q u3_=>yX C vs H Q u3_
structure aHs (H:Hp) (C x:Addr) (A:MA) (ws:List Str) (i:Nat):Prop where
 ins:H x=some (.ins C A.dx (aAr A))
 r:∃ rks,H A.r=some (.dK rks)∧qN rks (ws.take i)∧rks.length≤i
 h:∃ hol b,H A.h=some (.dK hol)∧(hol.map (·.1)).Nodup∧hol.length≤i∧gF H ws hol b∧b≤i * 1000000
 a:∃ acs,H A.a=some (.dK acs)∧acs.length≤i
 i:∃ inc,H A.i=some (.dK inc)∧qN inc (ws.take i)∧inc.length≤i
 me:H A.me=some (.dK [])
 nd:[A.r,A.h,A.a,A.i,A.me].Nodup
theorem aBt {rks:List (Key×V)}{ws:List Str}{i:Nat}{z:Str}{n:Int} (h:qN rks (ws.take i)) (e:ws[i]?=some z):qN (c5 rks (Sum.inr z) (.int n)) (ws.take (i + 1)):=fun y hy=>by
 rw [sA]
 by_cases ey:y=z
 ·rw [if_pos (by rw [ey])]
  exact ⟨n,rfl⟩
 ·rw [if_neg fun q=>ey (Sum.inr.inj q)]
  rw [List.take_add_one,e] at hy
  rcases List.mem_append.mp hy with hy | hy
  ·exact h y hy
  ·exact absurd (by simpa using hy) ey
theorem aEl {H:Hp}{x:V}{d:PyData} (r:RdV false H x d) (h:i9 d=true):∃ (q:Addr) (f g:Str) (a i:Int),x=.ref q∧H q=some (.tup [.str f,.str g,.int a,.int i])∧f=yM d∧1≤a∧a≤1000000:=by
 obtain ⟨f,g,a,i,rfl,h1,h2,h3,h4⟩:=aAo h
 cases r with
 | tup e hl q=>
  cases q with
  | cons q1 q=>
   cases q with
   | cons q2 q=>
    cases q with
    | cons q3 q=>
     cases q with
     | cons q4 q=>
      cases q
      cases q1
      cases q2 <;> simp [i8] at h2
      cases q3 <;> simp [lW] at h3
      cases q4 <;> simp [lW] at h4
      exact ⟨_,_,_,_,_,rfl,e,rfl,by omega,by omega⟩
section
variable {P:Program}{w:World}{K:PySem.W.Frag}{mg:Str→Option Value}{base:Heap}
abbrev vX:Stmt:=aEL aE1 0
theorem aEm:cA ["self","laying","field","house","acres","inches"] ["self","laying"] (aM vX):=⟨rfl,rfl,rfl,by decide,rfl,by decide,by decide⟩
theorem aFj {f C:Addr}{fd:FuncData} (F:Fun K "__init__" "Moment.__init__" vX f fd) (hc:MC K C) (hlen:mg "len"=none):cC P w K mg base CX0 1 f fd ["self","laying"] (aEk C):=by
 refine F.ok aEm (fun vs H Q E h=>?_) (fun cdv A outer s H vs Q E hr h=>?_)
 ·obtain ⟨x,dx,lay,xs,ds,ws,rfl,_⟩:=h
  rfl
 ·obtain ⟨x,dx,lay,xs,ds,ws,rfl,hx,hlay,hrd,hfl,hws,h8,k⟩:=h
  have hu:=jE hr
  have nd:=aEm.nd
  refine ⟨_,aA (rV (pv 0) i6 rfl) (aA (rV (pv 0) i6 rfl) (aA (rV (pv 0) i6 rfl) (aA (rV (pv 0) i6 rfl) (aA (rV (pv 0) i6 rfl)
   (aQ (f7 PassesOwn.never rfl (gY (pv 1)) (g:=aBN K 4 (iE (cY 2) (iE (cY 3) (iE (cY 4) (iE (cY 5) aBM))))) (iY rfl (cH (bG (i:=2) nd rfl (Or.inl rfl)) (cH (bG (i:=3) nd rfl (Or.inl rfl)) (cH (bG (i:=4) nd rfl (Or.inl rfl)) (cH (bG (i:=5) nd rfl (Or.inl rfl)) gL)))))
    (aA (fY hu (dR (pv 0) rfl) (pv 2) (bF aB0 (by rfl) hlen PySem.boot_len (aE (dR (pv 0) rfl) aB)) rfl)
    (aA (fY hu (dR (pv 0) rfl) (pv 2) (c0 (aE (pv 3) (aE (c0 (aE (c0 (aE (pv 2) (aE aG (aE (pv 4) aB)))) aB)) aB))) rfl)
    (aA (fY hu (dR (pv 0) rfl) (pv 2) (pv 4) rfl)
    (aQ (fY hu (dR (pv 0) rfl) (pv 2) (pv 5) rfl))))))))))),?_⟩
  have st:∀ (H0:Hp) (d:Addr) (fs fs':List (Str×V)),H0 d=none→H0 x=some (.ins C dx fs)→upd (upd H0 d (.dK [])) x (.ins C dx fs') x=some (.ins C dx fs')∧upd (upd H0 d (.dK [])) x (.ins C dx fs') d=some (.dK [])∧∀ b o,b≠x→H0 b=some o→upd (upd H0 d (.dK [])) x (.ins C dx fs') b=some o:=fun H0 d fs fs' hd hx0=>by
   have dx:d≠x:=(aO hx0 hd).symm
   refine ⟨aF,by rw [aJ dx];exact aF,fun b o n e=>?_⟩
   rw [aJ n,aJ (aO e hd)]
   exact e
  refine fun d1 hd1=>⟨_,rfl,x,C,dx,_,rfl,(by rw [aJ (aO hx hd1)];exact hx),hc.cl,hc.r,by decide,?_⟩
  obtain ⟨x1,y1,k1⟩:=st H d1 _ (gE "ranks" (.ref d1) []) hd1 hx
  generalize upd (upd H d1 (.dK [])) x _=H1 at x1 y1 k1 ⊢
  refine fun d2 hd2=>⟨_,rfl,x,C,dx,_,rfl,(by rw [aJ (aO x1 hd2)];exact x1),hc.cl,hc.h,(by show (1:Nat) < 1000;decide),?_⟩
  obtain ⟨x2,y2,k2⟩:=st H1 d2 _ (gE "holdings" (.ref d2) (gE "ranks" (.ref d1) [])) hd2 x1
  generalize upd (upd H1 d2 (.dK [])) x _=H2 at x2 y2 k2 ⊢
  refine fun d3 hd3=>⟨_,rfl,x,C,dx,_,rfl,(by rw [aJ (aO x2 hd3)];exact x2),hc.cl,hc.a,(by show (2:Nat) < 1000;decide),?_⟩
  obtain ⟨x3,y3,k3⟩:=st H2 d3 _ (gE "acres" (.ref d3) (gE "holdings" (.ref d2) (gE "ranks" (.ref d1) []))) hd3 x2
  generalize upd (upd H2 d3 (.dK [])) x _=H3 at x3 y3 k3 ⊢
  refine fun d4 hd4=>⟨_,rfl,x,C,dx,_,rfl,(by rw [aJ (aO x3 hd4)];exact x3),hc.cl,hc.i,(by show (3:Nat) < 1000;decide),?_⟩
  obtain ⟨x4,y4,k4⟩:=st H3 d4 _ (gE "inches" (.ref d4) (gE "acres" (.ref d3) (gE "holdings" (.ref d2) (gE "ranks" (.ref d1) [])))) hd4 x3
  generalize upd (upd H3 d4 (.dK [])) x _=H4 at x4 y4 k4 ⊢
  refine fun d5 hd5=>⟨_,rfl,x,C,dx,_,rfl,(by rw [aJ (aO x4 hd5)];exact x4),hc.cl,hc.m,(by show (4:Nat) < 1000;decide),?_⟩
  obtain ⟨x5,y5,k5⟩:=st H4 d5 _ (aAr ⟨dx,d1,d2,d3,d4,d5⟩) hd5 x4
  have ef:gE "menders" (.ref d5) (gE "inches" (.ref d4) (gE "acres" (.ref d3) (gE "holdings" (.ref d2) (gE "ranks" (.ref d1) []))))=aAr ⟨dx,d1,d2,d3,d4,d5⟩:=rfl
  rw [ef]
  generalize upd (upd H4 d5 (.dK [])) x _=H5 at x5 y5 k5 ⊢
  have nx:∀ {G:Hp} {d:Addr} {kvs:List (Key×V)} {fs:List (Str×V)},G d=some (.dK kvs)→G x=some (.ins C dx fs)→d≠x:=fun a b=>dS a b (fun z=>nomatch z)
  have e1:=k5 _ _ (nx y1 x1) (k4 _ _ (nx y1 x1) (k3 _ _ (nx y1 x1) (k2 _ _ (nx y1 x1) y1)))
  have e2:=k5 _ _ (nx y2 x2) (k4 _ _ (nx y2 x2) (k3 _ _ (nx y2 x2) y2))
  have e3:=k5 _ _ (nx y3 x3) (k4 _ _ (nx y3 x3) y3)
  have e4:=k5 _ _ (nx y4 x4) y4
  have K0:aY x H H5:=fun b o e n=>k5 _ _ n (k4 _ _ n (k3 _ _ n (k2 _ _ n (k1 _ _ n e))))
  have hnd:[d1,d2,d3,d4,d5].Nodup:=by
   have a12:d1≠d2:=aO y1 hd2
   have a13:d1≠d3:=aO (k2 _ _ (nx y1 x1) y1) hd3
   have a23:d2≠d3:=aO y2 hd3
   have a14:d1≠d4:=aO (k3 _ _ (nx y1 x1) (k2 _ _ (nx y1 x1) y1)) hd4
   have a24:d2≠d4:=aO (k3 _ _ (nx y2 x2) y2) hd4
   have a34:d3≠d4:=aO y3 hd4
   have a15:d1≠d5:=aO (k4 _ _ (nx y1 x1) (k3 _ _ (nx y1 x1) (k2 _ _ (nx y1 x1) y1))) hd5
   have a25:d2≠d5:=aO (k4 _ _ (nx y2 x2) (k3 _ _ (nx y2 x2) y2)) hd5
   have a35:d3≠d5:=aO (k4 _ _ (nx y3 x3) y3) hd5
   have a45:d4≠d5:=aO y4 hd5
   simp [a12,a13,a14,a15,a23,a24,a25,a34,a35,a45]
  have fr:∀ {G G':Hp} {d:Addr},(∀ b o,b≠x→G b=some o→G' b=some o)→(∃ o,G' x=some o)→G' d=none→G d=none:=fun {G G' d} kq hx' hd=>by
   cases q:G d with
   | none=>rfl
   | some o=>
    by_cases e:d=x
    ·obtain ⟨o',hx'⟩:=hx'
     rw [e,hx'] at hd
     cases hd
    ·rw [kq d o e q] at hd
     cases hd
  have f2:H d2=none:=fr k1 ⟨_,x1⟩ hd2
  have f3:H d3=none:=fr k1 ⟨_,x1⟩ (fr k2 ⟨_,x2⟩ hd3)
  have f4:H d4=none:=fr k1 ⟨_,x1⟩ (fr k2 ⟨_,x2⟩ (fr k3 ⟨_,x3⟩ hd4))
  have f5:H d5=none:=fr k1 ⟨_,x1⟩ (fr k2 ⟨_,x2⟩ (fr k3 ⟨_,x3⟩ (fr k4 ⟨_,x4⟩ hd5)))
  obtain ⟨MA,hMA⟩:∃ MA:MA,MA=⟨dx,d1,d2,d3,d4,d5⟩:=⟨_,rfl⟩
  have I0:aHs H5 C x MA ws 0:=by
   subst hMA
   exact ⟨x5,⟨[],e1,fun y hy=>by simp at hy,Nat.le_refl _⟩,⟨[],0,e2,by simp,Nat.le_refl _,.nil,by simp⟩,⟨[],e3,Nat.le_refl _⟩,⟨[],e4,fun y hy=>by simp at hy,Nat.le_refl _⟩,y5,hnd⟩
  have hfr:H MA.r=none∧H MA.h=none∧H MA.a=none∧H MA.i=none:=by
   subst hMA
   exact ⟨hd1,f2,f3,f4⟩
  have hfm:H MA.me=none:=by
   subst hMA
   exact f5
  have hlay5:H5 lay=some (.tup xs):=K0 _ _ hlay (dS hlay hx (fun z=>nomatch z))
  have hdl:=hrd.len
  refine ⟨_,rfl,lay,rfl,⟨_,SqT.of hlay5⟩,?_⟩
  refine kF (K:=K) (xs:=xs) (fun i σ H'=>∃ (o2 o3 o4 o5:Option V),σ=[some (.ref x),some (.ref lay),o2,o3,o4,o5]∧aY x H H'∧aHs H' C x MA ws i) ⟨none,none,none,none,rfl,K0,I0⟩ (fun i σ H' _ p=>by obtain ⟨_,_,_,_,_,kk,_⟩:=p;exact SqT.of (kk _ _ hlay (dS hlay hx (fun z=>nomatch z)))) ?_ ?_
  ·rintro i v σ H1' hv ⟨o2,o3,o4,o5,rfl,kk,I⟩
   clear x1 y1 k1 x2 y2 k2 x3 y3 k3 x4 y4 k4 x5 y5 k5 e1 e2 e3 e4 I0 hnd hd1 hd2 hd3 hd4 hd5 st nx ef fr f2 f3 f4 f5
   obtain ⟨d,hd,rd'⟩:=hrd.at hv
   obtain ⟨hF,_,hnd⟩:=hfl d (List.mem_of_getElem? hd)
   have nlx:∀ b us,H b=some (.tup us)→H1' b=some (.tup us):=fun b us e=>kk _ _ e (dS e hx (fun z=>nomatch z))
   obtain ⟨q,f1,g1,a1,i1,rfl,hq,ef1,ha1,ha2⟩:=aEl (RdV.onT nlx rd' hnd) hF
   have hwi:ws[i]?=some f1:=by rw [← hws,List.getElem?_map,hd,ef1];rfl
   have hin:f1∈ws:=List.mem_of_getElem? hwi
   have hi8:i < ds.length:=(List.getElem?_eq_some_iff.mp hd).1
   have hn:=I.nd
   simp only [List.nodup_cons,List.mem_cons,List.not_mem_nil,or_false,not_or] at hn
   obtain ⟨⟨n12,n13,n14,n15⟩,⟨n23,n24,n25⟩,⟨n34,n35⟩,n45,_⟩:=hn
   obtain ⟨rks,r1,r2,r3⟩:=I.r
   obtain ⟨hol,b,h1,h2,h3,h4,h5⟩:=I.h
   obtain ⟨acs,c1,c2⟩:=I.a
   obtain ⟨inc,j1,j2,j3⟩:=I.i
   have me:=I.me
   have ins:=I.ins
   have zl:∀ k,k≤8→k < sizeLine:=fun k h=>by rw [PySem.sizeLine_eq];omega
   have nxd:∀ {G:Hp} {d:Addr} {kvs:List (Key×V)} {fs:List (Str×V)},G d=some (.dK kvs)→G x=some (.ins C MA.dx fs)→x≠d:=fun a b=>(dS a b (fun z=>nomatch z)).symm
   refine ⟨q,_,rfl,SqT.of hq,rfl,_,_,rfl,_,_,rfl,_,_,rfl,_,_,rfl,rfl,?_⟩
   refine ⟨_,rfl,x,C,_,_,_,rfl,ins,hc.cl,hc.r,rfl,MA.r,rks,rfl,r1,_,rfl,x,C,_,_,_,rfl,ins,hc.cl,hc.r,rfl,_,rfl,MA.r,_,rfl,lE.k (k:=Sum.inr f1) r1 (zl _ (by omega)),?_⟩
   have L1:=dL rks (Sum.inr f1) (.int (rks.length:Int))
   have R2:=aBt (n:=(rks.length:Int)) r2 hwi
   obtain ⟨fr1,fr2,fr3,fr4⟩:=hfr
   have kk1:aY x H (upd H1' MA.r (.dK (c5 rks (Sum.inr f1) (.int (rks.length:Int))))):=fun b o e n=>by
    rw [aJ (aO e fr1)]
    exact kk b o e n
   have g1':upd H1' MA.r (.dK (c5 rks (Sum.inr f1) (.int (rks.length:Int)))) MA.r=some (.dK (c5 rks (Sum.inr f1) (.int (rks.length:Int)))):=aF
   have g2:upd H1' MA.r (.dK (c5 rks (Sum.inr f1) (.int (rks.length:Int)))) MA.h=some (.dK hol):=by rw [aJ (Ne.symm n12)];exact h1
   have g3:upd H1' MA.r (.dK (c5 rks (Sum.inr f1) (.int (rks.length:Int)))) MA.a=some (.dK acs):=by rw [aJ (Ne.symm n13)];exact c1
   have g4:upd H1' MA.r (.dK (c5 rks (Sum.inr f1) (.int (rks.length:Int)))) MA.i=some (.dK inc):=by rw [aJ (Ne.symm n14)];exact j1
   have g5:upd H1' MA.r (.dK (c5 rks (Sum.inr f1) (.int (rks.length:Int)))) MA.me=some (.dK []):=by rw [aJ (Ne.symm n15)];exact me
   have g6:upd H1' MA.r (.dK (c5 rks (Sum.inr f1) (.int (rks.length:Int)))) x=some (.ins C MA.dx (aAr MA)):=by rw [aJ (nxd r1 ins)];exact ins
   have g7:gF (upd H1' MA.r (.dK (c5 rks (Sum.inr f1) (.int (rks.length:Int))))) ws hol b:=h4.on fun b us e=>by rw [aJ (dS e r1 (fun z=>nomatch z))];exact e
   generalize upd H1' MA.r (.dK (c5 rks (Sum.inr f1) (.int (rks.length:Int))))=G1 at kk1 g1' g2 g3 g4 g5 g6 g7 ⊢
   refine ⟨_,rfl,_,rfl,_,rfl,aH (by show 3≤1000000;decide),fun u1 hu1=>?_⟩
   have s1:=aU.new (o:=.tup [V.str f1,.int 0,.int a1]) hu1
   refine ⟨aH (by show 1≤1000000;decide),fun u2 hu2=>?_⟩
   have s2:=aU.new (o:=.tup [V.ref u1]) hu2
   refine ⟨aH (by show 2≤1000000;decide),fun u3 hu3=>?_⟩
   have s3:=aU.new (o:=.tup [V.str g1,.ref u2]) hu3
   have s123:=(s1.trans s2).trans s3
   have he:nQ (upd (upd (upd G1 u1 (.tup [V.str f1,.int 0,.int a1])) u2 (.tup [V.ref u1])) u3 (.tup [V.str g1,.ref u2])) ws (.ref u3) a1:=⟨u3,u2,g1,[.ref u1],[(f1,0,a1)],rfl,aF,s3 _ _ aF,.cons ⟨u1,rfl,s3 _ _ (s2 _ _ aF)⟩ .nil,⟨fun p hp=>by rw [List.mem_singleton.mp hp];exact ⟨hin,by dsimp only;omega⟩⟩,by simp [acr,dU]⟩
   have kk2:aY x H (upd (upd (upd G1 u1 (.tup [V.str f1,.int 0,.int a1])) u2 (.tup [V.ref u1])) u3 (.tup [V.str g1,.ref u2])):=kk1.same s123
   refine ⟨_,rfl,x,C,_,_,_,rfl,s123 _ _ g6,hc.cl,hc.h,rfl,_,rfl,MA.h,_,rfl,lE.k (k:=Sum.inr f1) (s123 _ _ g2) (zl _ (by omega)),?_⟩
   have q1:=s123 _ _ g1'
   have q2:=s123 _ _ g2
   have q3:=s123 _ _ g3
   have q4:=s123 _ _ g4
   have q5:=s123 _ _ g5
   have q6:=s123 _ _ g6
   have q7:=g7.on (dO s123)
   generalize upd (upd (upd G1 u1 (.tup [V.str f1,.int 0,.int a1])) u2 (.tup [V.ref u1])) u3 (.tup [V.str g1,.ref u2])=G2 at he kk2 q1 q2 q3 q4 q5 q6 q7 ⊢
   obtain ⟨b',hT',hb'⟩:=q7.put (k:=Sum.inr f1) h2 he
   have L2:=dL hol (Sum.inr f1) (.ref u3)
   have L3:=dL acs (Sum.inr f1) (.int a1)
   have L4:=dL inc (Sum.inr f1) (.int i1)
   have R4:=aBt (n:=i1) j2 hwi
   have e6:upd G2 MA.h (.dK (c5 hol (Sum.inr f1) (.ref u3))) x=some (.ins C MA.dx (aAr MA)):=by rw [aJ (nxd q2 q6)];exact q6
   have e3:upd G2 MA.h (.dK (c5 hol (Sum.inr f1) (.ref u3))) MA.a=some (.dK acs):=by rw [aJ (Ne.symm n23)];exact q3
   refine ⟨_,rfl,_,rfl,x,C,_,_,_,rfl,e6,hc.cl,hc.a,rfl,_,rfl,MA.a,_,rfl,lE.k (k:=Sum.inr f1) e3 (zl _ (by omega)),?_⟩
   have e6':upd (upd G2 MA.h (.dK (c5 hol (Sum.inr f1) (.ref u3)))) MA.a (.dK (c5 acs (Sum.inr f1) (.int a1))) x=some (.ins C MA.dx (aAr MA)):=by rw [aJ (nxd e3 e6)];exact e6
   have e4:upd (upd G2 MA.h (.dK (c5 hol (Sum.inr f1) (.ref u3)))) MA.a (.dK (c5 acs (Sum.inr f1) (.int a1))) MA.i=some (.dK inc):=by rw [aJ (Ne.symm n34),aJ (Ne.symm n24)];exact q4
   refine ⟨_,rfl,_,rfl,x,C,_,_,_,rfl,e6',hc.cl,hc.i,rfl,_,rfl,MA.i,_,rfl,lE.k (k:=Sum.inr f1) e4 (zl _ (by omega)),?_⟩
   have tt:gI G2 (upd (upd (upd G2 MA.h (.dK (c5 hol (Sum.inr f1) (.ref u3)))) MA.a (.dK (c5 acs (Sum.inr f1) (.int a1)))) MA.i (.dK (c5 inc (Sum.inr f1) (.int i1)))):=fun b us e=>by
    rw [aJ (dS e q4 (fun z=>nomatch z)),aJ (dS e q3 (fun z=>nomatch z)),aJ (dS e q2 (fun z=>nomatch z))]
    exact e
   have hbb:b'≤((i + 1:Nat):Int) * 1000000:=by
    rw [Int.natCast_add]
    omega
   refine ⟨_,_,_,_,rfl,fun b o e n=>?_,?_,⟨_,?_,R2,by omega⟩,⟨_,b',?_,tW _ h2,by omega,hT'.on tt,hbb⟩,⟨c5 acs (Sum.inr f1) (.int a1),?_,by omega⟩,⟨_,aF,R4,by omega⟩,?_,I.nd⟩
   ·rw [aJ (aO e fr4),aJ (aO e fr3),aJ (aO e fr2)]
    exact kk2 b o e n
   ·rw [aJ (nxd e4 e6')]
    exact e6'
   ·rw [aJ n14,aJ n13,aJ n12]
    exact q1
   ·rw [aJ n24,aJ n23]
    exact aF
   ·rw [aJ n34]
    exact aF
   ·rw [aJ (Ne.symm n45),aJ (Ne.symm n35),aJ (Ne.symm n25)]
    exact q5
  ·rintro σ H' ⟨o2,o3,o4,o5,rfl,kk,I⟩
   rw [hdl] at I
   have hwl:ws.length=ds.length:=by rw [← hws,List.length_map]
   obtain ⟨rks,r1,r2,r3⟩:=I.r
   obtain ⟨hol,b,h1,h2,h3,h4,h5⟩:=I.h
   obtain ⟨inc,i1,i2,i3⟩:=I.i
   rw [← hwl,List.take_length] at r2 i2
   have hn:=I.nd
   simp only [List.nodup_cons,List.mem_cons,List.not_mem_nil,or_false,not_or] at hn
   exact k MA H' kk hfr.2.1 hfr.2.2.2 hfm ⟨I.ins,⟨rks,r1,r2⟩,⟨hol,b,h1,h2,by omega,h4,by omega⟩,⟨inc,i1,i2,by omega⟩,I.me,gU.nil,Nat.zero_le _,hn.1.1,hn.1.2.2.1,hn.1.2.2.2,hn.2.1.2.1,hn.2.1.2.2,hn.2.2.2.1⟩
end
end K36
namespace K36
open PySem L2
noncomputable def eJ (us:List cE) (n:Nat):Mnd:=(us.take n).foldl d7 []
structure jO (H:Hp) (t rw:Addr) (ws:List Str) (us:List cE):Prop where
 ex:∃ (lay:Addr) (xs:List V) (ds:List PyData) (ys:List V),H t=some (.tup [.ref lay,.ref rw])∧H lay=some (.tup xs)∧cW false H xs ds∧aD8 ds∧ds.map yM=ws∧ds.length≤8∧H rw=some (.tup ys)∧iD H ys us ws∧us.length≤40
theorem w8:∀ {ds:List PyData},aD8 ds→PyData.hasDictAll ds=false
 | [],_=>by unfold PyData.hasDictAll;rfl
 | d :: ds,h=>by
  unfold PyData.hasDictAll
  rw [(h d List.mem_cons_self).2.2,w8 fun d hd=>h d (List.mem_cons_of_mem _ hd)]
  rfl
theorem iD.on {H H':Hp}{xs:List V}{us:List cE}{fs:List Str} (h:iD H xs us fs) (t:gI H H'):iD H' xs us fs:=⟨h.len,fun i x hx=>by
 obtain ⟨u,h1,h2,h3⟩:=h.at' i x hx
 exact ⟨u,h1,h3.on h2 t,h3⟩⟩
theorem jO.on {H H':Hp}{t rw:Addr}{ws:List Str}{us:List cE} (h:jO H t rw ws us) (k:gI H H'):jO H' t rw ws us:=by
 obtain ⟨lay,xs,ds,ys,h1,h2,h3,h4,h5,h6,h7,h8,h9⟩:=h.ex
 exact ⟨lay,xs,ds,ys,k _ _ h1,k _ _ h2,cW.onT k h3 (w8 h4),h4,h5,h6,k _ _ h7,h8.on k,h9⟩
inductive tX (C T:Addr) (vs:List V) (H:Hp) (Q:VK) (u3_:XK):Prop
 | mk (t rw:Addr) (ws:List Str) (us:List cE) (n:Nat) (q0:vs=[.ref t,.int n]) (q1:jO H t rw ws us) (q2:Tb T H) (q3:∀ M (A:MA) H',H A.h=none→H A.i=none→H A.me=none→dD T H H'→Tb T H'→Mom H' C M A ws 248 (eJ us n)→Q (.ref M) H'):tX C T vs H Q u3_
def yY (C T:Addr):Sp:=fun vs H Q u3_=>tX C T vs H Q u3_
theorem aGC {T x C dx:Addr}{fs:List (Str×V)}{H H':Hp} (g:Tb T H) (e:H x=some (.ins C dx fs)) (k:aY x H H'):Tb T H':=by
 obtain ⟨ps,h1,h2,h3⟩:=g.ex
 refine ⟨ps,k _ _ h1 (dS h1 e (fun z=>nomatch z)),h2,?_⟩
 rcases h3 with h3 | ⟨c,h3,h4⟩
 ·exact .inl h3
 ·exact .inr ⟨c,h3,k _ _ h4 (dS h4 e (fun z=>nomatch z))⟩
theorem Mom.tups {H H':Hp}{C M T:Addr}{A:MA}{ws:List Str}{n:Nat}{m:Mnd} (h:Mom H C M A ws n m) (g:Tb T H) (k:cZ [T,A.h,A.i,A.me] H H'):gI H H':=fun q xs e=>by
 obtain ⟨hol,b,hh,_⟩:=h.h
 obtain ⟨inc,hi,_⟩:=h.i
 obtain ⟨ps,hT,_⟩:=g.ex
 refine k q _ (fun z=>?_) e
 simp only [List.mem_cons,List.not_mem_nil,or_false] at z
 rcases z with z | z | z | z <;> rw [z] at e
 ·rw [hT] at e;cases e
 ·rw [hh] at e;cases e
 ·rw [hi] at e;cases e
 ·rw [h.me] at e;cases e
theorem aBu {T L:Addr}{H H':Hp} (g:Tb T H') (s:dD T H H') (h:H' L=none):H L=none:=by
 cases q:H L with
 | none=>rfl
 | some o=>
  obtain ⟨ps,h1,_⟩:=g.ex
  rw [s _ _ (fun z=>by rw [z,h1] at h;cases h) q] at h
  cases h
section
variable {P:Program}{w:World}{K:PySem.W.Frag}{mg:Str→Option Value}{base:Heap}
theorem yZ:cA ["roll","at","laying","rows","moment","row"] ["roll","at"] (aM mE):=⟨rfl,rfl,rfl,by decide,rfl,by decide,by decide⟩
theorem aCq {f fI fC C T:Addr}{fd fdI fdC:FuncData} (F:Fun K "moment_behind" "moment_behind" mE f fd) (mk:Mk K C fI)
  (GI:cC P w K mg base CX0 1 fI fdI ["self","laying"] (aEk C)) (mC:mg "Moment"=some (.ref C)) (bI:cQ K fdI ["self","laying"] [])
  (GC:cC P w K mg base CX0 6 fC fdC ["moment","row"] (iQ C T iO)) (mD:mg "carry_out"=some (.ref fC)) (kD:PySem.W.keepIn K (.ref fC)=true) (bD:cQ K fdC ["moment","row"] []):
  cC P w K mg base CX0 7 f fd ["roll","at"] (yY C T):=by
 refine F.ok yZ (fun vs H Q E h=>?_) (fun cdv A outer s H vs Q E hr h=>?_)
 ·obtain ⟨t,rw,ws,us,n,rfl,_⟩:=h
  rfl
 ·obtain ⟨t,rw,ws,us,n,rfl,roll,tb,k⟩:=h
  have nd:=yZ.nd
  have hr2:dF 2 _:=hr.mono (by decide)
  refine ⟨_,aA (lH (pv 0) (iY rfl (cH (bG (i:=2) nd rfl (Or.inl rfl)) (cH (bG (i:=3) nd rfl (Or.inl rfl)) gL))))
   (aA (aW (i:=4) nd rfl (Or.inl rfl) (aEE mk GI hr2 rfl mC bI .nil bY (aE (pv 2) aB)))
   (aA (f7 PassesOwn.never rfl (gY (eB rD (pv 3) fQ (fU (pv 1)))) (g:=cY 5) (bG (i:=5) nd rfl (Or.inl rfl))
    (aQ (dJ (aS GC hr rfl mD kD bD .nil bY (aE (pv 4) (aE (pv 5) aB))))))
   (aQ (bE (pv 4))))),?_⟩
  obtain ⟨lay,xs,ds,ys,h1,h2,h3,h4,h5,h6,h7,h8,h9⟩:=roll.ex
  refine ⟨_,rfl,t,_,rfl,SqT.of h1,rfl,_,_,rfl,_,_,rfl,rfl,?_⟩
  refine ⟨_,rfl,fun x dx hx hdx ne=>?_⟩
  have s1:=aU.new (o:=.own x) hdx
  have s2:=aU.new (H:=upd H dx (.own x)) (o:=.ins C dx []) (p:=x) (by rw [aJ (Ne.symm ne)];exact hx)
  have s12:=s1.trans s2
  have ex:upd (upd H dx (.own x)) x (.ins C dx []) x=some (.ins C dx []):=aF
  generalize upd (upd H dx (.own x)) x (.ins C dx [])=H0 at s12 ex ⊢
  clear s2
  refine ⟨x,dx,lay,xs,ds,ws,rfl,ex,s12 _ _ h2,h3.same s12,h4,h5,h6,fun MA H1 k1 n1 n2 n3 mom=>⟨rfl,?_⟩⟩
  have f:∀ {a:Addr},H0 a=none→H a=none:=fun {a} z=>by
   cases q:H a with
   | none=>rfl
   | some o=>rw [s12 _ _ q] at z;cases z
  have f1:=f n1
  have f2:=f n2
  have f3:=f n3
  have S1:dD T H H1:=fun b o _ e=>k1 b o (s12 _ _ e) (aO e hx)
  have tb1:Tb T H1:=aGC (tb.same s12) ex k1
  have h71:=eO S1 tb _ _ h7
  refine ⟨_,rfl,_,rfl,_,rfl,rw,_,rfl,h71,fun t2 H2 s2 ht2=>?_⟩
  rw [pL (α:=Unit)] at ht2
  have S2:dD T H H2:=S1.trans s2.butT
  refine ⟨t2,rfl,⟨_,SqT.of ht2⟩,?_⟩
  refine kF (K:=K) (xs:=ys.take n) (fun i σ H'=>∃ (o5:Option V),σ=[some (.ref t),some (.int n),some (.ref lay),some (.ref rw),some (.ref x),o5]∧dD T H H'∧Tb T H'∧H' t2=some (.tup (ys.take n))∧Mom H' C x MA ws (8 + 6 * i) (eJ us i)) ⟨none,rfl,S2,tb1.same s2,ht2,mom.same s2⟩ (fun i σ H' _ p=>by obtain ⟨_,_,_,_,e,_⟩:=p;exact SqT.of e) ?_ ?_
  ·rintro i v σ H3 hv ⟨o5,rfl,S3,tb3,e3,mom3⟩
   have hv':ys[i]?=some v:=by
    rw [List.getElem?_take] at hv
    split at hv
    ·exact hv
    ·cases hv
   have hi:i < ys.length:=(List.getElem?_eq_some_iff.mp hv').1
   have hl:=h8.len
   obtain ⟨u,hu,rdu,oku⟩:=h8.at' i v hv'
   have T3:=eO S3 tb
   refine ⟨_,rfl,_,rfl,x,MA,ws,8 + 6 * i,_,v,u,rfl,mom3,by omega,tb3,oku.on rdu T3,oku,oku.rs.word,fun z H4 _ k4 tb4 mom4=>?_⟩
   refine ⟨_,rfl,fun b o nb e=>k4 b o (fun z=>?_) (S3 b o nb e),tb4,mom3.tups tb3 k4 _ _ e3,?_⟩
   ·simp only [List.mem_cons,List.not_mem_nil,or_false] at z
    rcases z with z | z | z | z
    ·exact nb z
    ·rw [z,f1] at e;cases e
    ·rw [z,f2] at e;cases e
    ·rw [z,f3] at e;cases e
   ·have e1:eJ us (i + 1)=d7 (eJ us i) u:=by
     unfold eJ
     rw [List.take_add_one,hu,List.foldl_append]
     rfl
    rw [e1]
    exact mom4
  ·rintro σ H3 ⟨o5,rfl,S3,tb3,e3,mom3⟩
   refine ⟨_,rfl,k x MA H3 f1 f2 f3 S3 tb3 ?_⟩
   have hl:=h8.len
   have e1:eJ us (ys.take n).length=eJ us n:=by
    unfold eJ
    congr 1
    rw [List.length_take,hl]
    by_cases z:n≤us.length
    ·rw [Nat.min_eq_left z]
    ·rw [Nat.min_eq_right (by omega),List.take_length,List.take_of_length_le (by omega)]
   rw [e1] at mom3
   exact mom3.mono (by rw [List.length_take];omega)
end
end K36
namespace K36
open PySem L2
theorem aFk {m:Mnd} (h:gU m) (r:cE):gU (d7 m r):=by
 unfold d7
 split
 ·split
  ·exact h.mend _ _
  ·exact h
 ·split
  ·exact h.alone _
  ·exact h
 ·exact h
theorem aEn (m:Mnd) (r:cE):(d7 m r).length≤m.length + 1:=by
 unfold d7
 split
 ·split
  ·exact vI _ _ _
  ·omega
 ·split
  ·exact Nat.le_trans (aAi _ _) (by omega)
  ·omega
 ·omega
inductive oX (vs:List V) (H:Hp) (Q:VK) (u3_:XK):Prop
 | mk (t:Addr) (ys:List V) (us:List cE) (ws:List Str) (q0:vs=[.ref t]) (q1:H t=some (.tup ys)) (q2:iD H ys us ws) (q3:us.length≤40) (q4:∀ me H',H me=none→aU H H'→H' me=some (.dK (us.foldl d7 []))→gU (us.foldl d7 [])→(us.foldl d7 []).length≤40→Q (.ref me) H'):oX vs H Q u3_
def tY:Sp:=fun vs H Q u3_=>oX vs H Q u3_
theorem oY {H:Hp}{wd:Str}{ds:List PyData}{b8:List V} (rs:j8 wd ds) (hrest:cW false H b8 ds):(wd="mend"∧∃ h o,ds=[.str h,.str o]∧b8=[.str h,.str o])∨(wd="alone"∧∃ h,ds=[.str h]∧b8=[.str h])∨(wd≠"mend"∧wd≠"alone"):=by
 cases rs with
 | mend=>
  cases hrest with
  | cons q1 hrest=>
  cases hrest with
  | cons q2 hrest=>
  cases hrest
  cases q1
  cases q2
  exact .inl ⟨rfl,_,_,rfl,rfl⟩
 | alone=>
  cases hrest with
  | cons q1 hrest=>
  cases hrest
  cases q1
  exact .inr (.inl ⟨rfl,_,rfl,rfl⟩)
 | _=>exact .inr (.inr ⟨by decide,by decide⟩)
section
variable {P:Program}{w:World}{K:PySem.W.Frag}{mg:Str→Option Value}{base:Heap}
theorem aBv:cA ["_law_menders_here","_law_house","_law_found"] ["_law_menders_here","_law_house"] (aM pV):=⟨rfl,rfl,rfl,by decide,rfl,by decide,by decide⟩
theorem aEo {f:Addr}{fd:FuncData} (F:Fun K "_law_road" "_law_road" pV f fd):cC P w K mg base CX0 1 f fd ["_law_menders_here","_law_house"] p5:=by
 refine F.ok aBv (fun vs H Q E h=>?_) (fun cdv A outer s H vs Q E hr h=>?_)
 ·obtain ⟨me,h,m,rfl,_⟩:=h
  rfl
 ·obtain ⟨me,h,m,rfl,hm,ha,hlen,k⟩:=h
  have hu:=jE hr
  refine ⟨_,aA (aW (i:=2) aBv.nd rfl (Or.inl rfl) (dA (aE (pv 1) aB)))
   (aA (rP PassesOwn.never (gX (pG hu (aX cF (pv 2) (iR f9 aG) (fun _ _=>rfl)) (pv 0)))
    (aQ (dJ (fF PySem.F.plainAttrs_list PySem.F.slot_list_append PySem.F.type_list_append dG (pv 2) (aE (fV hu (pv 0) (aX cF (pv 2) (iR f9 aG) (fun _ _=>rfl)) (fun _ _=>rfl)) aB)))))
   (aQ (bE (pv 2)))),?_⟩
  refine ⟨_,rfl,aH (by show 1≤1000000;decide),fun L hL=>?_⟩
  have sL:=aU.new (o:=.lst [V.str h]) hL
  have hrd:=ha.rd h
  have hll:=hrd.len
  refine ⟨fun n σ H'=>∃ (pre l:List Str) (x:Str),σ=[some (.ref me),some (.str h),some (.ref L)]∧aU H H'∧H' L=some (.lst ((pre ++ [x]).map V.str))∧rd m h=pre ++ l∧dW m x l∧n=l.length,⟨_,[],rd m h,h,rfl,sL,aF,rfl,hrd,rfl⟩,?_⟩
  rintro n σ H1 ⟨pre,l,x,rfl,S,hL1,er,hx,rfl⟩
  have hat:atI ((pre ++ [x]).map V.str) (-1)=some (.str x):=by
   rw [List.map_append]
   exact iF _ _
  refine ⟨_,rfl,_,rfl,L,_,-1,_,rfl,rfl,SqL.of hL1,hat,_,rfl,me,_,rfl,.inl ⟨m,Sum.inr x,.inl (S _ _ hm),rfl,rfl⟩,_,rfl,?_⟩
  rw [ha.val x]
  cases hx with
  | stop e=>
   rw [e]
   refine dP ?_
   refine ⟨_,rfl,k L H1 hL S ?_⟩
   rw [er]
   exact hL1
  | @on _ y l e r=>
   rw [e]
   refine fZ ?_
   refine ⟨fun σ' H'=>∃ (pre l':List Str) (x:Str),σ'=[some (.ref me),some (.str h),some (.ref L)]∧aU H H'∧H' L=some (.lst ((pre ++ [x]).map V.str))∧rd m h=pre ++ l'∧dW m x l'∧l.length=l'.length,fun σ' H' z=>⟨l.length,by simp,z⟩,?_⟩
   have hev:some (V.str y)=dH m (Sum.inr x):=by rw [ha.val x,e];rfl
   refine ⟨_,rfl,.inl ⟨rfl,_,SqL.of hL1⟩,_,rfl,_,rfl,_,rfl,L,_,-1,_,rfl,rfl,SqL.of hL1,hat,me,_,rfl,.inl ⟨m,Sum.inr x,.inl (S _ _ hm),rfl,hev⟩,L,_,_,rfl,rfl,hL1,?_,?_⟩
   ·have:=congrArg List.length er
    simp at this ⊢
    exact Nat.lt_of_le_of_lt (show pre.length + 1≤1000000 by omega) (by decide)
   ·refine ⟨pre ++ [x],l,y,rfl,fun b o z=>?_,?_,by rw [er];simp,r,rfl⟩
    ·rw [aJ (aO z hL)]
     exact S _ _ z
    ·rw [aF]
     simp
theorem tZ:cA ["_law_rows","_law_menders_here","_law_row_here"] ["_law_rows"] (aM iW):=⟨rfl,rfl,rfl,by decide,rfl,by decide,by decide⟩
theorem y0 {f fR:Addr}{fd fdR:FuncData} (F:Fun K "_law_menders" "_law_menders" iW f fd)
  (GR:cC P w K mg base CX0 1 fR fdR ["_law_menders_here","_law_house"] p5) (mR:mg "_law_road"=some (.ref fR)) (kR:PySem.W.keepIn K (.ref fR)=true) (bR:cQ K fdR ["_law_menders_here","_law_house"] []):
  cC P w K mg base CX0 2 f fd ["_law_rows"] tY:=by
 refine F.ok tZ (fun vs H Q E h=>?_) (fun cdv A outer s H vs Q E hr h=>?_)
 ·obtain ⟨t,ys,us,ws,rfl,_⟩:=h
  rfl
 ·obtain ⟨t,ys,us,ws,rfl,ht,hrows,h40,k⟩:=h
  have hu:=jE hr
  have nd:=tZ.nd
  refine ⟨_,aA (aW (i:=1) nd rfl (Or.inl rfl) i6)
   (aA (f7 PassesOwn.never rfl (gY (pv 0)) (g:=cY 2) (bG (i:=2) nd rfl (Or.inl rfl))
    (aA (cU (nF (PW.pt (f6 (bV e7 (aX bJ (pv 2) aG (fun _ _=>rfl)) aV (cM _)) (gC (bV gN (aX bJ (pv 2) aG (fun _ _=>rfl)) (aS GR hr rfl mR kR bR .nil bY (aE (pv 1) (aE (aX bJ (pv 2) aG (fun _ _=>rfl)) aB))) (by with_unfolding_all rfl))))))
     (aQ (fY hu (pv 1) (aX bJ (pv 2) aG (fun _ _=>rfl)) (aX bJ (pv 2) aG (fun _ _=>rfl)) rfl)) bH)
    (aQ (cU (nF (PW.pt (f6 (bV e7 (aX bJ (pv 2) aG (fun _ _=>rfl)) aV (cM _)) (gC (gX (pG hu (aX bJ (pv 2) aG (fun _ _=>rfl)) (pv 1)))))))
     (aQ (dJ (oC (pv 1) (aX bJ (pv 2) aG (fun _ _=>rfl)) ⟨rfl,rfl,rfl,rfl⟩))) bH))))
   (aQ (bE (pv 1)))),?_⟩
  refine fun D hD=>?_
  have sD:=aU.new (o:=.dK []) hD
  refine ⟨_,rfl,t,rfl,⟨_,SqT.of (sD _ _ ht)⟩,?_⟩
  have hl:=hrows.len
  refine kF (K:=K) (xs:=ys) (fun i σ H'=>∃ (o2:Option V),σ=[some (.ref t),some (.ref D),o2]∧aU H H'∧H' D=some (.dK (eJ us i))∧gU (eJ us i)∧(eJ us i).length≤i) ⟨none,rfl,sD,aF,gU.nil,Nat.le_refl _⟩ (fun i σ H' _ p=>by obtain ⟨_,_,S,_⟩:=p;exact SqT.of (S _ _ ht)) ?_ ?_
  ·rintro i v σ H1 hv ⟨o2,rfl,S,hD1,ac,ml⟩
   obtain ⟨r,hr',rdv,ok⟩:=hrows.at' i v hv
   have hi:i < ys.length:=(List.getElem?_eq_some_iff.mp hv).1
   have e1:eJ us (i + 1)=d7 (eJ us i) r:=by
    unfold eJ
    rw [List.take_add_one,hr',List.foldl_append]
    rfl
   rw [e1]
   have ac1:=aFk ac r
   have ml1:=aEn (eJ us i) r
   have go:∀ {kvs},aU H (upd H1 D (.dK kvs)):=fun {kvs} b o e=>by
    rw [aJ (aO e hD)]
    exact S _ _ e
   generalize eJ us i=m at *
   obtain ⟨tr,b8,rfl,htr,hrest⟩:=cE.Ok.tup (fs:=ws) (ok.on rdv (dO S))
   have a0:=(tT (word:=r.word) (name:=r.name) (day:=r.day) (b8:=b8)).1
   have eq:∀ x y:Str,decide (V.str x=V.str y)=decide (x=y):=fun x y=>by simp
   have dT:∀ x:Str,decide (x=x)=true:=fun x=>decide_eq_true rfl
   have dF1:decide (("alone":Str)="mend")=false:=by decide
   have dF2:decide (("mend":Str)="alone")=false:=by decide
   have hcase:(r.word="mend"∧∃ h o,r.ds=[.str h,.str o]∧b8=[.str h,.str o])∨(r.word="alone"∧∃ h,r.ds=[.str h]∧b8=[.str h])∨(r.word≠"mend"∧r.word≠"alone"):=oY ok.rs hrest
   refine ⟨fun b H'=>aU H1 H'∧H' D=some (.dK m)∧((b=true∧∃ h o,r.word="mend"∧r.ds=[.str h,.str o]∧b8=[.str h,.str o]∧h ∉ rd m o)∨(b=false∧(r.word="mend"→d7 m r=m))),?_,?_⟩
   ·refine ⟨_,rfl,tr,_,0,_,rfl,rfl,SqT.of htr,a0,rfl,_,rfl,?_⟩
    rw [eq]
    rcases hcase with ⟨hw,h,o,hd,hs⟩ | ⟨hw,_⟩ | ⟨hw,_⟩
    ·rw [hw,dT]
     refine fZ ?_
     subst hs
     refine ⟨_,rfl,tr,_,3,_,rfl,rfl,SqT.of htr,rfl,_,rfl,_,rfl,tr,_,4,_,rfl,rfl,SqT.of htr,rfl,D,o,m,rfl,hD1,ac,by omega,fun L H2 hL S2 e2=>?_⟩
     refine ⟨L,_,rfl,.inl (SqL.of e2),rfl,dX _,_,rfl,S2,S2 _ _ hD1,?_⟩
     show ((if true=true then !inV (V.str h) ((rd m o).map V.str) else inV (V.str h) ((rd m o).map V.str))=true∧_)∨_
     rw [if_pos rfl,wY]
     by_cases g:h∈rd m o
     ·refine .inr ⟨by rw [decide_eq_true g];rfl,fun _=>?_⟩
      obtain ⟨wd,nm,dy,ds⟩:=r
      dsimp only at hw hd
      subst hw hd
      rw [p8]
      exact if_pos g
     ·exact .inl ⟨by rw [decide_eq_false g];rfl,h,o,rfl,hd,rfl,g⟩
    ·rw [hw,dF1]
     exact dP ⟨aU.refl _,hD1,.inr ⟨rfl,fun z=>absurd z (by decide)⟩⟩
    ·rw [decide_eq_false hw]
     exact dP ⟨aU.refl _,hD1,.inr ⟨rfl,fun z=>absurd z hw⟩⟩
   rintro b H2 ⟨S2,hD2,⟨rfl,h,o,hw,hd,rfl,g⟩ | ⟨rfl,hno⟩⟩
   ·refine fZ ?_
    have htr2:=S2 _ _ htr
    have e2:d7 m r=c5 m (Sum.inr h) (.str o):=by
     obtain ⟨wd,nm,dy,ds⟩:=r
     dsimp only at hw hd
     subst hw hd
     rw [p8]
     exact if_neg g
    rw [e2] at ac1 ml1 ⊢
    refine ⟨_,rfl,tr,_,4,_,rfl,rfl,SqT.of htr2,rfl,_,rfl,_,rfl,tr,_,3,_,rfl,rfl,SqT.of htr2,rfl,D,_,rfl,lE.k (k:=Sum.inr h) hD2 (Nat.lt_of_le_of_lt (show m.length≤40 by omega) (by rw [PySem.sizeLine_eq];omega)),?_⟩
    have htr3:upd H2 D (.dK (c5 m (Sum.inr h) (.str o))) tr=some (.tup (V.str r.word :: .str r.name :: .int r.day :: [.str h,.str o])):=by
     rw [aJ (dS htr2 hD2 (fun z=>nomatch z))]
     exact htr2
    refine ⟨fun b H'=>b=false∧H'=upd H2 D (.dK (c5 m (Sum.inr h) (.str o))),?_,?_⟩
    ·refine ⟨_,rfl,tr,_,0,_,rfl,rfl,SqT.of htr3,a0,rfl,_,rfl,?_⟩
     rw [eq,hw,dF2]
     exact dP ⟨rfl,rfl⟩
    ·rintro b H' ⟨rfl,rfl⟩
     refine dP ⟨_,rfl,fun b o e=>?_,aF,ac1,by omega⟩
     rw [aJ (aO e hD)]
     exact S2 _ _ (S _ _ e)
   ·refine dP ?_
    have htr2:=S2 _ _ htr
    refine ⟨fun b H'=>H'=H2∧((b=true∧∃ h v,r.word="alone"∧r.ds=[.str h]∧b8=[.str h]∧dH m (Sum.inr h)=some v)∨(b=false∧d7 m r=m)),?_,?_⟩
    ·refine ⟨_,rfl,tr,_,0,_,rfl,rfl,SqT.of htr2,a0,rfl,_,rfl,?_⟩
     rw [eq]
     rcases hcase with ⟨hw,_⟩ | ⟨hw,h,hd,hs⟩ | ⟨hw1,hw⟩
     ·rw [hw,dF2]
      exact dP ⟨rfl,.inr ⟨rfl,hno hw⟩⟩
     ·rw [hw,dT]
      refine fZ ?_
      subst hs
      refine ⟨_,rfl,tr,_,3,_,rfl,rfl,SqT.of htr2,rfl,_,rfl,D,_,rfl,.inl ⟨m,Sum.inr h,.inl hD2,rfl,rfl⟩,_,rfl,rfl,?_⟩
      cases hv:dH m (Sum.inr h) with
      | none=>
       refine .inr ⟨rfl,?_⟩
       obtain ⟨wd,nm,dy,ds⟩:=r
       dsimp only at hw hd
       subst hw hd
       rw [nU]
       exact if_neg (by rw [hv];decide)
      | some v=>exact .inl ⟨rfl,h,v,rfl,hd,rfl,hv⟩
     ·rw [decide_eq_false hw]
      exact dP ⟨rfl,.inr ⟨rfl,mJ hw1 hw⟩⟩
    ·rintro b H' ⟨rfl,⟨rfl,h,v,hw,hd,rfl,hv⟩ | ⟨rfl,e2⟩⟩
     ·refine fZ ?_
      have e2:d7 m r=dC m (Sum.inr h):=by
       obtain ⟨wd,nm,dy,ds⟩:=r
       dsimp only at hw hd
       subst hw hd
       rw [nU]
       exact if_pos (by rw [hv];rfl)
      rw [e2] at ac1 ml1 ⊢
      refine ⟨_,rfl,D,rfl,.inl ⟨m,.inl hD2⟩,_,rfl,tr,_,3,_,rfl,rfl,SqT.of htr2,rfl,m,Sum.inr h,v,hD2,rfl,hv,?_⟩
      refine ⟨_,rfl,fun b o e=>?_,aF,ac1,by omega⟩
      rw [aJ (aO e hD)]
      exact S2 _ _ (S _ _ e)
     ·rw [e2] at ac1 ml1 ⊢
      exact dP ⟨_,rfl,S.trans S2,hD2,ac1,by omega⟩
  ·rintro σ H1 ⟨o2,rfl,S,hD1,ac,ml⟩
   have e1:eJ us ys.length=us.foldl d7 []:=by
    unfold eJ
    rw [hl,List.take_length]
   rw [e1] at hD1 ac ml
   exact ⟨_,rfl,k D H1 hD S hD1 ac (by omega)⟩
end
end K36
namespace L2
open PySem PySem.Spec PyProof.Rows
inductive t4 (K:PySem.W.Frag) (x:V) (y:V) (H:Hp) (Q:VK):Prop
 | mk (p:_) (q:_) (xs:_) (q0:x=.ref p) (q1:y=.ref q) (q2:SqL K H p xs) (q3:SqL K H q []) (q4:Q (.bl (!xs.isEmpty)) H):t4 K x y H Q
def aEp (K:PySem.W.Frag):V→V→Hp→VK→Prop:=fun x y H Q=>t4 K x y H Q
theorem aAv {X:Cx} (hu:X.A.units < cLine):OpR X (compareOp .NotEq) (aEp X.K):=by
 intro pins s σ H x y v u Q I rx ry h
 obtain ⟨p,q,xs,rfl,rfl,h1,h2,hq⟩:=h
 cases xs with
 | nil=>exact wK hu pins s σ H _ _ v u Q I rx ry ⟨p,q,[],[],rfl,rfl,h1,h2,rfl,rfl,hq⟩
 | cons a xs=>
  cases rx
  cases ry
  obtain ⟨us,r1,p1,_⟩:=I.list h1
  obtain ⟨ws,r2,p2,_⟩:=I.list h2
  have l1:=r1.length
  have l2:=r2.length
  refine SeqAt.RcNeAt.lists_lengths p1.isList p2.isList (by simp at l1 l2 ⊢;omega) hu X.prog X.w _ _ ?_
  exact ⟨.bl _,H,I,rfl,hq⟩
end L2
namespace K36
open PySem L2
def nW (H:Hp) (xs:List V) (fs:List Str):Prop:=∀ x∈xs,∃ r:cE,RdV false H x r.d∧r.Ok fs∧(r.word="mend"∨r.word="alone")
inductive qO (vs:List V) (H:Hp) (Q:VK) (u3_:XK):Prop
 | mk (p c:Addr) (ns:List Int) (a:Int) (name:Str) (day:Int) (lh lp:Addr) (hs:List Str) (xs:List V) (fs:List Str) (q0:vs=[.ref p,.str name,.int day,.ref lh,.ref lp]) (q1:cV H p c ns a) (q2:a≤600000) (q3:H lh=some (.lst (hs.map V.str))) (q4:Nms hs) (q5:2≤hs.length) (q6:hs.length≤44) (q7:H lp=some (.lst xs)) (q8:nW H xs fs) (q9:dE name=true) (q10:0≤day) (q11:day≤9999) (q12:∀ (x:V) (r:cE) (a':Int) (H':Hp),RdV false H' x r.d→r.name=name→r.Ok fs→(r.word="mend"∨r.word="alone")→a≤a'→a'≤a + 5→cV H' p c ns a'→aY p H H'→Q x H'):qO vs H Q u3_
def vY:Sp:=fun vs H Q u3_=>qO vs H Q u3_
theorem aEq {wd:Str}{ds:List PyData}{fs:List Str} (h:wd="mend"∨wd="alone"):FIn wd ds fs:=by
 rcases h with rfl | rfl <;> exact fun z=>absurd z (by decide)
theorem qA {H:Hp}{xs:List V}{fs:List Str} (past:nW H xs fs) (h:xs≠[]):∃ (t:Addr) (nm:Str) (dy:Int) (h:Str),dE h=true∧atI xs (-1)=some (.ref t)∧((H t=some (.tup [.str "alone",.str nm,.int dy,.str h]))∨∃ o,dE o=true∧h≠o∧H t=some (.tup [.str "mend",.str nm,.int dy,.str h,.str o])):=by
 obtain ⟨ys,x,rfl⟩:∃ ys x,xs=ys ++ [x]:=⟨_,_,(List.dropLast_concat_getLast h).symm⟩
 obtain ⟨r,rd,ok,hw⟩:=past x (by simp)
 obtain ⟨t,b8,rfl,ht,hrest⟩:=cE.Ok.tup (fs:=fs) rd
 have rs:=ok.rs
 have hc:=oY rs hrest
 obtain ⟨wd,nm,dy,ds⟩:=r
 dsimp only at hc rs ht hw
 rcases hc with ⟨rfl,h,o,rfl,rfl⟩ | ⟨rfl,h,rfl,rfl⟩ | ⟨h1,h2⟩
 ·cases rs with
  | mend hh ho hne=>exact ⟨t,nm,dy,h,hh,iF _ _,.inr ⟨o,ho,hne,ht⟩⟩
 ·cases rs with
  | alone hh=>exact ⟨t,nm,dy,h,hh,iF _ _,.inl ht⟩
 ·rcases hw with z | z
  ·exact absurd z h1
  ·exact absurd z h2
section
variable {P:Program}{w:World}{K:PySem.W.Frag}{mg:Str→Option Value}{base:Heap}
theorem vZ:cA ["_law_pen_here","_law_name","_law_day","_law_houses","_law_past","_law_at","_law_one","_law_other","_law_way"] ["_law_pen_here","_law_name","_law_day","_law_houses","_law_past"] (aM j6):=⟨rfl,rfl,rfl,by decide,rfl,by decide,by decide⟩
theorem aAw {f fT:Addr}{fd fdT:FuncData} (F:Fun K "_law_mend_row" "_law_mend_row" j6 f fd) (hlen:mg "len"=none)
  (GT:cC P w K mg base CX0 1 fT fdT ["_law_pen_here","_law_many"] iC) (mT:mg "_law_take"=some (.ref fT)) (kT:PySem.W.keepIn K (.ref fT)=true) (bT:cQ K fdT ["_law_pen_here","_law_many"] []):
  cC P w K mg base CX0 2 f fd ["_law_pen_here","_law_name","_law_day","_law_houses","_law_past"] vY:=by
 refine F.ok vZ (fun vs H Q E h=>?_) (fun cdv A outer s H vs Q E hr h=>?_)
 ·obtain ⟨p,c,ns,a,name,day,lh,lp,hs,xs,fs,rfl,_⟩:=h
  rfl
 ·obtain ⟨p,c,ns,a,name,day,lh,lp,hs,xs,fs,rfl,hp,ha,hlh,nh,h2,h44,hlp,past,hnm,d0,d1,k⟩:=h
  have nd:=vZ.nd
  have hu:_ < _:=hr.units0
  refine ⟨_,aA (aW (i:=5) nd rfl (Or.inl rfl) (aS GT hr rfl mT kT bT .nil bY (aE (pv 0) (aE (bF cG (by rfl) hlen PySem.boot_len (aE (pv 3) aB)) aB))))
   (aA (aW (i:=6) nd rfl (Or.inl rfl) (aX cF (pv 3) (pv 5) (fun _ _=>rfl)))
   (aA (aW (i:=7) nd rfl (Or.inl rfl) (aX cF (pv 3) (aZ f8 (aZ c8 (aZ c8 (pv 5) aG) (aS GT hr rfl mT kT bT .nil bY (aE (pv 0) (aE (aZ iZ (bF cG (by rfl) hlen PySem.boot_len (aE (pv 3) aB)) aG) aB)))) (bF cG (by rfl) hlen PySem.boot_len (aE (pv 3) aB))) (fun _ _=>rfl)))
   (aA (aW (i:=8) nd rfl (Or.inl rfl) (aS GT hr rfl mT kT bT .nil bY (aE (pv 0) (aE aG aB))))
   (aA (cU (bV e7 (pv 8) aG (cM _)) (aQ (bE (c0 (aE aV (aE (pv 1) (aE (pv 2) (aE (pv 6) aB))))))) bH)
   (aA (cU (nF (PW.pt (f6 (bV aAH (pv 8) aG (cM _)) (f6 (bV (aAv hu) (pv 4) (dA aB) (cM _)) (f6 (bV e7 (aX bJ (aX cF (pv 4) (iR f9 aG) (fun _ _=>rfl)) aG (fun _ _=>rfl)) aV (cM _)) (gC (bV qB (aX bJ (aX cF (pv 4) (iR f9 aG) (fun _ _=>rfl)) aG (fun _ _=>rfl)) (pv 7) (cM _))))))))
    (aQ (bE (c0 (aE aV (aE (pv 1) (aE (pv 2) (aE (aX bJ (aX cF (pv 4) (iR f9 aG) (fun _ _=>rfl)) aG (fun _ _=>rfl)) (aE (pv 7) aB)))))))) bH)
   (aA (cU (nF (PW.pt (f6 (bV e7 (pv 8) aG (cM _)) (f6 (bV (aAv hu) (pv 4) (dA aB) (cM _)) (gC (bV qB (aX bJ (aX cF (pv 4) (iR f9 aG) (fun _ _=>rfl)) aG (fun _ _=>rfl)) (pv 6) (cM _)))))))
    (aQ (bE (c0 (aE aV (aE (pv 1) (aE (pv 2) (aE (pv 6) (aE (aX bJ (aX cF (pv 4) (iR f9 aG) (fun _ _=>rfl)) aG (fun _ _=>rfl)) aB)))))))) bH)
   (aA (cU (nF (PW.pt (f6 (bV e7 (pv 8) aG (cM _)) (gC (bV (aAv hu) (pv 4) (dA aB) (cM _))))))
    (aQ (bE (aZ aAV (aZ aAV (eB rD (aX cF (pv 4) (iR f9 aG) (fun _ _=>rfl)) fQ (fU aG)) (c0 (aE (pv 1) (aE (pv 2) aB)))) (eB rD (aX cF (pv 4) (iR f9 aG) (fun _ _=>rfl)) (fU aG) fQ)))) bH)
   (aQ (bE (c0 (aE aV (aE (pv 1) (aE (pv 2) (aE (pv 6) (aE (pv 7) aB))))))))))))))),?_⟩
  refine ⟨_,rfl,_,rfl,lh,_,rfl,.inl (SqL.of hlh),p,c,ns,a,_,rfl,hp,by omega,by rw [List.length_map];omega,by rw [List.length_map];omega,fun r1 a1 H1 r10 r11 la1 ua1 hp1 kp1=>?_⟩
  rw [List.length_map] at r11
  have hlh1:=bU hlh hp kp1
  obtain ⟨j,rfl⟩:∃ j:Nat,r1=j:=⟨r1.toNat,by omega⟩
  obtain ⟨one,hone⟩:∃ y,hs[j]?=some y:=⟨_,List.getElem?_eq_getElem (by omega)⟩
  have none':=nh.ok one (List.mem_of_getElem? hone)
  refine ⟨_,rfl,_,rfl,lh,_,_,_,rfl,rfl,SqL.of hlh1,gM (by rw [List.getElem?_map,hone];rfl),?_⟩
  refine ⟨_,rfl,_,rfl,_,_,rfl,rfl,_,rfl,_,rfl,lh,_,rfl,.inl (SqL.of hlh1),_,_,rfl,rfl,p,c,ns,a1,_,rfl,hp1,by omega,by rw [List.length_map];omega,by rw [List.length_map];omega,fun r4 b1 G1 r40 r41 lb1 ub1 hpb kpb=>?_⟩
  have hh:=bU hlh1 hp1 kpb
  refine ⟨_,_,rfl,rfl,_,rfl,lh,_,rfl,.inl (SqL.of hh),_,_,rfl,rfl,by rw [List.length_map];omega,?_⟩
  rw [List.length_map] at r41
  obtain ⟨j4,ej4,hj4⟩:=vO (n:=hs.length) (j:=j) (r:=r4) (by omega) r40 (by omega)
  rw [← List.length_map (f:=V.str)] at ej4
  obtain ⟨other,hot⟩:∃ y,hs[j4]?=some y:=⟨_,List.getElem?_eq_getElem (by omega)⟩
  have nother:=nh.ok other (List.mem_of_getElem? hot)
  have hne:one≠other:=fun z=>by
   have hl2:j < hs.length:=by omega
   have hl4:j4 < hs.length:=by omega
   rw [List.getElem?_eq_getElem hl2] at hone
   rw [List.getElem?_eq_getElem hl4] at hot
   injection hone with hone
   injection hot with hot
   rw [← hone,← hot] at z
   exact hj4.2 ((List.getElem_inj nh.nd).mp z).symm
  have hat4:atI (hs.map V.str) ((j4:Nat):Int)=some (V.str other):=gM (by rw [List.getElem?_map,hot];rfl)
  rw [← ej4] at hat4
  refine ⟨lh,_,_,_,rfl,rfl,SqL.of hh,hat4,?_⟩
  refine ⟨_,rfl,p,c,ns,b1,_,rfl,hpb,by omega,by decide,by decide,fun way a3 H3 w0 w1 la3 ua3 hp3 kp3=>?_⟩
  have k3:=(kp1.trans kpb).trans kp3
  have hlp3:=bU hlp hp k3
  have past3:nW H3 xs fs:=fun x hx=>by
   obtain ⟨r,h1,h2,h3⟩:=past x hx
   exact ⟨r,h2.on h1 (fun q ys e=>oS e hp k3),h2,h3⟩
  have fin:∀ (G:Hp) (wd:Str) (ds:List PyData) (b8:List V),aU H3 G→cW false G b8 ds→j8 wd ds→(wd="mend"∨wd="alone")→∀ t,G t=none→Q (.ref t) (upd G t (.tup (.str wd :: .str name :: .int day :: b8))):=fun G wd ds b8 S hrest hRS hw t ht=>by
   have St:=aU.new (o:=.tup (.str wd :: .str name :: .int day :: b8)) ht
   have hl4:=hrest.len
   have hd4:=hRS.len
   exact k (.ref t) ⟨wd,name,day,ds⟩ a3 _ (.tup aF (by simp only [List.length_cons];omega) (.cons (.str wd (tR hRS.word)) (.cons (eM hnm) (.cons (.int day) (hrest.same St))))) rfl ⟨hRS,hnm,d0,d1,aEq hw⟩ hw (by omega) (by omega) (hp3.same (S.trans St)) (k3.same (S.trans St))
  have z4:∀ n:Nat,n≤10→n≤sizeLine:=fun n h=>aH (by omega)
  have nz:∀ {b:Bool},(!b)=true→b=false:=fun {b} z=>by cases b <;> simp_all
  have pl:(!xs.isEmpty)=true→xs≠[]:=fun z e=>by rw [e] at z;cases z
  refine ⟨_,rfl,rfl,_,rfl,?_⟩
  refine eG (fun g0=>⟨_,rfl,_,rfl,_,rfl,z4 _ (by simp),fun t ht=>fin _ "alone" [.str one] [.str one] (aU.refl _) (.cons (eM none') .nil) (.alone none') (.inr rfl) t ht⟩) fun g0=>?_
  refine ⟨fun b H'=>aU H3 H'∧(b=true→∃ (t:Addr) (nm:Str) (dy:Int) (h o:Str),dE o=true∧o≠other∧atI xs (-1)=some (.ref t)∧H3 t=some (.tup [.str "mend",.str nm,.int dy,.str h,.str o])),?_,?_⟩
  ·refine ⟨_,rfl,_,_,rfl,rfl,_,rfl,?_⟩
   refine eG (fun g=>?_) fun g=>⟨aU.refl _,fun z=>nomatch z⟩
   refine ⟨_,rfl,z4 _ (by simp),fun L hL=>?_⟩
   have sL:=aU.new (o:=.lst []) hL
   refine ⟨lp,L,xs,rfl,rfl,SqL.of (sL _ _ hlp3),SqL.of aF,_,rfl,?_⟩
   refine eG (fun g1=>?_) fun g1=>⟨sL,fun z=>nomatch z⟩
   obtain ⟨t,nm,dy,h,hh,hat,ht | ⟨o,ho,hno,ht⟩⟩:=qA past3 (pl g1)
   ·refine ⟨_,rfl,_,rfl,lp,_,-1,_,rfl,rfl,SqL.of (sL _ _ hlp3),hat,t,_,0,_,rfl,rfl,SqT.of (sL _ _ ht),rfl,rfl,_,rfl,?_⟩
    exact dP ⟨sL,fun z=>nomatch z⟩
   ·refine ⟨_,rfl,_,rfl,lp,_,-1,_,rfl,rfl,SqL.of (sL _ _ hlp3),hat,t,_,0,_,rfl,rfl,SqT.of (sL _ _ ht),rfl,rfl,_,rfl,?_⟩
    refine fZ ?_
    refine ⟨_,rfl,_,rfl,lp,_,-1,_,rfl,rfl,SqL.of (sL _ _ hlp3),hat,t,_,4,_,rfl,rfl,SqT.of (sL _ _ ht),rfl,_,rfl,rfl,_,rfl,?_⟩
    refine ⟨sL,fun g2=>⟨t,nm,dy,h,o,ho,fun z=>?_,hat,ht⟩⟩
    have:=nz g2
    rw [z] at this
    exact absurd rfl (of_decide_eq_false this)
  rintro b G ⟨SG,hb⟩
  refine eG (fun gb=>?_) fun _=>?_
  ·obtain ⟨t,nm,dy,h,o,ho,hno,hat,ht⟩:=hb gb
   refine ⟨_,rfl,_,rfl,_,rfl,_,rfl,lp,_,-1,_,rfl,rfl,SqL.of (SG _ _ hlp3),hat,t,_,4,_,rfl,rfl,SqT.of (SG _ _ ht),rfl,_,rfl,z4 _ (by simp),fun t ht=>fin _ "mend" [.str o,.str other] [.str o,.str other] SG (.cons (eM ho) (.cons (eM nother) .nil)) (.mend ho nother hno) (.inl rfl) t ht⟩
  clear hb
  refine ⟨fun b H'=>aU H3 H'∧(b=true→∃ (t:Addr) (h:Str) (ys:List V),dE h=true∧h≠one∧atI xs (-1)=some (.ref t)∧H3 t=some (.tup ys)∧atI ys 3=some (.str h)),?_,?_⟩
  ·refine ⟨_,rfl,rfl,_,rfl,?_⟩
   refine eG (fun g=>?_) fun g=>⟨SG,fun z=>nomatch z⟩
   refine ⟨_,rfl,z4 _ (by simp),fun L hL=>?_⟩
   have sL:=SG.trans (aU.new (o:=.lst []) hL)
   refine ⟨lp,L,xs,rfl,rfl,SqL.of (sL _ _ hlp3),SqL.of aF,_,rfl,?_⟩
   refine eG (fun g1=>?_) fun g1=>⟨sL,fun z=>nomatch z⟩
   obtain ⟨t,nm,dy,h,hh,hat,hc⟩:=qA past3 (pl g1)
   obtain ⟨ys,ht,ha3⟩:∃ ys,H3 t=some (.tup ys)∧atI ys 3=some (.str h):=by
    rcases hc with ht | ⟨o,ho,hno,ht⟩
    ·exact ⟨_,ht,rfl⟩
    ·exact ⟨_,ht,rfl⟩
   refine ⟨_,rfl,_,rfl,lp,_,-1,_,rfl,rfl,SqL.of (sL _ _ hlp3),hat,t,_,3,_,rfl,rfl,SqT.of (sL _ _ ht),ha3,_,rfl,rfl,_,rfl,?_⟩
   refine ⟨sL,fun g2=>⟨t,h,ys,hh,fun z=>?_,hat,ht,ha3⟩⟩
   have:=nz g2
   rw [z] at this
   exact absurd rfl (of_decide_eq_false this)
  rintro b G2 ⟨SG2,hb⟩
  refine eG (fun gb=>?_) fun _=>?_
  ·obtain ⟨t,h,ys,hh,hno,hat,ht,ha3⟩:=hb gb
   refine ⟨_,rfl,_,rfl,_,rfl,_,rfl,_,rfl,lp,_,-1,_,rfl,rfl,SqL.of (SG2 _ _ hlp3),hat,t,_,3,_,rfl,rfl,SqT.of (SG2 _ _ ht),ha3,z4 _ (by simp),fun t ht=>fin _ "mend" [.str one,.str h] [.str one,.str h] SG2 (.cons (eM none') (.cons (eM hh) .nil)) (.mend none' hh (Ne.symm hno)) (.inl rfl) t ht⟩
  clear hb
  refine ⟨fun b H'=>aU H3 H'∧(b=true→xs≠[]),?_,?_⟩
  ·refine ⟨_,rfl,rfl,_,rfl,?_⟩
   refine eG (fun g=>?_) fun g=>⟨SG2,fun z=>nomatch z⟩
   refine ⟨_,rfl,z4 _ (by simp),fun L hL=>?_⟩
   have sL:=SG2.trans (aU.new (o:=.lst []) hL)
   exact ⟨lp,L,xs,rfl,rfl,SqL.of (sL _ _ hlp3),SqL.of aF,_,rfl,sL,pl⟩
  rintro b G3 ⟨SG3,hb⟩
  refine eG (fun gb=>?_) fun _=>?_
  ·obtain ⟨t,nm,dy,h,hh,hat,hc⟩:=qA past3 (hb gb)
   obtain ⟨wd,ds,b8,ht,hRS,hrr,hw⟩:∃ (wd:Str) (ds:List PyData) (b8:List V),H3 t=some (.tup (.str wd :: .str nm :: .int dy :: b8))∧j8 wd ds∧(∀ G,cW false G b8 ds)∧(wd="mend"∨wd="alone"):=by
    rcases hc with ht | ⟨o,ho,hno,ht⟩
    ·exact ⟨_,[.str h],_,ht,.alone hh,fun G=>.cons (eM hh) .nil,.inr rfl⟩
    ·exact ⟨_,[.str h,.str o],_,ht,.mend hh ho hno,fun G=>.cons (eM hh) (.cons (eM ho) .nil),.inl rfl⟩
   have hrl:=(hrr H3).len
   have hdl:=hRS.len
   refine ⟨_,rfl,_,rfl,lp,_,-1,_,rfl,rfl,SqL.of (SG3 _ _ hlp3),hat,_,rfl,t,_,rfl,SG3 _ _ ht,fun q1 I1 s1 e1=>?_⟩
   rw [show (1:Int)=((1:Nat):Int) from rfl,pL (α:=Unit)] at e1
   refine ⟨_,rfl,_,rfl,z4 _ (by simp),fun q2 hq2=>?_⟩
   have s2:=aU.new (o:=.tup [V.str name,.int day]) hq2
   refine ⟨q1,q2,_,_,rfl,rfl,s2 _ _ e1,aF,by simp,fun q3 I3 s3 e3=>?_⟩
   have S3:=(SG3.trans s1).trans (s2.trans s3)
   refine ⟨_,rfl,_,rfl,lp,_,-1,_,rfl,rfl,SqL.of (S3 _ _ hlp3),hat,_,rfl,t,_,rfl,S3 _ _ ht,fun q4 I4 s4 e4=>?_⟩
   rw [show (3:Int)=((3:Nat):Int) from rfl,aDk (α:=Unit)] at e4
   refine ⟨q3,q4,_,_,rfl,rfl,s4 _ _ e3,e4,by simp;omega,fun q5 I5 s5 e5=>?_⟩
   have S5:=(S3.trans s4).trans s5
   have e5':I5 q5=some (.tup (.str wd :: .str name :: .int day :: b8)):=e5
   exact k (.ref q5) ⟨wd,name,day,ds⟩ a3 _ (.tup e5' (by simp only [List.length_cons];omega) (.cons (.str wd (tR hRS.word)) (.cons (eM hnm) (.cons (.int day) (hrr I5))))) rfl ⟨hRS,hnm,d0,d1,aEq hw⟩ hw (by omega) (by omega) (hp3.same S5) (k3.same S5)
  ·exact ⟨_,rfl,_,rfl,_,rfl,_,rfl,z4 _ (by simp),fun t ht=>fin _ "mend" [.str one,.str other] [.str one,.str other] SG3 (.cons (eM none') (.cons (eM nother) .nil)) (.mend none' nother hne) (.inl rfl) t ht⟩
end
end K36
namespace K36
open PySem L2
abbrev qP (H:Hp) (fs:List Str) (xs:List V) (us:List cE):Prop:=Paired (fun (x:V) (u:cE)=>RdV false H x u.d∧u.Ok fs) xs us
theorem t6 {α β:Type}{R:α→β→Prop}:∀ {as:List α}{bs:List β}{i:Nat}{a:α},Paired R as bs→as[i]?=some a→∃ b,bs[i]?=some b∧R a b
 | _,_,_,_,.nil,e=>by simp at e
 | _,_,0,_,.cons r _,e=>by simp at e;subst e;exact ⟨_,rfl,r⟩
 | _,_,i + 1,_,.cons _ t,e=>by
  rw [List.getElem?_cons_succ] at e
  obtain ⟨b,h1,h2⟩:=t6 t e
  exact ⟨b,by rw [List.getElem?_cons_succ];exact h1,h2⟩
theorem y7 {α β:Type}{R:α→β→Prop}{xs ys:List α} (hp:ys.Perm xs):∀ {us:List β},Paired R xs us→∃ vs,vs.Perm us∧Paired R ys vs:=by
 induction hp with
 | nil=>intro ps h;exact ⟨ps,.refl _,h⟩
 | cons a _ ih=>
  intro ps h
  cases h with
  | cons r t=>
   obtain ⟨qs,h1,h2⟩:=ih t
   exact ⟨_ :: qs,h1.cons _,.cons r h2⟩
 | swap a b l=>
  intro ps h
  cases h with
  | cons r t=>
   cases t with
   | cons r2 t2=>exact ⟨_ :: _ :: _,.swap _ _ _,.cons r2 (.cons r t2)⟩
 | trans _ _ ih1 ih2=>
  intro ps h
  obtain ⟨qs,h1,h2⟩:=ih2 h
  obtain ⟨rs,h3,h4⟩:=ih1 h2
  exact ⟨rs,h3.trans h1,h4⟩
theorem qP.on {H H':Hp}{fs:List Str}{xs:List V}{us:List cE} (h:qP H fs xs us) (t:gI H H'):qP H' fs xs us:=Paired.mapP h fun x u ⟨r,ok⟩=>⟨ok.on r t,ok⟩
theorem qP.at {H:Hp}{fs:List Str}{xs:List V}{us:List cE} (h:qP H fs xs us):iD H xs us fs:=⟨Paired.length h,fun i x e=>by
 obtain ⟨u,h1,h2⟩:=t6 h e
 exact ⟨u,h1,h2⟩⟩
theorem nW.on {H H':Hp}{xs:List V}{fs:List Str} (h:nW H xs fs) (t:gI H H'):nW H' xs fs:=fun x hx=>by
 obtain ⟨r,h1,h2,h3⟩:=h x hx
 exact ⟨r,h2.on h1 t,h2,h3⟩
theorem cV.upd {H:Hp}{p c L:Addr}{ns:List Int}{a:Int}{o:HO} (h:cV H p c ns a) (h1:L≠p) (h2:L≠c):cV (upd H L o) p c ns a:=by
 obtain ⟨⟨z,hz,e⟩,ce,ge,sm⟩:=h
 exact ⟨⟨z,hz,by rw [aJ h1.symm];exact e⟩,by rw [aJ h2.symm];exact ce,ge,sm⟩
theorem cV.off {H:Hp}{p c L:Addr}{ns:List Int}{a:Int} (h:cV H p c ns a) (e:H L=none):L≠p∧L≠c:=by
 obtain ⟨z,_,q⟩:=h.ob
 exact ⟨(aO q e).symm,(aO h.ce e).symm⟩
theorem oZ {H H':Hp}{p c:Addr}{ns:List Int}{a:Int} (hp:cV H p c ns a) (k:aY p H H'):gI H H':=fun q xs e=>oS e hp k
theorem uA {H:Hp}{L:Addr}{xs ys:List V} (e:H L=some (.lst xs)):gI H (upd H L (.lst ys)):=fun q us z=>by
 rw [aJ (dS z e (fun w=>nomatch w))]
 exact z
inductive o0 (vs:List V) (H:Hp) (Q:VK) (u3_:XK):Prop
 | mk (p c:Addr) (ns:List Int) (a:Int) (ln tS lf lp lh:Addr) (rs fs ps hs:List Str) (m:Nat) (q0:vs=[.ref p,.ref ln,.ref tS,.int m]) (q1:cV H p c ns a) (q2:a≤500000) (q3:H ln=some (.lst (rs.map V.str))) (q4:Nms rs) (q5:m≤rs.length) (q6:m≤40) (q7:H tS=some (.tup [.ref lf,.ref lp,.ref lh])) (q8:S3 H lf lp lh fs ps hs) (q9:∀ (t:Addr) (ys:List V) (us:List cE) (a':Int) (H':Hp),H' t=some (.tup ys)→iD H' ys us fs→us.length=m→(us.map cE.name).Nodup→a≤a'→a'≤a + 5000→cV H' p c ns a'→aY p H H'→Q (.ref t) H'):o0 vs H Q u3_
def uB:Sp:=fun vs H Q u3_=>o0 vs H Q u3_
section
variable {P:Program}{w:World}{K:PySem.W.Frag}{mg:Str→Option Value}{base:Heap}
theorem uC:cA ["_law_pen_here","_law_names_here","_law_sorts_here","_law_many","_law_way","_law_days_here","_law_found","_law_past","_law_k","_law_day"] ["_law_pen_here","_law_names_here","_law_sorts_here","_law_many"] (aM iV):=⟨rfl,rfl,rfl,by decide,rfl,by decide,by decide⟩
theorem y8 {f fT fD fR fM fK:Addr}{fd fdT fdD fdR fdM fdK:FuncData} (F:Fun K "_law_some_rows" "_law_some_rows" iV f fd) (hrng:mg "range"=none) (htup:mg "tuple"=none) (hsor:mg "sorted"=none)
  (GT:cC P w K mg base CX0 1 fT fdT ["_law_pen_here","_law_many"] iC) (mT:mg "_law_take"=some (.ref fT)) (kT:PySem.W.keepIn K (.ref fT)=true) (bT:cQ K fdT ["_law_pen_here","_law_many"] [])
  (GD:cC P w K mg base CX0 2 fD fdD ["_law_pen_here","_law_many"] aD3) (mD:mg "_law_days"=some (.ref fD)) (kD:PySem.W.keepIn K (.ref fD)=true) (bD:cQ K fdD ["_law_pen_here","_law_many"] [])
  (GR:cC P w K mg base CX0 4 fR fdR ["_law_pen_here","_law_name","_law_day","_law_sorts_here"] aFG) (mR:mg "_law_row"=some (.ref fR)) (kR:PySem.W.keepIn K (.ref fR)=true) (bR:cQ K fdR ["_law_pen_here","_law_name","_law_day","_law_sorts_here"] [])
  (GM:cC P w K mg base CX0 2 fM fdM ["_law_pen_here","_law_name","_law_day","_law_houses","_law_past"] vY) (mM:mg "_law_mend_row"=some (.ref fM)) (kM:PySem.W.keepIn K (.ref fM)=true) (bM:cQ K fdM ["_law_pen_here","_law_name","_law_day","_law_houses","_law_past"] [])
  (GK:cC P w K mg base CX0 1 fK fdK ["_law_row_here"] wW) (mK:mg "_law_place"=some (.ref fK)) (bK:cQ K fdK ["_law_row_here"] []):
  cC P w K mg base CX0 5 f fd ["_law_pen_here","_law_names_here","_law_sorts_here","_law_many"] uB:=by
 refine F.ok uC (fun vs H Q E h=>?_) (fun cdv A outer s H vs Q E hr h=>?_)
 ·obtain ⟨p,c,ns,a,ln,tS,lf,lp,lh,rs,fs,ps,hs,m,rfl,_⟩:=h
  rfl
 ·obtain ⟨p,c,ns,a,ln,tS,lf,lp,lh,rs,fs,ps,hs,m,rfl,hp,ha,hln,nr,hm,h40,htS,h3,k⟩:=h
  have nd:=uC.nd
  have hr1:dF 1 _:=hr.mono (by decide)
  have hr2:dF 2 _:=hr.mono (by decide)
  have hr3:dF 3 _:=hr.mono (by decide)
  refine ⟨_,aA (aW (i:=4) nd rfl (Or.inl rfl) (aS GT hr1 rfl mT kT bT .nil bY (aE (pv 0) (aE aG aB))))
   (aA (aW (i:=5) nd rfl (Or.inl rfl) (aS GD hr2 rfl mD kD bD .nil bY (aE (pv 0) (aE (pv 3) aB))))
   (aA (aW (i:=6) nd rfl (Or.inl rfl) (dA aB))
   (aA (aW (i:=7) nd rfl (Or.inl rfl) (dA aB))
   (aA (f7 PassesOwn.never rfl (eV rfl hrng (aE (pv 3) aB)) (g:=cY 8) (bG (i:=8) nd rfl (Or.inl rfl))
    (aA (aW (i:=9) nd rfl (Or.inl rfl) (aX cF (dA (aE (aX cF (pv 5) (pv 8) (fun _ _=>rfl)) (aE (pv 8) (aE (aZ c8 (aZ iZ aG (pv 3)) (pv 8)) aB)))) (pv 4) (fun _ _=>rfl)))
    (aQ (cU (bV e7 (aS GT hr1 rfl mT kT bT .nil bY (aE (pv 0) (aE aG aB))) aG (cM _))
     (aQ (dJ (fF PySem.F.plainAttrs_list PySem.F.slot_list_append PySem.F.type_list_append dG (pv 6) (aE (aS GR hr rfl mR kR bR .nil bY (aE (pv 0) (aE (aX cF (pv 1) (pv 8) (fun _ _=>rfl)) (aE (pv 9) (aE (pv 2) aB))))) aB))))
     (aA (dJ (fF PySem.F.plainAttrs_list PySem.F.slot_list_append PySem.F.type_list_append dG (pv 7) (aE (aS GM hr2 rfl mM kM bM .nil bY (aE (pv 0) (aE (aX cF (pv 1) (pv 8) (fun _ _=>rfl)) (aE (pv 9) (aE (aX bJ (pv 2) aG (fun _ _=>rfl)) (aE (pv 7) aB)))))) aB)))
     (aQ (dJ (fF PySem.F.plainAttrs_list PySem.F.slot_list_append PySem.F.type_list_append dG (pv 6) (aE (aX cF (pv 7) (iR f9 aG) (fun _ _=>rfl)) aB)))))))))
   (aQ (bE (fJ eY (by rfl) htup (by kernel_rfl) (aE (aAa GK hr3 bK (by rfl) hsor (by rfl) mK (aE (pv 6) aB)) aB)))))))),?_⟩
  refine ⟨_,rfl,p,c,ns,a,_,rfl,hp,by omega,by decide,by decide,fun way a1 H1 w0 w1 la1 ua1 hp1 kp1=>?_⟩
  refine ⟨_,rfl,_,rfl,p,c,ns,a1,m,rfl,hp1,by omega,by omega,fun ld ds a2 H2 hld hdl hds la2 ua2 hp2 kp2=>?_⟩
  have k2:=kp1.trans kp2
  have hln2:=bU hln hp k2
  have htS2:=oS htS hp k2
  have h32:=h3.but hp k2
  refine ⟨Nat.zero_le _,fun L hL=>?_⟩
  have sL:=aU.new (o:=.lst []) hL
  obtain ⟨nLp,nLc⟩:=hp2.off hL
  refine ⟨Nat.zero_le _,fun R hR=>?_⟩
  have sR:=aU.new (o:=.lst []) hR
  obtain ⟨nRp,nRc⟩:=(hp2.same sL).off hR
  have nLR:L≠R:=aO aF hR
  have S0:=sL.trans sR
  have hL0:upd (upd H2 L (.lst [])) R (.lst []) L=some (.lst []):=sR _ _ aF
  have hR0:upd (upd H2 L (.lst [])) R (.lst []) R=some (.lst []):=aF
  generalize upd (upd H2 L (.lst [])) R (.lst [])=H3 at S0 hL0 hR0 ⊢
  have hHL:H2 R=none:=by
   cases q:H2 R with
   | none=>rfl
   | some o=>rw [sL _ _ q] at hR;cases hR
  have kX:∀ {G G':Hp},aY p G G'→cZ [p,L,R] G G':=fun z b o n e=>z b o e (fun q=>n (by simp [q]))
  have uL:∀ {G:Hp} {o:HO},cZ [p,L,R] G (upd G L o):=fun {G o}=>eZ (by simp)
  have uR:∀ {G:Hp} {o:HO},cZ [p,L,R] G (upd G R o):=fun {G o}=>eZ (by simp)
  have frX:∀ {b:Addr} {o:HO},H2 b=some o→b≠p→b ∉ [p,L,R]:=fun {b o} e n z=>by
   simp only [List.mem_cons,List.not_mem_nil,or_false] at z
   rcases z with z | z | z
   ·exact n z
   ·rw [z,hL] at e;cases e
   ·rw [z,hHL] at e;cases e
  refine ⟨_,rfl,m,rfl,by omega,by omega,gZ (n:=(m:Int).toNat) (fun i σ H'=>∃ (o8 o9:Option V) (a':Int) (xs:List V) (us:List cE) (zs:List V),σ=[some (.ref p),some (.ref ln),some (.ref tS),some (.int m),some (.int way),some (.ref ld),some (.ref L),some (.ref R),o8,o9]∧cV H' p c ns a'∧a2≤a'∧a'≤a2 + 100 * i∧cZ [p,L,R] H2 H'∧H' L=some (.lst xs)∧qP H' fs xs us∧us.length=i∧us.map cE.name=rs.take i∧H' R=some (.lst zs)∧nW H' zs fs∧zs.length≤i)
   ⟨_,_,a2,[],[],[],rfl,hp2.same S0,by omega,by simp,fun b o _ e=>S0 _ _ e,hL0,.nil,rfl,by simp,hR0,(fun x hx=>by simp at hx),Nat.le_refl _⟩ ?_ ?_⟩
  ·rintro i σ H4 hi ⟨o8,o9,a4,xs,us,zs,rfl,hp4,la4,ua4,k4,hL4,rows,hul,hnms,hR4,past,hzl⟩
   have him:i < m:=by omega
   have nld:ld ∉ [p,L,R]:=frX hld (k9 hp2 hld (fun _ _ z=>nomatch z))
   have hld4:=k4 _ _ nld hld
   have hln4:=k4 _ _ (frX hln2 (k9 hp2 hln2 (fun _ _ z=>nomatch z))) hln2
   have htS4:=k4 _ _ (frX htS2 (k9 hp2 htS2 (fun _ _ z=>nomatch z))) htS2
   have h34:S3 H4 lf lp lh fs ps hs:=⟨k4 _ _ (frX h32.f (k9 hp2 h32.f (fun _ _ z=>nomatch z))) h32.f,k4 _ _ (frX h32.p (k9 hp2 h32.p (fun _ _ z=>nomatch z))) h32.p,k4 _ _ (frX h32.h (k9 hp2 h32.h (fun _ _ z=>nomatch z))) h32.h,h3.f1,h3.f2,h3.p1,h3.h1,h3.nf,h3.np,h3.nh⟩
   have hxl:=Paired.length rows
   obtain ⟨d,hd⟩:∃ d,ds[i]?=some d:=⟨_,List.getElem?_eq_getElem (by omega)⟩
   have hd':=hds d (List.mem_of_getElem? hd)
   obtain ⟨name,hnm⟩:∃ y,rs[i]?=some y:=⟨_,List.getElem?_eq_getElem (by omega)⟩
   have nname:=nr.ok name (List.mem_of_getElem? hnm)
   have e0:(0:Int) + (i:Int)=(i:Int):=by omega
   rw [e0]
   dsimp only [cY]
   refine ⟨_,rfl,_,rfl,ld,_,_,_,rfl,rfl,SqL.of hld4,gM (by rw [List.getElem?_map,hd];rfl),_,rfl,_,rfl,_,_,rfl,rfl,_,rfl,_,_,rfl,rfl,aH (by show 3≤1000000;decide),fun q hq=>?_⟩
   have sq:=aU.new (o:=.lst [V.int d,.int i,.int (9999 - (m:Int) + i)]) hq
   obtain ⟨v,hv,hat⟩:=g8 (xs:=[V.int d,.int i,.int (9999 - (m:Int) + i)]) (i:=way) w0 (by show way < 3;omega)
   obtain ⟨day,rfl,hday0,hday1⟩:∃ dd:Int,v=.int dd∧0≤dd∧dd≤9999:=by
    simp only [List.mem_cons,List.not_mem_nil,or_false] at hv
    rcases hv with rfl | rfl | rfl
    ·exact ⟨_,rfl,hd'⟩
    ·exact ⟨_,rfl,by omega,by omega⟩
    ·exact ⟨_,rfl,by omega,by omega⟩
   refine ⟨_,rfl,q,_,way,_,rfl,rfl,SqL.of aF,hat,?_⟩
   have hp5:=hp4.same sq
   have k5:cZ [p,L,R] H2 _:=k4.same sq
   have t45:=dO sq
   have hL5:=sq _ _ hL4
   have hR5:=sq _ _ hR4
   have hln5:=sq _ _ hln4
   have htS5:=sq _ _ htS4
   have h35:=h34.same sq
   have rows5:=rows.on t45
   have past5:=past.on t45
   generalize upd H4 q (.lst [V.int d,.int i,.int (9999 - (m:Int) + i)])=H5 at hp5 k5 hL5 hR5 hln5 htS5 h35 rows5 past5 ⊢
   refine ⟨_,rfl,p,c,ns,a4,_,rfl,hp5,by omega,by decide,by decide,fun r7 a6 H6 r70 r71 la6 ua6 hp6 kp6=>?_⟩
   have k6:=k5.trans (kX kp6)
   have t56:=oZ hp5 kp6
   have hL6:=bU hL5 hp5 kp6
   have hR6:=bU hR5 hp5 kp6
   have hln6:=bU hln5 hp5 kp6
   have htS6:=oS htS5 hp5 kp6
   have h36:=h35.but hp5 kp6
   have rows6:=rows5.on t56
   have past6:=past5.on t56
   have hatn:atI (rs.map V.str) (i:Int)=some (.str name):=gM (by rw [List.getElem?_map,hnm];rfl)
   refine ⟨rfl,_,rfl,?_⟩
   refine eG (fun _=>?_) fun _=>?_
   ·refine ⟨_,rfl,.inl ⟨rfl,_,SqL.of hL6⟩,_,rfl,_,rfl,_,rfl,ln,_,_,_,rfl,rfl,SqL.of hln6,hatn,_,rfl,_,rfl,p,c,ns,a6,name,day,tS,lf,lp,lh,fs,ps,hs,rfl,hp6,by omega,htS6,h36,nname,hday0,hday1,fun x r a7 H7 rdx hrn okr la7 ua7 hp7 kp7=>?_⟩
    have hL7:=bU hL6 hp6 kp7
    have hR7:=bU hR6 hp6 kp7
    have t67:=oZ hp6 kp7
    refine ⟨L,_,_,rfl,rfl,hL7,gG (by omega),?_⟩
    have t7:=uA (ys:=xs ++ [x]) hL7
    exact ⟨_,_,a7,xs ++ [x],us ++ [r],zs,rfl,hp7.upd nLp nLc,by omega,by omega,(k6.trans (kX kp7)).trans uL,aF,Paired.snoc ⟨okr.on rdx t7,okr⟩ ((rows6.on t67).on t7),by simp [hul],by rw [List.map_append,hnms,List.take_add_one,hnm];simp [hrn],by rw [aJ nLR.symm];exact hR7,(past6.on t67).on t7,by omega⟩
   ·refine ⟨_,rfl,.inl ⟨rfl,_,SqL.of hR6⟩,_,rfl,_,rfl,_,rfl,ln,_,_,_,rfl,rfl,SqL.of hln6,hatn,_,rfl,_,rfl,tS,_,2,_,rfl,rfl,SqT.of htS6,rfl,_,rfl,p,c,ns,a6,name,day,lh,R,hs,zs,fs,rfl,hp6,by omega,h36.h,h36.nh,h36.h1.1,h36.h1.2,hR6,past6,nname,hday0,hday1,fun x r a7 H7 rdx hrn okr hwr la7 ua7 hp7 kp7=>?_⟩
    have hL7:=bU hL6 hp6 kp7
    have hR7:=bU hR6 hp6 kp7
    have t67:=oZ hp6 kp7
    refine ⟨R,_,_,rfl,rfl,hR7,gG (by omega),?_⟩
    have t7:=uA (ys:=zs ++ [x]) hR7
    have hL8:upd H7 R (.lst (zs ++ [x])) L=some (.lst xs):=by rw [aJ nLR];exact hL7
    have hR8:upd H7 R (.lst (zs ++ [x])) R=some (.lst (zs ++ [x])):=aF
    have hp8:=hp7.upd (o:=.lst (zs ++ [x])) nRp nRc
    have k8:cZ [p,L,R] H2 (upd H7 R (.lst (zs ++ [x]))):=(k6.trans (kX kp7)).trans uR
    have rd8:=okr.on rdx t7
    have rows8:=(rows6.on t67).on t7
    have past8:=(past6.on t67).on t7
    generalize upd H7 R (.lst (zs ++ [x]))=H8 at hL8 hR8 hp8 k8 rd8 rows8 past8 ⊢
    refine ⟨_,rfl,.inl ⟨rfl,_,SqL.of hL8⟩,_,rfl,_,rfl,R,_,-1,_,rfl,rfl,SqL.of hR8,iF _ _,L,_,_,rfl,rfl,hL8,gG (by omega),?_⟩
    have t8:=uA (ys:=xs ++ [x]) hL8
    refine ⟨_,_,a7,xs ++ [x],us ++ [r],zs ++ [x],rfl,hp8.upd nLp nLc,by omega,by omega,k8.trans uL,aF,Paired.snoc ⟨okr.on rd8 t8,okr⟩ (rows8.on t8),by simp [hul],by rw [List.map_append,hnms,List.take_add_one,hnm];simp [hrn],by rw [aJ nLR.symm];exact hR8,fun y hy=>?_,by simp;omega⟩
    rcases List.mem_append.mp hy with z | z
    ·exact (past8.on t8) y z
    ·rw [List.mem_singleton.mp z]
     exact ⟨r,okr.on rd8 t8,okr,hwr⟩
  ·rintro σ H4 ⟨o8,o9,a4,xs,us,zs,rfl,hp4,la4,ua4,k4,hL4,rows,hul,hnms,hR4,past,hzl⟩
   have hxl:=Paired.length rows
   refine ⟨_,rfl,L,xs,rfl,SqL.of hL4,by omega,fun y hy H' Q S h=>aFg rows.at y hy H' Q S (fun t a b c H'' s e _=>h t a b c H'' s e),fun D ys H5 S5 hD hpm hD5=>?_⟩
   obtain ⟨vs,hvp,rows'⟩:=y7 hpm rows
   refine ⟨D,ys,rfl,.inl ⟨SqL.of hD5,fun t ht=>?_⟩⟩
   have S6:=S5.trans (aU.new (o:=.tup ys) ht)
   refine k t ys vs a4 _ aF (qP.at (qP.on rows' (dO S6))) (by rw [hvp.length_eq];omega) ((hvp.map cE.name).nodup_iff.mpr (by rw [hnms];exact nr.nd.sublist (List.take_sublist _ _))) (by omega) (by omega) (hp4.same S6) (fun b o e n=>?_)
   have e2:=k2 b o e n
   exact S6 _ _ (k4 b o (frX e2 n) e2)
end
end K36
namespace K36
open PySem L2
inductive v4 (vs:List V) (H:Hp) (Q:VK) (u3_:XK):Prop
 | mk (p c:Addr) (ns:List Int) (a:Int) (q0:vs=[.ref p]) (q1:cV H p c ns a) (q2:a≤1000) (q3:∀ (t r rw lh:Addr) (ws hs:List Str) (us:List cE) (a':Int) (H':Hp),H' t=some (.tup [.ref r,.ref lh])→jO H' r rw ws us→(us.map cE.name).Nodup→H' lh=some (.lst (hs.map V.str))→Nms hs→2≤hs.length→hs.length≤44→a≤a'→a'≤a + 10000→cV H' p c ns a'→aY p H H'→Q (.ref t) H'):v4 vs H Q u3_
def aBw:Sp:=fun vs H Q u3_=>v4 vs H Q u3_
theorem mQ:∀ l:List Str,pK (l.map V.str) (l.map V.str)=true
 | []=>rfl
 | x :: l=>by
  show (eqV (.str x) (.str x) && pK (l.map V.str) (l.map V.str))=true
  rw [mQ l]
  simp [eqV]
theorem aCr {T L:Addr}{H H':Hp}{o:HO} (s:dD T H H') (h:H L=none):dD T H (upd H' L o):=fun b u n e=>by
 rw [aJ (aO e h)]
 exact s b u n e
section
variable {P:Program}{w:World}{K:PySem.W.Frag}{mg:Str→Option Value}{base:Heap}
theorem aBx:cA ["_law_pen_here","_law_fields","_law_plots","_law_houses","_law_names_here","_law_many","_law_laying_here"] ["_law_pen_here"] (aM pU):=⟨rfl,rfl,rfl,by decide,rfl,by decide,by decide⟩
theorem aEr {f fT fS fN fL fR:Addr}{fd fdT fdS fdN fdL fdR:FuncData} (F:Fun K "_law_world" "_law_world" pU f fd)
  (GT:cC P w K mg base CX0 1 fT fdT ["_law_pen_here","_law_many"] iC) (mT:mg "_law_take"=some (.ref fT)) (kT:PySem.W.keepIn K (.ref fT)=true) (bT:cQ K fdT ["_law_pen_here","_law_many"] [])
  (GS:cC P w K mg base CX0 3 fS fdS ["_law_pen_here","_law_fields","_law_rows"] aBf) (mS:mg "_law_sorts"=some (.ref fS)) (kS:PySem.W.keepIn K (.ref fS)=true) (bS:cQ K fdS ["_law_pen_here","_law_fields","_law_rows"] [])
  (GN:cC P w K mg base CX0 2 fN fdN ["_law_pen_here","_law_many"] wS) (mN:mg "_law_names"=some (.ref fN)) (kN:PySem.W.keepIn K (.ref fN)=true) (bN:cQ K fdN ["_law_pen_here","_law_many"] [])
  (GL:cC P w K mg base CX0 3 fL fdL ["_law_pen_here","_law_fields","_law_houses"] aBj) (mL:mg "_law_laying"=some (.ref fL)) (kL:PySem.W.keepIn K (.ref fL)=true) (bL:cQ K fdL ["_law_pen_here","_law_fields","_law_houses"] [])
  (GR:cC P w K mg base CX0 5 fR fdR ["_law_pen_here","_law_names_here","_law_sorts_here","_law_many"] uB) (mR:mg "_law_some_rows"=some (.ref fR)) (kR:PySem.W.keepIn K (.ref fR)=true) (bR:cQ K fdR ["_law_pen_here","_law_names_here","_law_sorts_here","_law_many"] []):
  cC P w K mg base CX0 6 f fd ["_law_pen_here"] aBw:=by
 refine F.ok aBx (fun vs H Q E h=>?_) (fun cdv A outer s H vs Q E hr h=>?_)
 ·obtain ⟨p,c,ns,a,rfl,_⟩:=h
  rfl
 ·obtain ⟨p,c,ns,a,rfl,hp,ha,k⟩:=h
  have nd:=aBx.nd
  have hr1:dF 1 _:=hr.mono (by decide)
  have hr2:dF 2 _:=hr.mono (by decide)
  have hr3:dF 3 _:=hr.mono (by decide)
  refine ⟨_,aA (lH (aS GS hr3 rfl mS kS bS .nil bY (aE (pv 0) (aE (aZ c8 aG (aS GT hr1 rfl mT kT bT .nil bY (aE (pv 0) (aE aG aB)))) (aE aG aB)))) (iY rfl (cH (bG (i:=1) nd rfl (Or.inl rfl)) (cH (bG (i:=2) nd rfl (Or.inl rfl)) (cH (bG (i:=3) nd rfl (Or.inl rfl)) (cH (bG (i:=4) nd rfl (Or.inl rfl)) gL))))))
   (aA (sP <| cU (bV e7 (aS GT hr1 rfl mT kT bT .nil bY (aE (pv 0) (aE aG aB))) aG (cM _))
    (aQ (aW (i:=3) nd rfl (Or.inl rfl) (aS GN hr2 rfl mN kN bN .nil bY (aE (pv 0) (aE (aZ c8 aG (aS GT hr1 rfl mT kT bT .nil bY (aE (pv 0) (aE aG aB)))) aB))))) bH)
   (aA (aW (i:=5) nd rfl (Or.inl rfl) (aX cF (dA (aE aG (aE (aS GT hr1 rfl mT kT bT .nil bY (aE (pv 0) (aE aG aB))) (aE (aS GT hr1 rfl mT kT bT .nil bY (aE (pv 0) (aE aG aB))) aB)))) (aS GT hr1 rfl mT kT bT .nil bY (aE (pv 0) (aE aG aB))) (fun _ _=>rfl)))
   (aA (aW (i:=6) nd rfl (Or.inl rfl) (aS GL hr3 rfl mL kL bL .nil bY (aE (pv 0) (aE (pv 1) (aE (pv 3) aB)))))
   (aQ (bE (c0 (aE (c0 (aE (pv 6) (aE (aS GR hr rfl mR kR bR .nil bY (aE (pv 0) (aE (pv 4) (aE (c0 (aE (pv 1) (aE (pv 2) (aE (pv 3) aB)))) (aE (pv 5) aB))))) aB))) (aE (pv 3) aB)))))))),?_⟩
  refine ⟨_,rfl,_,rfl,p,c,ns,a,_,rfl,hp,by omega,by decide,by decide,fun r0 a1 H1 r00 r01 la1 ua1 hp1 kp1=>?_⟩
  obtain ⟨j,rfl⟩:∃ j:Nat,r0=j:=⟨r0.toNat,by omega⟩
  refine ⟨_,_,rfl,rfl,p,c,ns,a1,1 + j,40,rfl,hp1,by omega,by omega,by omega,fun t l1 l2 l3 l4 ws ps hs rs a2 H2 ht e1 n1 nm1 e2 n2 nm2 e3 n3 nm3 e4 n4 nm4 la2 ua2 hp2 kp2=>?_⟩
  have k2:=kp1.trans kp2
  refine ⟨t,_,rfl,SqT.of ht,rfl,_,_,rfl,_,_,rfl,_,_,rfl,_,_,rfl,rfl,?_⟩
  refine ⟨fun σ H'=>∃ (a':Int) (lh:Addr) (hs:List Str),σ=[some (.ref p),some (.ref l1),some (.ref l2),some (.ref lh),some (.ref l4),none,none]∧cV H' p c ns a'∧a2≤a'∧a'≤a2 + 40∧aY p H2 H'∧H' lh=some (.lst (hs.map V.str))∧Nms hs∧2≤hs.length∧hs.length≤44,?_,?_⟩
  ·refine ⟨_,rfl,p,c,ns,a2,_,rfl,hp2,by omega,by decide,by decide,fun r1 a3 H3 r10 r11 la3 ua3 hp3 kp3=>?_⟩
   refine ⟨rfl,_,rfl,?_⟩
   refine eG (fun _=>?_) fun _=>⟨a3,l3,hs,rfl,hp3,by omega,by omega,kp3,bU e3 hp2 kp3,nm3,by omega,by omega⟩
   refine ⟨_,rfl,_,rfl,p,c,ns,a3,_,rfl,hp3,by omega,by decide,by decide,fun r2 a4 H4 r20 r21 la4 ua4 hp4 kp4=>?_⟩
   obtain ⟨j2,rfl⟩:∃ j:Nat,r2=j:=⟨r2.toNat,by omega⟩
   refine ⟨_,_,rfl,rfl,p,c,ns,a4,2 + j2,rfl,hp4,by omega,by omega,fun lh hs2 a5 H5 _ hlh hl2 nm la5 ua5 hp5 kp5=>?_⟩
   exact ⟨a5,lh,hs2,rfl,hp5,by omega,by omega,(kp3.trans kp4).trans kp5,hlh,nm,by omega,by omega⟩
  clear e3 n3 nm3 hs
  rintro σ H3 ⟨a3,lh,hs,rfl,hp3,la3,ua3,kp3,elh,nmh,hh2,hh44⟩
  refine ⟨_,rfl,p,c,ns,a3,_,rfl,hp3,by omega,by decide,by decide,fun r1 a4 H4 r10 r11 la4 ua4 hp4 kp4=>?_⟩
  refine ⟨_,rfl,p,c,ns,a4,_,rfl,hp4,by omega,by decide,by decide,fun r2 a5 H5 r20 r21 la5 ua5 hp5 kp5=>?_⟩
  refine ⟨aH (by show 3≤1000000;decide),fun q hq=>?_⟩
  have sq:=aU.new (o:=.lst [V.int 40,.int r1,.int r2]) hq
  refine ⟨_,rfl,p,c,ns,a5,_,rfl,hp5.same sq,by omega,by decide,by decide,fun r3 a6 H6 r30 r31 la6 ua6 hp6 kp6=>?_⟩
  obtain ⟨v,hv,hat⟩:=g8 (xs:=[V.int 40,.int r1,.int r2]) (i:=r3) r30 (by show r3 < 3;omega)
  obtain ⟨m,rfl,hm⟩:∃ dd:Nat,v=.int dd∧dd≤40:=by
   simp only [List.mem_cons,List.not_mem_nil,or_false] at hv
   rcases hv with rfl | rfl | rfl
   ·exact ⟨40,rfl,by omega⟩
   ·exact ⟨r1.toNat,by rw [Int.toNat_of_nonneg r10],by omega⟩
   ·exact ⟨r2.toNat,by rw [Int.toNat_of_nonneg r20],by omega⟩
  refine ⟨q,_,r3,_,rfl,rfl,SqL.of (bU aF (hp5.same sq) kp6),hat,?_⟩
  have kk:aY p H3 H6:=((kp4.trans kp5).same sq).trans kp6
  have e16:=bU (bU e1 hp2 kp3) hp3 kk
  have elh6:=bU elh hp3 kk
  refine ⟨_,rfl,_,rfl,_,rfl,p,c,ns,a6,l1,lh,ws,hs,rfl,hp6,by omega,e16,nm1.ok,by omega,elh6,nmh.ok,by omega,by omega,fun lay xs ds a7 H7 hlay hrd hfl hws la7 ua7 hp7 kp7=>?_⟩
  have kk7:aY p H2 H7:=(kp3.trans kk).trans kp7
  have e17:=bU e1 hp2 kk7
  have e27:=bU e2 hp2 kk7
  have e47:=bU e4 hp2 kk7
  have elh7:=bU elh6 hp6 kp7
  have hdl:ds.length≤8:=by
   have:=congrArg List.length hws
   rw [List.length_map] at this
   omega
  refine ⟨_,rfl,_,rfl,_,rfl,_,rfl,_,rfl,_,rfl,aH (by show 3≤1000000;decide),fun tS htS=>?_⟩
  have s8:=aU.new (o:=.tup [V.ref l1,.ref l2,.ref lh]) htS
  refine ⟨_,rfl,p,c,ns,a7,l4,tS,l1,l2,lh,rs,ws,ps,hs,m,rfl,hp7.same s8,by omega,s8 _ _ e47,nm4,by omega,hm,aF,⟨s8 _ _ e17,s8 _ _ e27,s8 _ _ elh7,by omega,by omega,n2,⟨hh2,hh44⟩,nm1,nm2,nmh⟩,fun rw ys us a9 H9 hrw rows hul hnn la9 ua9 hp9 kp9=>?_⟩
  have t89:=oZ (hp7.same s8) kp9
  refine ⟨aH (by show 2≤1000000;decide),fun r hr'=>?_⟩
  have s10:=aU.new (o:=.tup [V.ref lay,.ref rw]) hr'
  have er:upd H9 r (.tup [V.ref lay,.ref rw]) r=some (.tup [V.ref lay,.ref rw]):=aF
  generalize upd H9 r (.tup [V.ref lay,.ref rw])=H10 at s10 er ⊢
  have t710:gI H7 H10:=fun q us e=>s10 _ _ (t89 _ _ (s8 _ _ e))
  refine ⟨_,rfl,aH (by show 2≤1000000;decide),fun t2 ht2=>?_⟩
  have s11:=aU.new (o:=.tup [V.ref r,.ref lh]) ht2
  have t711:gI H7 _:=fun q us e=>s11 _ _ (t710 _ _ e)
  have roll:jO _ r rw ws us:=⟨lay,xs,ds,ys,s11 _ _ er,t711 _ _ hlay,cW.onT t711 hrd (w8 hfl),hfl,hws,hdl,s11 _ _ (s10 _ _ hrw),(rows.on (dO s10)).on (dO s11),by omega⟩
  exact k t2 r rw lh ws hs us a9 _ aF roll hnn (s11 _ _ (s10 _ _ (bU (s8 _ _ elh7) (hp7.same s8) kp9))) nmh hh2 hh44 (by omega) (by omega) ((hp9.same s10).same s11) (((((k2.trans kk7).same s8).trans kp9).same s10).same s11)
end
end K36
namespace K36
open PySem L2
abbrev aHt (K:PySem.W.Frag) (C:Addr):Prop:=PySem.W.excIn K C [.type "ValueError",.type "Exception",.type "BaseException",.type "object"] "ValueError.__new__"=true
inductive m9 (DN:Addr) (vs:List V) (H:Hp) (Q:VK) (E:XK):Prop
 | mk (t rw:Addr) (ws:List Str) (us:List cE) (ys:List V) (x:V) (q0:vs=[.ref t,x]) (q1:jO H t rw ws us) (q2:H rw=some (.tup ys)) (q3:Thn H x) (q4:(us.map cE.name).Nodup) (q5:(∀ (j:Nat) (u:cE) (y:V),us[j]?=some u→x=.str u.name→ys[j]?=some y→Q y H)) (q6:((∀ u∈us,x≠.str u.name)→E (.ref DN) none H)):m9 DN vs H Q E
def qQ (DN:Addr):Sp:=fun vs H Q E=>m9 DN vs H Q E
theorem rK {us:List cE} (h:(us.map cE.name).Nodup) {i j:Nat}{u v:cE} (h1:us[i]?=some u) (h2:us[j]?=some v) (e:u.name=v.name):i=j:=by
 obtain ⟨l1,e1⟩:=List.getElem?_eq_some_iff.mp h1
 obtain ⟨l2,e2⟩:=List.getElem?_eq_some_iff.mp h2
 refine (List.getElem_inj (xs:=us.map cE.name) (h₀:=by simpa using l1) (h₁:=by simpa using l2) h).mp ?_
 rw [List.getElem_map,List.getElem_map,e1,e2,e]
section
variable {P:Program}{w:World}{K:PySem.W.Frag}{mg:Str→Option Value}{base:Heap}
theorem qR:cA ["roll","name","row"] ["roll","name"] (aM hZ):=⟨rfl,rfl,rfl,by decide,rfl,by decide,by decide⟩
theorem w9 {f DN:Addr}{fd:FuncData} (F:Fun K "row_called" "row_called" hZ f fd) (mN:mg "NoName"=some (.ref DN)) (xN:aHt K DN):cC P w K mg base (CXr P w) 1 f fd ["roll","name"] (qQ DN):=by
 refine F.okR qR (fun vs H Q E h=>?_) (fun cdv A outer s H vs Q E hr h=>?_)
 ·obtain ⟨t,rw,ws,us,ys,x,rfl,_⟩:=h
  rfl
 ·obtain ⟨t,rw,ws,us,ys,x,rfl,roll,hrw,hx,hnd,kq,ke⟩:=h
  have nd:=qR.nd
  have hu:_ < _:=hr.units0
  refine ⟨_,aA (f7 PassesOwn.leaving rfl (gY (aX bJ (pv 0) aG (fun _ _=>rfl))) (g:=cY 2) (bG (i:=2) nd rfl (Or.inl rfl))
    (aQ (cU (bV (aDP hu) (aX bJ (pv 2) aG (fun _ _=>rfl)) (pv 1) (cM _)) (aQ (bE (pv 2))) bH)))
   (aQ (x9 PySem.F.excBase_ValueError rfl mN xN (aE aV aB))),?_⟩
  obtain ⟨lay,xs,ds,ys',h1,h2,h3,h4,h5,h6,h7,h8,h9⟩:=roll.ex
  rw [hrw] at h7
  cases h7
  have hl:=h8.len
  refine ⟨_,rfl,t,_,1,_,rfl,rfl,SqT.of h1,rfl,rw,rfl,⟨_,SqT.of hrw⟩,?_⟩
  refine kF (K:=K) (xs:=ys) (fun i σ H'=>∃ (o2:Option V),σ=[some (.ref t),some x,o2]∧H=H'∧∀ j u,j < i→us[j]?=some u→x≠.str u.name) ⟨none,rfl,rfl,fun j u hj=>by omega⟩ (fun i σ H' _ p=>by obtain ⟨_,_,rfl,_⟩:=p;exact SqT.of hrw) ?_ ?_
  ·rintro i v σ H' hv ⟨o2,rfl,rfl,hno⟩
   obtain ⟨r,hr',rdv,ok⟩:=h8.at' i v hv
   obtain ⟨tr,b8,rfl,htr,hrest⟩:=cE.Ok.tup (fs:=ws) rdv
   have a1:atI (V.str r.word :: .str r.name :: .int r.day :: b8) 1=some (.str r.name):=by
    unfold atI ixN
    rw [if_pos (by decide),if_pos (by simp only [List.length_cons];omega)]
    rfl
   dsimp only [cY]
   refine ⟨_,rfl,tr,_,1,_,rfl,rfl,SqT.of htr,a1,_,rfl,_,rfl,hx,_,rfl,?_⟩
   refine eG (fun g=>⟨_,rfl,kq i r _ hr' (of_decide_eq_true g).symm hv⟩) fun g=>⟨_,rfl,rfl,fun j u hj hu'=>?_⟩
   by_cases z:j=i
   ·subst z
    rw [hr'] at hu'
    cases hu'
    exact fun e=>g (decide_eq_true e.symm)
   ·exact hno j u (by omega) hu'
  ·rintro σ H' ⟨o2,rfl,rfl,hno⟩
   refine ⟨aH (by show 1≤1000000;decide),ke fun u hu'=>?_⟩
   obtain ⟨j,hj⟩:=List.getElem?_of_mem hu'
   exact hno j u (by have:=(List.getElem?_eq_some_iff.mp hj).1;omega) hj
end
end K36
namespace K36
open PySem L2
theorem aEs {R:List P3}:∀ e∈R.map pD,OkS 1 e:=fun e he=>by
 obtain ⟨x,_,rfl⟩:=List.mem_map.mp he
 refine .inr (.inr ⟨_,rfl,fun y hy=>?_⟩)
 simp only [List.mem_cons,List.not_mem_nil,or_false] at hy
 rcases hy with rfl | rfl | rfl
 ·exact .str _ _
 ·exact .str _ _
 ·exact .int _ _
theorem aBy {r:cE}{fs:List Str} (h:r.Ok fs):OkS 3 r.d:=by
 unfold cE.d p4
 refine .inr (.inr ⟨_,rfl,fun e he=>?_⟩)
 rcases List.mem_cons.mp he with rfl | he
 ·exact .str _ _
 rcases List.mem_cons.mp he with rfl | he
 ·exact .str _ _
 rcases List.mem_cons.mp he with rfl | he
 ·exact .int _ _
 have rs:=h.rs
 revert he
 generalize r.ds=ds at rs ⊢
 generalize r.word=wd at rs
 intro he
 cases rs with
 | part=>
  simp only [List.mem_cons,List.not_mem_nil,or_false] at he
  rcases he with rfl | rfl
  ·exact .str _ _
  ·exact .inr (.inr ⟨_,rfl,aEs⟩)
 | join=>
  simp only [List.mem_cons,List.not_mem_nil,or_false] at he
  rcases he with rfl | rfl
  ·refine .inr (.inr ⟨_,rfl,fun y hy=>?_⟩)
   obtain ⟨z,_,rfl⟩:=List.mem_map.mp hy
   exact .str _ _
  ·exact .str _ _
 | _=>
  simp only [List.mem_cons,List.not_mem_nil,or_false] at he
  first
   | (rcases he with rfl | rfl | rfl | rfl <;> first | exact .str _ _ | exact .int _ _)
   | (rcases he with rfl | rfl | rfl <;> first | exact .str _ _ | exact .int _ _)
   | (rcases he with rfl | rfl <;> first | exact .str _ _ | exact .int _ _)
   | (subst he;first | exact .str _ _ | exact .int _ _)
theorem y9 {H:Hp}{ws:List Str}:∀ {ys:List V}{us:List cE},iD H ys us ws→cW false H ys (us.map cE.d)
 | [],[],_=>.nil
 | [],u :: us,h=>by have:=h.len;simp at this
 | y :: ys,[],h=>by have:=h.len;simp at this
 | y :: ys,u :: us,h=>by
  obtain ⟨u',h1,h2,_⟩:=h.at' 0 y rfl
  cases h1
  refine .cons h2 (y9 (ws:=ws) ⟨by have:=h.len;simpa using this,fun i x hx=>?_⟩)
  obtain ⟨v,h3,h4⟩:=h.at' (i + 1) x hx
  exact ⟨v,h3,h4⟩
inductive zC (T DN DM:Addr) (vs:List V) (H:Hp) (Q:VK) (E:XK):Prop
 | mk (t rw:Addr) (ws:List Str) (us:List cE) (x:V) (q0:vs=[.ref t,x]) (q1:jO H t rw ws us) (q2:(us.map cE.name).Nodup) (q3:Tb T H) (q4:Thn H x) (q5:(∀ (j:Nat) (u:cE) (a b:Str),us[j]?=some u→x=.str u.name→u.word="mend"→u.ds=[.str a,.str b]→∀ H',dD T H H'→Tb T H'→(a ∉ rd (eJ us j) b→Q .non H')∧∀ (L:Addr) (k:Nat),(rd (eJ us j) b)[k]?=some a→(∀ i,i < k→(rd (eJ us j) b)[i]?≠some a)→H L=none→H' L=some (.lst ((a :: (rd (eJ us j) b).take (k + 1)).map V.str))→Q (.ref L) H')) (q6:(∀ (j:Nat) (u:cE),us[j]?=some u→x=.str u.name→u.word≠"mend"→E (.ref DM) none H)) (q7:((∀ u∈us,x≠.str u.name)→E (.ref DN) none H)):zC T DN DM vs H Q E
def aAx (T DN DM:Addr):Sp:=fun vs H Q E=>zC T DN DM vs H Q E
section
variable {P:Program}{w:World}{K:PySem.W.Frag}{mg:Str→Option Value}{base:Heap}
theorem aEt:cA ["roll","name","row","house","other","moment","way"] ["roll","name"] (aM tP):=⟨rfl,rfl,rfl,by decide,rfl,by decide,by decide⟩
theorem aFl {f fC fB fR fD C T DN DM:Addr}{fd fdC fdB fdR fdD:FuncData} (F:Fun K "ring" "ring" tP f fd) (hc:MC K C) (mM:mg "NoMend"=some (.ref DM)) (xM:aHt K DM)
  (GC:cC P w K mg base (CXr P w) 1 fC fdC ["roll","name"] (qQ DN)) (mC:mg "row_called"=some (.ref fC)) (kC:PySem.W.keepIn K (.ref fC)=true) (bC:cQ K fdC ["roll","name"] [])
  (GB:cC P w K mg base CX0 7 fB fdB ["roll","at"] (yY C T)) (mB:mg "moment_behind"=some (.ref fB)) (kB:PySem.W.keepIn K (.ref fB)=true) (bB:cQ K fdB ["roll","at"] [])
  (GR:cC P w K mg base CX0 1 fR fdR ["menders","house"] p5) (mR:mg "road_from"=some (.ref fR)) (kR:PySem.W.keepIn K (.ref fR)=true) (bR:cQ K fdR ["menders","house"] [])
  (GD:cC P w K mg base CX0 6 fD fdD ["moment","row"] (iQ C T iO)) (mD:mg "carry_out"=some (.ref fD)) (kD:PySem.W.keepIn K (.ref fD)=true) (bD:cQ K fdD ["moment","row"] []):
  cC P w K mg base (CXr P w) 8 f fd ["roll","name"] (aAx T DN DM):=by
 refine F.okR aEt (fun vs H Q E h=>?_) (fun cdv A outer s H vs Q E hr h=>?_)
 ·obtain ⟨t,rw,ws,us,x,rfl,_⟩:=h
  rfl
 ·obtain ⟨t,rw,ws,us,x0,rfl,roll,hnd,tb,hx0,kM,kX,kN⟩:=h
  have nd:=aEt.nd
  have hr1:dF 1 _:=hr.mono (by decide)
  have hr6:dF 6 _:=hr.mono (by decide)
  have hun:(A.deeper (PyProof.Rows.envOfC "ring" (aM tP) s.heap.objs.size f cdv)).units + 4 * 3 + 8 < cLine:=by have:=hr.units;omega
  refine ⟨_,aA (aW (i:=2) nd rfl (Or.inl rfl) (aS GC hr1 rfl mC kC bC .nil (aDv fun _ _ _ h=>h) (aE (pv 0) (aE (pv 1) aB))))
   (aA (cU (bV qB (aX bJ (pv 2) aG (fun _ _=>rfl)) aV (cM _)) (aQ (x9 PySem.F.excBase_ValueError rfl mM xM (aE aV aB))) bH)
   (aA (wB (i:=3) (j:=4) rfl nd rfl rfl (by decide) rfl rfl (aE (aX bJ (pv 2) aG (fun _ _=>rfl)) (aE (aX bJ (pv 2) aG (fun _ _=>rfl)) aB)) rfl)
   (aA (aW (i:=5) nd rfl (Or.inl rfl) (aS GB hr rfl mB kB bB .nil bY (aE (pv 0) (aE (fF PySem.F.plainAttrs_tuple PySem.F.slot_tuple_index PySem.F.type_tuple_index (yF (n:=3) hun) (aX bJ (pv 0) aG (fun _ _=>rfl)) (aE (pv 2) aB)) aB))))
   (aA (aW (i:=6) nd rfl (Or.inl rfl) (aS GR hr1 rfl mR kR bR .nil bY (aE (dR (pv 5) rfl) (aE (pv 4) aB))))
   (aA (cU (bV e7 (aS GD hr6 rfl mD kD bD .nil bY (aE (pv 5) (aE (pv 2) aB))) aV (cM _)) (aQ (bE rO)) bH)
   (aQ (bE (aZ wJ (dA (aE (pv 3) aB)) (eB kH (pv 6) fQ (fU (aZ c8 (fF PySem.F.plainAttrs_list PySem.F.slot_list_index PySem.F.type_list_index oP (pv 6) (aE (pv 3) aB)) aG))))))))))),?_⟩
  obtain ⟨lay,xs,ds,ys,h1,h2,h3,h4,h5,h6,h7,h8,h9⟩:=roll.ex
  have hl:=h8.len
  refine ⟨_,rfl,_,rfl,t,rw,ws,us,ys,x0,rfl,roll,h7,hx0,hnd,fun j u x hu hxe hx=>?_,fun hno=>kN hno⟩
  subst hxe
  obtain ⟨u',hu',rdx,oku⟩:=h8.at' j x hx
  rw [hu] at hu'
  cases hu'
  obtain ⟨tr,b8,rfl,htr,hrest⟩:=cE.Ok.tup (fs:=ws) rdx
  have a0:=(tT (word:=u.word) (name:=u.name) (day:=u.day) (b8:=b8)).1
  refine ⟨_,rfl,tr,_,0,_,rfl,rfl,SqT.of htr,a0,rfl,_,rfl,?_⟩
  rcases oY oku.rs hrest with ⟨hw,a,b,hd,rfl⟩ | hnm
  rotate_left
  ·have hw:u.word≠"mend":=by
    rcases hnm with ⟨e,_⟩ | ⟨e,_⟩
    ·rw [e];decide
    ·exact e
   rw [decide_eq_false (fun z=>hw (by injection z))]
   exact fZ ⟨aH (by show 1≤1000000;decide),kX j u hu rfl hw⟩
  have k:=kM j u a b hu rfl hw hd
  have htr':=htr
  rw [hw] at htr'
  rw [hw,decide_eq_true rfl]
  refine dP ?_
  refine ⟨_,rfl,tr,_,3,_,rfl,rfl,SqT.of htr',rfl,_,rfl,tr,_,4,_,rfl,rfl,SqT.of htr',rfl,_,_,rfl,?_⟩
  have okall:∀ e∈us.map cE.d,OkS 3 e:=fun e he=>by
   obtain ⟨v,hv,rfl⟩:=List.mem_map.mp he
   obtain ⟨i,hi⟩:=List.getElem?_of_mem hv
   obtain ⟨y,hy⟩:∃ y,ys[i]?=some y:=⟨_,List.getElem?_eq_getElem (by have:=(List.getElem?_eq_some_iff.mp hi).1;omega)⟩
   obtain ⟨v',h10,_,h11⟩:=h8.at' i y hy
   rw [hi] at h10
   cases h10
   exact aBy h11
  have hj:(us.map cE.d)[j]?=some u.d:=by rw [List.getElem?_map,hu];rfl
  have hno:∀ i,i < j→(us.map cE.d)[i]?≠some u.d:=fun i hi e=>by
   rw [List.getElem?_map] at e
   obtain ⟨v,hv,e2⟩:=Option.map_eq_some_iff.mp e
   have e3:v.name=u.name:=by
    unfold cE.d p4 at e2
    injection e2 with e2
    injection e2 with _ e2
    injection e2 with e2 _
    injection e2
   have:=rK hnd hv hu e3
   omega
  refine ⟨_,rfl,_,rfl,t,_,1,_,rfl,rfl,SqT.of h1,rfl,.inr (.inr (.inr (.inr ⟨rfl,_,h7⟩))),_,rfl,rw,ys,us.map cE.d,_,u.d,j,rfl,rfl,h7,y9 h8,rdx,okall,aBy oku,hj,hno,?_⟩
  refine ⟨t,rw,ws,us,j,rfl,roll,tb,fun M MA H1 f1 f2 f3 S1 tb1 mom=>?_⟩
  have T1:=eO S1 tb
  refine ⟨_,rfl,M,C,_,_,_,rfl,mom.ins,hc.cl,hc.m,rfl,_,rfl,MA.me,b,eJ us j,rfl,mom.me,mom.ac,by have:=mom.ml;omega,fun Lw H2 hLw S2 eLw=>?_⟩
  have mom2:=mom.same S2
  have tb2:Tb T H2:=tb1.same S2
  have rd2:=(oku.on rdx T1).same S2
  refine ⟨_,rfl,_,rfl,M,MA,ws,248,eJ us j,_,u,rfl,mom2,by decide,tb2,rd2,oku,oku.rs.word,fun z H3 tl k3 tb3 mom3=>?_⟩
  have hz:=tl.1 a b hw hd
  have hLwT:Lw ∉ [T,MA.h,MA.i,MA.me]:=fun q=>by
   obtain ⟨ps,hT,_⟩:=tb2.ex
   obtain ⟨hol,bb,hh,_⟩:=mom2.h
   obtain ⟨inc,hi,_⟩:=mom2.i
   simp only [List.mem_cons,List.not_mem_nil,or_false] at q
   rcases q with q | q | q | q <;> rw [q] at eLw
   ·rw [hT] at eLw;cases eLw
   ·rw [hh] at eLw;cases eLw
   ·rw [hi] at eLw;cases eLw
   ·rw [mom2.me] at eLw;cases eLw
  have eLw3:=k3 _ _ hLwT eLw
  have S3:dD T H H3:=fun c o n e=>k3 c o (fun q=>by
   simp only [List.mem_cons,List.not_mem_nil,or_false] at q
   rcases q with q | q | q | q
   ·exact n q
   ·rw [q,f1] at e;cases e
   ·rw [q,f2] at e;cases e
   ·rw [q,f3] at e;cases e) (S2 _ _ (S1 c o n e))
  have hrd:=mom.ac.rd b
  have hlen:=hrd.len
  have hml:=mom.ml
  refine ⟨rfl,_,rfl,?_⟩
  by_cases g:a∈rd (eJ us j) b
  ·rw [if_pos g] at hz
   subst hz
   refine dP ?_
   obtain ⟨k0,hk0⟩:=List.getElem?_of_mem g
   have hno':∀ i,i < k0→(rd (eJ us j) b)[i]?≠some a:=fun i hi e=>by
    have:=(List.getElem?_inj (by have:=(List.getElem?_eq_some_iff.mp hk0).1;omega) hrd.nodup).mp (e.trans hk0.symm)
    omega
   have hk1:=(List.getElem?_eq_some_iff.mp hk0).1
   refine ⟨_,rfl,aH (by show 1≤1000000;decide),fun L1 hL1=>?_⟩
   have s1:=aU.new (o:=.lst [V.str a]) hL1
   refine ⟨_,rfl,_,rfl,.inl ⟨rfl,_,SqL.of (s1 _ _ eLw3)⟩,_,rfl,Lw,_,a,k0,rfl,rfl,s1 _ _ eLw3,by omega,hk0,hno',_,_,rfl,rfl,_,rfl,Lw,_,rfl,SqL.of (s1 _ _ eLw3),fun L2 hL2=>?_⟩
   rw [show ((k0:Int) + 1)=((k0 + 1:Nat):Int) by omega,pL (α:=Nat)] at *
   have s2:=aU.new (o:=.lst (((rd (eJ us j) b).map V.str).take (k0 + 1))) hL2
   refine ⟨L1,L2,_,_,rfl,rfl,s2 _ _ aF,aF,?_,fun L3 hL3=>?_⟩
   ·refine aH ?_
    simp only [List.length_cons,List.length_nil,List.length_take,List.length_map]
    omega
   ·have s3:=aU.new (o:=.lst ([V.str a] ++ ((rd (eJ us j) b).map V.str).take (k0 + 1))) hL3
    have S4:=((s1.trans s2).trans s3)
    refine (k _ (fun c o n e=>S4 _ _ (S3 c o n e)) (tb3.same S4)).2 L3 k0 hk0 hno' ?_ ?_
    ·cases q:H L3 with
     | none=>rfl
     | some o=>
      by_cases e:L3=T
      ·obtain ⟨ps,hT,_⟩:=tb3.ex
       rw [e,s2 _ _ (s1 _ _ hT)] at hL3
       cases hL3
      ·rw [s2 _ _ (s1 _ _ (S3 _ _ e q))] at hL3
       cases hL3
    ·rw [aF]
     simp [List.map_take]
  ·rw [if_neg g] at hz
   subst hz
   exact fZ ((k H3 S3 tb3).1 g)
end
end K36
namespace K36
open PySem L2
def aCt (K:PySem.W.Frag) (D:Addr) (cs:List Addr) (bs:List Bool) (ts:List Addr):Bool:=
 ((cs.zip bs).all fun p=>PySem.W.kitOne K (.ref D) (.ref p.1) == some p.2) && (PySem.W.kitAny K (.ref D) (ts.map Value.ref) == some false) && (PySem.W.kitOne K (.ref D) (.type "ValueError") == some true) &&
 (PySem.W.findIn K (.ref D) "__getattribute__" == some (some (.builtin "BaseException.__getattribute__"))) && (PySem.W.findIn K (.ref D) "__getattr__" == some none) && (PySem.W.mroIn K D (.type "BaseException") == some true) && PySem.W.hasDictIn K D && (PySem.W.findIn K (.ref D) "__class__" == some (some (.builtin "object.__class__"))) && (PySem.W.mroIn K D (.type "object") == some true) &&
 (PySem.W.specialIn K (.builtin "object.__class__") "__get__" == some (some (.builtin "getset_descriptor.__get__"))) && (PySem.W.takesIn K (.builtin "object.__class__") == some true)
theorem aBz {K:PySem.W.Frag}{D:Addr}{cs:List Addr}{bs:List Bool}{ts:List Addr} (h:aCt K D cs bs ts=true):wO K D∧(∀ (i:Nat) c b,cs[i]?=some c→bs[i]?=some b→PySem.W.kitOne K (.ref D) (.ref c)=some b)∧PySem.W.kitAny K (.ref D) (ts.map Value.ref)=some false∧PySem.W.kitOne K (.ref D) (.type "ValueError")=some true:=by
 unfold aCt at h
 simp only [Bool.and_eq_true,beq_iff_eq,List.all_eq_true] at h
 obtain ⟨⟨⟨⟨⟨⟨⟨⟨⟨⟨h1,h2⟩,h3⟩,h4⟩,h5⟩,h5'⟩,h6⟩,h7⟩,h8⟩,h9⟩,h10⟩:=h
 refine ⟨⟨h4,h5,h5',h6,h7,h8,h9,h10⟩,fun i c b e1 e2=>h1 (c,b) ?_,h2,h3⟩
 exact List.mem_of_getElem? (i:=i) (List.getElem?_zip_eq_some.mpr ⟨e1,e2⟩)
def aFm (K:PySem.W.Frag) (cs ts:List Addr) (D:Addr) (nm:Str):Prop:=(nm="NoName"∧aCt K D cs [false,false,true,false,false,false,false] ts=true)∨(nm="NoMend"∧aCt K D cs [false,false,false,false,false,false,true] ts=true)
inductive v5 (K:PySem.W.Frag) (cs ts:List Addr) (vs:List V) (H:Hp) (Q:VK) (u3_:XK):Prop
 | mk (y D:Addr) (nm:Str) (q0:vs=[.ref y]) (q1:H y=some (m7 y (.ref D))) (q2:aFm K cs ts D nm) (q3:∀ H',aU H H'→Q (.str nm) H'):v5 K cs ts vs H Q u3_
def aBA (K:PySem.W.Frag) (cs ts:List Addr):Sp:=fun vs H Q u3_=>v5 K cs ts vs H Q u3_
section
variable {P:Program}{w:World}{K:PySem.W.Frag}{mg:Str→Option Value}{base:Heap}
theorem aBB:cA ["_law_caught","_law_found"] ["_law_caught"] (aM pW):=⟨rfl,rfl,rfl,by decide,rfl,by decide,by decide⟩
theorem aEu {f:Addr}{fd:FuncData} (F:Fun K "_law_class" "_law_class" pW f fd) (hisi:mg "isinstance"=none) (hlen:mg "len"=none) (hve:mg "ValueError"=none) {cNoRow:Addr}{cNoRoll:Addr}{cNoName:Addr}{cTwice:Addr}{cTooMany:Addr}{cNoThen:Addr}{cNoMend:Addr}{cClash:Addr}{cNoBreach:Addr}{cNoField:Addr}{cNoInch:Addr}{cNoOrder:Addr}{cNoText:Addr} (mNoRow:mg "NoRow"=some (.ref cNoRow)) (mNoRoll:mg "NoRoll"=some (.ref cNoRoll)) (mNoName:mg "NoName"=some (.ref cNoName)) (mTwice:mg "Twice"=some (.ref cTwice)) (mTooMany:mg "TooMany"=some (.ref cTooMany)) (mNoThen:mg "NoThen"=some (.ref cNoThen)) (mNoMend:mg "NoMend"=some (.ref cNoMend)) (mClash:mg "Clash"=some (.ref cClash)) (mNoBreach:mg "NoBreach"=some (.ref cNoBreach)) (mNoField:mg "NoField"=some (.ref cNoField)) (mNoInch:mg "NoInch"=some (.ref cNoInch)) (mNoOrder:mg "NoOrder"=some (.ref cNoOrder)) (mNoText:mg "NoText"=some (.ref cNoText))
  :cC P w K mg base CX0 1 f fd ["_law_caught"] (aBA K [cNoRow,cNoRoll,cNoName,cTwice,cTooMany,cNoThen,cNoMend] [cClash,cNoBreach,cNoField,cNoInch,cNoOrder,cNoText]):=by
 refine F.ok aBB (fun vs H Q E h=>?_) (fun cdv A outer s H vs Q E hr h=>?_)
 ·obtain ⟨y,D,nm,rfl,_⟩:=h
  rfl
 ·obtain ⟨y,D,nm,rfl,hy,hk,k⟩:=h
  have nd:=aBB.nd
  refine ⟨_,(aA (aW (i:=1) nd rfl (Or.inl rfl) (dA aB))
   (aA (cU (gJ (bF d6 (by rfl) hisi (by kernel_rfl) (aE (pv 0) (aE (d8 (v:=.ref cNoRow) rfl mNoRow rfl) aB)))) (aQ (dJ (fF PySem.F.plainAttrs_list PySem.F.slot_list_append PySem.F.type_list_append dG (pv 1) (aE aV aB)))) bH)
   (aA (cU (gJ (bF d6 (by rfl) hisi (by kernel_rfl) (aE (pv 0) (aE (d8 (v:=.ref cNoRoll) rfl mNoRoll rfl) aB)))) (aQ (dJ (fF PySem.F.plainAttrs_list PySem.F.slot_list_append PySem.F.type_list_append dG (pv 1) (aE aV aB)))) bH)
   (aA (cU (gJ (bF d6 (by rfl) hisi (by kernel_rfl) (aE (pv 0) (aE (d8 (v:=.ref cNoName) rfl mNoName rfl) aB)))) (aQ (dJ (fF PySem.F.plainAttrs_list PySem.F.slot_list_append PySem.F.type_list_append dG (pv 1) (aE aV aB)))) bH)
   (aA (cU (gJ (bF d6 (by rfl) hisi (by kernel_rfl) (aE (pv 0) (aE (d8 (v:=.ref cTwice) rfl mTwice rfl) aB)))) (aQ (dJ (fF PySem.F.plainAttrs_list PySem.F.slot_list_append PySem.F.type_list_append dG (pv 1) (aE aV aB)))) bH)
   (aA (cU (gJ (bF d6 (by rfl) hisi (by kernel_rfl) (aE (pv 0) (aE (d8 (v:=.ref cTooMany) rfl mTooMany rfl) aB)))) (aQ (dJ (fF PySem.F.plainAttrs_list PySem.F.slot_list_append PySem.F.type_list_append dG (pv 1) (aE aV aB)))) bH)
   (aA (cU (gJ (bF d6 (by rfl) hisi (by kernel_rfl) (aE (pv 0) (aE (d8 (v:=.ref cNoThen) rfl mNoThen rfl) aB)))) (aQ (dJ (fF PySem.F.plainAttrs_list PySem.F.slot_list_append PySem.F.type_list_append dG (pv 1) (aE aV aB)))) bH)
   (aA (cU (gJ (bF d6 (by rfl) hisi (by kernel_rfl) (aE (pv 0) (aE (d8 (v:=.ref cNoMend) rfl mNoMend rfl) aB)))) (aQ (dJ (fF PySem.F.plainAttrs_list PySem.F.slot_list_append PySem.F.type_list_append dG (pv 1) (aE aV aB)))) bH)
   (aA (cU (PW.pt (aFr (gJ (bF uH (by rfl) hisi (by kernel_rfl) (aE (pv 0) (aE (c0 (aE (d8 (v:=.ref cClash) rfl mClash rfl) (aE (d8 (v:=.ref cNoBreach) rfl mNoBreach rfl) (aE (d8 (v:=.ref cNoField) rfl mNoField rfl) (aE (d8 (v:=.ref cNoInch) rfl mNoInch rfl) (aE (d8 (v:=.ref cNoOrder) rfl mNoOrder rfl) (aE (d8 (v:=.ref cNoText) rfl mNoText rfl) aB))))))) aB)))) (aCA (wA (gJ (bF d6 (by rfl) hisi (by kernel_rfl) (aE (pv 0) (aE (aAB (v:=.ty "ValueError") (by rfl) hve (by kernel_rfl) rfl) aB)))))))) (aQ (bE aV)) bH)
   (aA (cU (bV qB (bF cG (by rfl) hlen PySem.boot_len (aE (pv 1) aB)) aG (cM _)) (aQ (bE aV)) bH)
   (aQ (bE (aX cF (pv 1) aG (fun _ _=>rfl)))))))))))))),?_⟩
  refine ⟨aH (by show 0≤1000000;decide),fun L hL=>?_⟩
  have sL:=aU.new (o:=.lst ([]:List V)) hL
  have hy1:=sL _ _ hy
  have neL:y≠L:=aO hy hL
  have eL:upd H L (.lst []) L=some (.lst []):=aF
  generalize upd H L (.lst [])=H1 at sL hy1 eL ⊢
  rcases hk with ⟨rfl,hk⟩ | ⟨rfl,hk⟩
  ·obtain ⟨ek,h1,h2,h3⟩:=aBz hk
   refine ⟨_,rfl,y,D,_,_,_,rfl,(fun u r=>r),hy1,ek,h1 0 _ _ rfl rfl,_,rfl,?_⟩
   refine dP ?_
   refine ⟨_,rfl,y,D,_,_,_,rfl,(fun u r=>r),hy1,ek,h1 1 _ _ rfl rfl,_,rfl,?_⟩
   refine dP ?_
   refine ⟨_,rfl,y,D,_,_,_,rfl,(fun u r=>r),hy1,ek,h1 2 _ _ rfl rfl,_,rfl,?_⟩
   refine fZ ⟨_,rfl,.inl ⟨rfl,_,SqL.of eL⟩,L,_,_,rfl,rfl,eL,(by rw [PySem.sizeLine_eq];show (0:Nat) < 16777216;decide),?_⟩
   have hy2:upd H1 L (.lst ([] ++ [V.str "NoName"])) y=some (m7 y (.ref D)):=by rw [aJ neL];exact hy1
   have eL2:upd H1 L (.lst ([] ++ [V.str "NoName"])) L=some (.lst [V.str "NoName"]):=aF
   have sL2:aU H (upd H1 L (.lst ([] ++ [V.str "NoName"]))):=fun b o e=>by rw [aJ (aO e hL)];exact sL _ _ e
   generalize upd H1 L (.lst ([] ++ [V.str "NoName"]))=H2 at hy2 eL2 sL2 ⊢
   refine ⟨_,rfl,y,D,_,_,_,rfl,(fun u r=>r),hy2,ek,h1 3 _ _ rfl rfl,_,rfl,?_⟩
   refine dP ?_
   refine ⟨_,rfl,y,D,_,_,_,rfl,(fun u r=>r),hy2,ek,h1 4 _ _ rfl rfl,_,rfl,?_⟩
   refine dP ?_
   refine ⟨_,rfl,y,D,_,_,_,rfl,(fun u r=>r),hy2,ek,h1 5 _ _ rfl rfl,_,rfl,?_⟩
   refine dP ?_
   refine ⟨_,rfl,y,D,_,_,_,rfl,(fun u r=>r),hy2,ek,h1 6 _ _ rfl rfl,_,rfl,?_⟩
   refine dP ?_
   refine ⟨_,rfl,aH (by show 6≤1000000;decide),fun tp htp=>?_⟩
   have st:=aU.new (o:=.tup ([cClash,cNoBreach,cNoField,cNoInch,cNoOrder,cNoText].map V.ref)) htp
   refine ⟨y,D,tp,[cClash,cNoBreach,cNoField,cNoInch,cNoOrder,cNoText],_,rfl,aF,st _ _ hy2,ek,h2,_,rfl,?_⟩
   refine dP ?_
   refine ⟨_,rfl,y,D,_,_,_,rfl,(fun u r=>r),st _ _ hy2,ek,h3,_,rfl,?_⟩
   refine dP ?_
   refine ⟨_,rfl,L,_,rfl,.inl (SqL.of (st _ _ eL2)),rfl,_,rfl,?_⟩
   refine dP ?_
   exact ⟨_,rfl,L,_,0,_,rfl,rfl,SqL.of (st _ _ eL2),rfl,k _ (sL2.trans st)⟩
  ·obtain ⟨ek,h1,h2,h3⟩:=aBz hk
   refine ⟨_,rfl,y,D,_,_,_,rfl,(fun u r=>r),hy1,ek,h1 0 _ _ rfl rfl,_,rfl,?_⟩
   refine dP ?_
   refine ⟨_,rfl,y,D,_,_,_,rfl,(fun u r=>r),hy1,ek,h1 1 _ _ rfl rfl,_,rfl,?_⟩
   refine dP ?_
   refine ⟨_,rfl,y,D,_,_,_,rfl,(fun u r=>r),hy1,ek,h1 2 _ _ rfl rfl,_,rfl,?_⟩
   refine dP ?_
   refine ⟨_,rfl,y,D,_,_,_,rfl,(fun u r=>r),hy1,ek,h1 3 _ _ rfl rfl,_,rfl,?_⟩
   refine dP ?_
   refine ⟨_,rfl,y,D,_,_,_,rfl,(fun u r=>r),hy1,ek,h1 4 _ _ rfl rfl,_,rfl,?_⟩
   refine dP ?_
   refine ⟨_,rfl,y,D,_,_,_,rfl,(fun u r=>r),hy1,ek,h1 5 _ _ rfl rfl,_,rfl,?_⟩
   refine dP ?_
   refine ⟨_,rfl,y,D,_,_,_,rfl,(fun u r=>r),hy1,ek,h1 6 _ _ rfl rfl,_,rfl,?_⟩
   refine fZ ⟨_,rfl,.inl ⟨rfl,_,SqL.of eL⟩,L,_,_,rfl,rfl,eL,(by rw [PySem.sizeLine_eq];show (0:Nat) < 16777216;decide),?_⟩
   have hy2:upd H1 L (.lst ([] ++ [V.str "NoMend"])) y=some (m7 y (.ref D)):=by rw [aJ neL];exact hy1
   have eL2:upd H1 L (.lst ([] ++ [V.str "NoMend"])) L=some (.lst [V.str "NoMend"]):=aF
   have sL2:aU H (upd H1 L (.lst ([] ++ [V.str "NoMend"]))):=fun b o e=>by rw [aJ (aO e hL)];exact sL _ _ e
   generalize upd H1 L (.lst ([] ++ [V.str "NoMend"]))=H2 at hy2 eL2 sL2 ⊢
   refine ⟨_,rfl,aH (by show 6≤1000000;decide),fun tp htp=>?_⟩
   have st:=aU.new (o:=.tup ([cClash,cNoBreach,cNoField,cNoInch,cNoOrder,cNoText].map V.ref)) htp
   refine ⟨y,D,tp,[cClash,cNoBreach,cNoField,cNoInch,cNoOrder,cNoText],_,rfl,aF,st _ _ hy2,ek,h2,_,rfl,?_⟩
   refine dP ?_
   refine ⟨_,rfl,y,D,_,_,_,rfl,(fun u r=>r),st _ _ hy2,ek,h3,_,rfl,?_⟩
   refine dP ?_
   refine ⟨_,rfl,L,_,rfl,.inl (SqL.of (st _ _ eL2)),rfl,_,rfl,?_⟩
   refine dP ?_
   exact ⟨_,rfl,L,_,0,_,rfl,rfl,SqL.of (st _ _ eL2),rfl,k _ (sL2.trans st)⟩
end
end K36
namespace L2
open PySem
theorem aDO.mono {P:Program}{w:World}{K:PySem.W.Frag}{mg:Str→Option Value}{base:Heap}{k:Nat}{f:Addr}{H:Hp}{Q Q':VK}{E E':XK} (h:aDO P w K mg base k f H Q E) (hq:∀ v H',Q v H'→Q' v H') (he:∀ C dx H',E C dx H'→E' C dx H'):aDO P w K mg base k f H Q' E':=
 ⟨h.1,fun A outer s hr e0=>codeAny_mono (h.2 A outer s hr e0) fun r s' z=>by
  cases r with
  | error e=>
   obtain ⟨x,C,H',e1,F,q⟩:=z
   exact ⟨x,C,H',e1,F,he _ _ _ q⟩
  | ok fl=>
   cases fl with
   | ret u=>
    obtain ⟨v,H',os,bare,un,hok,r,q⟩:=z
    exact ⟨v,H',os,bare,un,hok,r,hq _ _ q⟩
   | next=>exact z
   | brk=>exact z
   | cont=>exact z⟩
end L2
namespace K36
open PySem L2
inductive zD (P:Program) (w:World) (K:PySem.W.Frag) (mg:Str→Option Value) (base:Heap) (cs ts:List Addr) (cD T:Addr) (vs:List V) (H:Hp) (Q:VK) (u3_:XK):Prop
 | mk (f D:Addr) (nm:Str) (q0:vs=[.ref f]) (q1:aDO P w K mg base 9 f H (fun _ _=>False) (fun C _ H'=>C=.ref D∧dD T H H'∧Tb T H')) (q2:PySem.W.exmOne K (.ref D) (.ref cD)=some true) (q3:aFm K cs ts D nm) (q4:∀ L H',H L=none→dD T H H'→Tb T H'→H' L=some (.lst [.str "refused",.str nm])→Q (.ref L) H'):zD P w K mg base cs ts cD T vs H Q u3_
def aAy (P:Program) (w:World) (K:PySem.W.Frag) (mg:Str→Option Value) (base:Heap) (cs ts:List Addr) (cD T:Addr):Sp:=fun vs H Q u3_=>zD P w K mg base cs ts cD T vs H Q u3_
section
variable {P:Program}{w:World}{K:PySem.W.Frag}{mg:Str→Option Value}{base:Heap}
theorem aEv:cA ["_law_ask","_law_caught","_law_found","e"] ["_law_ask"] (aM vJ):=⟨rfl,rfl,rfl,by decide,rfl,by decide,by decide⟩
theorem aFn {f fC cD T:Addr}{cs ts:List Addr}{fd fdC:FuncData} (F:Fun K "_law_told" "_law_told" vJ f fd) (mD:mg "DykeError"=some (.ref cD))
  (GC:cC P w K mg base CX0 1 fC fdC ["_law_caught"] (aBA K cs ts)) (mC:mg "_law_class"=some (.ref fC)) (kC:PySem.W.keepIn K (.ref fC)=true) (bC:cQ K fdC ["_law_caught"] [])
  :cC P w K mg base CX0 10 f fd ["_law_ask"] (aAy P w K mg base cs ts cD T):=by
 refine F.ok aEv (fun vs H Q E h=>?_) (fun cdv A outer s H vs Q E hr h=>?_)
 ·obtain ⟨f,D,nm,rfl,_⟩:=h
  rfl
 ·obtain ⟨f,D,nm,rfl,lc,hx,ht,k⟩:=h
  have nd:=aEv.nd
  have hr1:dF 1 _:=hr.mono (by decide)
  refine ⟨_,aA (aW (i:=1) nd rfl (Or.inl rfl) rO) (aA (aW (i:=2) nd rfl (Or.inl rfl) rO)
   (aA (aDJ (ie:=3) rfl rfl rfl (aEZ (i:=2) nd rfl (Or.inl rfl) (aGm (k:=9) (pv 0) hr)) rfl mD nd rfl rfl (fun v=>aQ (aW (i:=1) nd rfl (Or.inl rfl) (pv 3))))
   (aA (cU (gX (aCy (pv 1))) (aQ (bE (dA (aE aV (aE (pv 2) aB))))) bH)
   (aQ (bE (dA (aE aV (aE (aS GC hr1 rfl mC kC bC .nil bY (aE (pv 1) aB)) aB)))))))),?_⟩
  refine ⟨_,rfl,f,rfl,lc.mono (fun _ _ z=>z.elim) fun C dx H' ⟨e,S,tb⟩=>⟨by rw [e];exact hx,fun y hy=>?_⟩⟩
  subst e
  have sy:=aU.new (o:=m7 y (.ref D)) hy
  refine ⟨_,rfl,_,rfl,_,rfl,?_⟩
  rw [decide_eq_false (fun z=>nomatch z)]
  refine dP ?_
  refine ⟨_,rfl,y,D,nm,rfl,aF,ht,fun H2 S2=>⟨aH (by show 2≤1000000;decide),fun L hL=>?_⟩⟩
  have sL:=aU.new (o:=.lst [V.str "refused",.str nm]) hL
  have S3:=(sy.trans S2).trans sL
  refine k L _ ?_ (S.trans S3.butT) (tb.same S3) aF
  refine aBu (tb.same (sy.trans S2)) (S.trans (sy.trans S2).butT) hL
end
end K36
namespace K36
open PySem L2
theorem iD.take {H:Hp}{xs:List V}{us:List cE}{fs:List Str} (h:iD H xs us fs) (n:Nat):iD H (xs.take n) (us.take n) fs:=⟨by rw [List.length_take,List.length_take,h.len],fun i x hx=>by
 rw [List.getElem?_take] at hx
 split at hx
 ·obtain ⟨u,h1,h2⟩:=h.at' i x hx
  exact ⟨u,by rw [List.getElem?_take,if_pos (by assumption)];exact h1,h2⟩
 ·cases hx⟩
inductive v6 (vs:List V) (H:Hp) (Q:VK) (u3_:XK):Prop
 | mk (rw:Addr) (ys:List V) (ws:List Str) (us:List cE) (n:Nat) (u:cE) (a b:Str) (q0:vs=[.ref rw,.int n]) (q1:H rw=some (.tup ys)) (q2:iD H ys us ws) (q3:us.length≤40) (q4:us[n]?=some u) (q5:u.word="mend") (q6:u.ds=[.str a,.str b]) (q7:(a ∉ rd (eJ us n) b→∀ H',aU H H'→Q .non H')) (q8:∀ (L:Addr) (k:Nat) (H':Hp),(rd (eJ us n) b)[k]?=some a→(∀ i,i < k→(rd (eJ us n) b)[i]?≠some a)→H L=none→aU H H'→H' L=some (.lst ((a :: (rd (eJ us n) b).take (k + 1)).map V.str))→Q (.ref L) H'):v6 vs H Q u3_
def aBC:Sp:=fun vs H Q u3_=>v6 vs H Q u3_
section
variable {P:Program}{w:World}{K:PySem.W.Frag}{mg:Str→Option Value}{base:Heap}
theorem aBD:cA ["_law_rows","_law_at","_law_row_here","_law_way"] ["_law_rows","_law_at"] (aM pX):=⟨rfl,rfl,rfl,by decide,rfl,by decide,by decide⟩
theorem aEw {f fR fM:Addr}{fd fdR fdM:FuncData} (F:Fun K "_law_ring" "_law_ring" pX f fd)
  (GR:cC P w K mg base CX0 1 fR fdR ["_law_menders_here","_law_house"] p5) (mR:mg "_law_road"=some (.ref fR)) (kR:PySem.W.keepIn K (.ref fR)=true) (bR:cQ K fdR ["_law_menders_here","_law_house"] [])
  (GM:cC P w K mg base CX0 2 fM fdM ["_law_rows"] tY) (mM:mg "_law_menders"=some (.ref fM)) (kM:PySem.W.keepIn K (.ref fM)=true) (bM:cQ K fdM ["_law_rows"] [])
  :cC P w K mg base CX0 3 f fd ["_law_rows","_law_at"] aBC:=by
 refine F.ok aBD (fun vs H Q E h=>?_) (fun cdv A outer s H vs Q E hr h=>?_)
 ·obtain ⟨rw,ys,ws,us,n,u,a,b,rfl,_⟩:=h
  rfl
 ·obtain ⟨rw,ys,ws,us,n,u,a,b,rfl,hrw,rows,h40,hu,hw,hd,kN,kL⟩:=h
  have hr1:dF 1 _:=hr.mono (by decide)
  have hr2:dF 2 _:=hr
  have nd:=aBD.nd
  refine ⟨_,(aA (aW (i:=2) nd rfl (Or.inl rfl) (aX bJ (pv 0) (pv 1) (fun _ _=>rfl)))
   (aA (aW (i:=3) nd rfl (Or.inl rfl) (aS GR hr1 rfl mR kR bR .nil bY (aE (aS GM hr2 rfl mM kM bM .nil bY (aE (eB rD (pv 0) fQ (fU (pv 1))) aB)) (aE (aX bJ (pv 2) aG (fun _ _=>rfl)) aB))))
   (aA (cU (bV gN (aX bJ (pv 2) aG (fun _ _=>rfl)) (pv 3) (by with_unfolding_all rfl)) (aQ (bE rO)) bH)
   (aQ (bE (aZ wJ (dA (aE (aX bJ (pv 2) aG (fun _ _=>rfl)) aB)) (eB kH (pv 3) fQ (fU (aZ c8 (fF PySem.F.plainAttrs_list PySem.F.slot_list_index PySem.F.type_list_index oP (pv 3) (aE (aX bJ (pv 2) aG (fun _ _=>rfl)) aB)) aG))))))))),?_⟩
  have hl:=rows.len
  have hn:n < us.length:=(List.getElem?_eq_some_iff.mp hu).1
  obtain ⟨x,hx⟩:∃ x,ys[n]?=some x:=⟨_,List.getElem?_eq_getElem (by omega)⟩
  obtain ⟨u',hu',rdx,oku⟩:=rows.at' n x hx
  rw [hu] at hu'
  cases hu'
  obtain ⟨tr,b8,rfl,htr,hrest⟩:=cE.Ok.tup (fs:=ws) rdx
  rw [hd] at hrest
  cases hrest with
  | cons q1 hrest=>
  cases hrest with
  | cons q2 hrest=>
  cases hrest
  cases q1
  cases q2
  refine ⟨_,rfl,_,rfl,rw,_,(n:Int),_,rfl,rfl,SqT.of hrw,gM hx,?_⟩
  refine ⟨_,rfl,_,rfl,_,rfl,rw,_,rfl,hrw,fun t2 H2 s2 ht2=>?_⟩
  rw [pL (α:=Unit)] at ht2
  have R2:=(rows.on (dO s2)).take n
  refine ⟨t2,ys.take n,us.take n,ws,rfl,ht2,R2,by rw [List.length_take];omega,fun me H3 hme S3 eme ac ml=>?_⟩
  have S23:=s2.trans S3
  refine ⟨_,rfl,tr,_,4,_,rfl,rfl,SqT.of (S23 _ _ htr),rfl,me,b,eJ us n,rfl,eme,ac,(by have:(eJ us n).length≤40:=ml;omega),fun L4 H4 hL4 S4 eL4=>?_⟩
  have S24:=S23.trans S4
  have ac':gU (eJ us n):=ac
  have hrd:=ac'.rd b
  have hlen:=hrd.len
  have hml:(eJ us n).length≤40:=ml
  refine ⟨_,rfl,tr,_,3,_,rfl,rfl,SqT.of (S24 _ _ htr),rfl,_,rfl,L4,_,rfl,.inl (SqL.of eL4),rfl,dX _,_,rfl,?_⟩
  rw [if_pos rfl,wR]
  by_cases g:a∈rd (eJ us n) b
  ·rw [decide_eq_true g]
   refine dP ?_
   obtain ⟨k0,hk0⟩:=List.getElem?_of_mem g
   have hno':∀ i,i < k0→(rd (eJ us n) b)[i]?≠some a:=fun i hi e=>by
    have:=(List.getElem?_inj (by have:=(List.getElem?_eq_some_iff.mp hk0).1;omega) hrd.nodup).mp (e.trans hk0.symm)
    omega
   have hk1:=(List.getElem?_eq_some_iff.mp hk0).1
   refine ⟨_,rfl,tr,_,3,_,rfl,rfl,SqT.of (S24 _ _ htr),rfl,aH (by show 1≤1000000;decide),fun L1 hL1=>?_⟩
   have s1:=aU.new (o:=.lst [V.str a]) hL1
   refine ⟨_,rfl,_,rfl,.inl ⟨rfl,_,SqL.of (s1 _ _ eL4)⟩,_,rfl,tr,_,3,_,rfl,rfl,SqT.of (s1 _ _ (S24 _ _ htr)),rfl,L4,_,a,k0,rfl,rfl,s1 _ _ eL4,by omega,hk0,hno',_,_,rfl,rfl,_,rfl,L4,_,rfl,SqL.of (s1 _ _ eL4),fun L2 hL2=>?_⟩
   rw [show ((k0:Int) + 1)=((k0 + 1:Nat):Int) by omega,pL (α:=Nat)] at *
   have s2:=aU.new (o:=.lst (((rd (eJ us n) b).map V.str).take (k0 + 1))) hL2
   refine ⟨L1,L2,_,_,rfl,rfl,s2 _ _ aF,aF,?_,fun L3 hL3=>?_⟩
   ·refine aH ?_
    simp only [List.length_cons,List.length_nil,List.length_take,List.length_map]
    omega
   ·have s3:=aU.new (o:=.lst ([V.str a] ++ ((rd (eJ us n) b).map V.str).take (k0 + 1))) hL3
    have S5:=S24.trans (s1.trans s2)
    refine kL L3 k0 _ hk0 hno' ?_ (S5.trans s3) ?_
    ·cases q:H L3 with
     | none=>rfl
     | some o=>rw [S5 _ _ q] at hL3;cases hL3
    ·rw [aF]
     simp [List.map_take]
  ·rw [decide_eq_false g]
   exact fZ (kN g H4 S24)
end
end K36
namespace L2
open PySem
theorem aHu {P:Program}{w:World}{X:Cx}:lM (CXr P w) X E0:=fun _ _ _ _ _ _ _ ⟨_,_,_,_,_,q⟩=>q.elim
theorem v7 {H:Hp}{L:List (Addr×Obj)} (h:∀ b o,L.lookup b=some o→H b=none):eI (jB H L) L=H:=by
 funext b
 cases e:L.lookup b with
 | none=>rw [cJ e,dB e]
 | some o=>rw [eU e,h b o e]
theorem zE {H:Hp}{L:List (Addr×Obj)} (h:∀ b o,L.lookup b=some o→H b=none):aU H (jB H L):=fun b o e=>by
 cases el:L.lookup b with
 | none=>rw [dB el];exact e
 | some o'=>rw [h b o' el] at e;cases e
theorem qS {T:Addr}{H H':Hp}{L:List (Addr×Obj)} (s:dD T (jB H L) H') (h:∀ b o,L.lookup b=some o→H b=none):dD T H (eI H' L):=fun b o n e=>by
 cases el:L.lookup b with
 | none=>rw [cJ el];exact s b o n (by rw [dB el];exact e)
 | some o'=>rw [h b o' el] at e;cases e
theorem uD {T T':Addr}{pos:Pos}{qual:Str}{H H':Hp}{L:List (Addr×Obj)} (g:dQ T pos qual H') (s:dD T' (jB H L) H') (hT:L.lookup T'=none):dQ T pos qual (eI H' L):=by
 have out:∀ b v,H' b=some v→(∀ o u,v≠.frz o u)→L.lookup b=none:=fun b v e n=>by
  cases el:L.lookup b with
  | none=>rfl
  | some o=>
   have:=s b _ (fun z=>by rw [z,hT] at el;cases el) (gQ (H:=H) el)
   rw [e] at this
   cases this
   exact absurd rfl (n _ _)
 obtain ⟨ps,h1,h2,h3⟩:=g.ex
 refine ⟨ps,by rw [cJ (out T _ h1 fun _ _ z=>nomatch z)];exact h1,h2,?_⟩
 rcases h3 with h3 | ⟨c,h3,h4⟩
 ·exact .inl h3
 ·exact .inr ⟨c,h3,by rw [cJ (out c _ h4 fun _ _ z=>nomatch z)];exact h4⟩
end L2
namespace K36
open PySem L2
abbrev zF:Pos:=⟨341,25,341,66⟩
abbrev qT:Str:=(("_law_right":Str) ++ ".<locals>.") ++ "<lambda>"
theorem aCv {T a:Addr}{xs:List V}{H H':Hp} (s:dD T H H') (g:Tb T H) (h:H a=some (.lst xs)):H' a=some (.lst xs):=s _ _ (fun z=>by
 obtain ⟨ps,hT,_⟩:=g.ex
 rw [z,hT] at h
 cases h) h
theorem fH {T T2:Addr}{pos:Pos}{qual:Str}{ps:Array Value}{H H':Hp} (g:dQ T pos qual H) (s:dD T2 H H') (hne:T≠T2) (h2:H T2=some (.tbl ps)):dQ T pos qual H':=by
 obtain ⟨ps',a1,a2,a3⟩:=g.ex
 refine ⟨ps',s _ _ hne a1,a2,?_⟩
 rcases a3 with a3 | ⟨c,a3,a4⟩
 ·exact .inl a3
 ·exact .inr ⟨c,a3,s _ _ (fun z=>by rw [z,h2] at a4;cases a4) a4⟩
theorem aEx {T:Addr}{ps:Array Value}{H H':Hp} (s:dD T H H') (h:H T=some (.tbl ps)):gI H H':=fun q xs e=>s _ _ (fun z=>by rw [z,h] at e;cases e) e
theorem aAz {T T2:Addr}{H H1 H2:Hp} (a:cZ [T,T2] H H1) (b:dD T H1 H2):cZ [T,T2] H H2:=fun c o n e=>b c o (fun z=>n (by simp [z])) (a c o n e)
theorem aFp {T T2:Addr}{H H1 H2:Hp} (a:cZ [T,T2] H H1) (b:dD T2 H1 H2):cZ [T,T2] H H2:=fun c o n e=>b c o (fun z=>n (by simp [z])) (a c o n e)
inductive v8 (T T2:Addr) (vs:List V) (H:Hp) (Q:VK) (u3_:XK):Prop
 | mk (t rw:Addr) (ws:List Str) (us:List cE) (n:Nat) (u:cE) (q0:vs=[.ref t,.int n]) (q1:jO H t rw ws us) (q2:(us.map cE.name).Nodup) (q3:Tb T H) (q4:dQ T2 zF qT H) (q5:us[n]?=some u) (q6:∀ H',cZ [T,T2] H H'→Tb T H'→dQ T2 zF qT H'→Q (.bl true) H'):v8 T T2 vs H Q u3_
def aBE (T T2:Addr):Sp:=fun vs H Q u3_=>v8 T T2 vs H Q u3_
section
variable {P:Program}{w:World}{K:PySem.W.Frag}{mg:Str→Option Value}{base:Heap}
theorem aBF:cA ["_law_roll","_law_at","_law_row_here","_law_owed","_law_turn","_law_found"] ["_law_roll","_law_at"] (aM pY):=⟨rfl,rfl,rfl,by decide,rfl,by decide,by decide⟩
theorem aEy {f fO fI fT T T2 cR cD DN DM:Addr}{cs ts:List Addr}{fd fdO fdI fdT:FuncData} (F:Fun K "_law_right" "_law_right" pY f fd) (hfc:fd.code=.ref cR) (hC:PySem.W.codeHdIn K cR T2=true) (hB:pN mg base) (hne:T≠T2) (hisi:mg "isinstance"=none) (hlist:mg "list"=none) (hrng:mg "range"=none) (xM:PySem.W.exmOne K (.ref DM) (.ref cD)=some true) (tM:aFm K cs ts DM "NoMend")
  (GI:cC P w K mg base (CXr P w) 8 fI fdI ["roll","name"] (aAx T DN DM)) (mI:mg "ring"=some (.ref fI)) (kI:PySem.W.keepIn K (.ref fI)=true) (bI:cQ K fdI ["roll","name"] [])
  (GT:cC P w K mg base CX0 10 fT fdT ["_law_ask"] (aAy P w K mg base cs ts cD T)) (mT:mg "_law_told"=some (.ref fT)) (kT:PySem.W.keepIn K (.ref fT)=true) (bT:cQ K fdT ["_law_ask"] [])
  (GO:cC P w K mg base CX0 3 fO fdO ["_law_rows","_law_at"] aBC) (mO:mg "_law_ring"=some (.ref fO)) (kO:PySem.W.keepIn K (.ref fO)=true) (bO:cQ K fdO ["_law_rows","_law_at"] [])
  :cC P w K mg base CX0 11 f fd ["_law_roll","_law_at"] (aBE T T2):=by
 refine F.okC aBF (fun vs H Q E h=>?_) (fun cdv A outer s H vs Q E hcd hr h=>?_)
 ·obtain ⟨t,rw,ws,us,n,u,rfl,_⟩:=h
  rfl
 ·obtain ⟨t,rw,ws,us,n,u,rfl,roll,hnd,tb,g2,hu0,k⟩:=h
  rw [hfc] at hcd
  subst hcd
  have hr3:dF 3 _:=hr.mono (by decide)
  have hr8:dF 8 _:=hr.mono (by decide)
  have hr10:dF 10 _:=hr
  have hu:_ < _:=hr.units0
  have nd:=aBF.nd
  refine ⟨_,(aA (aW (i:=2) nd rfl (Or.inr rfl) (aX bJ (aX bJ (pv 0) aG (fun _ _=>rfl)) (pv 1) (fun _ _=>rfl)))
   (aA (cU (bV qB (aX bJ (pv 2) aG (fun _ _=>rfl)) aV (cM _)) (aQ (bE (rB (aGe hu) (aA9 (c:=cR) (T:=T2) (fs:=["_law_roll","_law_row_here"]) (cl:=[("_law_row_here",s.heap.objs.size + 2),("_law_roll",s.heap.objs.size + 1)]) GT hr10 rfl mT kT bT rfl hC hB ?hc ?hhas (fun _=>rfl) rfl rfl rfl) (dA (aE aV (aE aV aB))) (cM _)))) bH)
   (aA (aW (i:=3) nd rfl (Or.inl rfl) (aS GO hr3 rfl mO kO bO .nil bY (aE (aX bJ (pv 0) aG (fun _ _=>rfl)) (aE (pv 1) aB))))
   (aA (f7 PassesOwn.never rfl (eV rfl hrng (aE aG aB)) (g:=cY 4) (bG (i:=4) nd rfl (Or.inl rfl))
   (aA (aW (i:=5) nd rfl (Or.inl rfl) (aS GI hr8 rfl mI kI bI .nil aHu (aE (pv 0) (aE (aX bJ (pv 2) aG (fun _ _=>rfl)) aB))))
    (aA (cU (PW.pt (aFr (PW.pt (f6 (gX (aCy (pv 3))) (gC (gX (rA (pv 5)))))) (aCA (PW.pt (f6 (gX (rA (pv 3))) (gC (wA (gJ (bF xU (by rfl) hisi (by kernel_rfl) (aE (pv 5) (aE (aAB (v:=.ty "list") (by rfl) hlist (by kernel_rfl) rfl) aB))))))))))) (aQ (bE uJ)) bH)
    (aA (cU (PW.pt (f6 (gX (rA (pv 3))) (gC (bV (wK hu) (pv 5) (pv 3) (cM _))))) (aQ (bE uJ)) bH)
    (aQ (cU (gX (rA (pv 3))) (aQ (dJ (aF5 PySem.F.plainAttrs_list PySem.F.slot_list_clear PySem.F.type_list_clear aC4 (pv 5)))) bH))))))
   (aQ (bE uJ)))))),?_⟩
  case hc=>
   intro y b h
   rw [List.lookup_cons] at h
   cases e1:y == ("_law_row_here":Str) with
   | true=>
    rw [e1] at h
    cases h
    rw [beq_iff_eq.mp e1]
    exact ⟨rfl,by simp⟩
   | false=>
    rw [e1] at h
    dsimp only at h
    rw [List.lookup_cons] at h
    cases e2:y == ("_law_roll":Str) with
    | true=>
     rw [e2] at h
     cases h
     rw [beq_iff_eq.mp e2]
     exact ⟨rfl,by simp⟩
    | false=>
     rw [e2] at h
     cases h
  case hhas=>
   intro y h
   simp only [List.mem_cons,List.not_mem_nil,or_false] at h
   rcases h with rfl | rfl
   ·exact ⟨_,rfl⟩
   ·exact ⟨_,rfl⟩
  obtain ⟨lay,xs,ds,ys,h1,h2,h3,h4,h5,h6,h7,h8,h9⟩:=roll.ex
  have hl:=h8.len
  have hn:n < us.length:=(List.getElem?_eq_some_iff.mp hu0).1
  obtain ⟨x,hx⟩:∃ x,ys[n]?=some x:=⟨_,List.getElem?_eq_getElem (by omega)⟩
  obtain ⟨u',hu',rdx,oku⟩:=h8.at' n x hx
  rw [hu0] at hu'
  cases hu'
  obtain ⟨tr,b8,rfl,htr,hrest⟩:=cE.Ok.tup (fs:=ws) rdx
  have a0:=(tT (word:=u.word) (name:=u.name) (day:=u.day) (b8:=b8)).1
  have a1:atI (V.str u.word :: .str u.name :: .int u.day :: b8) 1=some (.str u.name):=by
   unfold atI ixN
   rw [if_pos (by decide),if_pos (by simp only [List.length_cons];omega)]
   rfl
  have same:∀ (j:Nat) (v:cE),us[j]?=some v→V.str u.name=.str v.name→v=u:=fun j v hv e=>by
   have:=rK hnd hv hu0 (by injection e with e;exact e.symm)
   subst this
   rw [hu0] at hv
   cases hv
   rfl
  have hmem:u∈us:=List.mem_of_getElem? hu0
  refine ⟨_,rfl,t,_,1,_,rfl,rfl,SqT.of h1,rfl,_,rfl,rw,_,(n:Int),_,rfl,rfl,SqT.of h7,gM hx,?_⟩
  refine ⟨_,rfl,tr,_,0,_,rfl,rfl,SqT.of htr,a0,rfl,_,rfl,?_⟩
  obtain ⟨ps2,hT2,_⟩:=g2.ex
  rcases oY oku.rs hrest with ⟨hw,a,b,hd,rfl⟩ | hnm
  rotate_left
  ·have hw:u.word≠"mend":=by
    rcases hnm with ⟨e,_⟩ | ⟨e,_⟩
    ·rw [e];decide
    ·exact e
   rw [decide_eq_false (fun z=>hw (by injection z))]
   refine fZ ⟨[.ref t,.ref tr],.cons ⟨0,rfl,rfl,rfl⟩ (.cons ⟨2,rfl,rfl,rfl⟩ .nil),g2,fun f' c H1 L S1 g1 hc1 hf1 tk hn0=>?_⟩
   have tb1:=fH tb S1 hne hT2
   have T1:=aEx S1 hT2
   have roll1:=roll.on T1
   have htr1:=T1 _ _ htr
   have sf:=zE hn0
   refine ⟨f',DM,"NoMend",rfl,⟨⟨_,_,_,_,_,c,sf _ _ hf1⟩,fun A' outer' s' hr' e0=>?_⟩,xM,tM,fun Lr H2 hLr S2 tb2 eLr=>?_⟩
   ·refine aA7 (k:=8) e0 hr' ⟨rfl,rfl,rfl,by decide,by decide,by decide,by decide⟩ ?hhas (sf _ _ hf1) (sf _ _ hc1) (fun _ _ _=>rfl) tk (fun b o e=>gQ e) (fun b o e z=>by have:=e0.frf b z;rw [gQ e] at this;cases this)
     (fun s''=>aS GI (hr'.deeper _) rfl mI kI bI .nil (yH fun _ _ _ h=>h) (aE (pv 0) (aE (aX (r:=wF K) bJ (pv 1) aG (fun _ _=>rfl)) aB))) ?_
    ·intro y h
     have hm:=PySem.mem_of_lookup h
     have e:=(show ∀ y∈_,y.2=NameKind.free→y.1=("_law_roll":Str)∨y.1=("_law_row_here":Str) from by decide) (y,NameKind.free) hm rfl
     rcases e with rfl | rfl
     ·exact ⟨_,rfl⟩
     ·exact ⟨_,rfl⟩
    ·rw [v7 hn0]
     refine ⟨_,rfl,_,rfl,tr,_,1,_,rfl,rfl,SqT.of htr1,a1,t,rw,ws,us,.str u.name,rfl,roll1,hnd,tb1,.str _,fun j v a b hv e hw'=>?_,fun j v hv e hw' _=>⟨rfl,dD.refl _,tb1.same sf⟩,fun hno=>absurd rfl (hno u hmem)⟩
     rw [same j v hv e] at hw'
     exact absurd hw' hw
   ·have hLn:L.lookup Lr=none:=by
     cases el:L.lookup Lr with
     | none=>rfl
     | some o=>rw [gQ el] at hLr;cases hLr
    have hT1:L.lookup T=none:=by
     obtain ⟨ps,hT,_⟩:=tb1.ex
     cases el:L.lookup T with
     | none=>rfl
     | some o=>rw [hn0 _ _ el] at hT;cases hT
    have S3:=qS S2 hn0
    have tb3:Tb T _:=uD tb2 S2 hT1
    have e3:eI H2 L Lr=some (.lst [V.str "refused",.str "NoMend"]):=by rw [cJ hLn];exact eLr
    have g3:dQ T2 zF qT (eI H2 L):=by
     obtain ⟨ps,hT,_⟩:=tb1.ex
     exact fH g1 S3 hne.symm hT
    refine ⟨aH (by show 2≤1000000;decide),fun L5 hL5=>?_⟩
    have s5:=aU.new (o:=.lst [V.str "refused",.str "NoMend"]) hL5
    refine ⟨Lr,L5,_,_,rfl,rfl,SqL.of (s5 _ _ e3),SqL.of aF,dX ["refused","NoMend"],dX ["refused","NoMend"],?_⟩
    show Q (.bl (pK [V.str "refused",.str "NoMend"] [V.str "refused",.str "NoMend"])) _
    rw [show pK [V.str "refused",.str "NoMend"] [V.str "refused",.str "NoMend"]=true from mQ ["refused","NoMend"]]
    exact k _ ((aAz (aFp (cZ.refl H) S1) S3).same s5) (tb3.same s5) (g3.same s5)
  ·rw [hw] at htr
   rw [hw,decide_eq_true rfl]
   refine dP ?_
   refine ⟨_,rfl,t,_,1,_,rfl,rfl,SqT.of h1,rfl,_,rfl,rw,ys,ws,us,n,u,a,b,rfl,h7,h8,h9,hu0,hw,hd,fun g H1 S1=>?_,fun Lo k0 H1 hk0 hno hLo S1 eLo=>?_⟩
   ·refine ⟨2,rfl,by decide,by decide,gZ (n:=2) (fun i σ H'=>∃ (o4 o5:Option V),σ=[some (.ref t),some (.int n),some (.ref tr),some .non,o4,o5]∧dD T H H'∧Tb T H') ⟨none,none,rfl,S1.butT,tb.same S1⟩ ?_ ?_⟩
    ·rintro i σ H2 hi ⟨o4,o5,rfl,S2,tb2⟩
     dsimp only [cY]
     have T2':=eO S2 tb
     refine ⟨_,rfl,_,rfl,tr,_,1,_,rfl,rfl,SqT.of (T2' _ _ htr),rfl,t,rw,ws,us,.str u.name,rfl,roll.on T2',hnd,tb2,.str _,fun j v a' b' hv e hw' hd'=>?_,fun j v hv e hw'=>?_,fun hno=>absurd rfl (hno u hmem)⟩
     ·have ej:=rK hnd hv hu0 (by injection e with e;exact e.symm)
      subst ej
      rw [hu0] at hv
      cases hv
      rw [hd] at hd'
      cases hd'
      intro H3 S3 tb3
      refine ⟨fun _=>?_,fun Lx kx hkx=>absurd (List.mem_of_getElem? hkx) g⟩
      refine ⟨_,rfl,_,rfl,?_⟩
      rw [decide_eq_true rfl]
      refine fZ ?_
      refine ⟨_,rfl,_,rfl,?_⟩
      rw [decide_eq_true rfl]
      refine dP ?_
      refine ⟨_,rfl,_,rfl,?_⟩
      rw [decide_eq_true rfl]
      refine dP ?_
      refine dP ?_
      refine ⟨_,rfl,_,rfl,?_⟩
      rw [decide_eq_true rfl]
      refine dP ?_
      refine dP ?_
      refine ⟨_,rfl,_,rfl,?_⟩
      rw [decide_eq_true rfl]
      refine dP ?_
      exact ⟨_,_,rfl,S2.trans S3,tb3⟩
     ·rw [same j v hv e] at hw'
      exact absurd hw hw'
    ·rintro σ H2 ⟨o4,o5,rfl,S2,tb2⟩
     obtain ⟨ps,hT,_⟩:=tb.ex
     exact k H2 (aAz (cZ.refl H) S2) tb2 (fH g2 S2 hne.symm hT)
   ·refine ⟨2,rfl,by decide,by decide,gZ (n:=2) (fun i σ H'=>∃ (o4 o5:Option V),σ=[some (.ref t),some (.int n),some (.ref tr),some (.ref Lo),o4,o5]∧dD T H H'∧Tb T H'∧H' Lo=some (.lst ((a :: (rd (eJ us n) b).take (k0 + 1)).map V.str))) ⟨none,none,rfl,S1.butT,tb.same S1,eLo⟩ ?_ ?_⟩
    ·rintro i σ H2 hi ⟨o4,o5,rfl,S2,tb2,eLo2⟩
     dsimp only [cY]
     have T2':=eO S2 tb
     refine ⟨_,rfl,_,rfl,tr,_,1,_,rfl,rfl,SqT.of (T2' _ _ htr),rfl,t,rw,ws,us,.str u.name,rfl,roll.on T2',hnd,tb2,.str _,fun j v a' b' hv e hw' hd'=>?_,fun j v hv e hw'=>?_,fun hno=>absurd rfl (hno u hmem)⟩
     ·have ej:=rK hnd hv hu0 (by injection e with e;exact e.symm)
      subst ej
      rw [hu0] at hv
      cases hv
      rw [hd] at hd'
      cases hd'
      intro H3 S3 tb3
      refine ⟨fun gn=>absurd (List.mem_of_getElem? hk0) gn,fun Lx kx hkx hnox hLx eLx=>?_⟩
      obtain rfl:kx=k0:=by
       rcases Nat.lt_trichotomy kx k0 with z | z | z
       ·exact absurd hkx (hno kx z)
       ·exact z
       ·exact absurd hk0 (hnox k0 z)
      have eLo3:=aCv S3 tb2 eLo2
      refine ⟨_,rfl,_,rfl,?_⟩
      rw [decide_eq_false (fun z=>nomatch z)]
      refine dP ?_
      refine dP ?_
      refine ⟨_,rfl,_,rfl,?_⟩
      rw [decide_eq_false (fun z=>nomatch z)]
      refine fZ ?_
      refine ⟨_,rfl,_,"list",_,true,rfl,n5.lst eLx,aDg,_,rfl,?_⟩
      refine dP ?_
      refine ⟨_,rfl,_,rfl,?_⟩
      rw [decide_eq_false (fun z=>nomatch z)]
      refine fZ ?_
      refine ⟨_,rfl,_,rfl,Lx,Lo,_,_,rfl,rfl,SqL.of eLx,SqL.of eLo3,dX _,dX _,_,rfl,?_⟩
      rw [mQ]
      refine dP ?_
      refine ⟨_,rfl,_,rfl,?_⟩
      rw [decide_eq_false (fun z=>nomatch z)]
      refine fZ ?_
      refine ⟨_,rfl,.inl ⟨rfl,_,SqL.of eLx⟩,Lx,_,rfl,rfl,eLx,?_⟩
      refine ⟨_,_,rfl,aCr (S2.trans S3) (aBu tb2 S2 hLx),aBr tb3 eLx,?_⟩
      rw [aJ (aO eLo2 hLx)]
      exact eLo3
     ·rw [same j v hv e] at hw'
      exact absurd hw hw'
    ·rintro σ H2 ⟨o4,o5,rfl,S2,tb2,_⟩
     obtain ⟨ps,hT,_⟩:=tb.ex
     exact k H2 (aAz (cZ.refl H) S2) tb2 (fH g2 S2 hne.symm hT)
end
end K36
namespace K36
open PySem L2
abbrev aFq:Pos:=⟨362,21,362,56⟩
abbrev aBG:Str:=(("law":Str) ++ ".<locals>.") ++ "<lambda>"
inductive aBH (K:PySem.W.Frag) (T T2 T3:Addr) (vs:List V) (H:Hp) (Q:VK) (u3_:XK):Prop
 | mk (a:Addr) (ns:List Int) (q0:vs=[.ref a]) (q1:SqL K H a (ns.map V.int)) (q2:ns.length≤63) (q3:Tb T H) (q4:dQ T2 zF qT H) (q5:dQ T3 aFq aBG H) (q6:∀ H',Q (.bl true) H'):aBH K T T2 T3 vs H Q u3_
def aBI (K:PySem.W.Frag) (T T2 T3:Addr):Sp:=fun vs H Q u3_=>aBH K T T2 T3 vs H Q u3_
abbrev aHv:List Str:=["a","zzzzzzzz"]
theorem j9 {T p c:Addr}{pos:Pos}{qual:Str}{ns:List Int}{a:Int}{H H':Hp} (g:dQ T pos qual H) (hp:cV H p c ns a) (k:aY p H H'):dQ T pos qual H':=by
 obtain ⟨z,_,e⟩:=hp.ob
 obtain ⟨ps,h1,h2,h3⟩:=g.ex
 refine ⟨ps,k _ _ h1 (dS h1 e (fun z=>nomatch z)),h2,?_⟩
 rcases h3 with h3 | ⟨c',h3,h4⟩
 ·exact .inl h3
 ·exact .inr ⟨c',h3,k _ _ h4 (dS h4 e (fun z=>nomatch z))⟩
structure Wld (T T2 T3:Addr) (H:Hp) (r rw:Addr) (ws:List Str) (us:List cE):Prop where
 roll:jO H r rw ws us
 t:Tb T H
 t2:dQ T2 zF qT H
 t3:dQ T3 aFq aBG H
theorem Wld.keep {T T2 T3 r rw:Addr}{ws:List Str}{us:List cE}{H H':Hp}{b:Addr}{o:HO} (w:Wld T T2 T3 H r rw ws us) (k:cZ [T,T2,T3] H H') (e:H b=some o) (n:∀ ps,o≠.tbl ps):H' b=some o:=by
 refine k b o (fun z=>?_) e
 obtain ⟨p1,h1,_⟩:=w.t.ex
 obtain ⟨p2,h2,_⟩:=w.t2.ex
 obtain ⟨p3,h3,_⟩:=w.t3.ex
 simp only [List.mem_cons,List.not_mem_nil,or_false] at z
 rcases z with z | z | z <;> rw [z] at e
 ·rw [h1] at e;cases e;exact n _ rfl
 ·rw [h2] at e;cases e;exact n _ rfl
 ·rw [h3] at e;cases e;exact n _ rfl
theorem Wld.step {T T2 T3 r rw:Addr}{ws:List Str}{us:List cE}{H H':Hp} (w:Wld T T2 T3 H r rw ws us) (k:cZ [T,T2,T3] H H') (t:Tb T H') (t2:dQ T2 zF qT H') (t3:dQ T3 aFq aBG H'):Wld T T2 T3 H' r rw ws us:=
 ⟨w.roll.on fun q xs e=>w.keep k e (fun _ z=>nomatch z),t,t2,t3⟩
theorem Wld.same {T T2 T3 r rw:Addr}{ws:List Str}{us:List cE}{H H':Hp} (w:Wld T T2 T3 H r rw ws us) (s:aU H H'):Wld T T2 T3 H' r rw ws us:=⟨w.roll.on (dO s),w.t.same s,w.t2.same s,w.t3.same s⟩
theorem Wld.right {T T2 T3 r rw:Addr}{ws:List Str}{us:List cE}{H H':Hp} (w:Wld T T2 T3 H r rw ws us) (n1:T3≠T) (n2:T3≠T2) (k:cZ [T,T2] H H') (t:Tb T H') (t2:dQ T2 zF qT H'):cZ [T,T2,T3] H H'∧Wld T T2 T3 H' r rw ws us:=by
 have kk:cZ [T,T2,T3] H H':=fun b o n e=>k b o (fun z=>n (by simp at z ⊢;rcases z with z | z <;> simp [z])) e
 refine ⟨kk,w.step kk t t2 ?_⟩
 obtain ⟨p3,h3,h4,h5⟩:=w.t3.ex
 refine ⟨p3,k _ _ (by simp [n1,n2]) h3,h4,?_⟩
 rcases h5 with h5 | ⟨c,h5,h6⟩
 ·exact .inl h5
 ·exact .inr ⟨c,h5,w.keep kk h6 (fun _ z=>nomatch z)⟩
section
variable {P:Program}{w:World}{K:PySem.W.Frag}{mg:Str→Option Value}{base:Heap}
theorem aFK:cA ["_law_script","_law_pen_here","_law_roll","_law_houses","_law_names_here","_law_first","_law_k","_law_others","_law_thing"] ["_law_script"] (aM qZ):=⟨rfl,rfl,rfl,by decide,rfl,by decide,by decide⟩
theorem aGD {f fP fW fA fX fI fT T T2 T3 cL cD DN DM:Addr}{cs ts:List Addr}{fd fdP fdW fdA fdX fdI fdT:FuncData} (F:Fun K "law" "law" qZ f fd) (hfc:fd.code=.ref cL) (hC:PySem.W.codeHdIn K cL T3=true) (hB:pN mg base) (n12:T≠T2) (n13:T3≠T) (n23:T3≠T2) (hlen:mg "len"=none) (hrng:mg "range"=none) (hall:mg "all"=none) (xN:PySem.W.exmOne K (.ref DN) (.ref cD)=some true) (tN:aFm K cs ts DN "NoName")
  (GI:cC P w K mg base (CXr P w) 8 fI fdI ["roll","name"] (aAx T DN DM)) (mI:mg "ring"=some (.ref fI)) (kI:PySem.W.keepIn K (.ref fI)=true) (bI:cQ K fdI ["roll","name"] [])
  (GT:cC P w K mg base CX0 10 fT fdT ["_law_ask"] (aAy P w K mg base cs ts cD T)) (mT:mg "_law_told"=some (.ref fT)) (kT:PySem.W.keepIn K (.ref fT)=true) (bT:cQ K fdT ["_law_ask"] [])
  (GP:cC P w K mg base CX0 1 fP fdP ["_law_script"] (aFD K)) (mP:mg "_law_pen"=some (.ref fP)) (kP:PySem.W.keepIn K (.ref fP)=true) (bP:cQ K fdP ["_law_script"] [])
  (GW:cC P w K mg base CX0 6 fW fdW ["_law_pen_here"] aBw) (mW:mg "_law_world"=some (.ref fW)) (kW:PySem.W.keepIn K (.ref fW)=true) (bW:cQ K fdW ["_law_pen_here"] [])
  (GA:cC P w K mg base CX0 1 fA fdA ["_law_pen_here","_law_many"] iC) (mA:mg "_law_take"=some (.ref fA)) (kA:PySem.W.keepIn K (.ref fA)=true) (bA:cQ K fdA ["_law_pen_here","_law_many"] [])
  (GX:cC P w K mg base CX0 11 fX fdX ["_law_roll","_law_at"] (aBE T T2)) (mX:mg "_law_right"=some (.ref fX)) (kX:PySem.W.keepIn K (.ref fX)=true) (bX:cQ K fdX ["_law_roll","_law_at"] [])
  :cC P w K mg base CX0 12 f fd ["_law_script"] (aBI K T T2 T3):=by
 refine F.okC aFK (fun vs H Q E h=>?_) (fun cdv A outer s H vs Q E hcd hr h=>?_)
 ·obtain ⟨a,ns,rfl,_⟩:=h
  rfl
 ·obtain ⟨sc,ns,rfl,hS,hln,tb,g2,g3,k⟩:=h
  rw [hfc] at hcd
  subst hcd
  have hr1:dF 1 _:=hr.mono (by decide)
  have hr6:dF 6 _:=hr.mono (by decide)
  have hr10:dF 10 _:=hr.mono (by decide)
  have hu:_ < _:=hr.units0
  have nd:=aFK.nd
  refine ⟨_,(aA (aW (i:=1) nd rfl (Or.inl rfl) (aS GP hr1 rfl mP kP bP .nil bY (aE (pv 0) aB)))
   (aA (lH (aS GW hr6 rfl mW kW bW .nil bY (aE (pv 1) aB)) (iY rfl (cH (bG (i:=2) nd rfl (Or.inr rfl)) (cH (bG (i:=3) nd rfl (Or.inl rfl)) gL))))
   (aA (aW (i:=4) nd rfl (Or.inr rfl) (jF (N:=["_law_row_here"]) (src:=[none]) (osc:=aM qZ) (oN:=["_law_script","_law_pen_here","_law_roll","_law_houses","_law_names_here","_law_first","_law_k","_law_others","_law_thing"]) ⟨by rfl,by decide,by decide,by decide,rfl,by rfl⟩ (gY (aX bJ (pv 2) aG (fun _ _=>rfl))) (fun cl s H fp pins C=>⟨bG (i:=0) (show (["_law_row_here"]:List Str).Nodup by decide) rfl (Or.inl rfl),gP,aX (r:=wF K) bJ (pv 0) aG (fun _ _=>rfl)⟩)))
   (aA (aW (i:=5) nd rfl (Or.inl rfl) (aS GA hr1 rfl mA kA bA .nil bY (aE (pv 1) (aE (aZ c8 (bF cG (by rfl) hlen PySem.boot_len (aE (pv 4) aB)) aG) aB))))
   (aA (f7 PassesOwn.never rfl (eV rfl hrng (aE (bF cG (by rfl) hlen PySem.boot_len (aE (pv 4) aB)) aB)) (g:=cY 6) (bG (i:=6) nd rfl (Or.inl rfl))
   (aQ (cU (wA (gJ (aS GX hr rfl mX kX bX .nil bY (aE (pv 2) (aE (aZ f8 (aZ c8 (pv 5) (aZ jM aG (pv 6))) (bF cG (by rfl) hlen PySem.boot_len (aE (pv 4) aB))) aB))))) (aQ (bE uJ)) bH)))
   (aA (kJ (i:=7) (N:=["_law_name","_law_names_here"]) (src:=[none,some 4]) (osc:=aM qZ) (oN:=["_law_script","_law_pen_here","_law_roll","_law_houses","_law_names_here","_law_first","_law_k","_law_others","_law_thing"]) ⟨by rfl,by decide,by decide,by decide,rfl,by rfl⟩ nd rfl (nY (aZ wJ (pv 3) (dA (aE aV (aE aV aB))))) (fun cl s H fp pins C=>⟨bG (i:=0) (show (["_law_name","_law_names_here"]:List Str).Nodup by decide) rfl (Or.inl rfl),aEO (bV (r:=rIn K true) gN (pv 0) (pv 1) (by with_unfolding_all rfl)),pv 0⟩))
   (aA (f7 PassesOwn.never rfl (nY (aZ wJ (pv 7) (dA (aE rO (aE uJ (aE aG (aE aV (aE aV (aE (dA (aE aV aB)) (aE (c0 (aE aV aB)) (aE i6 aB))))))))))) (g:=cY 8) (bG (i:=8) nd rfl (Or.inr rfl))
   (aQ (cU (bV (wK hu) (aA9 (c:=cL) (T:=T3) (fs:=["_law_roll","_law_thing"]) (cl:=[("_law_thing",s.heap.objs.size + 3),("_law_roll",s.heap.objs.size + 2)]) GT hr10 rfl mT kT bT rfl hC hB ?hc ?hhas (fun _=>rfl) rfl rfl rfl) (dA (aE aV (aE aV aB))) (cM _)) (aQ (bE uJ)) bH)))
   (aQ (bE (bF (xV rfl) (by rfl) hall (by kernel_rfl) (aE (jF (N:=["_law_at","_law_roll"]) (src:=[none,some 2]) (osc:=aM qZ) (oN:=["_law_script","_law_pen_here","_law_roll","_law_houses","_law_names_here","_law_first","_law_k","_law_others","_law_thing"]) ⟨by rfl,by decide,by decide,by decide,rfl,by rfl⟩ (eV rfl hrng (aE (bF cG (by rfl) hlen PySem.boot_len (aE (pv 4) aB)) aB)) (fun cl s H fp pins C=>⟨bG (i:=0) (show (["_law_at","_law_roll"]:List Str).Nodup by decide) rfl (Or.inl rfl),gP,aS GX hr rfl mX kX bX .nil bY (aE (pv 1) (aE (pv 0) aB))⟩)) aB))))))))))),?_⟩
  case hc=>
   intro y b h
   rw [List.lookup_cons] at h
   cases e1:y == ("_law_thing":Str) with
   | true=>
    rw [e1] at h
    cases h
    rw [beq_iff_eq.mp e1]
    exact ⟨rfl,by simp⟩
   | false=>
    rw [e1] at h
    dsimp only at h
    rw [List.lookup_cons] at h
    cases e2:y == ("_law_roll":Str) with
    | true=>
     rw [e2] at h
     cases h
     rw [beq_iff_eq.mp e2]
     exact ⟨rfl,by simp⟩
    | false=>
     rw [e2] at h
     cases h
  case hhas=>
   intro y h
   simp only [List.mem_cons,List.not_mem_nil,or_false] at h
   rcases h with rfl | rfl
   ·exact ⟨_,rfl⟩
   ·exact ⟨_,rfl⟩
  refine ⟨_,rfl,sc,ns,rfl,hS,hln,fun p c H1 hp1 S1 _=>?_⟩
  refine ⟨_,rfl,p,c,ns,0,rfl,hp1,by omega,fun t r rw lh ws hs us a3 H3 ht roll hnn hlh nmh hh2 hh44 la3 ua3 hp3 kp3=>?_⟩
  have W3:Wld T T2 T3 H3 r rw ws us:=⟨roll,j9 (tb.same S1) hp1 kp3,j9 (g2.same S1) hp1 kp3,j9 (g3.same S1) hp1 kp3⟩
  refine ⟨t,_,rfl,SqT.of ht,rfl,_,_,rfl,_,_,rfl,rfl,?_⟩
  obtain ⟨lay,xs,ds,ys,h1,h2,h3,h4,h5,h6,h7,h8,h9⟩:=roll.ex
  have hl:=h8.len
  refine ⟨_,rfl,r,_,1,_,rfl,rfl,SqT.of h1,rfl,rw,rfl,⟨_,SqT.of h7⟩,?_⟩
  refine jU (K:=K) (xs:=ys) (fun i vs' σ' H'=>∃ (o1:Option V),σ'=[o1]∧vs'=((us.take i).map cE.name).map V.str∧H'=H3) ⟨none,rfl,by simp,rfl⟩ (aH (by omega)) (fun i vs' σ H p=>by obtain ⟨_,_,e,_⟩:=p;rw [e,List.length_map,List.length_map,List.length_take];omega) (fun i _ σ H' p=>by obtain ⟨_,_,_,e⟩:=p;rw [e];exact SqT.of h7) ?_ ?_
  ·rintro i v vs' σ H' hv ⟨o1,rfl,rfl,rfl⟩
   obtain ⟨u,hu',rdv,ok⟩:=h8.at' i v hv
   obtain ⟨tr,b8,rfl,htr,hrest⟩:=cE.Ok.tup (fs:=ws) rdv
   have a1:atI (V.str u.word :: .str u.name :: .int u.day :: b8) 1=some (.str u.name):=by
    unfold atI ixN
    rw [if_pos (by decide),if_pos (by simp only [List.length_cons];omega)]
    rfl
   dsimp only [cY]
   refine fZ ?_
   refine ⟨_,rfl,tr,_,1,_,rfl,rfl,SqT.of htr,a1,_,rfl,?_,rfl⟩
   rw [List.take_add_one,hu']
   simp
  rintro vs' σ H' ⟨o1,rfl,rfl,rfl⟩ D hD
  have eus:us.take ys.length=us:=by rw [hl];exact List.take_length
  rw [eus]
  have sD:=aU.new (o:=.lst ((us.map cE.name).map V.str)) hD
  have W4:=W3.same sD
  have hp4:=hp3.same sD
  have eD:upd H' D (.lst ((us.map cE.name).map V.str)) D=some (.lst ((us.map cE.name).map V.str)):=aF
  have elh:=sD _ _ hlh
  generalize upd H' D (.lst ((us.map cE.name).map V.str))=H4 at W4 hp4 eD elh ⊢
  have hlen':((us.map cE.name).map V.str).length=us.length:=by simp
  refine ⟨_,rfl,_,rfl,D,_,rfl,.inl (SqL.of eD),_,_,rfl,rfl,p,c,ns,a3,_,rfl,hp4,by omega,by rw [hlen'];omega,(by rw [hlen'];exact Int.lt_of_le_of_lt (show (us.length:Int) + 1≤41 by omega) (by decide)),fun r0 a5 H5 r00 r01 la5 ua5 hp5 kp5=>?_⟩
  have W5:Wld T T2 T3 H5 r rw ws us:=⟨W4.roll.on (fun q xs e=>kp5 _ _ e (by obtain ⟨z,_,e'⟩:=hp4.ob;exact dS e e' (fun z=>nomatch z))),j9 W4.t hp4 kp5,j9 W4.t2 hp4 kp5,j9 W4.t3 hp4 kp5⟩
  have eD5:=bU eD hp4 kp5
  have elh5:=bU elh hp4 kp5
  clear hp5 kp5 hp4 hp3 kp3
  refine ⟨_,rfl,D,_,rfl,.inl (SqL.of eD5),_,rfl,?_⟩
  refine ⟨by rw [hlen'];omega,by rw [hlen'];omega,?_⟩
  rw [show ((((us.map cE.name).map V.str).length:Nat):Int).toNat=us.length by rw [hlen'];omega]
  refine gZ (n:=us.length) (fun i σ H'=>∃ (o6:Option V),σ=[some (.ref sc),some (.ref p),some (.ref r),some (.ref lh),some (.ref D),some (.int r0),o6,none,none]∧cZ [T,T2,T3] H5 H'∧Wld T T2 T3 H' r rw ws us) ⟨none,rfl,cZ.refl _,W5⟩ ?_ ?_
  ·rintro i σ H6 hi ⟨o6,rfl,K6,W6⟩
   dsimp only [cY]
   obtain ⟨m,hm⟩:∃ m:Nat,(r0 + 7 * (0 + (i:Int))) % (us.length:Int)=m:=⟨((r0 + 7 * (0 + (i:Int))) % (us.length:Int)).toNat,(Int.toNat_of_nonneg (Int.emod_nonneg _ (by omega))).symm⟩
   have hm2:m < us.length:=by
    have:=Int.emod_lt_of_pos (r0 + 7 * (0 + (i:Int))) (show (0:Int) < us.length by omega)
    omega
   obtain ⟨u,hu'⟩:∃ u,us[m]?=some u:=⟨_,List.getElem?_eq_getElem hm2⟩
   have eD6:=W5.keep K6 eD5 (fun _ z=>nomatch z)
   refine ⟨_,rfl,_,rfl,_,rfl,_,_,rfl,rfl,.inl ⟨by decide,by decide⟩,_,_,rfl,rfl,_,rfl,D,_,rfl,.inl (SqL.of eD6),_,_,rfl,rfl,(by rw [hlen'];omega),?_⟩
   refine ⟨r,rw,ws,us,m,u,(by show [V.ref r,V.int ((r0 + 7 * (0 + (i:Int))) % ((((us.map cE.name).map V.str).length:Nat):Int))] ++ []=_;rw [hlen',hm];rfl),W6.roll,hnn,W6.t,W6.t2,hu',fun H7 K7 t7 t27=>⟨_,rfl,?_⟩⟩
   obtain ⟨K8,W8⟩:=W6.right n13 n23 K7 t7 t27
   refine dP ?_
   exact ⟨_,rfl,K6.trans K8,W8⟩
  rintro σ H6 ⟨o6,rfl,K6,W6⟩
  have eD6:=W5.keep K6 eD5 (fun _ z=>nomatch z)
  have elh6:=W5.keep K6 elh5 (fun _ z=>nomatch z)
  clear K6 W5 eD5 elh5 W4 W3
  have h80:hs.length≤44:=hh44
  refine ⟨_,rfl,aH (by show 2≤1000000;decide),fun L7 hL7=>?_⟩
  have s7:=aU.new (o:=.lst [V.str "a",.str "zzzzzzzz"]) hL7
  refine ⟨lh,L7,_,_,rfl,rfl,s7 _ _ elh6,aF,aH (by simp;omega),fun L8 hL8=>?_⟩
  have s8:=aU.new (o:=.lst (hs.map V.str ++ [V.str "a",.str "zzzzzzzz"])) hL8
  have W8:=(W6.same s7).same s8
  have eD8:=s8 _ _ (s7 _ _ eD6)
  have e8:upd (upd H6 L7 (.lst [V.str "a",.str "zzzzzzzz"])) L8 (.lst (hs.map V.str ++ [V.str "a",.str "zzzzzzzz"])) L8=some (.lst ((hs ++ aHv).map V.str)):=by rw [aF];simp
  generalize upd (upd H6 L7 (.lst [V.str "a",.str "zzzzzzzz"])) L8 (.lst (hs.map V.str ++ [V.str "a",.str "zzzzzzzz"]))=H8 at W8 eD8 e8 ⊢
  clear s7 s8
  refine ⟨L8,rfl,⟨_,SqL.of e8⟩,?_⟩
  refine vA (K:=K) (xs:=(hs ++ aHv).map V.str) (fun i vs' σ' H'=>∃ (o1:Option V) (zs:List Str),σ'=[o1,some (.ref D)]∧vs'=zs.map V.str∧zs.length≤i∧(∀ z∈zs,z ∉ us.map cE.name)∧H'=H8) ⟨none,[],rfl,rfl,Nat.le_refl _,(fun z hz=>nomatch hz),rfl⟩ (aH (by simp;omega)) (fun i vs' σ H p=>by obtain ⟨_,zs,_,e,e2,_⟩:=p;rw [e,List.length_map];exact e2) (fun i _ σ H' p=>by obtain ⟨_,_,_,_,_,_,e⟩:=p;rw [e];exact SqL.of e8) ?_ ?_
  ·rintro i v vs' σ H' hv ⟨o1,zs,rfl,rfl,hzl,hz,rfl⟩
   rw [List.getElem?_map] at hv
   obtain ⟨z,hz',rfl⟩:=Option.map_eq_some_iff.mp hv
   dsimp only [cY]
   refine ⟨_,rfl,_,rfl,D,_,rfl,.inl (SqL.of eD8),rfl,dX _,_,rfl,?_⟩
   rw [if_pos rfl,wR]
   refine eG (fun g=>?_) fun g=>⟨_,zs,rfl,rfl,by omega,hz,rfl⟩
   refine ⟨_,rfl,_,zs ++ [z],rfl,by simp,by simp;omega,fun y hy=>?_,rfl⟩
   rcases List.mem_append.mp hy with hy | hy
   ·exact hz y hy
   ·rw [List.mem_singleton.mp hy]
    simpa using g
  rintro vs' σ H' ⟨o1,zs,rfl,rfl,hzl,hz,rfl⟩ L9 hL9
  rw [List.length_map] at hzl
  have hzl':zs.length≤46:=by simp at hzl;omega
  have s9:=aU.new (o:=.lst (zs.map V.str)) hL9
  refine ⟨_,rfl,aH (by show 1≤1000000;decide),fun La hLa=>?_⟩
  have sa:=aU.new (o:=.lst [V.str "a"]) hLa
  refine ⟨aH (by show 1≤1000000;decide),fun Lt hLt=>?_⟩
  have st:=aU.new (o:=.tup [V.str "a"]) hLt
  refine fun Ld hLd=>?_
  have sd:=aU.new (o:=.dK []) hLd
  refine ⟨aH (by show 8≤1000000;decide),fun Lo hLo=>?_⟩
  have so:=aU.new (o:=.lst [V.non,.bl true,.int 7,.str "",.str "A",.ref La,.ref Lt,.ref Ld]) hLo
  have S9:=((s9.trans sa).trans st).trans sd
  refine ⟨L9,Lo,_,_,rfl,rfl,so _ _ (sd _ _ (st _ _ (sa _ _ aF))),aF,aH (by simp;omega),fun Lc hLc=>?_⟩
  have sc':=aU.new (o:=.lst (zs.map V.str ++ [V.non,.bl true,.int 7,.str "",.str "A",.ref La,.ref Lt,.ref Ld])) hLc
  have Wc:=W8.same ((S9.trans so).trans sc')
  have eDc:=((S9.trans so).trans sc') _ _ eD8
  have hTh:∀ v∈zs.map V.str ++ [V.non,.bl true,.int 7,.str "",.str "A",.ref La,.ref Lt,.ref Ld],Thn (upd (upd (upd (upd (upd (upd H' L9 (.lst (zs.map V.str))) La (.lst [V.str "a"])) Lt (.tup [V.str "a"])) Ld (.dK [])) Lo (.lst [V.non,.bl true,.int 7,.str "",.str "A",.ref La,.ref Lt,.ref Ld])) Lc (.lst (zs.map V.str ++ [V.non,.bl true,.int 7,.str "",.str "A",.ref La,.ref Lt,.ref Ld]))) v∧∀ u∈us,v≠.str u.name:=fun v hv=>by
   have hbad:∀ z:Str,dE z=false→∀ u∈us,V.str z≠.str u.name:=fun z hz u hu' e=>by
    obtain ⟨j,hj⟩:=List.getElem?_of_mem hu'
    obtain ⟨y,hy⟩:∃ y,ys[j]?=some y:=⟨_,List.getElem?_eq_getElem (by have:=(List.getElem?_eq_some_iff.mp hj).1;omega)⟩
    obtain ⟨u',h10,_,h11⟩:=h8.at' j y hy
    rw [hj] at h10
    cases h10
    injection e with e
    rw [e,h11.nm] at hz
    cases hz
   rcases List.mem_append.mp hv with hv | hv
   ·obtain ⟨z,hz',rfl⟩:=List.mem_map.mp hv
    exact ⟨.str z,fun u hu' e=>hz z hz' (by injection e with e;rw [e];exact List.mem_map_of_mem hu')⟩
   ·simp only [List.mem_cons,List.not_mem_nil,or_false] at hv
    rcases hv with rfl | rfl | rfl | rfl | rfl | rfl | rfl | rfl
    ·exact ⟨.non,fun u _ e=>nomatch e⟩
    ·exact ⟨.bl _,fun u _ e=>nomatch e⟩
    ·exact ⟨.int _,fun u _ e=>nomatch e⟩
    ·exact ⟨.str _,hbad _ (by decide)⟩
    ·exact ⟨.str _,hbad _ (by decide)⟩
    ·exact ⟨.lst (sc' _ _ (so _ _ (sd _ _ (st _ _ aF)))),fun u _ e=>nomatch e⟩
    ·exact ⟨.tup (sc' _ _ (so _ _ (sd _ _ aF))),fun u _ e=>nomatch e⟩
    ·exact ⟨.dct (sc' _ _ (so _ _ aF)),fun u _ e=>nomatch e⟩
  have ec:upd (upd (upd (upd (upd (upd H' L9 (.lst (zs.map V.str))) La (.lst [V.str "a"])) Lt (.tup [V.str "a"])) Ld (.dK [])) Lo (.lst [V.non,.bl true,.int 7,.str "",.str "A",.ref La,.ref Lt,.ref Ld])) Lc (.lst (zs.map V.str ++ [V.non,.bl true,.int 7,.str "",.str "A",.ref La,.ref Lt,.ref Ld])) Lc=some (.lst (zs.map V.str ++ [V.non,.bl true,.int 7,.str "",.str "A",.ref La,.ref Lt,.ref Ld])):=aF
  generalize upd (upd (upd (upd (upd (upd H' L9 (.lst (zs.map V.str))) La (.lst [V.str "a"])) Lt (.tup [V.str "a"])) Ld (.dK [])) Lo (.lst [V.non,.bl true,.int 7,.str "",.str "A",.ref La,.ref Lt,.ref Ld])) Lc (.lst (zs.map V.str ++ [V.non,.bl true,.int 7,.str "",.str "A",.ref La,.ref Lt,.ref Ld]))=Hc at Wc eDc hTh ec ⊢
  generalize zs.map V.str ++ [V.non,.bl true,.int 7,.str "",.str "A",.ref La,.ref Lt,.ref Ld]=tg at hTh ec ⊢
  refine ⟨Lc,rfl,⟨_,SqL.of ec⟩,?_⟩
  refine rQ (K:=K) (xs:=tg) (fun i σ H'=>∃ (o8:Option V),σ=[some (.ref sc),some (.ref p),some (.ref r),some (.ref lh),some (.ref D),some (.int r0),o6,some (.ref L9),o8]∧cZ [T,T2,T3] Hc H'∧Wld T T2 T3 H' r rw ws us) ⟨none,rfl,cZ.refl _,Wc⟩ (fun i σ H' _ p=>by obtain ⟨_,_,kk,_⟩:=p;exact SqL.of (Wc.keep kk ec (fun _ z=>nomatch z))) ?_ ?_
  ·rintro i v σ Hi hv ⟨o8,rfl,Ki,Wi⟩
   dsimp only [cY]
   obtain ⟨th,hno⟩:=hTh v (List.mem_of_getElem? hv)
   obtain ⟨ps3,hT3,_⟩:=Wi.t3.ex
   refine ⟨[.ref r,v],.cons ⟨2,rfl,rfl,rfl⟩ (.cons ⟨8,rfl,rfl,rfl⟩ .nil),Wi.t3,fun f' c H1 L S1 g1 hc1 hf1 tk hn0=>?_⟩
   have tb1:=fH Wi.t S1 n13.symm hT3
   have t21:=fH Wi.t2 S1 n23.symm hT3
   have roll1:=Wi.roll.on (aEx S1 hT3)
   have th1:Thn H1 v:=(th.on fun a o e n=>Wc.keep Ki e n).on fun a o e n=>S1 _ _ (fun z=>by rw [z,hT3] at e;cases e;exact n _ rfl) e
   have sf:=zE hn0
   obtain ⟨ps1,hT1,_⟩:=tb1.ex
   refine ⟨f',DN,"NoName",rfl,⟨⟨_,_,_,_,_,c,sf _ _ hf1⟩,fun A' outer' s' hr' e0=>?_⟩,xN,tN,fun Lr H2 hLr S2 tb2 eLr=>?_⟩
   ·refine aA7 (k:=8) e0 hr' ⟨rfl,rfl,rfl,by decide,by decide,by decide,by decide⟩ ?hhas (sf _ _ hf1) (sf _ _ hc1) (fun _ _ _=>rfl) tk (fun b o e=>gQ e) (fun b o e z=>by have:=e0.frf b z;rw [gQ e] at this;cases this)
     (fun s''=>aS GI (hr'.deeper _) rfl mI kI bI .nil (yH fun _ _ _ h=>h) (aE (pv 0) (aE (pv 1) aB))) ?_
    ·intro y h
     have hm:=PySem.mem_of_lookup h
     have e:=(show ∀ y∈_,y.2=NameKind.free→y.1=("_law_roll":Str)∨y.1=("_law_thing":Str) from by decide) (y,NameKind.free) hm rfl
     rcases e with rfl | rfl
     ·exact ⟨_,rfl⟩
     ·exact ⟨_,rfl⟩
    ·rw [v7 hn0]
     exact ⟨_,rfl,_,rfl,r,rw,ws,us,v,rfl,roll1,hnn,tb1,th1,fun j u a b hu' e=>absurd e (hno u (List.mem_of_getElem? hu')),fun j u hu' e=>absurd e (hno u (List.mem_of_getElem? hu')),fun _ _=>⟨rfl,dD.refl _,tb1.same sf⟩⟩
   ·have hLn:L.lookup Lr=none:=by
     cases el:L.lookup Lr with
     | none=>rfl
     | some o=>rw [gQ el] at hLr;cases hLr
    have hTn:L.lookup T=none:=by
     cases el:L.lookup T with
     | none=>rfl
     | some o=>rw [hn0 _ _ el] at hT1;cases hT1
    have S3:=qS S2 hn0
    have tb3:Tb T _:=uD tb2 S2 hTn
    have e3:eI H2 L Lr=some (.lst [V.str "refused",.str "NoName"]):=by rw [cJ hLn];exact eLr
    have t33:dQ T3 aFq aBG (eI H2 L):=fH g1 S3 n13 hT1
    have t23:dQ T2 zF qT (eI H2 L):=fH t21 S3 n12.symm hT1
    refine ⟨aH (by show 2≤1000000;decide),fun L5 hL5=>?_⟩
    have s5:=aU.new (o:=.lst [V.str "refused",.str "NoName"]) hL5
    refine ⟨Lr,L5,_,_,rfl,rfl,SqL.of (s5 _ _ e3),SqL.of aF,dX ["refused","NoName"],dX ["refused","NoName"],_,rfl,?_⟩
    have ee:pK [V.str "refused",.str "NoName"] [V.str "refused",.str "NoName"]=true:=mQ ["refused","NoName"]
    have kk:cZ [T,T2,T3] Hi _:=cZ.same (fun b o n e=>S3 b o (fun z=>n (by simp [z])) (S1 b o (fun z=>n (by simp [z])) e)) s5
    have Wn:=Wi.step kk (tb3.same s5) (t23.same s5) (t33.same s5)
    rw [ee]
    refine dP ?_
    exact ⟨_,rfl,Ki.trans kk,Wn⟩
  ·rintro σ Hi ⟨o8,rfl,Ki,Wi⟩
   have eDi:=Wc.keep Ki eDc (fun _ z=>nomatch z)
   refine ⟨_,rfl,D,_,rfl,.inl (SqL.of eDi),_,rfl,by rw [hlen'];omega,by rw [hlen'];omega,?_⟩
   rw [show ((((us.map cE.name).map V.str).length:Nat):Int).toNat=us.length by rw [hlen'];omega]
   refine kQ (n:=us.length) (fun i vs' σ' H'=>∃ (o1:Option V),σ'=[o1,some (.ref r)]∧vs'=(List.replicate i true).map V.bl∧Wld T T2 T3 H' r rw ws us) ⟨none,rfl,rfl,Wi⟩ (aH (by omega)) (fun i vs' σ H p=>by obtain ⟨_,_,e,_⟩:=p;rw [e];simp) ?_ ?_
   ·rintro i vs' σ Hj hi ⟨o1,rfl,rfl,Wj⟩
    dsimp only [cY]
    obtain ⟨u,hu'⟩:∃ u,us[i]?=some u:=⟨_,List.getElem?_eq_getElem hi⟩
    refine fZ ?_
    refine ⟨_,rfl,_,rfl,r,rw,ws,us,i,u,(by rw [Int.zero_add];rfl),Wj.roll,hnn,Wj.t,Wj.t2,hu',fun H7 K7 t7 t27=>?_⟩
    obtain ⟨_,W7⟩:=Wj.right n13 n23 K7 t7 t27
    refine ⟨_,rfl,?_,W7⟩
    rw [List.replicate_succ',List.map_append]
    rfl
   ·rintro vs' σ Hj ⟨o1,rfl,rfl,Wj⟩ Dl hDl
    refine ⟨Dl,_,rfl,SqL.of aF,?_⟩
    rw [show (List.replicate us.length true).all id=true by simp]
    exact k _
end
end K36
namespace K36
open PySem L2
theorem all_mk {l:PySem.W.OpenLaw}{w:World}{K:PySem.W.Frag}{h:Heap}{mg:Str→Option Value}{fa:Addr} (X:K.In h) (G:h.Ns mainGlobals mg) (hfa:mg "law"=some (.ref fa))
  {fAc:Addr} {odAc anAc:Option Addr} {slAc:Array (Option Value)} {ocAc kVAc dcAc pmAc cdAc ctAc:Value} {fCu:Addr} {odCu anCu:Option Addr} {slCu:Array (Option Value)} {ocCu kVCu dcCu pmCu cdCu ctCu:Value} {fIn:Addr} {odIn anIn:Option Addr} {slIn:Array (Option Value)} {ocIn kVIn dcIn pmIn ctIn:Value} {fRf:Addr} {odRf anRf:Option Addr} {slRf:Array (Option Value)} {ocRf kVRf dcRf pmRf cdRf ctRf:Value} {fPa:Addr} {odPa anPa:Option Addr} {slPa:Array (Option Value)} {ocPa kVPa dcPa pmPa cdPa ctPa:Value} {fJo:Addr} {odJo anJo:Option Addr} {slJo:Array (Option Value)} {ocJo kVJo dcJo pmJo cdJo ctJo:Value} {fFo:Addr} {odFo anFo:Option Addr} {slFo:Array (Option Value)} {ocFo kVFo dcFo pmFo cdFo ctFo:Value} {fMe:Addr} {odMe anMe:Option Addr} {slMe:Array (Option Value)} {ocMe kVMe dcMe pmMe cdMe ctMe:Value} {fMn:Addr} {odMn anMn:Option Addr} {slMn:Array (Option Value)} {ocMn kVMn dcMn pmMn cdMn ctMn:Value} {fAl:Addr} {odAl anAl:Option Addr} {slAl:Array (Option Value)} {ocAl kVAl dcAl pmAl cdAl ctAl:Value} {fLo:Addr} {odLo anLo:Option Addr} {slLo:Array (Option Value)} {ocLo kVLo dcLo pmLo cdLo ctLo:Value} {fCa:Addr} {odCa anCa:Option Addr} {slCa:Array (Option Value)} {ocCa kVCa dcCa pmCa cdCa ctCa:Value} {fBe:Addr} {odBe anBe:Option Addr} {slBe:Array (Option Value)} {ocBe kVBe dcBe pmBe cdBe ctBe:Value} {fRc:Addr} {odRc anRc:Option Addr} {slRc:Array (Option Value)} {ocRc kVRc dcRc pmRc cdRc ctRc:Value} {fRg:Addr} {odRg anRg:Option Addr} {slRg:Array (Option Value)} {ocRg kVRg dcRg pmRg cdRg ctRg:Value} {fP:Addr} {odP anP:Option Addr} {slP:Array (Option Value)} {ocP kVP dcP pmP cdP ctP:Value} {fT:Addr} {odT anT:Option Addr} {slT:Array (Option Value)} {ocT kVT dcT pmT cdT ctT:Value} {fN:Addr} {odN anN:Option Addr} {slN:Array (Option Value)} {ocN kVN dcN pmN cdN ctN:Value} {fSo:Addr} {odSo anSo:Option Addr} {slSo:Array (Option Value)} {ocSo kVSo dcSo pmSo cdSo ctSo:Value} {fD:Addr} {odD anD:Option Addr} {slD:Array (Option Value)} {ocD kVD dcD pmD cdD ctD:Value} {fNu:Addr} {odNu anNu:Option Addr} {slNu:Array (Option Value)} {ocNu kVNu dcNu pmNu cdNu ctNu:Value} {fLO:Addr} {odLO anLO:Option Addr} {slLO:Array (Option Value)} {ocLO kVLO dcLO pmLO cdLO ctLO:Value} {fSm:Addr} {odSm anSm:Option Addr} {slSm:Array (Option Value)} {ocSm kVSm dcSm pmSm cdSm ctSm:Value} {fRo:Addr} {odRo anRo:Option Addr} {slRo:Array (Option Value)} {ocRo kVRo dcRo pmRo cdRo ctRo:Value} {fR:Addr} {odR anR:Option Addr} {slR:Array (Option Value)} {ocR kVR dcR pmR cdR ctR:Value} {fK:Addr} {odK anK:Option Addr} {slK:Array (Option Value)} {ocK kVK dcK pmK cdK ctK:Value} {fMr:Addr} {odMr anMr:Option Addr} {slMr:Array (Option Value)} {ocMr kVMr dcMr pmMr cdMr ctMr:Value} {fSr:Addr} {odSr anSr:Option Addr} {slSr:Array (Option Value)} {ocSr kVSr dcSr pmSr cdSr ctSr:Value} {fLR:Addr} {odLR anLR:Option Addr} {slLR:Array (Option Value)} {ocLR kVLR dcLR pmLR cdLR ctLR:Value} {fLM:Addr} {odLM anLM:Option Addr} {slLM:Array (Option Value)} {ocLM kVLM dcLM pmLM cdLM ctLM:Value} {fWo:Addr} {odWo anWo:Option Addr} {slWo:Array (Option Value)} {ocWo kVWo dcWo pmWo cdWo ctWo:Value} {fCs:Addr} {odCs anCs:Option Addr} {slCs:Array (Option Value)} {ocCs kVCs dcCs pmCs cdCs ctCs:Value} {fTo:Addr} {odTo anTo:Option Addr} {slTo:Array (Option Value)} {ocTo kVTo dcTo pmTo cdTo ctTo:Value} {fLg:Addr} {odLg anLg:Option Addr} {slLg:Array (Option Value)} {ocLg kVLg dcLg pmLg cdLg ctLg:Value} {fRi:Addr} {odRi anRi:Option Addr} {slRi:Array (Option Value)} {ocRi kVRi dcRi pmRi ctRi:Value} {fL:Addr} {odL anL:Option Addr} {slL:Array (Option Value)} {ocL kVL dcL pmL ctL:Value}
  {t_DEEDS:Addr} {eF:Nat} {xk0 xk1 xk2 xk3 xk4 xk5 xk6 xk7:Tok}
  {C fI:Addr} {odI anI:Option Addr} {slI:Array (Option Value)} {ocI kVI dcI pmI cdI ctI:Value} {TT T2 T3 qIn qRi qL:Addr} {cNoRow cNoRoll cNoName cTwice cTooMany cNoThen cNoMend cClash cNoBreach cNoField cNoInch cNoOrder cNoText cDykeError:Addr}
  (aC:PySem.W.nsIn K mainGlobals "Moment"=some (some (.ref C)))
  (aI:PySem.W.findIn K (.ref C) "__init__"=some (some (.ref fI))) (iI:PySem.W.isFn K (.ref fI)=true) (lI:K.lookup fI=some ⟨ocI,odI,.func (PySem.W.fnOf "__init__" "Moment.__init__" (cB vX) (bZ vX) (aM vX) .none kVI dcI pmI anI cdI ctI),slI⟩) (cI:PySem.W.codeIn K cdI "Moment.__init__"=true) (kI:PySem.W.keepIn K (.ref fI)=true)
  (pg:PySem.W.plainGet K C Str.empty=true) (hd:PySem.W.hasDictIn K C=true) (po:PySem.W.plainOver K C=true) (sa:PySem.W.findIn K (.ref C) "__setattr__"=some (some (.builtin "object.__setattr__"))) (mk:PySem.W.makesIn K C=true) (kc:PySem.W.keepIn K (.ref C)=true)
  (nR:PySem.W.findIn K (.ref C) "ranks"=some none) (nH:PySem.W.findIn K (.ref C) "holdings"=some none) (nA:PySem.W.findIn K (.ref C) "acres"=some none) (nI:PySem.W.findIn K (.ref C) "inches"=some none) (nM:PySem.W.findIn K (.ref C) "menders"=some none)
  (aNoRow:PySem.W.nsIn K mainGlobals "NoRow"=some (some (.ref cNoRow)))
  (aNoRoll:PySem.W.nsIn K mainGlobals "NoRoll"=some (some (.ref cNoRoll)))
  (aNoName:PySem.W.nsIn K mainGlobals "NoName"=some (some (.ref cNoName)))
  (aTwice:PySem.W.nsIn K mainGlobals "Twice"=some (some (.ref cTwice)))
  (aTooMany:PySem.W.nsIn K mainGlobals "TooMany"=some (some (.ref cTooMany)))
  (aNoThen:PySem.W.nsIn K mainGlobals "NoThen"=some (some (.ref cNoThen)))
  (aNoMend:PySem.W.nsIn K mainGlobals "NoMend"=some (some (.ref cNoMend)))
  (aClash:PySem.W.nsIn K mainGlobals "Clash"=some (some (.ref cClash)))
  (aNoBreach:PySem.W.nsIn K mainGlobals "NoBreach"=some (some (.ref cNoBreach)))
  (aNoField:PySem.W.nsIn K mainGlobals "NoField"=some (some (.ref cNoField)))
  (aNoInch:PySem.W.nsIn K mainGlobals "NoInch"=some (some (.ref cNoInch)))
  (aNoOrder:PySem.W.nsIn K mainGlobals "NoOrder"=some (some (.ref cNoOrder)))
  (aNoText:PySem.W.nsIn K mainGlobals "NoText"=some (some (.ref cNoText)))
  (aDykeError:PySem.W.nsIn K mainGlobals "DykeError"=some (some (.ref cDykeError)))
  (zxN:PySem.W.excIn K cNoName [.type "ValueError",.type "Exception",.type "BaseException",.type "object"] "ValueError.__new__"=true) (zxM:PySem.W.excIn K cNoMend [.type "ValueError",.type "Exception",.type "BaseException",.type "object"] "ValueError.__new__"=true) (zeN:PySem.W.exmOne K (.ref cNoName) (.ref cDykeError)=some true) (zeM:PySem.W.exmOne K (.ref cNoMend) (.ref cDykeError)=some true)
  (zfN:aCt K cNoName [cNoRow,cNoRoll,cNoName,cTwice,cTooMany,cNoThen,cNoMend] [false,false,true,false,false,false,false] [cClash,cNoBreach,cNoField,cNoInch,cNoOrder,cNoText]=true) (zfM:aCt K cNoMend [cNoRow,cNoRoll,cNoName,cTwice,cTooMany,cNoThen,cNoMend] [false,false,false,false,false,false,true] [cClash,cNoBreach,cNoField,cNoInch,cNoOrder,cNoText]=true) (h12:TT≠T2) (h13:T3≠TT) (h23:T3≠T2)
  (aAc:PySem.W.nsIn K mainGlobals "acres_in"=some (some (.ref fAc))) (lAc:K.lookup fAc=some ⟨ocAc,odAc,.func (PySem.W.fnOf "acres_in" "acres_in" (cB nJ) (bZ nJ) (aM nJ) .none kVAc dcAc pmAc anAc cdAc ctAc),slAc⟩) (cAc:PySem.W.codeIn K cdAc "acres_in"=true) (kAc:PySem.W.keepIn K (.ref fAc)=true)
  (aCu:PySem.W.nsIn K mainGlobals "cut"=some (some (.ref fCu))) (lCu:K.lookup fCu=some ⟨ocCu,odCu,.func (PySem.W.fnOf "cut" "cut" (cB aCc) (bZ aCc) (aM aCc) .none kVCu dcCu pmCu anCu cdCu ctCu),slCu⟩) (cCu:PySem.W.codeIn K cdCu "cut"=true) (kCu:PySem.W.keepIn K (.ref fCu)=true)
  (aIn:PySem.W.nsIn K mainGlobals "in_one"=some (some (.ref fIn))) (lIn:K.lookup fIn=some ⟨ocIn,odIn,.func (PySem.W.fnOf "in_one" "in_one" (cB pP) (bZ pP) (aM pP) .none kVIn dcIn pmIn anIn (.ref qIn) ctIn),slIn⟩) (cIn:PySem.W.codeIn K (.ref qIn) "in_one"=true) (kIn:PySem.W.keepIn K (.ref fIn)=true)
  (aRf:PySem.W.nsIn K mainGlobals "road_from"=some (some (.ref fRf))) (lRf:K.lookup fRf=some ⟨ocRf,odRf,.func (PySem.W.fnOf "road_from" "road_from" (cB iU) (bZ iU) (aM iU) .none kVRf dcRf pmRf anRf cdRf ctRf),slRf⟩) (cRf:PySem.W.codeIn K cdRf "road_from"=true) (kRf:PySem.W.keepIn K (.ref fRf)=true)
  (aPa:PySem.W.nsIn K mainGlobals "do_part"=some (some (.ref fPa))) (lPa:K.lookup fPa=some ⟨ocPa,odPa,.func (PySem.W.fnOf "do_part" "do_part" (cB jI) (bZ jI) (aM jI) .none kVPa dcPa pmPa anPa cdPa ctPa),slPa⟩) (cPa:PySem.W.codeIn K cdPa "do_part"=true) (kPa:PySem.W.keepIn K (.ref fPa)=true)
  (aJo:PySem.W.nsIn K mainGlobals "do_join"=some (some (.ref fJo))) (lJo:K.lookup fJo=some ⟨ocJo,odJo,.func (PySem.W.fnOf "do_join" "do_join" (cB jJ) (bZ jJ) (aM jJ) .none kVJo dcJo pmJo anJo cdJo ctJo),slJo⟩) (cJo:PySem.W.codeIn K cdJo "do_join"=true) (kJo:PySem.W.keepIn K (.ref fJo)=true)
  (aFo:PySem.W.nsIn K mainGlobals "do_forfeit"=some (some (.ref fFo))) (lFo:K.lookup fFo=some ⟨ocFo,odFo,.func (PySem.W.fnOf "do_forfeit" "do_forfeit" (cB hV) (bZ hV) (aM hV) .none kVFo dcFo pmFo anFo cdFo ctFo),slFo⟩) (cFo:PySem.W.codeIn K cdFo "do_forfeit"=true) (kFo:PySem.W.keepIn K (.ref fFo)=true)
  (aMe:PySem.W.nsIn K mainGlobals "do_measure"=some (some (.ref fMe))) (lMe:K.lookup fMe=some ⟨ocMe,odMe,.func (PySem.W.fnOf "do_measure" "do_measure" (cB hX) (bZ hX) (aM hX) .none kVMe dcMe pmMe anMe cdMe ctMe),slMe⟩) (cMe:PySem.W.codeIn K cdMe "do_measure"=true) (kMe:PySem.W.keepIn K (.ref fMe)=true)
  (aMn:PySem.W.nsIn K mainGlobals "do_mend"=some (some (.ref fMn))) (lMn:K.lookup fMn=some ⟨ocMn,odMn,.func (PySem.W.fnOf "do_mend" "do_mend" (cB l7) (bZ l7) (aM l7) .none kVMn dcMn pmMn anMn cdMn ctMn),slMn⟩) (cMn:PySem.W.codeIn K cdMn "do_mend"=true) (kMn:PySem.W.keepIn K (.ref fMn)=true)
  (aAl:PySem.W.nsIn K mainGlobals "do_alone"=some (some (.ref fAl))) (lAl:K.lookup fAl=some ⟨ocAl,odAl,.func (PySem.W.fnOf "do_alone" "do_alone" (cB jZ) (bZ jZ) (aM jZ) .none kVAl dcAl pmAl anAl cdAl ctAl),slAl⟩) (cAl:PySem.W.codeIn K cdAl "do_alone"=true) (kAl:PySem.W.keepIn K (.ref fAl)=true)
  (aLo:PySem.W.nsIn K mainGlobals "do_look"=some (some (.ref fLo))) (lLo:K.lookup fLo=some ⟨ocLo,odLo,.func (PySem.W.fnOf "do_look" "do_look" (cB l9) (bZ l9) (aM l9) .none kVLo dcLo pmLo anLo cdLo ctLo),slLo⟩) (cLo:PySem.W.codeIn K cdLo "do_look"=true) (kLo:PySem.W.keepIn K (.ref fLo)=true)
  (aCa:PySem.W.nsIn K mainGlobals "carry_out"=some (some (.ref fCa))) (lCa:K.lookup fCa=some ⟨ocCa,odCa,.func (PySem.W.fnOf "carry_out" "carry_out" (cB pQ) (bZ pQ) (aM pQ) .none kVCa dcCa pmCa anCa cdCa ctCa),slCa⟩) (cCa:PySem.W.codeIn K cdCa "carry_out"=true) (kCa:PySem.W.keepIn K (.ref fCa)=true)
  (aBe:PySem.W.nsIn K mainGlobals "moment_behind"=some (some (.ref fBe))) (lBe:K.lookup fBe=some ⟨ocBe,odBe,.func (PySem.W.fnOf "moment_behind" "moment_behind" (cB mE) (bZ mE) (aM mE) .none kVBe dcBe pmBe anBe cdBe ctBe),slBe⟩) (cBe:PySem.W.codeIn K cdBe "moment_behind"=true) (kBe:PySem.W.keepIn K (.ref fBe)=true)
  (aRc:PySem.W.nsIn K mainGlobals "row_called"=some (some (.ref fRc))) (lRc:K.lookup fRc=some ⟨ocRc,odRc,.func (PySem.W.fnOf "row_called" "row_called" (cB hZ) (bZ hZ) (aM hZ) .none kVRc dcRc pmRc anRc cdRc ctRc),slRc⟩) (cRc:PySem.W.codeIn K cdRc "row_called"=true) (kRc:PySem.W.keepIn K (.ref fRc)=true)
  (aRg:PySem.W.nsIn K mainGlobals "ring"=some (some (.ref fRg))) (lRg:K.lookup fRg=some ⟨ocRg,odRg,.func (PySem.W.fnOf "ring" "ring" (cB tP) (bZ tP) (aM tP) .none kVRg dcRg pmRg anRg cdRg ctRg),slRg⟩) (cRg:PySem.W.codeIn K cdRg "ring"=true) (kRg:PySem.W.keepIn K (.ref fRg)=true)
  (aP:PySem.W.nsIn K mainGlobals "_law_pen"=some (some (.ref fP))) (lP:K.lookup fP=some ⟨ocP,odP,.func (PySem.W.fnOf "_law_pen" "_law_pen" (cB aCd) (bZ aCd) (aM aCd) .none kVP dcP pmP anP cdP ctP),slP⟩) (cP:PySem.W.codeIn K cdP "_law_pen"=true) (kP:PySem.W.keepIn K (.ref fP)=true)
  (aT:PySem.W.nsIn K mainGlobals "_law_take"=some (some (.ref fT))) (lT:K.lookup fT=some ⟨ocT,odT,.func (PySem.W.fnOf "_law_take" "_law_take" (cB tK) (bZ tK) (aM tK) .none kVT dcT pmT anT cdT ctT),slT⟩) (cT:PySem.W.codeIn K cdT "_law_take"=true) (kT:PySem.W.keepIn K (.ref fT)=true)
  (aN:PySem.W.nsIn K mainGlobals "_law_names"=some (some (.ref fN))) (lN:K.lookup fN=some ⟨ocN,odN,.func (PySem.W.fnOf "_law_names" "_law_names" (cB nN) (bZ nN) (aM nN) .none kVN dcN pmN anN cdN ctN),slN⟩) (cN:PySem.W.codeIn K cdN "_law_names"=true) (kN:PySem.W.keepIn K (.ref fN)=true)
  (aSo:PySem.W.nsIn K mainGlobals "_law_sorts"=some (some (.ref fSo))) (lSo:K.lookup fSo=some ⟨ocSo,odSo,.func (PySem.W.fnOf "_law_sorts" "_law_sorts" (cB pR) (bZ pR) (aM pR) .none kVSo dcSo pmSo anSo cdSo ctSo),slSo⟩) (cSo:PySem.W.codeIn K cdSo "_law_sorts"=true) (kSo:PySem.W.keepIn K (.ref fSo)=true)
  (aD:PySem.W.nsIn K mainGlobals "_law_days"=some (some (.ref fD))) (lD:K.lookup fD=some ⟨ocD,odD,.func (PySem.W.fnOf "_law_days" "_law_days" (cB tL) (bZ tL) (aM tL) .none kVD dcD pmD anD cdD ctD),slD⟩) (cD:PySem.W.codeIn K cdD "_law_days"=true) (kD:PySem.W.keepIn K (.ref fD)=true)
  (aNu:PySem.W.nsIn K mainGlobals "_law_number"=some (some (.ref fNu))) (lNu:K.lookup fNu=some ⟨ocNu,odNu,.func (PySem.W.fnOf "_law_number" "_law_number" (cB mG) (bZ mG) (aM mG) .none kVNu dcNu pmNu anNu cdNu ctNu),slNu⟩) (cNu:PySem.W.codeIn K cdNu "_law_number"=true) (kNu:PySem.W.keepIn K (.ref fNu)=true)
  (aLO:PySem.W.nsIn K mainGlobals "_law_laying"=some (some (.ref fLO))) (lLO:K.lookup fLO=some ⟨ocLO,odLO,.func (PySem.W.fnOf "_law_laying" "_law_laying" (cB pS) (bZ pS) (aM pS) .none kVLO dcLO pmLO anLO cdLO ctLO),slLO⟩) (cLO:PySem.W.codeIn K cdLO "_law_laying"=true) (kLO:PySem.W.keepIn K (.ref fLO)=true)
  (aSm:PySem.W.nsIn K mainGlobals "_law_some"=some (some (.ref fSm))) (lSm:K.lookup fSm=some ⟨ocSm,odSm,.func (PySem.W.fnOf "_law_some" "_law_some" (cB tO) (bZ tO) (aM tO) .none kVSm dcSm pmSm anSm cdSm ctSm),slSm⟩) (cSm:PySem.W.codeIn K cdSm "_law_some"=true) (kSm:PySem.W.keepIn K (.ref fSm)=true)
  (aRo:PySem.W.nsIn K mainGlobals "_law_row_of"=some (some (.ref fRo))) (lRo:K.lookup fRo=some ⟨ocRo,odRo,.func (PySem.W.fnOf "_law_row_of" "_law_row_of" (cB nO) (bZ nO) (aM nO) .none kVRo dcRo pmRo anRo cdRo ctRo),slRo⟩) (cRo:PySem.W.codeIn K cdRo "_law_row_of"=true) (kRo:PySem.W.keepIn K (.ref fRo)=true)
  (aR:PySem.W.nsIn K mainGlobals "_law_row"=some (some (.ref fR))) (lR:K.lookup fR=some ⟨ocR,odR,.func (PySem.W.fnOf "_law_row" "_law_row" (cB aCe) (bZ aCe) (aM aCe) .none kVR dcR pmR anR cdR ctR),slR⟩) (cR:PySem.W.codeIn K cdR "_law_row"=true) (kR:PySem.W.keepIn K (.ref fR)=true)
  (aK:PySem.W.nsIn K mainGlobals "_law_place"=some (some (.ref fK))) (lK:K.lookup fK=some ⟨ocK,odK,.func (PySem.W.fnOf "_law_place" "_law_place" (cB pT) (bZ pT) (aM pT) .none kVK dcK pmK anK cdK ctK),slK⟩) (cK:PySem.W.codeIn K cdK "_law_place"=true) (kK:PySem.W.keepIn K (.ref fK)=true)
  (aMr:PySem.W.nsIn K mainGlobals "_law_mend_row"=some (some (.ref fMr))) (lMr:K.lookup fMr=some ⟨ocMr,odMr,.func (PySem.W.fnOf "_law_mend_row" "_law_mend_row" (cB j6) (bZ j6) (aM j6) .none kVMr dcMr pmMr anMr cdMr ctMr),slMr⟩) (cMr:PySem.W.codeIn K cdMr "_law_mend_row"=true) (kMr:PySem.W.keepIn K (.ref fMr)=true)
  (aSr:PySem.W.nsIn K mainGlobals "_law_some_rows"=some (some (.ref fSr))) (lSr:K.lookup fSr=some ⟨ocSr,odSr,.func (PySem.W.fnOf "_law_some_rows" "_law_some_rows" (cB iV) (bZ iV) (aM iV) .none kVSr dcSr pmSr anSr cdSr ctSr),slSr⟩) (cSr:PySem.W.codeIn K cdSr "_law_some_rows"=true) (kSr:PySem.W.keepIn K (.ref fSr)=true)
  (aLR:PySem.W.nsIn K mainGlobals "_law_road"=some (some (.ref fLR))) (lLR:K.lookup fLR=some ⟨ocLR,odLR,.func (PySem.W.fnOf "_law_road" "_law_road" (cB pV) (bZ pV) (aM pV) .none kVLR dcLR pmLR anLR cdLR ctLR),slLR⟩) (cLR:PySem.W.codeIn K cdLR "_law_road"=true) (kLR:PySem.W.keepIn K (.ref fLR)=true)
  (aLM:PySem.W.nsIn K mainGlobals "_law_menders"=some (some (.ref fLM))) (lLM:K.lookup fLM=some ⟨ocLM,odLM,.func (PySem.W.fnOf "_law_menders" "_law_menders" (cB iW) (bZ iW) (aM iW) .none kVLM dcLM pmLM anLM cdLM ctLM),slLM⟩) (cLM:PySem.W.codeIn K cdLM "_law_menders"=true) (kLM:PySem.W.keepIn K (.ref fLM)=true)
  (aWo:PySem.W.nsIn K mainGlobals "_law_world"=some (some (.ref fWo))) (lWo:K.lookup fWo=some ⟨ocWo,odWo,.func (PySem.W.fnOf "_law_world" "_law_world" (cB pU) (bZ pU) (aM pU) .none kVWo dcWo pmWo anWo cdWo ctWo),slWo⟩) (cWo:PySem.W.codeIn K cdWo "_law_world"=true) (kWo:PySem.W.keepIn K (.ref fWo)=true)
  (aCs:PySem.W.nsIn K mainGlobals "_law_class"=some (some (.ref fCs))) (lCs:K.lookup fCs=some ⟨ocCs,odCs,.func (PySem.W.fnOf "_law_class" "_law_class" (cB pW) (bZ pW) (aM pW) .none kVCs dcCs pmCs anCs cdCs ctCs),slCs⟩) (cCs:PySem.W.codeIn K cdCs "_law_class"=true) (kCs:PySem.W.keepIn K (.ref fCs)=true)
  (aTo:PySem.W.nsIn K mainGlobals "_law_told"=some (some (.ref fTo))) (lTo:K.lookup fTo=some ⟨ocTo,odTo,.func (PySem.W.fnOf "_law_told" "_law_told" (cB vJ) (bZ vJ) (aM vJ) .none kVTo dcTo pmTo anTo cdTo ctTo),slTo⟩) (cTo:PySem.W.codeIn K cdTo "_law_told"=true) (kTo:PySem.W.keepIn K (.ref fTo)=true)
  (aLg:PySem.W.nsIn K mainGlobals "_law_ring"=some (some (.ref fLg))) (lLg:K.lookup fLg=some ⟨ocLg,odLg,.func (PySem.W.fnOf "_law_ring" "_law_ring" (cB pX) (bZ pX) (aM pX) .none kVLg dcLg pmLg anLg cdLg ctLg),slLg⟩) (cLg:PySem.W.codeIn K cdLg "_law_ring"=true) (kLg:PySem.W.keepIn K (.ref fLg)=true)
  (aRi:PySem.W.nsIn K mainGlobals "_law_right"=some (some (.ref fRi))) (lRi:K.lookup fRi=some ⟨ocRi,odRi,.func (PySem.W.fnOf "_law_right" "_law_right" (cB pY) (bZ pY) (aM pY) .none kVRi dcRi pmRi anRi (.ref qRi) ctRi),slRi⟩) (cRi:PySem.W.codeIn K (.ref qRi) "_law_right"=true) (kRi:PySem.W.keepIn K (.ref fRi)=true)
  (aL:PySem.W.nsIn K mainGlobals "law"=some (some (.ref fL))) (lL:K.lookup fL=some ⟨ocL,odL,.func (PySem.W.fnOf "law" "law" (cB qZ) (bZ qZ) (aM qZ) .none kVL dcL pmL anL (.ref qL) ctL),slL⟩) (cL:PySem.W.codeIn K (.ref qL) "law"=true) (kL:PySem.W.keepIn K (.ref fL)=true)
  (z_len:PySem.W.nsIn K mainGlobals "len"=some none)
  (z_sum:PySem.W.nsIn K mainGlobals "sum"=some none)
  (z_max:PySem.W.nsIn K mainGlobals "max"=some none)
  (z_min:PySem.W.nsIn K mainGlobals "min"=some none)
  (z_tuple:PySem.W.nsIn K mainGlobals "tuple"=some none)
  (z_sorted:PySem.W.nsIn K mainGlobals "sorted"=some none)
  (z_any:PySem.W.nsIn K mainGlobals "any"=some none)
  (z_all:PySem.W.nsIn K mainGlobals "all"=some none)
  (z_abs:PySem.W.nsIn K mainGlobals "abs"=some none)
  (z_range:PySem.W.nsIn K mainGlobals "range"=some none)
  (z_int:PySem.W.nsIn K mainGlobals "int"=some none)
  (z_list:PySem.W.nsIn K mainGlobals "list"=some none)
  (z_isinstance:PySem.W.nsIn K mainGlobals "isinstance"=some none)
  (z_ValueError:PySem.W.nsIn K mainGlobals "ValueError"=some none)
  (q_DEEDS:PySem.W.nsIn K mainGlobals "DEEDS"=some (some (.ref t_DEEDS)))
  (lFm:K.lookup t_DEEDS=some { cls:=.type "dict",data:=.dict #[⟨PyData.keyHash w.params "part",.str "part" xk0,.ref fPa⟩,⟨PyData.keyHash w.params "join",.str "join" xk1,.ref fJo⟩,⟨PyData.keyHash w.params "forfeit",.str "forfeit" xk2,.ref fFo⟩,⟨PyData.keyHash w.params "measure",.str "measure" xk3,.ref fMe⟩,⟨PyData.keyHash w.params "mend",.str "mend" xk4,.ref fMn⟩,⟨PyData.keyHash w.params "alone",.str "alone" xk5,.ref fAl⟩,⟨PyData.keyHash w.params "breach",.str "breach" xk6,.ref fLo⟩,⟨PyData.keyHash w.params "view",.str "view" xk7,.ref fLo⟩] eF }) (hcI:PySem.W.codeHdIn K qIn TT=true) (hcR:PySem.W.codeHdIn K qRi T2=true) (hcL:PySem.W.codeHdIn K qL T3=true)
  :∃ fd:FuncData,(∀ (s:Shared) (v:Value),BindsTo s fd ⟨[v],[]⟩ [("_law_script",v)])∧∀ base:Heap,K.In base→base.Ns mainGlobals mg→pN mg base→cC l.prog w K mg base CX0 12 fa fd ["_law_script"] (aBI K TT T2 T3):=by
 have e:=hfa.symm.trans (PySem.W.mg_of X G aL)
 cases e
 have FAc:=cX (st:=nJ) lAc cAc kAc
 have mAc:=PySem.W.mg_of X G aAc
 have bAc:=FAc.binds (ps:=["pieces"]) fun _ _ _ _ _ _ us hl=>by obtain ⟨_,rfl⟩:=xA hl;rfl
 have FCu:=cX (st:=aCc) lCu cCu kCu
 have mCu:=PySem.W.mg_of X G aCu
 have bCu:=FCu.binds (ps:=["pieces","low","high"]) fun _ _ _ _ _ _ us hl=>by obtain ⟨_,_,_,rfl⟩:=aCw hl;rfl
 have FIn:=cX (st:=pP) lIn cIn kIn
 have mIn:=PySem.W.mg_of X G aIn
 have bIn:=FIn.binds (ps:=["ranks","pieces"]) fun _ _ _ _ _ _ us hl=>by obtain ⟨_,_,rfl⟩:=jP hl;rfl
 have FRf:=cX (st:=iU) lRf cRf kRf
 have mRf:=PySem.W.mg_of X G aRf
 have bRf:=FRf.binds (ps:=["menders","house"]) fun _ _ _ _ _ _ us hl=>by obtain ⟨_,_,rfl⟩:=jP hl;rfl
 have FPa:=cX (st:=jI) lPa cPa kPa
 have mPa:=PySem.W.mg_of X G aPa
 have bPa:=FPa.binds (ps:=["moment","row"]) fun _ _ _ _ _ _ us hl=>by obtain ⟨_,_,rfl⟩:=jP hl;rfl
 have FJo:=cX (st:=jJ) lJo cJo kJo
 have mJo:=PySem.W.mg_of X G aJo
 have bJo:=FJo.binds (ps:=["moment","row"]) fun _ _ _ _ _ _ us hl=>by obtain ⟨_,_,rfl⟩:=jP hl;rfl
 have FFo:=cX (st:=hV) lFo cFo kFo
 have mFo:=PySem.W.mg_of X G aFo
 have bFo:=FFo.binds (ps:=["moment","row"]) fun _ _ _ _ _ _ us hl=>by obtain ⟨_,_,rfl⟩:=jP hl;rfl
 have FMe:=cX (st:=hX) lMe cMe kMe
 have mMe:=PySem.W.mg_of X G aMe
 have bMe:=FMe.binds (ps:=["moment","row"]) fun _ _ _ _ _ _ us hl=>by obtain ⟨_,_,rfl⟩:=jP hl;rfl
 have FMn:=cX (st:=l7) lMn cMn kMn
 have mMn:=PySem.W.mg_of X G aMn
 have bMn:=FMn.binds (ps:=["moment","row"]) fun _ _ _ _ _ _ us hl=>by obtain ⟨_,_,rfl⟩:=jP hl;rfl
 have FAl:=cX (st:=jZ) lAl cAl kAl
 have mAl:=PySem.W.mg_of X G aAl
 have bAl:=FAl.binds (ps:=["moment","row"]) fun _ _ _ _ _ _ us hl=>by obtain ⟨_,_,rfl⟩:=jP hl;rfl
 have FLo:=cX (st:=l9) lLo cLo kLo
 have mLo:=PySem.W.mg_of X G aLo
 have bLo:=FLo.binds (ps:=["moment","row"]) fun _ _ _ _ _ _ us hl=>by obtain ⟨_,_,rfl⟩:=jP hl;rfl
 have FCa:=cX (st:=pQ) lCa cCa kCa
 have mCa:=PySem.W.mg_of X G aCa
 have bCa:=FCa.binds (ps:=["moment","row"]) fun _ _ _ _ _ _ us hl=>by obtain ⟨_,_,rfl⟩:=jP hl;rfl
 have FBe:=cX (st:=mE) lBe cBe kBe
 have mBe:=PySem.W.mg_of X G aBe
 have bBe:=FBe.binds (ps:=["roll","at"]) fun _ _ _ _ _ _ us hl=>by obtain ⟨_,_,rfl⟩:=jP hl;rfl
 have FRc:=cX (st:=hZ) lRc cRc kRc
 have mRc:=PySem.W.mg_of X G aRc
 have bRc:=FRc.binds (ps:=["roll","name"]) fun _ _ _ _ _ _ us hl=>by obtain ⟨_,_,rfl⟩:=jP hl;rfl
 have FRg:=cX (st:=tP) lRg cRg kRg
 have mRg:=PySem.W.mg_of X G aRg
 have bRg:=FRg.binds (ps:=["roll","name"]) fun _ _ _ _ _ _ us hl=>by obtain ⟨_,_,rfl⟩:=jP hl;rfl
 have FP:=cX (st:=aCd) lP cP kP
 have mP:=PySem.W.mg_of X G aP
 have bP:=FP.binds (ps:=["_law_script"]) fun _ _ _ _ _ _ us hl=>by obtain ⟨_,rfl⟩:=xA hl;rfl
 have FT:=cX (st:=tK) lT cT kT
 have mT:=PySem.W.mg_of X G aT
 have bT:=FT.binds (ps:=["_law_pen_here","_law_many"]) fun _ _ _ _ _ _ us hl=>by obtain ⟨_,_,rfl⟩:=jP hl;rfl
 have FN:=cX (st:=nN) lN cN kN
 have mN:=PySem.W.mg_of X G aN
 have bN:=FN.binds (ps:=["_law_pen_here","_law_many"]) fun _ _ _ _ _ _ us hl=>by obtain ⟨_,_,rfl⟩:=jP hl;rfl
 have FSo:=cX (st:=pR) lSo cSo kSo
 have mSo:=PySem.W.mg_of X G aSo
 have bSo:=FSo.binds (ps:=["_law_pen_here","_law_fields","_law_rows"]) fun _ _ _ _ _ _ us hl=>by obtain ⟨_,_,_,rfl⟩:=aCw hl;rfl
 have FD:=cX (st:=tL) lD cD kD
 have mD:=PySem.W.mg_of X G aD
 have bD:=FD.binds (ps:=["_law_pen_here","_law_many"]) fun _ _ _ _ _ _ us hl=>by obtain ⟨_,_,rfl⟩:=jP hl;rfl
 have FNu:=cX (st:=mG) lNu cNu kNu
 have mNu:=PySem.W.mg_of X G aNu
 have bNu:=FNu.binds (ps:=["_law_pen_here","_law_bottom","_law_most"]) fun _ _ _ _ _ _ us hl=>by obtain ⟨_,_,_,rfl⟩:=aCw hl;rfl
 have FLO:=cX (st:=pS) lLO cLO kLO
 have mLO:=PySem.W.mg_of X G aLO
 have bLO:=FLO.binds (ps:=["_law_pen_here","_law_fields","_law_houses"]) fun _ _ _ _ _ _ us hl=>by obtain ⟨_,_,_,rfl⟩:=aCw hl;rfl
 have FSm:=cX (st:=tO) lSm cSm kSm
 have mSm:=PySem.W.mg_of X G aSm
 have bSm:=FSm.binds (ps:=["_law_pen_here","_law_names_here","_law_many"]) fun _ _ _ _ _ _ us hl=>by obtain ⟨_,_,_,rfl⟩:=aCw hl;rfl
 have FRo:=cX (st:=nO) lRo cRo kRo
 have mRo:=PySem.W.mg_of X G aRo
 have bRo:=FRo.binds (ps:=["_law_pen_here","_law_word","_law_name","_law_day","_law_sorts_here"]) fun _ _ _ _ _ _ us hl=>by obtain ⟨_,_,_,_,_,rfl⟩:=aGF hl;rfl
 have FR:=cX (st:=aCe) lR cR kR
 have mR:=PySem.W.mg_of X G aR
 have bR:=FR.binds (ps:=["_law_pen_here","_law_name","_law_day","_law_sorts_here"]) fun _ _ _ _ _ _ us hl=>by obtain ⟨_,_,_,_,rfl⟩:=aGE hl;rfl
 have FK:=cX (st:=pT) lK cK kK
 have mK:=PySem.W.mg_of X G aK
 have bK:=FK.binds (ps:=["_law_row_here"]) fun _ _ _ _ _ _ us hl=>by obtain ⟨_,rfl⟩:=xA hl;rfl
 have FMr:=cX (st:=j6) lMr cMr kMr
 have mMr:=PySem.W.mg_of X G aMr
 have bMr:=FMr.binds (ps:=["_law_pen_here","_law_name","_law_day","_law_houses","_law_past"]) fun _ _ _ _ _ _ us hl=>by obtain ⟨_,_,_,_,_,rfl⟩:=aGF hl;rfl
 have FSr:=cX (st:=iV) lSr cSr kSr
 have mSr:=PySem.W.mg_of X G aSr
 have bSr:=FSr.binds (ps:=["_law_pen_here","_law_names_here","_law_sorts_here","_law_many"]) fun _ _ _ _ _ _ us hl=>by obtain ⟨_,_,_,_,rfl⟩:=aGE hl;rfl
 have FLR:=cX (st:=pV) lLR cLR kLR
 have mLR:=PySem.W.mg_of X G aLR
 have bLR:=FLR.binds (ps:=["_law_menders_here","_law_house"]) fun _ _ _ _ _ _ us hl=>by obtain ⟨_,_,rfl⟩:=jP hl;rfl
 have FLM:=cX (st:=iW) lLM cLM kLM
 have mLM:=PySem.W.mg_of X G aLM
 have bLM:=FLM.binds (ps:=["_law_rows"]) fun _ _ _ _ _ _ us hl=>by obtain ⟨_,rfl⟩:=xA hl;rfl
 have FWo:=cX (st:=pU) lWo cWo kWo
 have mWo:=PySem.W.mg_of X G aWo
 have bWo:=FWo.binds (ps:=["_law_pen_here"]) fun _ _ _ _ _ _ us hl=>by obtain ⟨_,rfl⟩:=xA hl;rfl
 have FCs:=cX (st:=pW) lCs cCs kCs
 have mCs:=PySem.W.mg_of X G aCs
 have bCs:=FCs.binds (ps:=["_law_caught"]) fun _ _ _ _ _ _ us hl=>by obtain ⟨_,rfl⟩:=xA hl;rfl
 have FTo:=cX (st:=vJ) lTo cTo kTo
 have mTo:=PySem.W.mg_of X G aTo
 have bTo:=FTo.binds (ps:=["_law_ask"]) fun _ _ _ _ _ _ us hl=>by obtain ⟨_,rfl⟩:=xA hl;rfl
 have FLg:=cX (st:=pX) lLg cLg kLg
 have mLg:=PySem.W.mg_of X G aLg
 have bLg:=FLg.binds (ps:=["_law_rows","_law_at"]) fun _ _ _ _ _ _ us hl=>by obtain ⟨_,_,rfl⟩:=jP hl;rfl
 have FRi:=cX (st:=pY) lRi cRi kRi
 have mRi:=PySem.W.mg_of X G aRi
 have bRi:=FRi.binds (ps:=["_law_roll","_law_at"]) fun _ _ _ _ _ _ us hl=>by obtain ⟨_,_,rfl⟩:=jP hl;rfl
 have FL:=cX (st:=qZ) lL cL kL
 have mL:=PySem.W.mg_of X G aL
 have bL:=FL.binds (ps:=["_law_script"]) fun _ _ _ _ _ _ us hl=>by obtain ⟨_,rfl⟩:=xA hl;rfl
 have n_len:=PySem.W.mg_none_of X G z_len
 have n_sum:=PySem.W.mg_none_of X G z_sum
 have n_max:=PySem.W.mg_none_of X G z_max
 have n_min:=PySem.W.mg_none_of X G z_min
 have n_tuple:=PySem.W.mg_none_of X G z_tuple
 have n_sorted:=PySem.W.mg_none_of X G z_sorted
 have n_any:=PySem.W.mg_none_of X G z_any
 have n_all:=PySem.W.mg_none_of X G z_all
 have n_abs:=PySem.W.mg_none_of X G z_abs
 have n_range:=PySem.W.mg_none_of X G z_range
 have n_int:=PySem.W.mg_none_of X G z_int
 have n_list:=PySem.W.mg_none_of X G z_list
 have n_isinstance:=PySem.W.mg_none_of X G z_isinstance
 have n_ValueError:=PySem.W.mg_none_of X G z_ValueError
 have g_DEEDS:=PySem.W.mg_of X G q_DEEDS
 refine ⟨PySem.W.fnOf "law" "law" (cB qZ) (bZ qZ) (aM qZ) .none kVL dcL pmL anL (.ref qL) ctL,fun s v=>.of_eq rfl,fun base _ _ hB=>?_⟩
 have hc:MC K C:=⟨⟨pg,hd,po,sa⟩,nR,nH,nA,nI,nM⟩
 have mC:=PySem.W.mg_of X G aC
 have mNoRow:=PySem.W.mg_of X G aNoRow
 have mNoRoll:=PySem.W.mg_of X G aNoRoll
 have mNoName:=PySem.W.mg_of X G aNoName
 have mTwice:=PySem.W.mg_of X G aTwice
 have mTooMany:=PySem.W.mg_of X G aTooMany
 have mNoThen:=PySem.W.mg_of X G aNoThen
 have mNoMend:=PySem.W.mg_of X G aNoMend
 have mClash:=PySem.W.mg_of X G aClash
 have mNoBreach:=PySem.W.mg_of X G aNoBreach
 have mNoField:=PySem.W.mg_of X G aNoField
 have mNoInch:=PySem.W.mg_of X G aNoInch
 have mNoOrder:=PySem.W.mg_of X G aNoOrder
 have mNoText:=PySem.W.mg_of X G aNoText
 have mDykeError:=PySem.W.mg_of X G aDykeError
 have FI:=cX (st:=vX) lI cI kI
 have bI:=FI.binds (ps:=["self","laying"]) fun _ _ _ _ _ _ us hl=>by obtain ⟨_,_,rfl⟩:=jP hl;rfl
 have GI:=aFj (P:=l.prog) (w:=w) (base:=base) FI hc n_len
 have GAc:=aEb (P:=l.prog) (w:=w) (base:=base) FAc n_sum
 have GCu:=aGA (P:=l.prog) (w:=w) (base:=base) FCu n_max n_min n_tuple
 have GIn:=aEf (P:=l.prog) (w:=w) FIn rfl hcI hB n_sorted n_tuple
 have GRf:=yT (P:=l.prog) (w:=w) (mg:=mg) (base:=base) FRf
 have GPa:=aCo (T:=TT) FPa hc n_sum n_any GAc mAc kAc bAc GCu mCu kCu bCu
 have GJo:=aCp FJo hc n_all n_any GIn mIn kIn bIn
 have GFo:=wX (P:=l.prog) (w:=w) (mg:=mg) (base:=base) (T:=TT) FFo hc
 have GMe:=wZ (P:=l.prog) (w:=w) (mg:=mg) (base:=base) (T:=TT) FMe hc
 have GMn:=aCn (T:=TT) FMn hc GRf mRf kRf bRf
 have GAl:=aAt (P:=l.prog) (w:=w) (mg:=mg) (base:=base) (T:=TT) FAl hc
 have GLo:=aCm (P:=l.prog) (w:=w) (mg:=mg) (base:=base) (T:=TT) FLo hc
 have GCa:=aEj FCa (aFf lFm) g_DEEDS ⟨⟨_,GPa.mono (by decide),kPa,bPa⟩⟩ ⟨⟨_,GJo.mono (by decide),kJo,bJo⟩⟩ ⟨⟨_,GFo.mono (by decide),kFo,bFo⟩⟩ ⟨⟨_,GMe.mono (by decide),kMe,bMe⟩⟩ ⟨⟨_,GMn.mono (by decide),kMn,bMn⟩⟩ ⟨⟨_,GAl.mono (by decide),kAl,bAl⟩⟩ ⟨⟨_,GLo.mono (by decide),kLo,bLo⟩⟩
 have GBe:=aCq FBe ⟨mk,aI,iI,kc⟩ GI mC bI GCa mCa kCa bCa
 have GRc:=w9 (P:=l.prog) (w:=w) (base:=base) FRc mNoName zxN
 have GRg:=aFl FRg hc mNoMend zxM GRc mRc kRc bRc GBe mBe kBe bBe GRf mRf kRf bRf GCa mCa kCa bCa
 have GT:=aE7 (P:=l.prog) (w:=w) (base:=base) FT n_len n_abs
 have GN:=aDZ FN n_len n_range n_min GT mT kT bT
 have GSo:=aD5 FSo GT mT kT bT GN mN kN bN
 have GNu:=aGw FNu n_min GT mT kT bT
 have GD:=aFe FD n_range n_len n_int GT mT kT bT
 have GLO:=aD9 FLO n_len n_tuple GT mT kT bT GNu mNu kNu bNu
 have GSm:=aFd FSm n_list n_range n_sorted n_len GT mT kT bT
 have GRo:=aD6 FRo n_len n_tuple GT mT kT bT GNu mNu kNu bNu GSm mSm kSm bSm
 have GR:=aGz FR GT mT kT bT GRo mRo kRo bRo
 have GK:=aD7 (P:=l.prog) (w:=w) (mg:=mg) (base:=base) FK
 have GMr:=aAw FMr n_len GT mT kT bT
 have GSr:=y8 FSr n_range n_tuple n_sorted GT mT kT bT GD mD kD bD GR mR kR bR GMr mMr kMr bMr GK mK bK
 have GLR:=aEo (P:=l.prog) (w:=w) (mg:=mg) (base:=base) FLR
 have GLM:=y0 FLM GLR mLR kLR bLR
 have GWo:=aEr FWo GT mT kT bT GSo mSo kSo bSo GN mN kN bN GLO mLO kLO bLO GSr mSr kSr bSr
 have GCs:=aEu (P:=l.prog) (w:=w) (base:=base) FCs n_isinstance n_len n_ValueError mNoRow mNoRoll mNoName mTwice mTooMany mNoThen mNoMend mClash mNoBreach mNoField mNoInch mNoOrder mNoText
 have GTo:=aFn (T:=TT) FTo mDykeError GCs mCs kCs bCs
 have GLg:=aEw FLg GLR mLR kLR bLR GLM mLM kLM bLM
 have GRi:=aEy FRi rfl hcR hB h12 n_isinstance n_list n_range zeM (.inr ⟨rfl,zfM⟩) GRg mRg kRg bRg GTo mTo kTo bTo GLg mLg kLg bLg
 exact aGD FL rfl hcL hB h12 h13 h23 n_len n_range n_all zeN (.inl ⟨rfl,zfN⟩) GRg mRg kRg bRg GTo mTo kTo bTo (aGv FP n_list) mP kP bP GWo mWo kWo bWo GT mT kT bT GRi mRi kRi bRi
theorem walk {l:PySem.W.OpenLaw}{q:Program}{loose:List Str}{XP:(Str→Option Value)→Heap→Prop}{YP:World→Heap→Prop}{d:DefRec}{K:Params→PySem.W.Frag}{c T c2 T2 c3 T3:Addr} (hn:l.most=some 63) (hdf:d.params.defaults=[])
  (hY:∀ (w:World) (h:Heap),YP w h→(K w.params).In h∧∀ P∈[T,T2,T3],h.get? P=some (PySem.W.tabObj #[]))
  (F:∀ (w:World) (mg:Str→Option Value) (fa:Addr) (h:Heap),(K w.params).In h→h.Ns mainGlobals mg→mg d.name=some (.ref fa)→
   ∃ fd:FuncData,(∀ (s:Shared) (u:Value),BindsTo s fd ⟨[u],[]⟩ [("_law_script",u)])∧∀ base:Heap,(K w.params).In base→base.Ns mainGlobals mg→pN mg base→cC l.prog w (K w.params) mg base CX0 12 fa fd ["_law_script"] (aBI (K w.params) T T2 T3))
  (hC:∀ (w:World),(PySem.W.codeHdIn (K w.params) c T=true∧(K w.params).lookup T=none)∧(PySem.W.codeHdIn (K w.params) c2 T2=true∧(K w.params).lookup T2=none)∧(PySem.W.codeHdIn (K w.params) c3 T3=true∧(K w.params).lookup T3=none)):
  PySem.W.WalkO q loose XP YP l.row.toRowW d [] (fun f vs=>PySem.call f vs):=
 L2.walk_ofT (n:=63) (k:=12) (x:="_law_script") (cts:=[(c,T),(c2,T2),(c3,T3)]) (sp:=fun w=>aBI (K w.params) T T2 T3) hn (by decide) hdf ⟨rfl,by decide,by decide,rfl⟩ hY (fun w p hp=>by
  obtain ⟨h1,h2,h3⟩:=hC w
  simp only [List.mem_cons,List.not_mem_nil,or_false] at hp
  rcases hp with rfl | rfl | rfl
  ·exact h1
  ·exact h2
  ·exact h3) F fun w H a ns hl hT hS=>⟨a,ns,rfl,hS,hl,dQ.start (hT T (by simp)),dQ.start (hT T2 (by simp)),dQ.start (hT T3 (by simp)),fun _=>rfl⟩
end K36
end
namespace PySem.W.Fast
def tw8919446204767057540:=0
def tw6046140182082506688:=0
def tw17080591279721486636:=0
def tw552325717366026093:=0
def tw6556997105891661796:=0
def tw13925097029416462846:=0
def tw6940558805031984140:=0
def tw4511797334560479688:=0
def tw3330642674576593879:=0
def tw11396601144173390381:=0
def tw17764343217851900797:=0
def tw14403397314529464682:=0
def tw8261083251104744497:=0
def tw9197152235204162436:=0
def tw2255293843211678704:=0
def tw10239015436542942778:=0
def tw8882915190320656059:=0
def tw14258868238217408750:=0
def tw6795512078724848301:=0
def tw12791831249524813116:=0
def tw15765943203521633586:=0
def tw14237984855262320112:=0
def tw8258210166395100690:=0
def tw5294861725697577346:=0
def tw13114356875666106863:=0
def tw4703478890231224257:=0
def tw18200532668642053076:=0
def tw12687286359853591092:=0
def tw10782014291073450844:=0
def tw16281230300538785704:=0
def tw10573419932367996235:=0
def tw13643832058070360183:=0
def tw11655382608480256507:=0
def tw13932829543175605755:=0
def tw12026467619761803855:=0
def tw13685613750727408806:=0
def tw15985226185533738254:=0
def tw13955328724594562079:=0
def tw8267973983556913773:=0
def tw3513563852362386357:=0
def tw11751598847055654011:=0
def tw18356243948485374630:=0
def tw9089242381542779778:=0
def tw18427793306357176998:=0
def tw18399628410216532384:=0
def tw10643695488176509567:=0
def tw14272968040279509267:=0
def tw4590253968237245426:=0
def tw7555538895911463998:=0
def tw4523543389511724551:=0
def tw9618207541207440794:=0
def tw11228432676241606728:=0
def tw14516611725491956809:=0
def tw18216251347997186330:=0
def tw11817444806584313874:=0
def tw9425383156526601208:=0
def tw3309207995159545306:=0
def tw2361320479930716019:=0
def tw7656485549258681375:=0
def tw6867211532484104885:=0
def tw11144833551828617527:=0
def tw9281164484958976158:=0
def tw14575398626580171716:=0
def tw12708435215837606284:=0
def tw11986449164715736681:=0
def tw7921055123431081840:=0
def tw4731387941988380742:=0
def tw4917381753265103715:=0
def tw45364588574216502:=0
def tw9356660807080169179:=0
def tw11614553432252391041:=0
def tw13744257033378203933:=0
def tw17613641711082465721:=0
def tw6559502110997630844:=0
def tw5301890045616139412:=0
def tw293453641639554318:=0
def tw5103042762047595767:=0
def tw6832246010666789664:=0
def tw14716037915232175986:=0
def tw5240127632279559879:=0
def tw6436697829216066251:=0
def tw16178387989454387399:=0
def tw8129187910254049208:=0
def tw3704833678211356696:=0
def tw5459713748259068376:=0
def tw4103900033408532370:=0
def tw16132637276901572967:=0
def tw18150033590998568614:=0
def tw6663562796613243035:=0
def tw2264236369651196173:=0
def tw1317259324977095968:=0
def tw9094991598038503412:=0
def tw4634929938502859560:=0
def tw10185994987866494737:=0
def tw17301743859783489274:=0
def tw12233920796185138570:=0
def tw5765500513520695160:=0
def tw2479584849062677930:=0
def tw10251563974455305331:=0
def tw13422260153589714496:=0
def tw8385107197216895889:=0
def tw17195757642245993324:=0
def tw13478107248918716881:=0
def tw6324428575073158835:=0
def tw4112343249755545319:=0
def tw6821412683933854737:=0
def tw15325220846627503571:=0
def tw6196915044702921199:=0
def tw15363265786042102597:=0
def tw15529519590134074423:=0
def tw4881983796038482345:=0
def tw9058647956656690536:=0
def tw5320428839574258788:=0
def tw3666316581539098573:=0
def tw11809100355606014333:=0
def tw6211768265076917039:=0
def tw8516771111419098081:=0
def tw14170568059996518473:=0
def tw8463235896795585855:=0
def tw12462199931181904996:=0
def tw3049348098008730967:=0
def tw14717658893163577664:=0
def tw12115832078138184695:=0
def tw6118111362836934277:=0
def tw2320088422211260006:=0
def tw11189767515394427858:=0
def tw3948176226162919621:=0
def tw14027423660919247181:=0
def tw12954234836319516529:=0
def tw16923728778135469702:=0
def tw11521057123681067499:=0
def tw165768756922345667:=0
def tw3985990458382843078:=0
def tw82709109329012398:=0
def tw5888211791033292737:=0
def tw3127342809017084780:=0
def tw209737958750862096:=0
def tw3304472274198399558:=0
def tw7853208440659763113:=0
def tw9263959675887035848:=0
def tw1333978083232317702:=0
def tw15182696823918061621:=0
def tw2398811186173741283:=0
def tw11876382388301782002:=0
def tw13271299197081420736:=0
def tw9225591802307719635:=0
def tw13572664151328538521:=0
def tw2945674598086435357:=0
def tw5212788976166340263:=0
def tw11406850417476097854:=0
def tw6555281811742526378:=0
def tw12927861561444582533:=0
def tw8519361449793400711:=0
def tw5908908292114801298:=0
def tw16044748878117289064:=0
def tw774680951793752111:=0
def tw5307388063168599999:=0
def tw7700210559285535247:=0
def tw11078540055867877199:=0
def tw13419317777467223733:=0
def tw17038339632418176492:=0
def tw5507459700966310377:=0
def tw5488842690642701970:=0
def tw12520972308401029139:=0
def tw3219864572159467331:=0
def tw697368712493013042:=0
def tw5220418293994671033:=0
def tw12016258183906467419:=0
def tw8294644247694858521:=0
def tw5240446826722878825:=0
def tw16011684913261164357:=0
def tw17058558385166857720:=0
def tw15159510304150910021:=0
def tw13492321322495827267:=0
def tw17124963768037390759:=0
def tw15292325469230304865:=0
def tw3027335109059246692:=0
def tw4305633054005012495:=0
def tw18421286446740331944:=0
def tw328601678615232337:=0
def tw10760847789931728908:=0
def tw7019033305398159383:=0
def tw8109414814802178372:=0
def tw12709838729764206101:=0
def tw7383256212304359537:=0
def tw1935677440291145104:=0
def tw5307465751221407299:=0
def tw11645551613987664997:=0
def tw7433633679071376800:=0
def tw11084957308635188631:=0
def tw8361765553177302665:=0
def tw17583121783117006987:=0
def tw4094121840143265778:=0
def tw9395397732519153628:=0
def tw16651651390477112215:=0
def tw3865710717825529812:=0
def tw7411700020808502224:=0
def tw1572985145923061201:=0
def tw6978552648357564218:=0
def tw8539776198630271518:=0
def tw386097197300040240:=0
def tw9440282284784368429:=0
def tw506644491238350495:=0
def tw18247490080422103591:=0
def tw16780605197140498128:=0
def tw14341936103183387635:=0
def tw14089266347569125493:=0
def tw15497908739855805386:=0
def tw2565080245265406228:=0
def tw17276535441493214001:=0
def tw13591282031703365815:=0
def tw3759044850194041421:=0
def tw4709431961187721430:=0
def tw18104743863455843295:=0
def tw6216728244616848868:=0
def tw18124732636110539089:=0
def tw7129812142711826000:=0
def tw6379150980473466934:=0
def tw17967599990609075835:=0
def tw10450181274725336624:=0
def tw16301680261513312362:=0
def tw1093388447147941267:=0
def tw12547922553866320237:=0
def tw11822849284174010570:=0
def tw1863491664871480556:=0
def tw11940045125115438999:=0
def tw4771409537304429674:=0
def tw6849923921428058810:=0
def tw3360599232588735110:=0
def tw13263248586201033612:=0
def tw4809770987325400294:=0
def tw13906244825969464254:=0
def tw4905141621334844622:=0
def tw9377523050337218636:=0
def tw12624149628795048460:=0
def tw14751004165563159723:=0
def tw6221953086715517990:=0
def tw17646539670630689332:=0
def tw16173238700768849559:=0
def tw9930239336544493504:=0
def tw16946378043240347538:=0
def tw12481898368173407623:=0
def tw2306342153530250641:=0
def tw3544972826661712258:=0
def tw16306685431892349457:=0
def tw4476142636823314017:=0
def tw1880065579274052381:=0
def tw3961533886727895659:=0
def tw906708386053382552:=0
def tw5154179391482641845:=0
def tw10955565023538802739:=0
def tw12582753277365902852:=0
def tw16807028193748715149:=0
def tw1228089288980214366:=0
def tw12370224877622207693:=0
def tw311599827682020642:=0
def tw3888018640767278378:=0
def tw9586795855135534809:=0
def tw13931496842469504509:=0
def tw17626319963468577740:=0
def tw3250913970811152839:=0
def tw6591951410963850744:=0
def tw2068574935826861325:=0
def tw14613451342102135206:=0
def tw2001659265125727184:=0
def tw281839791125485133:=0
def tw3767656300482154551:=0
def tw16453822304490250322:=0
def tw16407540286977141701:=0
def tw15563167369890574531:=0
def tw2425675682784706734:=0
def tw15552436008210072906:=0
def tw4292634855836121580:=0
def tw6703238984455750690:=0
def tw5064077034734766610:=0
def tw6044757756230810603:=0
def tw2895283256354067588:=0
def tw10315706067617838397:=0
def tw7407183923909462754:=0
def tw17696136331547187326:=0
def tw598140555790089290:=0
def tw5145564120664125534:=0
def tw7266107499686194705:=0
def tw7761042496049356517:=0
def tw4869937101430336242:=0
def tw5220922681503341489:=0
def tw7950204843127432988:=0
def tw17308637406789453147:=0
def tw3119233666837834060:=0
def tw3657189680430624124:=0
def tw2422955285568539167:=0
def tw3212345388958828982:=0
def tw18222351651669065506:=0
def tw647533015003389739:=0
def tw907607274163274538:=0
def tw5233121795069835150:=0
def tw1743249027848848115:=0
def tw6065059835733068488:=0
def tw13326653337464115841:=0
def tw10413621352186481739:=0
def tw5161482615697387453:=0
def tw9088216314061786963:=0
def tw12543342517941929619:=0
def tw17015950297102155753:=0
def tw680410912939989587:=0
def tw1687850943802514779:=0
def tw3281054497702396767:=0
def tw14754947389191390292:=0
def tw11546120899901887367:=0
def tw327512630187137577:=0
def tw5952931894842628230:=0
def tw7264423779265787858:=0
def tw8135927545829666499:=0
def tw16735036953149735214:=0
def tw6317166329042255835:=0
def tw4061921266148982144:=0
def tw11664135369792956687:=0
def tw14395528386804052473:=0
def tw6511157134163210548:=0
def tw17538802974195569956:=0
def tw6137578900342608323:=0
def tw7551098000680901833:=0
def tw11308251741455112581:=0
def tw12794028785239586278:=0
def tw9517441003089603100:=0
def tw12828750090799610379:=0
def tw6783294339511100794:=0
def tw9038624086312505003:=0
def tw1071369284602838502:=0
def tw8465510442359620468:=0
def tw3001076860750569382:=0
def tw14236220293774685617:=0
def tw17254409952916035852:=0
def tw13729187408452796044:=0
def tw14885265147499125445:=0
def tw3266904846480632870:=0
def tw9817129960052627861:=0
def tw5239900866307058727:=0
def tw12142031498364201020:=0
def tw16720660074887799498:=0
def tw11874851062110323534:=0
def tw2567864919791899197:=0
def tw5693543707564775436:=0
def tw3867108562627982882:=0
def tw988507852258296122:=0
def tw12390183677487748820:=0
def tw15146502159007208283:=0
def tw10218905171244010916:=0
def tw2379740429274031539:=0
def tw10139688909861969914:=0
def tw5781012058429876767:=0
def tw13760176396745345599:=0
def tw3879116484264166589:=0
def tw3272548211291794343:=0
def tw11910994862965485161:=0
def tw2299890525820332053:=0
def tw9013200172989261366:=0
def tw15613548581128003090:=0
def tw17018187133638096593:=0
def tw15237950788520218316:=0
def tw12043296568484448142:=0
def tw8172195994458864283:=0
def tw11615974730290875995:=0
def tw3634409737755160508:=0
def tw16801854246671435977:=0
def tw18008622060659107973:=0
def tw7920972140326031130:=0
def tw5935672574623522582:=0
def tw14528860958715797434:=0
def tw6594169135164037580:=0
def tw1532042925488596517:=0
def tw5761837647373605984:=0
def tw9430578669321867962:=0
def tw14313193216569788897:=0
def tw2906409612441470966:=0
def tw1272798184474082723:=0
def tw15523789267577067331:=0
def tw13849374474481995718:=0
def tw15306940130823334520:=0
def tw9014138140413295003:=0
def tw363092195106822854:=0
def tw6665593120495477338:=0
def tw3206672860430072686:=0
def tw17991170327118443449:=0
def tw3649492239484532037:=0
def tw2306091897013647285:=0
def tw5299183472128783848:=0
def tw394757710371510922:=0
def tw6843584924839576770:=0
def tw3146752331819947485:=0
def tw6941995235802057186:=0
def tw786016861013655730:=0
def tw12702624170616675992:=0
def tw6814186040923082026:=0
def tw11250802191599263735:=0
def tw15357165828631402391:=0
def tw1922480208044233969:=0
def tw10613303507721654263:=0
def tw3288085693051022376:=0
def tw10857122729375142671:=0
def tw15694239506287585191:=0
def tw12087429104275131010:=0
def tw4022379226425893965:=0
def tw1833224368575332985:=0
def tw443184122874468994:=0
def tw96807323942831695:=0
def tw17139865267184538444:=0
def tw4975197851506285828:=0
def tw16238892333684901529:=0
def tw12218421024705966652:=0
def tw11133495264995369746:=0
def tw17361724920829661671:=0
def tw5167555149040519360:=0
def tw4994975056883129603:=0
def tw4523556751951003937:=0
def tw18429294468185395274:=0
def tw5304686653943231312:=0
def tw14201936431816516092:=0
def tw5415624615802205019:=0
def tw16046939921954980077:=0
def tw18287318280214515254:=0
def tw10590790886098295399:=0
def tw12296417751468318809:=0
def tw17538356481239614019:=0
def tw17123676274979933016:=0
def tw7461215632869097204:=0
def tw10026551041602100162:=0
def tw11242566971349271621:=0
def tw10632850138439035858:=0
def tw10983817054866977047:=0
def tw7730816361099757234:=0
def tw4060276497545687937:=0
def tw17354935319477978812:=0
def tw15534537893862230987:=0
def tw9151979103195110988:=0
def tw9174148391070254932:=0
def tw5983589863499460016:=0
def tw4361057008852815234:=0
def tw5399279243165082002:=0
def tw11557731940521913365:=0
def tw13620339081778234375:=0
def tw18404053493648312483:=0
def tw14215255311492069010:=0
def tw2504442200741743519:=0
def tw10499818983831092303:=0
def tw13664099381144483388:=0
def tw2136643660200929637:=0
def tw6637079938046353358:=0
def tw6928937551204507232:=0
def tw4497673172406798040:=0
def tw17986415722934062869:=0
def tw12338051180125577739:=0
def tw1018058499003956031:=0
def tw4002889876097894643:=0
def tw2250422829559767853:=0
def tw17637301565245716657:=0
def tw11534925095396480227:=0
def tw15112975892180258658:=0
def tw3050438651259516402:=0
def tw4449094794815518670:=0
def tw7962324431567834430:=0
def tw15491451535164598855:=0
def tw5949921488362402178:=0
def tw512047561360431066:=0
def tw6989369506491106067:=0
def tw8364183195919376647:=0
def tw3514469264398943489:=0
def tw11176574964784655249:=0
def tw5730855945690979596:=0
def tw5552841830703835801:=0
def tw4546005235239495243:=0
def tw16930706413219281227:=0
def tw9474719136923322147:=0
def tw12319105650248991911:=0
def tw12657725201581502088:=0
def tw9951190651038809865:=0
def tw9702063200459681850:=0
def tw155211312582156175:=0
def tw3283364605121320241:=0
def tw4222003644574939459:=0
def tw15011548428413909360:=0
def tw6734833280147242290:=0
def tw6734287827297849114:=0
def tw16326469710179614556:=0
def tw16606845529815305265:=0
def tw17564916244330559994:=0
def tw2429894959213670775:=0
def tw10945906312187580257:=0
def tw364966680243025427:=0
def tw802050245645915706:=0
def tw1929547720160466983:=0
def tw4090357984694592395:=0
def tw5163878973180362795:=0
def tw13891293419297969204:=0
def tw5723826140419576929:=0
def tw17990782425599964251:=0
def tw7530132518959302981:=0
def tw1742650233666821286:=0
def tw4180022465432669324:=0
def tw11158130694331938915:=0
def tw12295759441892861153:=0
def tw9031754455779583425:=0
def tw2221596209523516196:=0
def tw6132693484636706475:=0
def tw6055475266529910026:=0
def tw9906493206653105898:=0
def tw12972154933910897756:=0
def tw15908627058566949324:=0
def tw14632936543622060243:=0
def tw15153469015099967275:=0
def tw9976148203737906994:=0
def tw3236378722708469079:=0
def tw5768436762617509813:=0
def tw16434750405519821365:=0
def tw15281374021070405682:=0
def tw15222375591104560796:=0
def tw10790770036197988591:=0
def tw6888034768324685862:=0
def tw17739612888880885499:=0
def tw514868427295419865:=0
def tw15816758115980511012:=0
def tw14788543375888675893:=0
def tw2315649475227458217:=0
def tw7208759646096544876:=0
def tw9123442315595211258:=0
def tw3984264374026218887:=0
def tw4533398736083587762:=0
def tw9271605139145506992:=0
def tw16340769945112096959:=0
def tw4906334795230422562:=0
def tw15080300216185586879:=0
end PySem.W.Fast
open PySem PySem.W PyProof.Rows
set_option maxRecDepth 100000 in
set_option maxHeartbeats 0 in
theorem PySem.Challenge.cw_dykelengths_k36_rings_told_holds : PySem.Challenge.rw_dykelengths_k36_rings_told.Holds := by
 w_on;o_law;k_head;(case hw=>w_witness2)
 k_fill
 refine K36.walk (l:=PySem.Challenge.rw_dykelengths_k36_rings_told) (c:=229) (T:=225) (c2:=442) (T2:=438) (c3:=447) (T3:=445) rfl rfl (fun w h Y=>⟨PySem.W.km_in_of Y,fun P hP=>PySem.W.km_tabs_of Y P (by simp only [List.mem_cons,List.not_mem_nil,or_false] at hP ⊢;rcases hP with h | h | h <;> simp [h])⟩) ?F ?hC
 case F=>
  intro w mg fa h KX G hmg
  refine' K36.all_mk KX G hmg ?aC ?aI ?iI ?lI ?cI ?kI ?pg ?hd ?po ?sa ?mk ?kc ?nR ?nH ?nA ?nI ?nM ?aNoRow ?aNoRoll ?aNoName ?aTwice ?aTooMany ?aNoThen ?aNoMend ?aClash ?aNoBreach ?aNoField ?aNoInch ?aNoOrder ?aNoText ?aDykeError ?zxN ?zxM ?zeN ?zeM ?zfN ?zfM ?h12 ?h13 ?h23 ?aAc ?lAc ?cAc ?kAc ?aCu ?lCu ?cCu ?kCu ?aIn ?lIn ?cIn ?kIn ?aRf ?lRf ?cRf ?kRf ?aPa ?lPa ?cPa ?kPa ?aJo ?lJo ?cJo ?kJo ?aFo ?lFo ?cFo ?kFo ?aMe ?lMe ?cMe ?kMe ?aMn ?lMn ?cMn ?kMn ?aAl ?lAl ?cAl ?kAl ?aLo ?lLo ?cLo ?kLo ?aCa ?lCa ?cCa ?kCa ?aBe ?lBe ?cBe ?kBe ?aRc ?lRc ?cRc ?kRc ?aRg ?lRg ?cRg ?kRg ?aP ?lP ?cP ?kP ?aT ?lT ?cT ?kT ?aN ?lN ?cN ?kN ?aSo ?lSo ?cSo ?kSo ?aD ?lD ?cD ?kD ?aNu ?lNu ?cNu ?kNu ?aLO ?lLO ?cLO ?kLO ?aSm ?lSm ?cSm ?kSm ?aRo ?lRo ?cRo ?kRo ?aR ?lR ?cR ?kR ?aK ?lK ?cK ?kK ?aMr ?lMr ?cMr ?kMr ?aSr ?lSr ?cSr ?kSr ?aLR ?lLR ?cLR ?kLR ?aLM ?lLM ?cLM ?kLM ?aWo ?lWo ?cWo ?kWo ?aCs ?lCs ?cCs ?kCs ?aTo ?lTo ?cTo ?kTo ?aLg ?lLg ?cLg ?kLg ?aRi ?lRi ?cRi ?kRi ?aL ?lL ?cL ?kL ?z_len ?z_sum ?z_max ?z_min ?z_tuple ?z_sorted ?z_any ?z_all ?z_abs ?z_range ?z_int ?z_list ?z_isinstance ?z_ValueError ?q_DEEDS ?lFm ?hcI ?hcR ?hcL
  case aC|aI|iI|lI|cI|kI|pg|hd|po|sa|mk|kc|nR|nH|nA|nI|nM|aNoRow|aNoRoll|aNoName|aTwice|aTooMany|aNoThen|aNoMend|aClash|aNoBreach|aNoField|aNoInch|aNoOrder|aNoText|aDykeError=>k_is
  case zxN=>kernel_rfl
  case zxM=>kernel_rfl
  case zeN=>kernel_rfl
  case zeM=>kernel_rfl
  case zfN=>kernel_rfl
  case zfM=>kernel_rfl
  case h12=>decide
  case h13=>decide
  case h23=>decide
  case aAc|lAc|cAc|kAc|aCu|lCu|cCu|kCu|aIn|lIn|cIn|kIn|aRf|lRf|cRf|kRf|aPa|lPa|cPa|kPa|aJo|lJo|cJo|kJo|aFo|lFo|cFo|kFo|aMe|lMe|cMe|kMe|aMn|lMn|cMn|kMn|aAl|lAl|cAl|kAl|aLo|lLo|cLo|kLo|aCa|lCa|cCa|kCa|aBe|lBe|cBe|kBe|aRc|lRc|cRc|kRc|aRg|lRg|cRg|kRg|aP|lP|cP|kP|aT|lT|cT|kT|aN|lN|cN|kN|aSo|lSo|cSo|kSo|aD|lD|cD|kD|aNu|lNu|cNu|kNu|aLO|lLO|cLO|kLO|aSm|lSm|cSm|kSm|aRo|lRo|cRo|kRo|aR|lR|cR|kR|aK|lK|cK|kK|aMr|lMr|cMr|kMr|aSr|lSr|cSr|kSr|aLR|lLR|cLR|kLR|aLM|lLM|cLM|kLM|aWo|lWo|cWo|kWo|aCs|lCs|cCs|kCs|aTo|lTo|cTo|kTo|aLg|lLg|cLg|kLg|aRi|lRi|cRi|kRi|aL|lL|cL|kL|z_len|z_sum|z_max|z_min|z_tuple|z_sorted|z_any|z_all|z_abs|z_range|z_int|z_list|z_isinstance|z_ValueError|q_DEEDS|lFm=>k_is
  case hcI=>kernel_rfl
  case hcR=>kernel_rfl
  case hcL=>kernel_rfl
 case hC=>exact fun w=>⟨⟨by kernel_rfl,by kernel_rfl⟩,⟨by kernel_rfl,by kernel_rfl⟩,⟨by kernel_rfl,by kernel_rfl⟩⟩
