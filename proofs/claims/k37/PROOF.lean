import PyProof.Rows.All
import Wide.All
import OpenK.AllK
import Wide.FinOn
import Lean
import PyProof.EqAt
import PyProof.EqKinds
import PyProof.TupleCall
import KE.KIntText
import KE.KDictList
import PyProof.StationsW
import PyProof.ExcClass2
import OpenK.KRaise
import OpenK.KOwn
import PySem.Challenge.RW_dykelengths_k37_whole_never_a_ring
set_option linter.all false
set_option maxRecDepth 100000
set_option Elab.async false
set_option maxHeartbeats 16000000
noncomputable section
local macro_rules
|`(tactic|omega)=>`(tactic|lia)
local macro_rules
|`(tactic|decide)=>`(tactic|decide +kernel)
namespace L2
open PySem PySem.Spec PyProof.Rows
abbrev Key:=Sum Int Str
def keyIs:Key→Value→Bool
 | .inl k,v=>Value.isInt k v
 | .inr x,v=>Value.isStrOf x v
def keyH (w:World):Key→Int
 | .inl k=>hashInt k
 | .inr x=>hashStr w x
theorem keyIs_shape:∀ {k:Key}{v:Value},keyIs k v=true→(∃ i t,k=Sum.inl i∧v=Value.int i t)∨(∃ x t,k=Sum.inr x∧v=Value.str x t)
 | .inl i,v,h=>by
  obtain ⟨t,e⟩:=Value.isInt_shape (k:=i) (v:=v) h
  exact .inl ⟨i,t,rfl,e⟩
 | .inr x,v,h=>by
  obtain ⟨t,e⟩:=Value.isStrOf_shape (x:=x) (v:=v) h
  exact .inr ⟨x,t,rfl,e⟩
theorem keyIs_int (i:Int) (t:Tok):keyIs (.inl i) (.int i t)=true:=by simp [keyIs,Value.isInt]
theorem keyIs_str (x:Str) (t:Tok):keyIs (.inr x) (.str x t)=true:=by simp [keyIs,Value.isStrOf]
theorem key_ll (a b:Int):decide ((Sum.inl a:Key)=Sum.inl b)=(a == b):=by
 by_cases e:a=b
 ·subst e;simp
 ·have h:¬ (Sum.inl a:Key)=Sum.inl b:=fun q=>e (Sum.inl.inj q)
  rw [decide_eq_false h]
  exact (beq_eq_false_iff_ne.mpr e).symm
theorem key_rr (a b:Str):decide ((Sum.inr a:Key)=Sum.inr b)=decide (a=b):=by
 by_cases e:a=b
 ·subst e;simp
 ·have h:¬ (Sum.inr a:Key)=Sum.inr b:=fun q=>e (Sum.inr.inj q)
  rw [decide_eq_false h,decide_eq_false e]
theorem key_lr (a:Int) (b:Str):decide ((Sum.inl a:Key)=Sum.inr b)=false:=decide_eq_false (fun q=>nomatch q)
theorem key_rl (a:Str) (b:Int):decide ((Sum.inr a:Key)=Sum.inl b)=false:=decide_eq_false (fun q=>nomatch q)
def mixKind (prog:Program) (w:World):PySem.KeyKind prog w Key where
 is:=keyIs
 hash:=keyH w
 inj:=fun v a b ha hb=>by
  rcases keyIs_shape ha with ⟨i,t,rfl,rfl⟩ | ⟨x,t,rfl,rfl⟩
  ·rcases keyIs_shape hb with ⟨j,u,rfl,e⟩ | ⟨y,u,rfl,e⟩
   ·injection e with e1 _;rw [e1]
   ·exact nomatch e
  ·rcases keyIs_shape hb with ⟨j,u,rfl,e⟩ | ⟨y,u,rfl,e⟩
   ·exact nomatch e
   ·injection e with e1 _;rw [e1]
 byValue:=fun k v h=>by
  rcases keyIs_shape h with ⟨i,t,rfl,rfl⟩ | ⟨x,t,rfl,rfl⟩ <;> rfl
 pyHash:=fun hv h=>by
  rcases keyIs_shape hv with ⟨i,t,rfl,rfl⟩ | ⟨x,t,rfl,rfl⟩
  ·exact wpAny_pyHash_int h
  ·exact wpAny_pyHash_str h
 eqBool:=fun hu hv h=>by
  rcases keyIs_shape hu with ⟨i,t,rfl,rfl⟩ | ⟨x,t,rfl,rfl⟩
  ·rcases keyIs_shape hv with ⟨j,u,rfl,rfl⟩ | ⟨y,u,rfl,rfl⟩
   ·rw [key_ll] at h;exact wpAny_eqBool_int h
   ·rw [key_lr] at h;exact SeqAt.EqAt.int_str i t y u _ _ _ _ h
  ·rcases keyIs_shape hv with ⟨j,u,rfl,rfl⟩ | ⟨y,u,rfl,rfl⟩
   ·rw [key_rl] at h;exact SeqAt.EqAt.str_int x t j u _ _ _ _ h
   ·rw [key_rr] at h;exact wpAny_eqBool_str h
 «strs»:=fun k x t v h=>by
  rcases keyIs_shape h with ⟨i,u,rfl,e⟩ | ⟨y,u,rfl,e⟩
  ·exact nomatch e
  ·injection e with e1 _
   subst e1
   cases v <;> rfl
theorem mixKind_int (prog:Program) (w:World) (i:Int) (t:Tok):(mixKind prog w).is (.inl i) (.int i t)=true:=keyIs_int i t
theorem mixKind_str (prog:Program) (w:World) (x:Str) (t:Tok):(mixKind prog w).is (.inr x) (.str x t)=true:=keyIs_str x t
end L2
namespace L2
open PySem PySem.Spec PyProof.Rows
inductive V where
 | non | bl (b:Bool) | int (i:Int) | str (x:Str) | byt (b:Array UInt8) | flt (b:UInt64) | ref (a:Addr) | ty (n:String)
 deriving DecidableEq
def RelV:V→Value→Prop
 | .non,u=>u=Value.none
 | .bl b,u=>u=Value.bool b
 | .int i,u=>∃ t,u=Value.int i t
 | .str x,u=>∃ t,u=Value.str x t
 | .byt b,u=>∃ t,u=Value.bytes b t
 | .flt b,u=>∃ t,u=Value.float b t
 | .ref a,u=>u=Value.ref a
 | .ty n,u=>u=Value.type n
abbrev Vals:List V→List Value→Prop:=Paired RelV
theorem Vals.length {xs:List V}{us:List Value} (r:Vals xs us):xs.length=us.length:=Paired.length r
theorem Vals.get:∀ {xs:List V}{us:List Value}{i:Nat}{x:V},Vals xs us→xs[i]?=some x→∃ u,us[i]?=some u∧RelV x u
 | _,_,_,_,.nil,e=>by simp at e
 | _,_,0,_,.cons r _,e=>by simp at e;subst e;exact ⟨_,rfl,r⟩
 | _,_,i + 1,x,.cons _ t,e=>by
  obtain ⟨u,h1,h2⟩:=Vals.get (i:=i) (x:=x) t (by simpa using e)
  exact ⟨u,by simpa using h1,h2⟩
theorem Vals.set {x:V}{u:Value} (r:RelV x u):∀ {xs:List V}{us:List Value} (i:Nat),Vals xs us→Vals (xs.set i x) (us.set i u)
 | _,_,_,.nil=>.nil
 | _,_,0,.cons _ t=>.cons r t
 | _,_,i + 1,.cons q t=>.cons q (Vals.set r i t)
theorem Vals.append:∀ {xs ys:List V}{us ws:List Value},Vals xs us→Vals ys ws→Vals (xs ++ ys) (us ++ ws)
 | _,_,_,_,.nil,s=>s
 | _,_,_,_,.cons r t,s=>.cons r (Vals.append t s)
theorem Vals.take:∀ {xs:List V}{us:List Value} (n:Nat),Vals xs us→Vals (xs.take n) (us.take n)
 | _,_,0,_=>.nil
 | _,_,_ + 1,.nil=>.nil
 | _,_,n + 1,.cons r t=>.cons r (Vals.take n t)
theorem Vals.drop:∀ {xs:List V}{us:List Value} (n:Nat),Vals xs us→Vals (xs.drop n) (us.drop n)
 | _,_,0,r=>r
 | _,_,_ + 1,.nil=>.nil
 | _,_,n + 1,.cons _ t=>Vals.drop n t
def RelO:Option V→Option Value→Prop
 | some v,some u=>RelV v u
 | none,none=>True
 | _,_=>False
def KV {κ:Type}:List (κ×V)→List (κ×Value)→Prop:=Paired fun (p:κ×V) (q:κ×Value)=>p.1=q.1∧RelV p.2 q.2
def kV:Key→V
 | .inl i=>.int i
 | .inr x=>.str x
inductive HO where
  | lst (xs:List V)
  | tup (xs:List V)
  | dK (kvs:List (Key×V)) | dT (kvs:List (List Key×V))
  | set (S:Int→Bool) (n:Nat)
  | ins (C dx:Addr) (fs:List (Str×V))
  | own (x:Addr)
  | xd (fs:List (Str×V))
  | met (f x:Addr)
  | rng (lo hi:Int)
  | frz (o:Obj) (u:HO)
  | tbl (ps:Array Value)
  | ext (φ:Heap→Prop)
abbrev Hp:=Addr→Option HO
def upd (H:Hp) (a:Addr) (o:HO):Hp:=fun b=>if b=a then some o else H b
theorem upd_same {H:Hp}{a:Addr}{o:HO}:upd H a o a=some o:=by unfold upd;rw [if_pos rfl]
theorem upd_ne {H:Hp}{a b:Addr}{o:HO} (h:b≠a):upd H a o b=H b:=by unfold upd;rw [if_neg h]
theorem upd_upd {H:Hp}{a:Addr}{o u:HO}:upd (upd H a o) a u=upd H a u:=by
 funext b;unfold upd;split <;> rfl
theorem ne_of {H:Hp}{a b:Addr}{o u:HO} (h:H a=some o) (h':H b=some u) (d:o≠u):a≠b:=by
 intro e;subst e;rw [h] at h';exact d (Option.some.inj h')
theorem ne_of_none {H:Hp}{a b:Addr}{o:HO} (h:H a=some o) (h':H b=none):a≠b:=by
 intro e;subst e;rw [h] at h';cases h'
section
variable (P:Program) (w:World)
def IsTup0 (h:Heap) (a:Addr) (items:Array Value):Prop:=∃ o,h.get? a=some o∧(o.cls=.type "tuple"∧∃ n,o.data=.seq items n)∧o.dict=none
theorem IsTup0.tup {h:Heap}{a:Addr}{items:Array Value} (x:IsTup0 h a items):IsTup h a items:=by
 obtain ⟨o,e,c,_⟩:=x
 exact ⟨o,e,c⟩
instance IsTup0.coe {h:Heap} {a:Addr} {items:Array Value}:Coe (IsTup0 h a items) (IsTup h a items):=⟨IsTup0.tup⟩
theorem IsTup0.lt {h:Heap}{a:Addr}{items:Array Value} (x:IsTup0 h a items):a < h.objs.size:=x.tup.lt
def ObjOk (H:Hp) (h:Heap) (a:Addr):HO→Prop
 | .lst xs=>xs.length≤sizeLine∧∃ (its:List Value) (n:Nat),Vals xs its∧h.get? a=some { cls:=.type "list",data:=.seq its.toArray n }
 | .tup xs=>xs.length≤sizeLine∧∃ its:List Value,Vals xs its∧IsTup0 h a its.toArray
 | .dK kvs=>kvs.length≤sizeLine∧(a == sysModules)=false∧∃ vs,KV kvs vs∧h.DictOf (mixKind P w) a vs
 | .dT kvs=>kvs.length≤sizeLine∧(a == sysModules)=false∧∃ xs:List (List Key×Addr×Value),
   Paired (fun (p:List Key×V) (q:List Key×Addr×Value)=>p.1=q.1∧H q.2.1=some (.tup (p.1.map kV))∧RelV p.2 q.2.2) kvs xs∧
   ∃ o es ep,h.get? a=some o∧o.ExactDict∧o.data=.dict es ep∧es.toList=xs.map (entryOfKey (tupleKind (mixKind P w)))∧(xs.map (·.1)).Nodup
 | .set S n=>h.SetOf (intKind P w) a S n
 | .ins C dx fs=>H dx=some (.own a)∧fs.length≤1000∧dx≠a∧h.get? a=some (PySem.W.instObj C dx)∧
   ∃ mA,h.Ns1 dx mA∧(∀ f,RelO (fs.lookup f) (mA f))∧PySem.Within mA (fs.map (·.1))
 | .own _=>∃ o,h.get? a=some o
 | .xd fs=>∃ mA,h.Ns1 a mA∧∀ f,RelO (fs.lookup f) (mA f)
 | .rng lo hi=>∃ t u v,h.get? a=some { cls:=.type "range",data:=.fields #[.int lo t,.int hi u,.int 1 v] }
 | .frz o u=>h.get? a=some o∧ObjOk H h a u
 | .tbl ps=>h.get? a=some { cls:=.none,data:=.fields ps }
 | .met f x=>h.get? a=some (PySem.W.methodObj (.ref f) (.ref x))
 | .ext φ=>φ h∧(∃ o,h.get? a=some o)∧∀ h1 h2:Heap,φ h1→(∀ o,h1.get? a=some o→h2.get? a=some o)→φ h2
def HOk (H:Hp) (h:Heap):Prop:=∀ a o,H a=some o→ObjOk P w H h a o
end
section
variable {P:Program}{w:World}{H H':Hp}{h h':Heap}{a:Addr}{o:HO}
theorem ObjOk.lt (x:ObjOk P w H h a o):a < h.objs.size:=by
 cases o with
 | lst xs=>obtain ⟨_,_,_,_,e⟩:=x;exact Heap.lt_size e
 | tup xs=>obtain ⟨_,_,_,p⟩:=x;exact p.lt
 | dK kvs=>obtain ⟨_,_,_,_,o,_,_,e,_⟩:=x;exact Heap.lt_size e
 | dT kvs=>obtain ⟨_,_,_,_,o,_,_,e,_⟩:=x;exact Heap.lt_size e
 | set S n=>obtain ⟨o,_,_,_,e,_⟩:=x;exact Heap.lt_size e
 | ins C dx fs=>obtain ⟨_,_,_,e,_⟩:=x;exact Heap.lt_size e
 | own y=>obtain ⟨_,e⟩:=x;exact Heap.lt_size e
 | xd fs=>obtain ⟨_,⟨_,_,_,e,_⟩,_⟩:=x;exact Heap.lt_size e
 | rng lo hi=>obtain ⟨_,_,_,e⟩:=x;exact Heap.lt_size e
 | frz ob u=>obtain ⟨e,_⟩:=x;exact Heap.lt_size e
 | tbl ps=>exact Heap.lt_size (show h.get? a=some _ from x)
 | met f y=>exact Heap.lt_size (show h.get? a=some _ from x)
 | ext φ=>obtain ⟨_,⟨_,e⟩,_⟩:=x;exact Heap.lt_size e
theorem Paired.mapP {α β:Type}{F G:α→β→Prop}:∀ {l₁:List α}{l₂:List β},Paired F l₁ l₂→(∀ a b,F a b→G a b)→Paired G l₁ l₂
 | _,_,.nil,_=>.nil
 | _,_,.cons r t,f=>.cons (f _ _ r) (Paired.mapP t f)
theorem ObjOk.stay (x:ObjOk P w H h a o) (k:∀ b u,(b=a∨H b=some (.own a))→h.get? b=some u→h'.get? b=some u)
  (ho:∀ b,H b=some (.own a)→H' b=some (.own a)) (ht:∀ b xs,H b=some (.tup xs)→H' b=some (.tup xs)):ObjOk P w H' h' a o:=by
 induction o with
 | lst xs=>obtain ⟨z,its,n,r,e⟩:=x;exact ⟨z,its,n,r,k _ _ (.inl rfl) e⟩
 | tup xs=>obtain ⟨z,its,r,ob,e,c⟩:=x;exact ⟨z,its,r,ob,k _ _ (.inl rfl) e,c⟩
 | dK kvs=>obtain ⟨z,y,vs,r,ob,es,ep,e,c⟩:=x;exact ⟨z,y,vs,r,ob,es,ep,k _ _ (.inl rfl) e,c⟩
 | dT kvs=>
  obtain ⟨z,y,xs,r,ob,es,ep,e,c⟩:=x
  exact ⟨z,y,xs,Paired.mapP r fun p q z=>⟨z.1,ht _ _ z.2.1,z.2.2⟩,ob,es,ep,k _ _ (.inl rfl) e,c⟩
 | set S n=>obtain ⟨ob,es,ep,t,e,c⟩:=x;exact ⟨ob,es,ep,t,k _ _ (.inl rfl) e,c⟩
 | ins C dx fs=>
  obtain ⟨d,z,ne,e,mA,⟨od,es,ep,e2,c⟩,r⟩:=x
  exact ⟨ho _ d,z,ne,k _ _ (.inl rfl) e,mA,⟨od,es,ep,k _ _ (.inr d) e2,c⟩,r⟩
 | own y=>obtain ⟨ob,e⟩:=x;exact ⟨ob,k _ _ (.inl rfl) e⟩
 | xd fs=>obtain ⟨mA,⟨od,es,ep,e,c⟩,r⟩:=x;exact ⟨mA,⟨od,es,ep,k _ _ (.inl rfl) e,c⟩,r⟩
 | rng lo hi=>obtain ⟨t,u,v,e⟩:=x;exact ⟨t,u,v,k _ _ (.inl rfl) e⟩
 | frz ob u ih=>obtain ⟨e,q⟩:=x;exact ⟨k _ _ (.inl rfl) e,ih q⟩
 | tbl ps=>
  have e:h.get? a=some { cls:=.none,data:=.fields ps }:=x
  show h'.get? a=some { cls:=.none,data:=.fields ps }
  exact k a _ (.inl rfl) e
 | met f y=>
  have e:h.get? a=some (PySem.W.methodObj (.ref f) (.ref y)):=x
  show h'.get? a=some (PySem.W.methodObj (.ref f) (.ref y))
  exact k a _ (.inl rfl) e
 | ext φ=>obtain ⟨p,⟨o,e⟩,st⟩:=x;exact ⟨st _ _ p fun o q=>k _ _ (.inl rfl) q,⟨o,k _ _ (.inl rfl) e⟩,st⟩
theorem HOk.lt (x:HOk P w H h) (e:H a=some o):a < h.objs.size:=(x a o e).lt
theorem HOk.fresh (x:HOk P w H h) (e:h.objs.size≤a):H a=none:=by
 cases q:H a with
 | none=>rfl
 | some u=>exact absurd (Nat.lt_of_lt_of_le (x.lt q) e) (Nat.lt_irrefl _)
theorem HOk.kept (x:HOk P w H h) (k:∀ b u,h.get? b=some u→h'.get? b=some u):HOk P w H h':=fun a o e=>
 (x a o e).stay (fun b u _ q=>k b u q) (fun _ q=>q) fun _ _ q=>q
theorem HOk.laid (x:HOk P w H h) (k:∀ b u,h.get? b=some u→h'.get? b=some u) (hp:h.objs.size≤a) (new:ObjOk P w (upd H a o) h' a o):HOk P w (upd H a o) h':=fun b u e=>by
 have hn:=x.fresh hp
 by_cases hb:b=a
 ·subst hb;rw [upd_same] at e;cases e;exact new
 ·rw [upd_ne hb] at e
  exact (x b u e).stay (fun c v _ q=>k c v q) (fun c q=>by rw [upd_ne (ne_of_none q hn)];exact q) fun c xs q=>by rw [upd_ne (ne_of_none q hn)];exact q
end
def Rd (H:Hp) (a:Addr) (u:HO):Prop:=H a=some u∨∃ o,H a=some (.frz o u)
theorem Rd.ok {P:Program}{w:World}{H:Hp}{h:Heap}{a:Addr}{u:HO} (r:Rd H a u) (x:HOk P w H h):ObjOk P w H h a u:=by
 rcases r with r | ⟨o,r⟩
 ·exact x a u r
 ·obtain ⟨_,q⟩:=x a _ r
  exact q
def Mut:Option HO→Prop
 | some (.lst _)=>True
 | some (.dK _)=>True
 | some (.dT _)=>True
 | some (.set _ _)=>True
 | some (.ins _ _ _)=>True
 | some (.ext _)=>True
 | _=>False
section
variable {P:Program}{w:World}{H:Hp}{h h':Heap}{x e:Addr}{o':HO}
theorem HOk.write (ok:HOk P w H h) (mu:Mut (H x)) (he:e=x∨H e=some (.own x)) (k:∀ b u,b≠e→h.get? b=some u→h'.get? b=some u) (heo:∃ u,h'.get? e=some u)
  (new:ObjOk P w (upd H x o') h' x o'):HOk P w (upd H x o') h':=fun b u q=>by
 have nown:∀ c y,H c=some (.own y)→c≠x:=fun c y r z=>by subst z;rw [r] at mu;exact mu
 have ntup:∀ c xs,H c=some (.tup xs)→c≠x:=fun c xs r z=>by subst z;rw [r] at mu;exact mu
 by_cases hb:b=x
 ·subst hb;rw [upd_same] at q;cases q;exact new
 ·rw [upd_ne hb] at q
  by_cases hbe:b=e
  ·have q':H b=some (.own x):=by
    rcases he with z | z
    ·exact absurd (hbe.trans z) hb
    ·rw [hbe];exact z
   rw [q] at q';cases q'
   obtain ⟨v,hv⟩:=heo
   exact ⟨v,by rw [hbe];exact hv⟩
  ·refine (ok b u q).stay (fun c v hc r=>k c v ?_ r) (fun c r=>by rw [upd_ne (nown c b r)];exact r) fun c xs r=>by rw [upd_ne (ntup c xs r)];exact r
   rcases hc with rfl | hc
   ·exact hbe
   ·rintro rfl
    rcases he with z | z
    ·exact nown c b hc z
    ·rw [hc] at z;cases z;exact hb rfl
end
structure Un (fs ex:List Addr) (H H':Hp) (h h':Heap):Prop where
 keep:∀ b o,h.get? b=some o→H b=none→b ∉ fs→b ∉ ex→h'.get? b=some o
 slot:∀ b o,h.get? b=some o→H b=none→b∈fs→b ∉ ex→∃ sl,h'.get? b=some { o with slots:=sl }
 free:∀ b o,h.get? b=some o→H b=none→b ∉ ex→H' b=none
 there:∀ b o,h.get? b=some o→b ∉ ex→∃ o',h'.get? b=some o'
 tups:∀ b xs,H b=some (.tup xs)→H' b=some (.tup xs)
 frzs:∀ b o u,H b=some (.frz o u)→H' b=some (.frz o u)
 tbls:∀ b ps,H b=some (.tbl ps)→∃ more,H' b=some (.tbl (ps ++ more))
section
variable {fs fs' ex ex':List Addr}{H H1 H2:Hp}{h h1 h2 h':Heap}{a x e:Addr}{o:HO}
theorem Un.any (u:Un fs ex H H1 h h1) {b:Addr}{ob:Obj} (q:h.get? b=some ob) (n:H b=none) (hx:b ∉ ex):∃ sl,h1.get? b=some { ob with slots:=sl }:=by
 by_cases hb:b∈fs
 ·exact u.slot b ob q n hb hx
 ·exact ⟨ob.slots,u.keep b ob q n hb hx⟩
theorem Un.kept (k:∀ b u,h.get? b=some u→h'.get? b=some u):Un fs ex H H h h':=
 ⟨fun b ob q _ _ _=>k b ob q,fun b ob q _ _ _=>⟨ob.slots,k b ob q⟩,fun _ _ _ n _=>n,fun b ob q _=>⟨ob,k b ob q⟩,fun _ _ q=>q,fun _ _ _ q=>q,fun _ ps q=>⟨#[],by rw [q];simp⟩⟩
theorem Un.refl:Un fs ex H H h h:=Un.kept fun _ _ q=>q
theorem Un.laid (k:∀ b u,h.get? b=some u→h'.get? b=some u) (hp:h.objs.size≤a) (hn:H a=none):Un fs ex H (upd H a o) h h' where
 keep:=fun b u q _ _ _=>k b u q
 slot:=fun b u q _ _ _=>⟨u.slots,k b u q⟩
 free:=fun b u q n _=>by rw [upd_ne (Nat.ne_of_lt (Nat.lt_of_lt_of_le (Heap.lt_size q) hp))];exact n
 there:=fun b u q _=>⟨u,k b u q⟩
 tups:=fun b xs q=>by rw [upd_ne (ne_of_none q hn)];exact q
 frzs:=fun b u xs q=>by rw [upd_ne (ne_of_none q hn)];exact q
 tbls:=fun b ps q=>⟨#[],by rw [upd_ne (ne_of_none q hn),q];simp⟩
theorem Un.write (mu:Mut (H x)) (he:e=x∨H e=some (.own x)) (k:∀ b u,b≠e→h.get? b=some u→h'.get? b=some u) (heo:∃ u,h'.get? e=some u):Un fs ex H (upd H x o) h h':=by
 have hx:∀ b,H b=none→b≠x:=fun b n z=>by subst z;rw [n] at mu;exact mu
 have hb:∀ b,H b=none→b≠e:=fun b n z=>by
  subst z
  rcases he with r | r
  ·exact hx b n r
  ·rw [n] at r;cases r
 have hm:∀ b u,H b=some u→¬ Mut (some u)→b≠x:=fun b u q nm z=>by subst z;rw [q] at mu;exact nm mu
 refine ⟨fun b u q n _ _=>k b u (hb b n) q,fun b u q n _ _=>⟨u.slots,k b u (hb b n) q⟩,fun b u q n _=>by rw [upd_ne (hx b n)];exact n,fun b u q _=>?_,
  fun b xs q=>by rw [upd_ne (hm b _ q fun z=>z)];exact q,fun b u xs q=>by rw [upd_ne (hm b _ q fun z=>z)];exact q,fun b ps q=>⟨#[],by rw [upd_ne (hm b _ q fun z=>z),q];simp⟩⟩
 by_cases hbe:b=e
 ·subst hbe;exact heo
 ·exact ⟨u,k b u hbe q⟩
end
def trk (h:Heap) (H:Hp):List Addr:=(List.range h.objs.size).filter fun a=>(H a).isSome
def hidT (h:Heap) (H:Hp):Heap:=PySem.W.hideAll h (trk h H)
theorem hidT_size (h:Heap) (H:Hp):(hidT h H).objs.size=h.objs.size:=PySem.W.hideAll_size _ _
theorem hidT_get {h:Heap}{H:Hp}{b:Addr}{o:Obj} (e:h.get? b=some o) (n:H b=none):(hidT h H).get? b=some o:=
 PySem.W.hideAll_get _ e fun hm=>by
  have q:(H b).isSome=true:=(List.mem_filter.mp hm).2
  rw [n] at q;simp at q
theorem of_hidT {h:Heap}{H:Hp}{b:Addr}{o:Obj} (e:(hidT h H).get? b=some o):h.get? b=some o∧H b=none:=by
 have e':h.get? b=some o:=PySem.W.of_hideAll (trk h H) e
 refine ⟨e',?_⟩
 cases q:H b with
 | none=>rfl
 | some x=>
  have hm:b∈trk h H:=List.mem_filter.mpr ⟨List.mem_range.mpr (Heap.lt_size e'),by simp [q]⟩
  have z:(hidT h H).get? b=none:=PySem.W.hideAll_none (trk h H) hm
  rw [z] at e;cases e
def allNews (g h:Heap) (L:Addr):List (Addr×Obj):=(List.range h.objs.size).filterMap fun a=>if a=L∨(g.get? a).isSome=true then none else (h.get? a).map fun o=>(a,o)
def rest (g h:Heap) (L d:Addr):List (Addr×Obj):=(allNews g h L).filter fun p=>decide (p.1≠d)
end L2
namespace L2
open PySem PySem.Spec PyProof.Rows
structure Mod (K:PySem.W.Frag) (mg:Str→Option Value) (base:Heap):Prop where
 kin:K.In base
 glob:base.Ns mainGlobals mg
 blt:∃ mb,base.Ns builtinsNs mb∧∀ x:Str,x≠"__name__"→mb x=bootBuiltins x
 nolimit:base.NoLimit
structure Cx where
 prog:Program
 w:World
 K:PySem.W.Frag
 mg:Str→Option Value
 base:Heap
 A:Around
 N:List Str
 s₀:Shared
 H₀:Hp
 env:Env
 outer:List Env
 stack:List Env
 ex:List Addr
 fn:Str→Bool
 calm:Bool
 pn:List (Addr×Obj)
 xe:Value→Shared→Prop
def frs (l:List Env):List Addr:=l.filterMap (·.frame)
abbrev Cx.fs (X:Cx):List Addr:=frs X.outer
def Vis (sc:Scope) (x:Str):Prop:=sc.names.lookup x=some .local∨sc.names.lookup x=some .cell∨sc.names.lookup x=some .free
def Loc (sc:Scope) (x:Str):Prop:=sc.names.lookup x=some .local∨sc.names.lookup x=some .cell
def Look (env:Env) (h:Heap) (m:Str→Option Value) (x:Str) (u:Value):Prop:=
 (env.kindOf x=some .local∧m x=some u)∨((env.kindOf x=some .cell∨env.kindOf x=some .free)∧∃ c,env.cells.lookup x=some c∧h.IsCell c (some u))
structure Cx.Ok (X:Cx):Prop where
 mod:Mod X.K X.mg X.base
 kind:X.env.scope.kind=.function
 glob:X.env.globals=mainGlobals
 blt:X.env.builtins=builtinsNs
 above:X.s₀.heap.objs.size≤X.env.locals
 inj:∀ x y c,X.env.cells.lookup x=some c→X.env.cells.lookup y=some c→x=y
 has:∀ x,(X.env.kindOf x=some .cell∨X.env.kindOf x=some .free)→∃ c,X.env.cells.lookup x=some c
 cab:∀ x c,X.fn x=true→X.env.cells.lookup x=some c→X.s₀.heap.objs.size≤c
 hd:X.calm=true→X.A.handled=none
 frames:X.A.frames=some X.stack
 stk:X.stack=X.outer∨(X.stack=X.env :: X.outer∧X.env.frame=some X.env.locals)
 exf:∀ b∈X.ex,b≠X.env.locals∧∀ x c,X.env.cells.lookup x=some c→c≠b
 bs:∀ b o,X.base.get? b=some o→X.s₀.heap.get? b=some o∧X.H₀ b=none
 bsz:X.base.objs.size≤X.s₀.heap.objs.size
 noex:∀ b o,X.base.get? b=some o→b ∉ X.ex
 exfs:∀ b∈X.ex,b ∉ X.fs
 funs:X.s₀.heap.FunFrames X.base X.outer
 frf:∀ b∈X.fs,X.H₀ b=none
structure Inv (X:Cx) (pins:List (Addr×Obj)) (σ:List (Option V)) (H:Hp) (s:Shared):Prop where
 ok:X.Ok
 os:s.os=X.s₀.os
 bare:AllBare s.gens
 base:Un X.fs X.ex X.H₀ H X.s₀.heap s.heap
 loc:∃ m,s.heap.Ns X.env.locals m∧∀ (i:Nat) (x:Str) (v:V),X.N[i]?=some x→σ[i]?=some (some v)→Vis X.env.scope x→∃ u,RelV v u∧Look X.env s.heap m x u
 cell:∀ x c,X.env.cells.lookup x=some c→∃ v,s.heap.IsCell c v
 free:H X.env.locals=none
 freeC:∀ x c,X.env.cells.lookup x=some c→H c=none
 pin:∀ p∈X.pn ++ pins,s.heap.get? p.1=some p.2∧H p.1=none∧p.1≠X.env.locals∧p.1 ∉ X.fs∧∀ v,p.2.data≠.cell v
 hok:HOk X.prog X.w H s.heap
 len:σ.length=X.N.length
section
variable {X:Cx}{pins:List (Addr×Obj)}{σ:List (Option V)}{H H':Hp}{s:Shared}{h':Heap}
theorem Cx.Ok.nofr (ok:X.Ok) {b:Addr}{o:Obj} (e:X.base.get? b=some o):b ∉ X.fs:=fun hb=>by
 have:=(ok.funs.mem hb).1
 rw [e] at this;cases this
theorem Inv.bs (I:Inv X pins σ H s):∀ b o,X.base.get? b=some o→s.heap.get? b=some o∧H b=none:=fun b o e=>
 ⟨I.base.keep b o (I.ok.bs b o e).1 (I.ok.bs b o e).2 (I.ok.nofr e) (I.ok.noex b o e),I.base.free b o (I.ok.bs b o e).1 (I.ok.bs b o e).2 (I.ok.noex b o e)⟩
theorem Inv.bk (I:Inv X pins σ H s):∀ b o,X.base.get? b=some o→s.heap.get? b=some o:=fun b o e=>(I.bs b o e).1
theorem Inv.mod (I:Inv X pins σ H s):Mod X.K X.mg X.base:=I.ok.mod
theorem Inv.kIn (I:Inv X pins σ H s):X.K.In s.heap:=I.ok.mod.kin.keeps I.bk
theorem Inv.nolimit (I:Inv X pins σ H s):s.heap.NoLimit:=I.ok.mod.nolimit.keeps I.bk
theorem Inv.lt (I:Inv X pins σ H s):X.env.locals < s.heap.objs.size:=let ⟨_,hn,_⟩:=I.loc;hn.lt
theorem Inv.sz (I:Inv X pins σ H s):X.s₀.heap.objs.size≤s.heap.objs.size:=Nat.le_trans I.ok.above (Nat.le_of_lt I.lt)
theorem Inv.nofs (I:Inv X pins σ H s) {a:Addr} (h:s.heap.objs.size≤a):a ∉ X.fs:=fun hb=>by
 obtain ⟨_,o,ho,_⟩:=I.ok.funs.mem hb
 exact absurd (Nat.lt_of_lt_of_le (Heap.lt_size ho) (Nat.le_trans I.sz h)) (Nat.lt_irrefl _)
theorem Inv.cne (I:Inv X pins σ H s):∀ x c,X.env.cells.lookup x=some c→c≠X.env.locals:=fun x c e z=>by
 obtain ⟨v,o,ho,hd⟩:=I.cell x c e
 obtain ⟨m,⟨o',es,ep,ho',hd',_⟩,_⟩:=I.loc
 rw [z,ho'] at ho;cases ho;rw [hd'] at hd;cases hd
theorem Inv.funs (I:Inv X pins σ H s):s.heap.FunFrames X.base X.outer:=by
 have all:∀ (l:List Env),(∀ b∈frs l,b∈X.fs)→X.s₀.heap.FunFrames X.base l→s.heap.FunFrames X.base l:=by
  intro l
  induction l with
  | nil=>intro _ _;trivial
  | cons env r ih=>
   intro hs hl
   obtain ⟨hk,⟨L,o,hf,hn,ho,hd⟩,hr⟩:=hl
   have hL:L∈X.fs:=hs L (by unfold frs;rw [List.filterMap_cons,hf];exact List.mem_cons_self)
   obtain ⟨sl,e⟩:=I.base.slot L o ho (I.ok.frf L hL) hL fun z=>I.ok.exfs L z hL
   exact ⟨hk,⟨L,_,hf,hn,e,hd⟩,ih (fun b hb=>hs b (by unfold frs;rw [List.filterMap_cons,hf];exact List.mem_cons_of_mem _ hb)) hr⟩
 exact all X.outer (fun _ hb=>hb) I.ok.funs
theorem Inv.stack (I:Inv X pins σ H s):s.heap.FunFrames X.base X.stack:=by
 rcases I.ok.stk with e | ⟨e,hf⟩
 ·rw [e];exact I.funs
 ·rw [e]
  obtain ⟨m,hn,_⟩:=I.loc
  refine .cons (by rw [I.ok.kind];decide) hf hn ?_ I.funs
  exact Heap.get?_none_of_le (Nat.le_trans I.ok.bsz I.ok.above)
theorem Inv.stkSub (I:Inv X pins σ H s):∀ b∈frs X.stack,b∈X.env.locals :: X.fs:=fun b hb=>by
 rcases I.ok.stk with e | ⟨e,hf⟩
 ·rw [e] at hb;exact List.mem_cons_of_mem _ hb
 ·rw [e] at hb
  unfold frs at hb
  rw [List.filterMap_cons,hf] at hb
  exact hb
theorem Inv.stkFree (I:Inv X pins σ H s):∀ b∈frs X.stack,H b=none:=fun b hb=>by
 rcases List.mem_cons.mp (I.stkSub b hb) with e | hb
 ·rw [e];exact I.free
 ·obtain ⟨_,o,ho,_⟩:=I.ok.funs.mem hb
  exact I.base.free b o ho (I.ok.frf b hb) fun z=>I.ok.exfs b z hb
theorem Inv.step {g':Array GenState}{t':Nat}{d':Drawn}{ch:List Addr} (I:Inv X pins σ H s)
  (hch:∀ b∈ch,(b∈X.ex∨X.s₀.heap.objs.size≤b)∧b≠X.env.locals∧(∀ x c,X.env.cells.lookup x=some c→c≠b)∧∀ p∈X.pn ++ pins,p.1≠b)
  (keep:∀ b o,b≠X.env.locals→b ∉ X.fs→b ∉ ch→s.heap.get? b=some o→H b=none→h'.get? b=some o)
  (slot:∀ b o,b≠X.env.locals→b∈X.fs→b ∉ ch→s.heap.get? b=some o→H b=none→∃ sl,h'.get? b=some { o with slots:=sl }) (free:∀ b o,b ∉ ch→s.heap.get? b=some o→H b=none→H' b=none)
  (there:∀ b o,b ∉ ch→s.heap.get? b=some o→∃ o',h'.get? b=some o')
  (tups:∀ b xs,H b=some (.tup xs)→H' b=some (.tup xs)) (frzs:∀ b o u,H b=some (.frz o u)→H' b=some (.frz o u)) (tbls:∀ b ps,H b=some (.tbl ps)→∃ more,H' b=some (.tbl (ps ++ more)))
  (ns:∀ m,s.heap.Ns X.env.locals m→h'.Ns X.env.locals m) (hok:HOk X.prog X.w H' h') (hg:AllBare g'):
  Inv X pins σ H' { s with heap:=h',gens:=g',drawn:=d',toks:=t' }:=by
 have neL:∀ b o,X.s₀.heap.get? b=some o→b≠X.env.locals:=fun b o e=>Nat.ne_of_lt (Nat.lt_of_lt_of_le (Heap.lt_size e) I.ok.above)
 have neC:∀ b o,X.s₀.heap.get? b=some o→b ∉ X.ex→b ∉ ch:=fun b o e hx hb=>by
  rcases (hch b hb).1 with z | z
  ·exact hx z
  ·exact absurd (Nat.lt_of_lt_of_le (Heap.lt_size e) z) (Nat.lt_irrefl _)
 have cellK:∀ x c,X.env.cells.lookup x=some c→∀ v,s.heap.IsCell c v→h'.IsCell c v:=fun x c e v ⟨o,ho,hd⟩=>by
  have nch:c ∉ ch:=fun z=>(hch c z).2.2.1 x c e rfl
  by_cases hc:c∈X.fs
  ·obtain ⟨sl,q⟩:=slot c o (I.cne x c e) hc nch ho (I.freeC x c e)
   exact ⟨_,q,hd⟩
  ·exact ⟨o,keep c o (I.cne x c e) hc nch ho (I.freeC x c e),hd⟩
 refine ⟨I.ok,I.os,hg,⟨fun b o e n hb hx=>?_,fun b o e n hb hx=>?_,fun b o e n hx=>?_,fun b o e hx=>?_,fun b xs e=>tups b xs (I.base.tups b xs e),fun b o xs e=>frzs b o xs (I.base.frzs b o xs e),fun b ps e=>?_⟩,?_,fun x c e=>?_,?_,fun x c e=>?_,fun p hp=>?_,hok,I.len⟩
 ·exact keep b o (neL b o e) hb (neC b o e hx) (I.base.keep b o e n hb hx) (I.base.free b o e n hx)
 ·obtain ⟨sl,e1⟩:=I.base.slot b o e n hb hx
  obtain ⟨sl',e2⟩:=slot b _ (neL b o e) hb (neC b o e hx) e1 (I.base.free b o e n hx)
  exact ⟨sl',e2⟩
 ·obtain ⟨o',e1⟩:=I.base.there b o e hx
  exact free b o' (neC b o e hx) e1 (I.base.free b o e n hx)
 ·obtain ⟨o',e1⟩:=I.base.there b o e hx
  exact there b o' (neC b o e hx) e1
 ·obtain ⟨m1,e1⟩:=I.base.tbls b ps e
  obtain ⟨m2,e2⟩:=tbls b _ e1
  exact ⟨m1 ++ m2,by rw [e2,Array.append_assoc]⟩
 ·obtain ⟨m,hn,hl⟩:=I.loc
  refine ⟨m,ns m hn,fun i x v e1 e2 e3=>?_⟩
  obtain ⟨u,r,l⟩:=hl i x v e1 e2 e3
  refine ⟨u,r,?_⟩
  rcases l with l | ⟨k,c,e,z⟩
  ·exact .inl l
  ·exact .inr ⟨k,c,e,cellK x c e _ z⟩
 ·obtain ⟨v,z⟩:=I.cell x c e
  exact ⟨v,cellK x c e v z⟩
 ·obtain ⟨m,⟨o,_,_,ho,_⟩,_⟩:=I.loc
  exact free _ o (fun z=>(hch _ z).2.1 rfl) ho I.free
 ·obtain ⟨v,o,ho,hd⟩:=I.cell x c e
  exact free c o (fun z=>(hch c z).2.2.1 x c e rfl) ho (I.freeC x c e)
 ·obtain ⟨e,n,ne,nf,d⟩:=I.pin p hp
  have nch:p.1 ∉ ch:=fun z=>(hch p.1 z).2.2.2 p hp rfl
  exact ⟨keep p.1 p.2 ne nf nch e n,free p.1 p.2 nch e n,ne,nf,d⟩
theorem Inv.un {t':Nat} (I:Inv X pins σ H s) (u:Un X.fs [] H H' s.heap h') (hok:HOk X.prog X.w H' h'):Inv X pins σ H' { s with heap:=h',toks:=t' }:=by
 obtain ⟨m,⟨o,es,ep,ho,r⟩,_⟩:=id I.loc
 obtain ⟨sl,hL⟩:=u.any ho I.free (by simp)
 exact I.step (g':=s.gens) (d':=s.drawn) (ch:=[]) (fun _ z=>nomatch z) (fun b o _ hb _ e n=>u.keep b o e n hb (by simp)) (fun b o _ hb _ e n=>u.slot b o e n hb (by simp)) (fun b o _ e n=>u.free b o e n (by simp)) (fun b o _ e=>u.there b o e (by simp)) u.tups u.frzs u.tbls (fun m' hm=>by
  obtain ⟨o',es',ep',ho',r'⟩:=hm
  rw [ho] at ho';cases ho'
  exact ⟨_,es',ep',hL,r'⟩) hok I.bare
theorem Inv.call {g':Array GenState}{t':Nat}{d':Drawn}{ch:List Addr} (I:Inv X pins σ H s) (u:Un (frs X.stack) ch H H' s.heap h') (hok:HOk X.prog X.w H' h') (hg:AllBare g')
  (hch:∀ b∈ch,(b∈X.ex∨X.s₀.heap.objs.size≤b)∧b≠X.env.locals∧(∀ x c,X.env.cells.lookup x=some c→c≠b)∧∀ p∈X.pn ++ pins,p.1≠b):
  Inv X pins σ H' { s with heap:=h',gens:=g',drawn:=d',toks:=t' }:=by
 obtain ⟨m,⟨o,es,ep,ho,r⟩,_⟩:=id I.loc
 obtain ⟨sl,hL⟩:=u.any ho I.free fun z=>(hch _ z).2.1 rfl
 exact I.step (ch:=ch) hch (fun b o hL hb hc e n=>u.keep b o e n (fun z=>(List.mem_cons.mp (I.stkSub b z)).elim hL hb) hc) (fun b o _ _ hc e n=>u.any e n hc) (fun b o hc e n=>u.free b o e n hc) (fun b o hc e=>u.there b o e hc) u.tups u.frzs u.tbls (fun m' hm=>by
  obtain ⟨o',es',ep',ho',r'⟩:=hm
  rw [ho] at ho';cases ho'
  exact ⟨_,es',ep',hL,r'⟩) hok hg
theorem Inv.turned {t':Nat}{it:Addr} (I:Inv X pins σ H s) (k:∀ b o,b≠it→s.heap.get? b=some o→h'.get? b=some o) (hn:H it=none) (hL:it≠X.env.locals)
  (h1:it∈X.ex∨X.s₀.heap.objs.size≤it) (h2:∀ x c,X.env.cells.lookup x=some c→c≠it) (h3:∀ p∈X.pn ++ pins,p.1≠it):Inv X pins σ H { s with heap:=h',toks:=t' }:=by
 have nit:∀ b u,H b=some u→b≠it:=fun b u e z=>by rw [z,hn] at e;cases e
 refine I.step (g':=s.gens) (d':=s.drawn) (ch:=[it]) (fun b hb=>?_) (fun b o _ _ hc e _=>k b o (fun z=>hc (by simp [z])) e) (fun b o _ _ hc e _=>⟨o.slots,k b o (fun z=>hc (by simp [z])) e⟩) (fun _ _ _ _ n=>n)
  (fun b o hc e=>⟨o,k b o (fun z=>hc (by simp [z])) e⟩) (fun _ _ e=>e) (fun _ _ _ e=>e) (fun b ps e=>⟨#[],by rw [e];simp⟩) (fun m hm=>?_) (fun b u e=>?_) I.bare
 ·have e:b=it:=by simpa using hb
  subst e
  exact ⟨h1,hL,h2,h3⟩
 ·obtain ⟨o,es,ep,ho,r⟩:=hm
  exact ⟨o,es,ep,k _ o (Ne.symm hL) ho,r⟩
 ·refine (I.hok b u e).stay (fun c v hc q=>k c v ?_ q) (fun _ q=>q) fun _ _ q=>q
  rcases hc with z | z
  ·rw [z];exact nit b u e
  ·exact nit c _ z
theorem Inv.tok (I:Inv X pins σ H s) (t:Nat):Inv X pins σ H { s with toks:=t }:=I.un (h':=s.heap) (t':=t) Un.refl I.hok
theorem Inv.kept {t':Nat} (I:Inv X pins σ H s) (k:∀ b u,s.heap.get? b=some u→h'.get? b=some u):Inv X pins σ H { s with heap:=h',toks:=t' }:=I.un (Un.kept k) (I.hok.kept k)
theorem Inv.laid {a:Addr}{o:HO}{t':Nat} (I:Inv X pins σ H s) (k:∀ b u,s.heap.get? b=some u→h'.get? b=some u) (hp:s.heap.objs.size≤a) (new:ObjOk X.prog X.w (upd H a o) h' a o):
  Inv X pins σ (upd H a o) { s with heap:=h',toks:=t' }:=I.un (Un.laid k hp (I.hok.fresh hp)) (I.hok.laid k hp new)
theorem Inv.write {x e:Addr}{o:HO}{t':Nat} (I:Inv X pins σ H s) (mu:Mut (H x)) (he:e=x∨H e=some (.own x)) (k:∀ b u,b≠e→s.heap.get? b=some u→h'.get? b=some u) (heo:∃ u,h'.get? e=some u)
  (new:ObjOk X.prog X.w (upd H x o) h' x o):Inv X pins σ (upd H x o) { s with heap:=h',toks:=t' }:=I.un (Un.write mu he k heo) (I.hok.write mu he k heo new)
theorem Inv.pins_of {pins':List (Addr×Obj)} (I:Inv X pins σ H s) (h:∀ p∈pins',s.heap.get? p.1=some p.2∧H p.1=none∧p.1≠X.env.locals∧p.1 ∉ X.fs∧∀ v,p.2.data≠.cell v):Inv X pins' σ H s:=
 ⟨I.ok,I.os,I.bare,I.base,I.loc,I.cell,I.free,I.freeC,fun p hp=>(List.mem_append.mp hp).elim (fun z=>I.pin p (List.mem_append_left _ z)) (h p),I.hok,I.len⟩
theorem nodup_ix {N:List Str} (hN:N.Nodup) {i j:Nat}{x:Str} (a:N[i]?=some x) (b:N[j]?=some x):i=j:=by
 obtain ⟨h1,e1⟩:=List.getElem?_eq_some_iff.mp a
 obtain ⟨h2,e2⟩:=List.getElem?_eq_some_iff.mp b
 exact (List.getElem_inj hN).mp (e1.trans e2.symm)
theorem store_ok2 {M:Model}{A:Around}{E:Value→Shared→Prop}{i:Nat}{x:Str}{v:V}{u:Value}{Q:Unit→Shared→Prop} (I:Inv X pins σ H s) (hN:X.N.Nodup) (hi:X.N[i]?=some x) (hx:Loc X.env.scope x) (r:RelV v u)
  (h:∀ s',Inv X pins (σ.set i (some v)) H s'→(∃ a,Heap.SameBut a s.heap s'.heap∧(a=X.env.locals∨X.env.cells.lookup x=some a))→Q () s') (hf:X.fn x=true∨X.env.scope.names.lookup x=some .local:=by first | exact .inl rfl | exact .inr rfl | assumption):wpAny M A (storeName X.env x u) Q E s:=by
 obtain ⟨m,hn,hl⟩:=id I.loc
 have hcls:(X.env.scope.kind == .class || (X.env.scope.kind == .module && X.env.locals != X.env.globals))=false:=by rw [I.ok.kind];rfl
 have hiσ:i < σ.length:=by rw [I.len];exact (List.getElem?_eq_some_iff.mp hi).1
 have cne:=I.cne
 have tracked:∀ {a:Addr} {h':Heap},(∃ o,s.heap.get? a=some o∧H a=none)→Heap.SameBut a s.heap h'→HOk X.prog X.w H h':=fun {a h'} ha hs b ob e=>by
  obtain ⟨_,_,hfree⟩:=ha
  refine (I.hok b ob e).stay (fun c w' hc q=>(hs.2 c ?_).trans q) (fun _ q=>q) fun _ _ q=>q
  rintro rfl
  rcases hc with rfl | hc
  ·rw [hfree] at e;cases e
  ·rw [hfree] at hc;cases hc
 rcases hx with hk | hk
 ·refine wpAny_storeName_local hk hn (fun h' hn' hs=>?_) hcls
  obtain ⟨oL,_,_,hoL,_⟩:=id hn
  refine h _ ⟨I.ok,I.os,I.bare,⟨fun b o e n hb hx=>?_,fun b o e n hb hx=>?_,I.base.free,fun b o e hx=>?_,I.base.tups,I.base.frzs,I.base.tbls⟩,⟨_,hn',fun j y v' e1 e2 e3=>?_⟩,fun y c e=>?_,I.free,I.freeC,fun p hp=>?_,tracked ⟨oL,hoL,I.free⟩ hs,by simpa using I.len⟩ ⟨_,hs,.inl rfl⟩
  ·exact (hs.2 b (Nat.ne_of_lt (Nat.lt_of_lt_of_le (Heap.lt_size e) I.ok.above))).trans (I.base.keep b o e n hb hx)
  ·obtain ⟨sl,e1⟩:=I.base.slot b o e n hb hx
   exact ⟨sl,(hs.2 b (Nat.ne_of_lt (Nat.lt_of_lt_of_le (Heap.lt_size e) I.ok.above))).trans e1⟩
  ·obtain ⟨o',e1⟩:=I.base.there b o e hx
   exact ⟨o',(hs.2 b (Nat.ne_of_lt (Nat.lt_of_lt_of_le (Heap.lt_size e) I.ok.above))).trans e1⟩
  ·by_cases hj:j=i
   ·subst hj
    rw [hi] at e1;cases e1
    rw [List.getElem?_set_self hiσ] at e2
    cases e2
    exact ⟨u,r,.inl ⟨hk,by simp⟩⟩
   ·rw [List.getElem?_set_ne (Ne.symm hj)] at e2
    obtain ⟨u',r',q⟩:=hl j y v' e1 e2 e3
    refine ⟨u',r',?_⟩
    rcases q with ⟨k,e⟩ | ⟨k,c,e,z⟩
    ·refine .inl ⟨k,?_⟩
     have:y≠x:=fun e=>hj (nodup_ix hN e1 (e ▸ hi))
     simp [this,e]
    ·exact .inr ⟨k,c,e,z.sameBut hs (cne y c e)⟩
  ·obtain ⟨w',z⟩:=I.cell y c e
   exact ⟨w',z.sameBut hs (cne y c e)⟩
  ·obtain ⟨e,n,ne,nf,d⟩:=I.pin p hp
   exact ⟨(hs.2 p.1 ne).trans e,n,ne,nf,d⟩
 ·have hfn:X.fn x=true:=by
   rcases hf with z | z
   ·exact z
   ·rw [z] at hk;cases hk
  obtain ⟨c,hc⟩:=I.ok.has x (.inl hk)
  obtain ⟨w',z⟩:=I.cell x c hc
  refine wpAny_storeName_cell I.ok.kind hk hc z (fun h' hc' hs=>?_)
  obtain ⟨oc,hoc,hocd⟩:=id z
  refine h { s with heap:=h' } ⟨I.ok,I.os,I.bare,⟨fun b o e n hb hx=>?_,fun b o e n hb hx=>?_,I.base.free,fun b o e hx=>?_,I.base.tups,I.base.frzs,I.base.tbls⟩,⟨m,hn.sameBut hs (Ne.symm (cne x c hc)),fun j y v' e1 e2 e3=>?_⟩,fun y c' e=>?_,I.free,I.freeC,fun p hp=>?_,tracked ⟨oc,hoc,I.freeC x c hc⟩ hs,by simpa using I.len⟩ ⟨c,hs,.inr hc⟩
  ·exact (hs.2 b (Nat.ne_of_lt (Nat.lt_of_lt_of_le (Heap.lt_size e) (I.ok.cab x c hfn hc)))).trans (I.base.keep b o e n hb hx)
  ·obtain ⟨sl,e1⟩:=I.base.slot b o e n hb hx
   exact ⟨sl,(hs.2 b (Nat.ne_of_lt (Nat.lt_of_lt_of_le (Heap.lt_size e) (I.ok.cab x c hfn hc)))).trans e1⟩
  ·obtain ⟨o',e1⟩:=I.base.there b o e hx
   exact ⟨o',(hs.2 b (Nat.ne_of_lt (Nat.lt_of_lt_of_le (Heap.lt_size e) (I.ok.cab x c hfn hc)))).trans e1⟩
  ·by_cases hj:j=i
   ·subst hj
    rw [hi] at e1;cases e1
    rw [List.getElem?_set_self hiσ] at e2
    cases e2
    exact ⟨u,r,.inr ⟨.inl hk,c,hc,hc'⟩⟩
   ·rw [List.getElem?_set_ne (Ne.symm hj)] at e2
    obtain ⟨u',r',q⟩:=hl j y v' e1 e2 e3
    refine ⟨u',r',?_⟩
    rcases q with q | ⟨k,c',e,z'⟩
    ·exact .inl q
    ·refine .inr ⟨k,c',e,z'.sameBut hs ?_⟩
     rintro rfl
     exact hj (nodup_ix hN e1 (I.ok.inj _ _ _ e hc ▸ hi))
  ·by_cases hcc:c'=c
   ·subst hcc;exact ⟨_,hc'⟩
   ·obtain ⟨w2,z2⟩:=I.cell y c' e
    exact ⟨w2,z2.sameBut hs hcc⟩
  ·obtain ⟨e,n,ne,nf,d⟩:=I.pin p hp
   refine ⟨(hs.2 p.1 ?_).trans e,n,ne,nf,d⟩
   intro q
   rw [q,hoc] at e
   have q':oc=p.2:=Option.some.inj e
   exact d w' (by rw [← q'];exact hocd)
theorem store_ok {M:Model}{A:Around}{E:Value→Shared→Prop}{i:Nat}{x:Str}{v:V}{u:Value}{Q:Unit→Shared→Prop} (I:Inv X pins σ H s) (hN:X.N.Nodup) (hi:X.N[i]?=some x) (hx:Loc X.env.scope x) (r:RelV v u)
  (h:∀ s',Inv X pins (σ.set i (some v)) H s'→Q () s') (hf:X.fn x=true∨X.env.scope.names.lookup x=some .local:=by first | exact .inl rfl | exact .inr rfl | assumption):wpAny M A (storeName X.env x u) Q E s:=
 store_ok2 I hN hi hx r (fun s' I' _=>h s' I') hf
theorem Inv.call' {s':Shared}{ch:List Addr} (I:Inv X pins σ H s) (ho:s'.os=s.os) (u:Un (frs X.stack) ch H H' s.heap s'.heap) (hok:HOk X.prog X.w H' s'.heap) (hg:AllBare s'.gens)
  (hch:∀ b∈ch,(b∈X.ex∨X.s₀.heap.objs.size≤b)∧b≠X.env.locals∧(∀ x c,X.env.cells.lookup x=some c→c≠b)∧∀ p∈X.pn ++ pins,p.1≠b):Inv X pins σ H' s':=by
 obtain ⟨h',g',d',t',o'⟩:=s'
 have e:o'=s.os:=ho
 subst e
 exact I.call (g':=g') (t':=t') (d':=d') u hok hg hch
end
abbrev XK:=Value→Option Addr→Hp→Prop
abbrev St:=List (Option V)
abbrev VK:=V→Hp→Prop
abbrev TE:=St→Hp→VK→Prop
abbrev TT:=St→Hp→(Bool→Hp→Prop)→Prop
abbrev TA:=St→Hp→(List V→Hp→Prop)→Prop
structure Ends where
 nx:St→Hp→Prop
 rt:VK
 bk:St→Hp→Prop:=fun _ _=>False
 ct:St→Hp→Prop:=fun _ _=>False
abbrev TS:=Ends→St→Hp→Prop
def EP (X:Cx) (pins:List (Addr×Obj)) (σ:St) (Q:VK) (u:Value) (s':Shared):Prop:=∃ v H',Inv X pins σ H' s'∧RelV v u∧Q v H'
def TP (X:Cx) (pins:List (Addr×Obj)) (σ:St) (Q:Bool→Hp→Prop) (b:Bool) (s':Shared):Prop:=∃ H',Inv X pins σ H' s'∧Q b H'
def AP (X:Cx) (pins:List (Addr×Obj)) (σ:St) (Q:List V→Hp→Prop) (us:List Value) (s':Shared):Prop:=∃ vs H',Inv X pins σ H' s'∧Vals vs us∧Q vs H'
def SP (X:Cx) (pins:List (Addr×Obj)) (D:Ends) (f:Flow) (s':Shared):Prop:=
 match f with
 | .next=>∃ σ' H',Inv X pins σ' H' s'∧D.nx σ' H'
 | .brk=>∃ σ' H',Inv X pins σ' H' s'∧D.bk σ' H'
 | .cont=>∃ σ' H',Inv X pins σ' H' s'∧D.ct σ' H'
 | .ret u=>∃ v σ' H',Inv X pins σ' H' s'∧RelV v u∧D.rt v H'
structure PE (X:Cx) (e:Expr) (t:TE):Prop where
 run:
  ∀ (pins:List (Addr×Obj)) (s:Shared) (σ:St) (H:Hp) (Q:VK),Inv X pins σ H s→t σ H Q→wpAny (model X.prog X.w) X.A (eval e X.env) (EP X pins σ Q) X.xe s
instance {X:Cx} {e:Expr} {t:TE}:CoeFun (PE X e t) (fun _=>
 ∀ (pins:List (Addr×Obj)) (s:Shared) (σ:St) (H:Hp) (Q:VK),Inv X pins σ H s→t σ H Q→wpAny (model X.prog X.w) X.A (eval e X.env) (EP X pins σ Q) X.xe s):=⟨fun h=>h.run⟩
structure PT (X:Cx) (e:Expr) (t:TT):Prop where
 run:
  ∀ (pins:List (Addr×Obj)) (s:Shared) (σ:St) (H:Hp) (Q:Bool→Hp→Prop),Inv X pins σ H s→t σ H Q→wpAny (model X.prog X.w) X.A (isTrue e X.env (eval e X.env)) (TP X pins σ Q) X.xe s
instance {X:Cx} {e:Expr} {t:TT}:CoeFun (PT X e t) (fun _=>
 ∀ (pins:List (Addr×Obj)) (s:Shared) (σ:St) (H:Hp) (Q:Bool→Hp→Prop),Inv X pins σ H s→t σ H Q→wpAny (model X.prog X.w) X.A (isTrue e X.env (eval e X.env)) (TP X pins σ Q) X.xe s):=⟨fun h=>h.run⟩
structure PW (X:Cx) (e:Expr) (t:TT):Prop where
 run:
  ∀ (whole:Sem Value) (pins:List (Addr×Obj)) (s:Shared) (σ:St) (H:Hp) (Q:Bool→Hp→Prop),Inv X pins σ H s→t σ H Q→wpAny (model X.prog X.w) X.A (isTrue e X.env whole) (TP X pins σ Q) X.xe s
instance {X:Cx} {e:Expr} {t:TT}:CoeFun (PW X e t) (fun _=>
 ∀ (whole:Sem Value) (pins:List (Addr×Obj)) (s:Shared) (σ:St) (H:Hp) (Q:Bool→Hp→Prop),Inv X pins σ H s→t σ H Q→wpAny (model X.prog X.w) X.A (isTrue e X.env whole) (TP X pins σ Q) X.xe s):=⟨fun h=>h.run⟩
theorem PW.pt {X:Cx}{e:Expr}{t:TT} (h:PW X e t):PT X e t:=⟨h.run _⟩
structure PA (X:Cx) (es:List Expr) (t:TA):Prop where
 run:
  ∀ (pos:Pos) (pins:List (Addr×Obj)) (s:Shared) (σ:St) (H:Hp) (Q:List V→Hp→Prop),Inv X pins σ H s→t σ H Q→wpAny (model X.prog X.w) X.A (spliced (backTo pos (starEach es X.env))) (AP X pins σ Q) X.xe s
instance {X:Cx} {es:List Expr} {t:TA}:CoeFun (PA X es t) (fun _=>
 ∀ (pos:Pos) (pins:List (Addr×Obj)) (s:Shared) (σ:St) (H:Hp) (Q:List V→Hp→Prop),Inv X pins σ H s→t σ H Q→wpAny (model X.prog X.w) X.A (spliced (backTo pos (starEach es X.env))) (AP X pins σ Q) X.xe s):=⟨fun h=>h.run⟩
structure PS (X:Cx) (st:Stmt) (t:TS):Prop where
 run:
  ∀ (pins:List (Addr×Obj)) (s:Shared) (σ:St) (H:Hp) (D:Ends),Inv X pins σ H s→t D σ H→wpAny (model X.prog X.w) X.A (exec st X.env) (SP X pins D) X.xe s
instance {X:Cx} {st:Stmt} {t:TS}:CoeFun (PS X st t) (fun _=>
 ∀ (pins:List (Addr×Obj)) (s:Shared) (σ:St) (H:Hp) (D:Ends),Inv X pins σ H s→t D σ H→wpAny (model X.prog X.w) X.A (exec st X.env) (SP X pins D) X.xe s):=⟨fun h=>h.run⟩
structure PSs (X:Cx) (st:List Stmt) (t:TS):Prop where
 run:
  ∀ (pins:List (Addr×Obj)) (s:Shared) (σ:St) (H:Hp) (D:Ends),Inv X pins σ H s→t D σ H→wpAny (model X.prog X.w) X.A (execs st X.env) (SP X pins D) X.xe s
instance {X:Cx} {st:List Stmt} {t:TS}:CoeFun (PSs X st t) (fun _=>
 ∀ (pins:List (Addr×Obj)) (s:Shared) (σ:St) (H:Hp) (D:Ends),Inv X pins σ H s→t D σ H→wpAny (model X.prog X.w) X.A (execs st X.env) (SP X pins D) X.xe s):=⟨fun h=>h.run⟩
theorem thn {α:Type}{t:Sem α}{Q Q':α→Shared→Prop}{M:Model}{A:Around}{E:Value→Shared→Prop}{s:Shared} (h:wpAny M A t Q E s) (hQ:∀ a s,Q a s→Q' a s):wpAny M A t Q' E s:=wpAny_mono h hQ fun _ _ x=>x
end L2
namespace L2
open PySem PySem.Spec PyProof.Rows
section
variable {X:Cx}
def tVar (i:Nat):TE:=fun σ H Q=>∃ v,σ[i]?=some (some v)∧Q v H
def tC (v:V):TE:=fun _ H Q=>Q v H
theorem pe_var {i:Nat}{x:Str}{pos:Pos} (hN:X.N[i]?=some x) (hv:Vis X.env.scope x) (hd:(x == ("__debug__":Str))=false:=by decide) (hcd:(x == ("__classdict__":Str))=false:=by decide):PE X (.Name x pos) (tVar i):=by
 constructor
 intro pins s σ H Q I h
 obtain ⟨v,e,h⟩:=h
 obtain ⟨m,hn,hl⟩:=I.loc
 obtain ⟨u,r,l⟩:=hl i x v hN e hv
 have fin:EP X pins σ Q u s:=⟨v,H,I,r,h⟩
 rcases l with ⟨hk,hm⟩ | ⟨hk,c,hc,hcell⟩
 ·exact wpAny_Name (wpAny_loadName_local I.ok.kind hk hn hm fin) hd
 ·rcases hk with hk | hk
  ·exact wpAny_Name (wpAny_loadName_cell I.ok.kind hk hc hcell fin) hd
  ·exact wpAny_Name (wpAny_loadName_free I.ok.kind hk hc hcell fin hcd) hd
theorem pe_int {i j pos}:PE X (.Constant (.int i) j pos) (tC (.int i)):=⟨fun _ _ _ H _ I h=>wpAny_Constant_int ⟨.int i,H,I.tok _,⟨_,rfl⟩,h⟩⟩
theorem pe_bl {b j pos}:PE X (.Constant (.bool b) j pos) (tC (.bl b)):=⟨fun _ _ _ H _ I h=>Constant_bool ⟨.bl b,H,I,rfl,h⟩⟩
theorem pe_non {j pos}:PE X (.Constant .none j pos) (tC .non):=⟨fun _ _ _ H _ I h=>Constant_none ⟨.non,H,I,rfl,h⟩⟩
theorem pe_str {x j pos}:PE X (.Constant (.str x) j pos) (tC (.str x)):=⟨fun _ _ _ H _ I h=>Calls.Constant_str ⟨.str x,H,I.tok _,⟨_,rfl⟩,h⟩⟩
def Gl (X:Cx) (x:Str):Prop:=X.env.kindOf x=some .globalImplicit
theorem ld_glob {E:Value→Shared→Prop}{pins:List (Addr×Obj)}{s:Shared}{σ:St}{H:Hp}{x:Str}{u:Value}{pos:Pos}{Q:Value→Shared→Prop} (I:Inv X pins σ H s) (hg:Gl X x) (hm:X.mg x=some u) (h:Q u s)
  (hd:(x == ("__debug__":Str))=false:=by decide):wpAny (model X.prog X.w) X.A (eval (.Name x pos) X.env) Q E s:=
 Calls.Name_function_global I.ok.kind hg (Calls.loadGlobal_global (by rw [I.ok.glob];exact I.mod.glob.keeps I.bk) hm h) hd
theorem ld_blt {E:Value→Shared→Prop}{pins:List (Addr×Obj)}{s:Shared}{σ:St}{H:Hp}{x:Str}{u:Value}{pos:Pos}{Q:Value→Shared→Prop} (I:Inv X pins σ H s) (hg:Gl X x) (hm:X.mg x=none) (hv:bootBuiltins x=some u) (h:Q u s)
  (hn:x≠"__name__":=by decide) (hd:(x == ("__debug__":Str))=false:=by decide):wpAny (model X.prog X.w) X.A (eval (.Name x pos) X.env) Q E s:=by
 obtain ⟨mb,h1,h2⟩:=I.mod.blt
 exact Calls.Name_function_global I.ok.kind hg (Calls.loadGlobal_builtin (by rw [I.ok.glob];exact I.mod.glob.keeps I.bk) hm (by rw [I.ok.blt];exact h1.keeps I.bk) ((h2 x hn).trans hv) h) hd
theorem pe_glob {x:Str}{v:V}{u:Value}{pos:Pos} (hg:Gl X x) (hm:X.mg x=some u) (r:RelV v u) (hd:(x == ("__debug__":Str))=false:=by decide):PE X (.Name x pos) (tC v):=
 ⟨fun _ _ _ H _ I h=>ld_glob I hg hm ⟨v,H,I,r,h⟩ hd⟩
variable {a b:Expr}{ta tb:TE}{pos:Pos}
structure PC (X:Cx) (op:CmpOp) (a b:Expr) (t:TE):Prop where
 run:
  ∀ (pins:List (Addr×Obj)) (s:Shared) (σ:St) (H:Hp) (Q:VK),Inv X pins σ H s→t σ H Q→
   wpAny (model X.prog X.w) X.A (eval a X.env) (fun v s₁=>wpAny (model X.prog X.w) X.A (eval b X.env) (fun u s₂=>wpAny (model X.prog X.w) X.A (compareOp op v u) (EP X pins σ Q) X.xe s₂) X.xe s₁) X.xe s
instance {X:Cx} {op:CmpOp} {a b:Expr} {t:TE}:CoeFun (PC X op a b t) (fun _=>
 ∀ (pins:List (Addr×Obj)) (s:Shared) (σ:St) (H:Hp) (Q:VK),Inv X pins σ H s→t σ H Q→
  wpAny (model X.prog X.w) X.A (eval a X.env) (fun v s₁=>wpAny (model X.prog X.w) X.A (eval b X.env) (fun u s₂=>wpAny (model X.prog X.w) X.A (compareOp op v u) (EP X pins σ Q) X.xe s₂) X.xe s₁) X.xe s):=⟨fun h=>h.run⟩
theorem nobehind (b:Expr) {op:CmpOp} (h:op≠.In) (h2:op≠.NotIn):behindInMarks op b=false:=by
 have e1:(op == CmpOp.In)=false:=by cases op <;> first | rfl | exact absurd rfl h
 have e2:(op == CmpOp.NotIn)=false:=by cases op <;> first | rfl | exact absurd rfl h2
 cases b <;> simp [behindInMarks,e1,e2]
def tIsN (ta:TE):TE:=fun σ H Q=>ta σ H fun x H1=>Q (.bl (decide (x=.non))) H1
theorem RelV.none_iff {x:V}{v:Value} (r:RelV x v):(v == Value.none)=decide (x=.non):=by
 cases x with
 | non=>cases r;rfl
 | bl _=>cases r;rfl
 | int _=>obtain ⟨t,rfl⟩:=r;rfl
 | str _=>obtain ⟨t,rfl⟩:=r;rfl
 | byt _=>obtain ⟨t,rfl⟩:=r;rfl
 | flt _=>obtain ⟨t,rfl⟩:=r;rfl
 | ref _=>cases r;rfl
 | ty _=>cases r;rfl
theorem pc_isN {j pos'} (ha:PE X a ta):PC X .Is a (.Constant .none j pos') (tIsN ta):=by
 constructor
 intro pins s σ H Q I h
 refine thn (ha pins s σ H _ I h) fun v s1 ⟨x,H1,I1,r1,q1⟩=>?_
 exact Constant_none (is_none_gen ⟨.bl _,H1,I1,by rw [r1.none_iff];rfl,q1⟩)
def tB (t:TE):TT:=fun σ H Q=>t σ H fun x H1=>∃ c,x=.bl c∧Q c H1
theorem pe_cmp {op:CmpOp}{t:TE} (h:PC X op a b t) (h1:behindInMarks op b=false:=by first | exact nobehind _ (by decide) (by decide) | rfl):PE X (.Compare a [op] [b] pos) t:=⟨fun pins s σ H Q I hw=>wpAny_Compare1 (h pins s σ H Q I hw) h1⟩
theorem pt_cmp {op:CmpOp}{t:TE} (h:PC X op a b t) (h1:behindInMarks op b=false:=by first | exact nobehind _ (by decide) (by decide) | rfl):PT X (.Compare a [op] [b] pos) (tB t):=by
 constructor
 intro pins s σ H Q I hw
 refine wpAny_isTrue_Compare1 (thn (h pins s σ H _ I hw) fun v s1 h1=>thn h1 fun u s2 h2=>thn h2 fun c s3 ⟨x,H1,I1,r1,q1⟩=>?_) h1
 obtain ⟨d,rfl,q⟩:=q1
 cases r1
 exact wpAny_truthy_bool ⟨H1,I1,q⟩
theorem pt_val {e:Expr}{t:TE} (h:PE X e t) (he:∀ whole,isTrue e X.env whole=(do let v ← whole;standAt e.pos;holding [v] (truthy v)):=by intro _;rfl):PT X e (tB t):=by
 constructor
 intro pins s σ H Q I hw
 refine isTrue_plain (thn (h pins s σ H _ I hw) fun v s1 ⟨x,H1,I1,r1,q1⟩=>?_) (he _)
 obtain ⟨d,rfl,q⟩:=q1
 cases r1
 exact wpAny_truthy_bool ⟨H1,I1,q⟩
variable {tA tB':TT}{rest:List Expr}
def tAnd (t u:TT):TT:=fun σ H Q=>t σ H fun c H1=>if c=true then u σ H1 Q else Q false H1
def tOr (t u:TT):TT:=fun σ H Q=>t σ H fun c H1=>if c=true then Q true H1 else u σ H1 Q
def tNot (t:TT):TT:=fun σ H Q=>t σ H fun c H1=>Q (!c) H1
theorem pw_and1 (ha:PT X a tA):PW X (.BoolOp .And [a] pos) tA:=by
 constructor
 intro wh pins s σ H Q I h
 refine isTrue_and (thn (ha pins s σ H Q I h) fun c s1 e=>?_)
 cases c with
 | true=>exact isTrue_and_nil e
 | false=>exact e
theorem pw_or1 (ha:PT X a tA):PW X (.BoolOp .Or [a] pos) tA:=by
 constructor
 intro wh pins s σ H Q I h
 refine isTrue_or (thn (ha pins s σ H Q I h) fun c s1 e=>?_)
 cases c with
 | false=>exact isTrue_or_nil e
 | true=>exact e
theorem pw_and (ha:PT X a tA) (hb:PW X (.BoolOp .And (b :: rest) pos) tB'):PW X (.BoolOp .And (a :: b :: rest) pos) (tAnd tA tB'):=by
 constructor
 intro wh pins s σ H Q I h
 refine isTrue_and (thn (ha pins s σ H _ I h) fun c s1 ⟨H1,I1,q1⟩=>?_)
 cases c with
 | true=>exact hb wh pins s1 σ H1 Q I1 q1
 | false=>exact ⟨H1,I1,q1⟩
theorem pw_or (ha:PT X a tA) (hb:PW X (.BoolOp .Or (b :: rest) pos) tB'):PW X (.BoolOp .Or (a :: b :: rest) pos) (tOr tA tB'):=by
 constructor
 intro wh pins s σ H Q I h
 refine isTrue_or (thn (ha pins s σ H _ I h) fun c s1 ⟨H1,I1,q1⟩=>?_)
 cases c with
 | true=>exact ⟨H1,I1,q1⟩
 | false=>exact hb wh pins s1 σ H1 Q I1 q1
theorem pt_not (ha:PT X a tA):PT X (.UnaryOp .Not a pos) (tNot tA):=by
 constructor
 intro pins s σ H Q I h
 exact isTrue_not (ha pins s σ H (fun c H1=>Q (!c) H1) I h)
def tAndV (ta tb:TE):TE:=fun σ H Q=>ta σ H fun x H1=>∃ c,x=.bl c∧if c=true then tb σ H1 Q else Q (.bl false) H1
theorem pe_one {op}{t:TE} (h:PE X a t):PE X (.BoolOp op [a] pos) t:=⟨fun pins s σ H Q I hw=>BoolOp_one (h pins s σ H Q I hw)⟩
theorem pe_and (ha:PE X a ta) (hb:PE X (.BoolOp .And (b :: rest) pos) tb):PE X (.BoolOp .And (a :: b :: rest) pos) (tAndV ta tb):=by
 constructor
 intro pins s σ H Q I h
 refine BoolOp_and (thn (ha pins s σ H _ I h) fun v s1 ⟨x,H1,I1,r1,q1⟩=>?_)
 obtain ⟨c,rfl,q1⟩:=q1
 cases r1
 refine wpAny_truthy_bool ?_
 cases c with
 | true=>exact hb pins s1 σ H1 Q I1 q1
 | false=>exact ⟨.bl false,H1,I1,rfl,q1⟩
def tIf (t:TT) (ta tb:TE):TE:=fun σ H Q=>t σ H fun c H1=>if c=true then ta σ H1 Q else tb σ H1 Q
theorem pe_ifExp {c:Expr} (hc:PT X c tA) (ha:PE X a ta) (hb:PE X b tb):PE X (.IfExp c a b pos) (tIf tA ta tb):=by
 constructor
 intro pins s σ H Q I h
 refine wpAny_IfExp (thn (hc pins s σ H _ I h) fun d s1 ⟨H1,I1,q1⟩=>?_)
 cases d with
 | true=>exact ha pins s1 σ H1 Q I1 q1
 | false=>exact hb pins s1 σ H1 Q I1 q1
end
end L2
namespace L2
open PySem PySem.Spec PyProof.Rows
def SqL (K:PySem.W.Frag) (H:Hp) (a:Addr) (xs:List V):Prop:=
 Rd H a (.lst xs)∨
  ∃ (o:Obj) (its:Array Value) (n:Nat),K.lookup a=some o∧o.cls=.type "list"∧o.dict=none∧o.data=.seq its n∧its.size≤sizeLine∧Vals xs its.toList
def SqT (K:PySem.W.Frag) (H:Hp) (a:Addr) (xs:List V):Prop:=
 Rd H a (.tup xs)∨
  ∃ (o:Obj) (its:Array Value) (n:Nat),K.lookup a=some o∧o.cls=.type "tuple"∧o.data=.seq its n∧its.size≤sizeLine∧Vals xs its.toList
def absV:Value→Option V
 | .none=>some .non
 | .bool b=>some (.bl b)
 | .int i _=>some (.int i)
 | .str x _=>some (.str x)
 | .bytes b _=>some (.byt b)
 | .float b _=>some (.flt b)
 | .ref a=>some (.ref a)
 | .type n=>some (.ty n)
 | _=>none
theorem RelV.abs {x:V}{u:Value} (r:RelV x u):absV u=some x:=by
 cases x with
 | non=>cases r;rfl
 | bl _=>cases r;rfl
 | int _=>obtain ⟨t,rfl⟩:=r;rfl
 | str _=>obtain ⟨t,rfl⟩:=r;rfl
 | byt _=>obtain ⟨t,rfl⟩:=r;rfl
 | flt _=>obtain ⟨t,rfl⟩:=r;rfl
 | ref _=>cases r;rfl
 | ty _=>cases r;rfl
theorem RelV.inj {x y:V}{u:Value} (r:RelV x u) (q:RelV y u):x=y:=Option.some.inj (r.abs.symm.trans q.abs)
theorem Vals.inj:∀ {xs ys:List V}{us:List Value},Vals xs us→Vals ys us→xs=ys
 | _,_,_,.nil,.nil=>rfl
 | _,_,_,.cons r t,.cons r' t'=>by rw [r.inj r',Vals.inj t t']
section
variable {X:Cx}{pins:List (Addr×Obj)}{σ:St}{H:Hp}{s:Shared}{a:Addr}{xs ys:List V}
theorem SqL.of {K:PySem.W.Frag} (h:H a=some (.lst xs)):SqL K H a xs:=.inl (.inl h)
theorem SqT.of {K:PySem.W.Frag} (h:H a=some (.tup xs)):SqT K H a xs:=.inl (.inl h)
theorem Inv.list (I:Inv X pins σ H s) (h:SqL X.K H a xs):∃ its:List Value,Vals xs its∧PlainL s.heap a its.toArray∧xs.length≤sizeLine:=by
 rcases h with h | ⟨o,its,n,hk,hc,hd,hs,hz,r⟩
 ·obtain ⟨z,its,n,r,e⟩:=h.ok I.hok
  exact ⟨its,r,⟨_,n,e,rfl,rfl,rfl⟩,z⟩
 ·refine ⟨its.toList,r,⟨o,n,I.kIn a o hk,hc,hd,by simpa using hs⟩,?_⟩
  have e:=r.length
  simp only [Array.length_toList] at e
  omega
theorem Inv.tuple (I:Inv X pins σ H s) (h:SqT X.K H a xs):∃ its:List Value,Vals xs its∧IsTup s.heap a its.toArray∧xs.length≤sizeLine:=by
 rcases h with h | ⟨o,its,n,hk,hc,hs,hz,r⟩
 ·obtain ⟨z,its,r,p⟩:=h.ok I.hok
  exact ⟨its,r,p.tup,z⟩
 ·refine ⟨its.toList,r,⟨o,I.kIn a o hk,hc,n,by simpa using hs⟩,?_⟩
  have e:=r.length
  simp only [Array.length_toList] at e
  omega
theorem Inv.list_inj (I:Inv X pins σ H s) (h:SqL X.K H a xs) (h':SqL X.K H a ys):xs=ys:=by
 obtain ⟨its,r,⟨o,n,e,_,_,d⟩,_⟩:=I.list h
 obtain ⟨its',r',⟨o',n',e',_,_,d'⟩,_⟩:=I.list h'
 rw [e] at e';cases e'
 rw [d] at d'
 injection d' with d1 _
 have:its=its':=by simpa using congrArg Array.toList d1
 subst this
 exact r.inj r'
theorem Inv.tuple_inj (I:Inv X pins σ H s) (h:SqT X.K H a xs) (h':SqT X.K H a ys):xs=ys:=by
 obtain ⟨its,r,⟨o,e,_,n,d⟩,_⟩:=I.tuple h
 obtain ⟨its',r',⟨o',e',_,n',d'⟩,_⟩:=I.tuple h'
 rw [e] at e';cases e'
 rw [d] at d'
 injection d' with d1 _
 have:its=its':=by simpa using congrArg Array.toList d1
 subst this
 exact r.inj r'
end
abbrev Cx.wish (X:Cx) (E:Value→Shared→Prop):Cx:={ X with xe:=E }
abbrev Cx.nox (X:Cx):Cx:=X.wish fun _ _=>False
theorem Cx.Ok.wish {X:Cx} (ok:X.Ok) (E:Value→Shared→Prop):(X.wish E).Ok:=
 ⟨ok.mod,ok.kind,ok.glob,ok.blt,ok.above,ok.inj,ok.has,ok.cab,ok.hd,ok.frames,ok.stk,ok.exf,ok.bs,ok.bsz,ok.noex,ok.exfs,ok.funs,ok.frf⟩
theorem Cx.Ok.unwish {X:Cx}{E:Value→Shared→Prop} (ok:(X.wish E).Ok):X.Ok:=
 ⟨ok.mod,ok.kind,ok.glob,ok.blt,ok.above,ok.inj,ok.has,ok.cab,ok.hd,ok.frames,ok.stk,ok.exf,ok.bs,ok.bsz,ok.noex,ok.exfs,ok.funs,ok.frf⟩
section
variable {X:Cx}{pins:List (Addr×Obj)}{σ:St}{H:Hp}{s:Shared}{E:Value→Shared→Prop}
theorem Inv.wish (I:Inv X pins σ H s) (E:Value→Shared→Prop):Inv (X.wish E) pins σ H s:=⟨I.ok.wish E,I.os,I.bare,I.base,I.loc,I.cell,I.free,I.freeC,I.pin,I.hok,I.len⟩
theorem Inv.unwish (I:Inv (X.wish E) pins σ H s):Inv X pins σ H s:=⟨I.ok.unwish,I.os,I.bare,I.base,I.loc,I.cell,I.free,I.freeC,I.pin,I.hok,I.len⟩
theorem SP.unwish {D:Ends}{f:Flow}{s':Shared} (h:SP (X.wish E) pins D f s'):SP X pins D f s':=by
 cases f with
 | next=>obtain ⟨σ',H',I,q⟩:=h;exact ⟨σ',H',I.unwish,q⟩
 | brk=>obtain ⟨σ',H',I,q⟩:=h;exact ⟨σ',H',I.unwish,q⟩
 | cont=>obtain ⟨σ',H',I,q⟩:=h;exact ⟨σ',H',I.unwish,q⟩
 | ret u=>obtain ⟨v,σ',H',I,r,q⟩:=h;exact ⟨v,σ',H',I.unwish,r,q⟩
theorem PSs.nox {st:List Stmt}{t:TS} (h:PSs X.nox st t):PSs X st t:=⟨fun pins s σ H D I hw=>
 wpAny_mono (h pins s σ H D (I.wish _) hw) (fun _ _ q=>q.unwish) fun _ _ z=>False.elim z⟩
end
section
variable {X:Cx}{st:Stmt}{rest:List Stmt}{t u:TS}{e:Expr}{te:TE}{pos:Pos}
def tNext:TS:=fun D σ H=>D.nx σ H
def tSeq (t u:TS):TS:=fun D σ H=>t { D with nx:=u D } σ H
theorem pss_nil:PSs X [] tNext:=⟨fun _ _ σ H _ I h=>wpAny_execs_nil ⟨σ,H,I,h⟩⟩
theorem pss_cons (h1:PS X st t) (h2:PSs X rest u):PSs X (st :: rest) (tSeq t u):=by
 constructor
 intro pins s σ H D I h
 refine wpAny_execs_cons (thn (h1 pins s σ H { D with nx:=u D } I h) fun f s1 q=>?_)
 cases f with
 | next=>
  obtain ⟨σ',H',I',q⟩:=q
  exact h2 pins s1 σ' H' D I' q
 | ret v=>exact q
 | brk=>exact q
 | cont=>exact q
theorem pss_one (h1:PS X st t):PSs X [st] t:=by
 constructor
 intro pins s σ H D I h
 refine wpAny_execs_cons (thn (h1 pins s σ H D I h) fun f s1 q=>?_)
 cases f with
 | next=>exact wpAny_execs_nil q
 | ret v=>exact q
 | brk=>exact q
 | cont=>exact q
theorem Inv.quiet {pins:List (Addr×Obj)}{σ:St}{H:Hp}{s:Shared} (I:Inv X pins σ H s):interactive X.env=false:=by simp [interactive,I.ok.kind]
def tDrop (te:TE):TS:=fun D σ H=>te σ H fun _ H1=>D.nx σ H1
theorem ps_expr (he:PE X e te) (hs:swapsWith e none pos.line X.env=pure false:=by rfl):PS X (.Expr e pos) (tDrop te):=by
 constructor
 intro pins s σ H D I h
 exact wpAny_Expr_any (thn (he pins s σ H _ I h) fun v s1 ⟨x,H1,I1,r1,q1⟩=>⟨σ,H1,I1,q1⟩) I.quiet hs
def tRet (te:TE):TS:=fun D σ H=>te σ H D.rt
theorem ps_ret (he:PE X e te):PS X (.Return (some e) pos) (tRet te):=by
 constructor
 intro pins s σ H D I h
 exact wpAny_Return_some (thn (he pins s σ H _ I h) fun v s1 ⟨x,H1,I1,r1,q1⟩=>⟨x,σ,H1,I1,r1,q1⟩)
def tIfS (c:TT) (t u:TS):TS:=fun D σ H=>c σ H fun b H1=>if b=true then t D σ H1 else u D σ H1
theorem ps_if {c:Expr}{a b:List Stmt}{tc:TT} (hc:PT X c tc) (ha:PSs X a t) (hb:PSs X b u):PS X (.If c a b pos) (tIfS tc t u):=by
 constructor
 intro pins s σ H D I h
 refine wpAny_If (thn (hc pins s σ H _ I h) fun d s1 ⟨H1,I1,q1⟩=>?_)
 cases d with
 | true=>exact ha pins s1 σ H1 D I1 q1
 | false=>exact hb pins s1 σ H1 D I1 q1
def tNever:TS:=fun _ _ _=>False
theorem pss_never {sts:List Stmt}:PSs X sts tNever:=⟨fun _ _ _ _ _ _ h=>h.elim⟩
end
abbrev TG:=V→St→Hp→(St→Hp→Prop)→Prop
abbrev TGs:=List V→St→Hp→(St→Hp→Prop)→Prop
structure PG (X:Cx) (target:Expr) (t:TG):Prop where
 run:
  ∀ (pins:List (Addr×Obj)) (s:Shared) (σ:St) (H:Hp) (v:V) (u:Value) (Q:St→Hp→Prop),Inv X pins σ H s→RelV v u→t v σ H Q→
   wpAny (model X.prog X.w) X.A (assign target X.env u) (fun _ s'=>∃ σ' H',Inv X pins σ' H' s'∧Q σ' H') X.xe s
instance {X:Cx} {target:Expr} {t:TG}:CoeFun (PG X target t) (fun _=>
 ∀ (pins:List (Addr×Obj)) (s:Shared) (σ:St) (H:Hp) (v:V) (u:Value) (Q:St→Hp→Prop),Inv X pins σ H s→RelV v u→t v σ H Q→
  wpAny (model X.prog X.w) X.A (assign target X.env u) (fun _ s'=>∃ σ' H',Inv X pins σ' H' s'∧Q σ' H') X.xe s):=⟨fun h=>h.run⟩
structure PGs (X:Cx) (ts:List Expr) (t:TGs):Prop where
 run:
  ∀ (pins:List (Addr×Obj)) (s:Shared) (σ:St) (H:Hp) (vs:List V) (us:List Value) (Q:St→Hp→Prop),Inv X pins σ H s→Vals vs us→t vs σ H Q→
   wpAny (model X.prog X.w) X.A (assignInOrder ((assignEach ts X.env).map (·.2)) us) (fun _ s'=>∃ σ' H',Inv X pins σ' H' s'∧Q σ' H') X.xe s
instance {X:Cx} {ts:List Expr} {t:TGs}:CoeFun (PGs X ts t) (fun _=>
 ∀ (pins:List (Addr×Obj)) (s:Shared) (σ:St) (H:Hp) (vs:List V) (us:List Value) (Q:St→Hp→Prop),Inv X pins σ H s→Vals vs us→t vs σ H Q→
  wpAny (model X.prog X.w) X.A (assignInOrder ((assignEach ts X.env).map (·.2)) us) (fun _ s'=>∃ σ' H',Inv X pins σ' H' s'∧Q σ' H') X.xe s):=⟨fun h=>h.run⟩
abbrev TSet:=V→V→V→Hp→(Hp→Prop)→Prop
def PSet (X:Cx) (t:TSet):Prop:=
 ∀ (pins:List (Addr×Obj)) (s:Shared) (σ:St) (H:Hp) (o i v:V) (ov iv u:Value) (Q:Hp→Prop),Inv X pins σ H s→RelV o ov→RelV i iv→RelV v u→t o i v H Q→
  wpAny (model X.prog X.w) X.A (setItem ov iv u) (fun _ s'=>∃ H',Inv X pins σ H' s'∧Q H') X.xe s
abbrev TIp:=V→V→Hp→VK→Prop
def PIp (X:Cx) (op:Operator) (t:TIp):Prop:=
 ∀ (pins:List (Addr×Obj)) (s:Shared) (σ:St) (H:Hp) (x y:V) (v u:Value) (Q:VK),Inv X pins σ H s→RelV x v→RelV y u→t x y H Q→
  wpAny (model X.prog X.w) X.A (inplaceOp op v u) (EP X pins σ Q) X.xe s
section
variable {X:Cx}{pos:Pos}
def gName (i:Nat):TG:=fun v σ H Q=>Q (σ.set i (some v)) H
theorem pg_name {i:Nat}{x:Str} (hN:X.N.Nodup) (hi:X.N[i]?=some x) (hx:Loc X.env.scope x) (hf:X.fn x=true∨X.env.scope.names.lookup x=some .local:=by first | exact .inl rfl | exact .inr rfl | assumption):PG X (.Name x pos) (gName i):=by
 constructor
 intro pins s σ H v u Q I r h
 exact wpAny_assign_Name (store_ok I hN hi hx r (fun s' I'=>⟨_,H,I',h⟩) hf)
def gNil:TGs:=fun vs σ H Q=>vs=[]∧Q σ H
def gCons (t:TG) (u:TGs):TGs:=fun vs σ H Q=>∃ v r,vs=v :: r∧t v σ H fun σ' H'=>u r σ' H' Q
theorem pgs_nil:PGs X [] gNil:=by
 constructor
 intro pins s σ H vs us Q I r h
 obtain ⟨e,h⟩:=h
 subst e
 cases r
 exact assignInOrder_nil ⟨σ,H,I,h⟩
theorem pgs_cons {e:Expr}{es:List Expr}{t:TG}{u:TGs} (h1:PG X e t) (h2:PGs X es u)
  (hs:(assignEach (e :: es) X.env).map (·.2)=assign e X.env :: (assignEach es X.env).map (·.2):=by rfl):PGs X (e :: es) (gCons t u):=by
 constructor
 intro pins s σ H vs us Q I r h
 obtain ⟨v,vr,e1,h⟩:=h
 subst e1
 cases r with
 | cons r rr=>
  rw [hs]
  refine assignInOrder_cons (thn (h1 pins s σ H _ _ _ I r h) fun _ s1 ⟨σ1,H1,I1,q1⟩=>?_)
  exact h2 pins s1 σ1 H1 _ _ Q I1 rr q1
def gTup (K:PySem.W.Frag) (n:Nat) (t:TGs):TG:=fun v σ H Q=>∃ a xs,v=.ref a∧SqT K H a xs∧xs.length=n∧t xs σ H Q
theorem pg_tup {es:List Expr}{k:Nat}{t:TGs}{n:Nat} (hc:X.calm=true) (h:PGs X es t)
  (hn:(assignEach es X.env).length=n:=by rfl) (hst:(assignEach es X.env).findIdx? (·.1)=none:=by rfl):PG X (.Tuple es k pos) (gTup X.K n t):=by
 constructor
 intro pins s σ H v u Q I r hw
 obtain ⟨a,xs,e1,hq,hl,hw⟩:=hw
 subst e1
 cases r
 obtain ⟨its,rv,ht,hz⟩:=I.tuple hq
 refine assign_Tuple_tuple (I.ok.hd hc) ht (by simp [hn,← hl,rv.length]) hst fun h' hx=>?_
 have I1:Inv X pins σ H { s with heap:=h' }:=I.kept (t':=s.toks) fun b o e=>hx b o (Nat.ne_of_lt (Heap.lt_size e)) e
 exact h pins _ σ H xs _ Q I1 (by simpa using rv) hw
def gSub (to ti:TE) (t:TSet):TG:=fun v σ H Q=>to σ H fun o H1=>ti σ H1 fun i H2=>t o i v H2 fun H3=>Q σ H3
theorem pg_sub {o i:Expr}{to ti:TE}{t:TSet} (ho:PE X o to) (hi:PE X i ti) (hs:PSet X t)
  (ha:∀ v,assign (.Subscript o i pos) X.env v=(do
   let ov ← holding [v] (eval o X.env)
   let iv ← holding [v,ov] (eval i X.env)
   standAt pos
   holding [v,ov,iv] (setItem ov iv v)
   release [v,ov,iv] []):=by intro _;rfl):PG X (.Subscript o i pos) (gSub to ti t):=by
 constructor
 intro pins s σ H v u Q I r h
 rw [ha]
 refine wpAny_bind (wpAny_holding (thn (ho pins s σ H _ I h) fun ov s1 ⟨x,H1,I1,r1,q1⟩=>?_))
 refine wpAny_bind (wpAny_holding (thn (hi pins s1 σ H1 _ I1 q1) fun iv s2 ⟨y,H2,I2,r2,q2⟩=>?_))
 refine wpAny_bind (wpAny_standAt (wpAny_bind (wpAny_holding (thn (hs pins s2 σ H2 x y v ov iv u _ I2 r1 r2 r q2) fun _ s3 ⟨H3,I3,q3⟩=>?_))))
 exact wpAny_release ⟨σ,H3,I3,q3⟩
def tAsg (te:TE) (g:TG):TS:=fun D σ H=>te σ H fun x H1=>g x σ H1 D.nx
theorem ps_asg {tg e:Expr}{te:TE}{g:TG} (he:PE X e te) (hg:PG X tg g) (hs:swapsWithSole [tg] e pos.line X.env=pure false:=by rfl) (hw:swappedStores [tg] e X.env=pure none:=by rfl)
  (h1:(assignEach [tg] X.env).map (·.2)=[assign tg X.env]:=by rfl):PS X (.Assign [tg] e pos) (tAsg te g):=by
 constructor
 intro pins s σ H D I h
 refine wpAny_Assign_stores (thn (he pins s σ H _ I h) fun v s1 ⟨x,H1,I1,r1,q1⟩=>?_) hs hw
 rw [h1]
 exact thn (hg pins s1 σ H1 x v _ I1 r1 q1) fun _ s2 q=>q
theorem ps_set {i:Nat}{x:Str}{e:Expr}{te:TE}{pos':Pos} (hN:X.N.Nodup) (hi:X.N[i]?=some x) (hx:Loc X.env.scope x) (he:PE X e te) (hs:swapsWith e (some (.Name x pos')) pos.line X.env=pure false:=by rfl) (hf:X.fn x=true∨X.env.scope.names.lookup x=some .local:=by first | exact .inl rfl | exact .inr rfl | assumption):
  PS X (.Assign [.Name x pos'] e pos) (tAsg te (gName i)):=by
 constructor
 intro pins s σ H D I h
 refine wpAny_Assign_Name (thn (he pins s σ H _ I h) fun v s1 ⟨y,H1,I1,r1,q1⟩=>?_) hs
 exact store_ok I1 hN hi hx r1 (fun s2 I2=>⟨_,H1,I2,q1⟩) hf
def tPar (i j:Nat) (ta:TA):TS:=fun D σ H=>ta σ H fun vs H1=>∃ v w,vs=[v,w]∧D.nx ((σ.set i (some v)).set j (some w)) H1
theorem ps_par {i j:Nat}{x y:Str}{a b:Expr}{ta:TA}{px py pt:Pos}{kt k2 pt2} (hc:X.calm=true) (hN:X.N.Nodup) (hi:X.N[i]?=some x) (hj:X.N[j]?=some y) (hij:i≠j)
  (hx:X.env.scope.names.lookup x=some .local) (hy:X.env.scope.names.lookup y=some .local) (ha:PA X [a,b] ta)
  (hw:swappedStores [.Tuple [.Name x px,.Name y py] kt pt] (.Tuple [a,b] k2 pt2) X.env=pure (some [x,y]))
  (hs:swapsWithSole [.Tuple [.Name x px,.Name y py] kt pt] (.Tuple [a,b] k2 pt2) pos.line X.env=pure false:=by rfl):
  PS X (.Assign [.Tuple [.Name x px,.Name y py] kt pt] (.Tuple [a,b] k2 pt2) pos) (tPar i j ta):=by
 constructor
 intro pins s σ H D I h
 rw [exec_Assign_arm]
 refine wpAny_bind (wpAny_standAt ?_)
 rw [hs]
 refine wpAny_bind (wpAny_pure ?_)
 rw [if_neg (by decide)]
 refine wpAny_bind (Tuple_ (thn (ha _ pins s σ H _ I h) fun us s1 ⟨vs,H1,I1,r1,q1⟩=>?_))
 obtain ⟨v,w,e1,q1⟩:=q1
 subst e1
 obtain ⟨u1,u2,rfl,rv,rw'⟩:∃ u1 u2,us=[u1,u2]∧RelV v u1∧RelV w u2:=by
  cases r1 with
  | cons p q=>
   cases q with
   | cons p' q'=>
    cases q'
    exact ⟨_,_,rfl,p,p'⟩
 refine wpAny_newObj_type ?_ (by show 2≤sizeLine;decide)
 have I2:Inv X pins σ H1 { s1 with heap:=s1.heap.push { cls:=.type "tuple",data:=.seq [u1,u2].toArray } }:=I1.kept (t':=s1.toks) fun b o e=>Heap.get?_push_of_some _ e
 rw [hw]
 refine wpAny_bind (wpAny_pure ?_)
 show wpAny (model X.prog X.w) X.A (do rule "assign.swapped-stores";let items ← unpackItems (.ref s1.heap.objs.size) 2 none;assignInOrder [fun v=>bindName X.env y v,fun v=>bindName X.env x v] items.reverse;pure Flow.next) _ _ _
 refine wpAny_bind (wpAny_rule (wpAny_bind (unpackItems_tuple (items:=#[u1,u2]) (I.ok.hd hc) (IsTup.new s1.heap _) fun h' hx'=>?_)))
 have I3:=I2.kept (h':=h') (t':=s1.toks) fun b o e=>hx' b o (Nat.ne_of_lt (Heap.lt_size e)) e
 show wpAny _ _ (assignInOrder [fun v=>bindName X.env y v,fun v=>bindName X.env x v] [u2,u1] >>= fun _=>pure Flow.next) _ _ _
 refine wpAny_bind (assignInOrder_cons (wpAny_bindName (store_ok I3 hN hj (.inl hy) rw' (fun s2 I4=>?_) (.inr hy))))
 refine assignInOrder_cons (wpAny_bindName (store_ok I4 hN hi (.inl hx) rv (fun s3 I5=>assignInOrder_nil (wpAny_pure ?_)) (.inr hx)))
 rw [List.set_comm _ _ (Ne.symm hij)] at I5
 exact ⟨_,H1,I5,q1⟩
def tAug (i:Nat) (te:TE) (ti:TIp):TS:=fun D σ H=>∃ x,σ[i]?=some (some x)∧te σ H fun y H1=>ti x y H1 fun z H2=>D.nx (σ.set i (some z)) H2
theorem ps_aug {i:Nat}{x:Str}{e:Expr}{te:TE}{op:Operator}{ti:TIp}{pos':Pos} (hN:X.N.Nodup) (hi:X.N[i]?=some x) (hx:Loc X.env.scope x) (he:PE X e te) (ho:PIp X op ti) (hf:X.fn x=true∨X.env.scope.names.lookup x=some .local:=by first | exact .inl rfl | exact .inr rfl | assumption):
  PS X (.AugAssign (.Name x pos') op e pos) (tAug i te ti):=by
 constructor
 intro pins s σ H D I h
 obtain ⟨v,e1,h⟩:=h
 obtain ⟨m,hn,hl⟩:=I.loc
 have vis:Vis X.env.scope x:=by rcases hx with k | k;exact .inl k;exact .inr (.inl k)
 obtain ⟨u,r,l⟩:=hl i x v hi e1 vis
 refine wpAny_AugAssign_Name ?_
 have go:wpAny (model X.prog X.w) X.A (eval e X.env) (fun w s₂=>wpAny (model X.prog X.w) X.A (inplaceOp op u w) (fun r s₃=>wpAny (model X.prog X.w) X.A (storeName X.env x r) (fun _=>SP X pins D .next) X.xe s₃) X.xe s₂) X.xe s:=by
  refine thn (he pins s σ H _ I h) fun w s1 ⟨y,H1,I1,r1,q1⟩=>?_
  refine thn (ho pins s1 σ H1 v y u w _ I1 r r1 q1) fun z s2 ⟨zv,H2,I2,r2,q2⟩=>?_
  exact store_ok I2 hN hi hx r2 (fun s3 I3=>⟨_,H2,I3,q2⟩) hf
 rcases l with ⟨hk,hm⟩ | ⟨hk,c,hc,hcell⟩
 ·exact wpAny_loadName_local I.ok.kind hk hn hm go
 ·rcases hk with hk | hk
  ·exact wpAny_loadName_cell I.ok.kind hk hc hcell go
  ·rcases hx with k | k
   ·have:X.env.scope.names.lookup x=some .free:=hk
    rw [k] at this;cases this
   ·have:X.env.scope.names.lookup x=some .free:=hk
    rw [k] at this;cases this
def ipI (f:Int→Int→Int):TIp:=fun x y H Q=>∃ i j,x=.int i∧y=.int j∧Q (.int (f i j)) H
theorem ip_add:PIp X .Add (ipI fun i j=>i + j):=by
 intro pins s σ H x y v u Q I r1 r2 h
 obtain ⟨i,j,e1,e2,q⟩:=h
 subst e1;subst e2
 obtain ⟨t,rfl⟩:=r1
 obtain ⟨t',rfl⟩:=r2
 exact iadd_int ⟨.int _,H,I.tok _,⟨_,rfl⟩,q⟩
end
section
variable {X:Cx}{pos:Pos}
def tWhile (c:TT) (tb:TS):TS:=fun D σ H=>∃ W:Nat→St→Hp→Prop,(∃ m,W m σ H)∧∀ m σ H,W m σ H→
 c σ H fun b H1=>if b=true then ∃ N:St→Hp→Prop,(∀ σ' H',N σ' H'→∃ m',m' < m∧W m' σ' H')∧tb { D with nx:=N,ct:=N,bk:=D.nx } σ H1 else D.nx σ H1
theorem ps_while {c:Expr}{body:List Stmt}{tc:TT}{tb:TS} (hp:PassesOwn (model X.prog X.w) X.A X.env X.xe) (hc:PT X c tc) (hb:PSs X body tb):PS X (.While c body [] pos) (tWhile tc tb):=by
 constructor
 intro pins s σ H D I h
 obtain ⟨W,⟨m0,w0⟩,turn⟩:=h
 refine wpAny_While (codeAny_whileLoop (fun n s'=>∃ σ' H',Inv X pins σ' H' s'∧W n σ' H') ?_ m0 ⟨σ,H,I,w0⟩)
 rintro n s1 ⟨σ1,H1,I1,w1⟩
 refine wpAny_passesOwn hp (thn (hc pins s1 σ1 H1 _ I1 (turn n σ1 H1 w1)) fun b s2 ⟨H2,I2,q2⟩=>?_)
 cases b with
 | true=>
  obtain ⟨N,hN,q2⟩:=q2
  rw [if_pos rfl]
  refine wpAny_passesOwn hp (thn (hb pins s2 σ1 H2 _ I2 q2) fun f s3 q3=>?_)
  cases f with
  | next=>
   obtain ⟨σ3,H3,I3,n3⟩:=q3
   obtain ⟨m',hm,w3⟩:=hN σ3 H3 n3
   exact ⟨m',hm,σ3,H3,I3,w3⟩
  | cont=>
   obtain ⟨σ3,H3,I3,n3⟩:=q3
   obtain ⟨m',hm,w3⟩:=hN σ3 H3 n3
   exact ⟨m',hm,σ3,H3,I3,w3⟩
  | brk=>exact q3
  | ret v=>exact q3
 | false=>
  rw [if_neg Bool.false_ne_true]
  exact wpAny_execs_nil ⟨σ1,H2,I2,q2⟩
end
structure It where
 go:Nat→Hp→Prop
 yld:Nat→Hp→V→Hp→Prop
 stop:Nat→Hp→Prop
def FpOk (X:Cx) (pins:List (Addr×Obj)) (H:Hp) (b:Addr):Prop:=
 H b=none∧b≠X.env.locals∧b ∉ X.fs∧(b∈X.ex∨X.s₀.heap.objs.size≤b)∧(∀ x c,X.env.cells.lookup x=some c→c≠b)∧∀ p∈X.pn ++ pins,p.1≠b
theorem Inv.fpOk {X:Cx}{pins:List (Addr×Obj)}{σ:St}{H H':Hp}{s:Shared}{b:Addr} (I:Inv X pins σ H s) (hb:s.heap.objs.size≤b) (hn:H' b=none):FpOk X pins H' b:=by
 refine ⟨hn,Nat.ne_of_gt (Nat.lt_of_lt_of_le I.lt hb),I.nofs hb,.inr (Nat.le_trans I.sz hb),fun x c e z=>?_,fun p hp z=>?_⟩
 ·obtain ⟨v,q⟩:=I.cell x c e
  exact absurd (Nat.lt_of_lt_of_le q.lt (by rw [z];exact hb)) (Nat.lt_irrefl _)
 ·exact absurd (Nat.lt_of_lt_of_le (Heap.lt_size (I.pin p hp).1) (by rw [z];exact hb)) (Nat.lt_irrefl _)
structure Turn (P:Program) (w:World) (K:PySem.W.Frag) (tg:Expr) (J:It) (fp:List Addr) (it:Addr) (tn:Nat→Heap→Prop):Prop where
 mem:it∈fp
 obj:∀ i h,tn i h→∀ b∈fp,∃ o,h.get? b=some o∧∀ v,o.data≠.cell v
 keep:∀ i h h',tn i h→(∀ b∈fp,∀ o,h.get? b=some o→h'.get? b=some o)→tn i h'
 item:∀ (X:Cx),X.prog=P→X.w=w→X.K=K→X.calm=true→∀ (i:Nat) (pins:List (Addr×Obj)) (s:Shared) (σ:St) (H:Hp) (E:Value→Shared→Prop),Inv X pins σ H s→(∀ b∈fp,FpOk X pins H b)→tn i s.heap→J.go i H→
  wpAny (model P w) X.A (pyNext (.ref it)) (fun r s1=>∃ u,r=some u∧
   wpAny (model P w) X.A (letOwnedTupleGo tg (.ref it) u) (fun _ s2=>∃ x H',Inv X pins σ H' s2∧RelV x u∧J.yld i H x H'∧tn (i + 1) s2.heap∧∀ b∈fp,H' b=none) E s1) E s
 done:∀ (X:Cx),X.prog=P→X.w=w→X.K=K→X.calm=true→∀ (i:Nat) (pins:List (Addr×Obj)) (s:Shared) (σ:St) (H:Hp) (E:Value→Shared→Prop),Inv X pins σ H s→(∀ b∈fp,FpOk X pins H b)→tn i s.heap→J.stop i H→
  wpAny (model P w) X.A (pyNext (.ref it)) (fun r s1=>r=none∧Inv X pins σ H s1) E s
 self:∀ (A:Around) (i:Nat) (s:Shared) (Q:Value→Shared→Prop) (E:Value→Shared→Prop),tn i s.heap→Q (.ref it) s→wpAny (model P w) A (pyIter (.ref it)) Q E s
abbrev TI:=St→Hp→(It→Hp→Prop)→Prop
def PIE (X:Cx) (pins:List (Addr×Obj)) (σ:St) (tg:Expr) (R:It→Hp→Prop) (itv:Value) (s2:Shared):Prop:=
 ∃ (it:Addr) (fp:List Addr) (tn:Nat→Heap→Prop) (J:It) (H':Hp),itv=.ref it∧Inv X pins σ H' s2∧Turn X.prog X.w X.K tg J fp it tn∧tn 0 s2.heap∧(∀ b∈fp,FpOk X pins H' b)∧R J H'
structure PI (X:Cx) (tg iter:Expr) (wi:TI):Prop where
 run:
  ∀ (pins:List (Addr×Obj)) (s:Shared) (σ:St) (H:Hp) (R:It→Hp→Prop),Inv X pins σ H s→wi σ H R→
   wpAny (model X.prog X.w) X.A (eval iter X.env) (fun v s1=>wpAny (model X.prog X.w) X.A (pyIter v) (PIE X pins σ tg R) X.xe s1) X.xe s
instance {X:Cx} {tg iter:Expr} {wi:TI}:CoeFun (PI X tg iter wi) (fun _=>
 ∀ (pins:List (Addr×Obj)) (s:Shared) (σ:St) (H:Hp) (R:It→Hp→Prop),Inv X pins σ H s→wi σ H R→
  wpAny (model X.prog X.w) X.A (eval iter X.env) (fun v s1=>wpAny (model X.prog X.w) X.A (pyIter v) (PIE X pins σ tg R) X.xe s1) X.xe s):=⟨fun h=>h.run⟩
theorem go_of {M : Model}{A : Around}{E : Value → Shared → Prop}{s : Shared}{tg : Expr}{it : Addr}{u : Value}{o : Obj}{n : String}{vs : Array Value}{Q : Unit → Shared → Prop} (ho : s.heap.get? it = some o) (hc : o.cls = .type n) (hd : o.data = .fields vs)
    (hn : ["enumerate", "zip", "dict_itemiterator", "dict_reverseitemiterator", "odict_iterator", "itertools.zip_longest", "itertools.pairwise"].contains n = false) (hQ : Q () s) : wpAny M A (letOwnedTupleGo tg (.ref it) u) Q E s := by
  unfold letOwnedTupleGo
  cases tg <;> first
    | exact wpAny_pure hQ
    | (cases u <;> first
        | exact wpAny_pure hQ
        | (refine wpAny_bind (wpAny_load ho ?_)
           rw [hc, hd]
           show wpAny M A (if (["enumerate", "zip", "dict_itemiterator", "dict_reverseitemiterator", "odict_iterator", "itertools.zip_longest", "itertools.pairwise"].contains n && vs[0]? == some (rawInt _)) = true then _ else _) Q E s
           rw [if_neg (by intro h;rw [hn, Bool.false_and] at h;cases h)]
           exact wpAny_pure hQ))
def Itl (K:PySem.W.Frag) (a:Addr):It:=
 ⟨fun i H=>∃ xs x,SqL K H a xs∧xs[i]?=some x,fun i H x H'=>H'=H∧∀ xs,SqL K H a xs→xs[i]?=some x,fun i H=>∃ xs,SqL K H a xs∧xs.length≤i⟩
def Itt (K:PySem.W.Frag) (a:Addr):It:=
 ⟨fun i H=>∃ xs x,SqT K H a xs∧xs[i]?=some x,fun i H x H'=>H'=H∧∀ xs,SqT K H a xs→xs[i]?=some x,fun i H=>∃ xs,SqT K H a xs∧xs.length≤i⟩
def Itr (lo:Int) (n:Nat):It:=⟨fun i _=>i < n,fun i H x H'=>H'=H∧x=.int (lo + i),fun i _=>n≤i⟩
theorem turn_list {P:Program}{w:World}{K:PySem.W.Frag}{tg:Expr} (a it:Addr):Turn P w K tg (Itl K a) [it] it (fun i h=>h.IsListIter it a i) where
 mem:=by simp
 obj:=fun i h st b hb=>by
  have e:b=it:=by simpa using hb
  subst e
  obtain ⟨o,e,c,d⟩:=st
  exact ⟨o,e,fun v z=>by rw [d] at z;cases z⟩
 keep:=fun i h h' st k=>st.at fun o e=>k it (by simp) o e
 item:=by
  intro X hP hw hK hc i pins s σ H E I hf st hg
  subst hP hw hK
  obtain ⟨xs,x,hq,hx⟩:=hg
  obtain ⟨its,rv,p,hz⟩:=I.list hq
  obtain ⟨u,hu,ru⟩:=rv.get hx
  obtain ⟨f0,f1,f2,f3,f4,f5⟩:=hf it (by simp)
  refine wpAny_pyNext_list_item st p.isList (x:=u) (by simpa using hu) fun h' st' sb=>?_
  have I1:Inv X pins σ H { s with heap:=h' }:=I.turned (t':=s.toks) (fun b o hb e=>(sb.2 b hb).trans e) f0 f1 f3 f4 f5
  obtain ⟨o,e,c,d⟩:=id st'
  exact ⟨u,rfl,go_of (s:={ s with heap:=h' }) e c d (by decide) ⟨x,H,I1,ru,⟨rfl,fun ys hy=>by rw [I.list_inj hy hq];exact hx⟩,st',fun b hb=>(hf b hb).1⟩⟩
 done:=by
  intro X hP hw hK hc i pins s σ H E I hf st hg
  subst hP hw hK
  obtain ⟨xs,hq,hx⟩:=hg
  obtain ⟨its,rv,p,hz⟩:=I.list hq
  obtain ⟨f0,f1,f2,f3,f4,f5⟩:=hf it (by simp)
  have hl:=rv.length
  exact wpAny_pyNext_list_end (I.ok.hd hc) st p.isList (by simp;omega) fun h' eb=>⟨rfl,I.turned (t':=s.toks) (fun b o hb e=>eb b o hb e) f0 f1 f3 f4 f5⟩
 self:=fun _ _ _ _ _ st h=>wpAny_pyIter_listiter st h
theorem turn_tuple {P:Program}{w:World}{K:PySem.W.Frag}{tg:Expr} (a it:Addr):Turn P w K tg (Itt K a) [it] it (fun i h=>h.IsTupleIter it a i) where
 mem:=by simp
 obj:=fun i h st b hb=>by
  have e:b=it:=by simpa using hb
  subst e
  obtain ⟨o,e,c,d⟩:=st
  exact ⟨o,e,fun v z=>by rw [d] at z;cases z⟩
 keep:=fun i h h' st k=>st.at fun o e=>k it (by simp) o e
 item:=by
  intro X hP hw hK hc i pins s σ H E I hf st hg
  subst hP hw hK
  obtain ⟨xs,x,hq,hx⟩:=hg
  obtain ⟨its,rv,p,hz⟩:=I.tuple hq
  obtain ⟨u,hu,ru⟩:=rv.get hx
  obtain ⟨f0,f1,f2,f3,f4,f5⟩:=hf it (by simp)
  refine wpAny_pyNext_tuple_item st (show s.heap.IsTuple a its.toArray from p) (x:=u) (by simpa using hu) fun h' st' sb=>?_
  have I1:Inv X pins σ H { s with heap:=h' }:=I.turned (t':=s.toks) (fun b o hb e=>(sb.2 b hb).trans e) f0 f1 f3 f4 f5
  obtain ⟨o,e,c,d⟩:=id st'
  exact ⟨u,rfl,go_of (s:={ s with heap:=h' }) e c d (by decide) ⟨x,H,I1,ru,⟨rfl,fun ys hy=>by rw [I.tuple_inj hy hq];exact hx⟩,st',fun b hb=>(hf b hb).1⟩⟩
 done:=by
  intro X hP hw hK hc i pins s σ H E I hf st hg
  subst hP hw hK
  obtain ⟨xs,hq,hx⟩:=hg
  obtain ⟨its,rv,p,hz⟩:=I.tuple hq
  obtain ⟨f0,f1,f2,f3,f4,f5⟩:=hf it (by simp)
  have hl:=rv.length
  exact wpAny_pyNext_tuple_end (I.ok.hd hc) st (show s.heap.IsTuple a its.toArray from p) (by simp;omega) fun h' eb=>⟨rfl,I.turned (t':=s.toks) (fun b o hb e=>eb b o hb e) f0 f1 f3 f4 f5⟩
 self:=fun _ _ _ _ _ st h=>wpAny_pyIter_tupleiter st h
theorem turn_range {P:Program}{w:World}{K:PySem.W.Frag}{tg:Expr} (it:Addr) (lo:Int) (n:Nat):Turn P w K tg (Itr lo n) [it] it (fun i h=>IsRangeIter h it (lo + (i:Nat) * 1) ((n:Int) - (i:Nat)) 1) where
 mem:=by simp
 obj:=fun i h st b hb=>by
  have e:b=it:=by simpa using hb
  subst e
  exact ⟨_,st,fun v z=>by
   have z':Data.fields _=Data.cell v:=z
   cases z'⟩
 keep:=fun i h h' st k=>k it (by simp) _ st
 item:=by
  intro X hP hw hK hc i pins s σ H E I hf st hg
  subst hP hw hK
  obtain ⟨f0,f1,f2,f3,f4,f5⟩:=hf it (by simp)
  have W:=Walks.range (prog:=X.prog) (w:=X.w) (I.ok.hd hc) it lo 1 n
  refine W.item i s _ _ hg st fun v h' tk hv st' kk=>?_
  obtain ⟨t,rfl⟩:=hv
  have I1:Inv X pins σ H { s with heap:=h',toks:=tk }:=I.turned (fun b o hb e=>kk b o (by simpa using hb) e) f0 f1 f3 f4 f5
  refine ⟨_,rfl,go_of (s:={ s with heap:=h',toks:=tk }) (n:="range_iterator") st' rfl rfl (by decide) ⟨.int (lo + i),H,I1,⟨t,?_⟩,⟨rfl,rfl⟩,st',fun b hb=>(hf b hb).1⟩⟩
  rw [Int.mul_one]
 done:=by
  intro X hP hw hK hc i pins s σ H E I hf st hg
  subst hP hw hK
  obtain ⟨f0,f1,f2,f3,f4,f5⟩:=hf it (by simp)
  exact wpAny_pyNext_range_end (I.ok.hd hc) st (by have:n≤i:=hg;omega) fun h' eb=>⟨rfl,I.turned (t':=s.toks) (fun b o hb e=>eb b o hb e) f0 f1 f3 f4 f5⟩
 self:=fun _ _ _ _ _ st h=>wpAny_pyIter_rangeiter st h
end L2
namespace L2
open PySem PySem.Spec PyProof.Rows
section
variable {X:Cx}{tg:Expr}
def iList (K:PySem.W.Frag) (tl:TE):TI:=fun σ H R=>tl σ H fun x H1=>∃ a,x=.ref a∧(∃ xs,SqL K H1 a xs)∧R (Itl K a) H1
def iTup (K:PySem.W.Frag) (tl:TE):TI:=fun σ H R=>tl σ H fun x H1=>∃ a,x=.ref a∧(∃ xs,SqT K H1 a xs)∧R (Itt K a) H1
theorem pi_list {l:Expr}{tl:TE} (hl:PE X l tl):PI X tg l (iList X.K tl):=by
 constructor
 intro pins s σ H R I h
 refine thn (hl pins s σ H _ I h) fun v s1 ⟨x,H1,I1,r1,q1⟩=>?_
 obtain ⟨a,e,⟨xs,hq⟩,q⟩:=q1
 subst e
 cases r1
 obtain ⟨its,rv,p,hz⟩:=I1.list hq
 refine wpAny_pyIter_list p.isList ?_
 refine ⟨s1.heap.objs.size,[s1.heap.objs.size],_,_,H1,rfl,I1.kept (t':=s1.toks) fun b o e=>Heap.get?_push_of_some _ e,turn_list a _,⟨_,Heap.get?_push_size _ rfl,rfl,rfl⟩,fun b hb=>?_,q⟩
 have e:b=s1.heap.objs.size:=by simpa using hb
 subst e
 exact I1.fpOk (Nat.le_refl _) (I1.hok.fresh (Nat.le_refl _))
theorem pi_tup {l:Expr}{tl:TE} (hl:PE X l tl):PI X tg l (iTup X.K tl):=by
 constructor
 intro pins s σ H R I h
 refine thn (hl pins s σ H _ I h) fun v s1 ⟨x,H1,I1,r1,q1⟩=>?_
 obtain ⟨a,e,⟨xs,hq⟩,q⟩:=q1
 subst e
 cases r1
 obtain ⟨its,rv,p,hz⟩:=I1.tuple hq
 refine wpAny_pyIter_tuple (show s1.heap.IsTuple a its.toArray from p) ?_
 refine ⟨s1.heap.objs.size,[s1.heap.objs.size],_,_,H1,rfl,I1.kept (t':=s1.toks) fun b o e=>Heap.get?_push_of_some _ e,turn_tuple a _,⟨_,Heap.get?_push_size _ rfl,rfl,rfl⟩,fun b hb=>?_,q⟩
 have e:b=s1.heap.objs.size:=by simpa using hb
 subst e
 exact I1.fpOk (Nat.le_refl _) (I1.hok.fresh (Nat.le_refl _))
theorem range_it {pins:List (Addr×Obj)}{σ:St}{H:Hp}{s:Shared}{R:It→Hp→Prop}{E:Value→Shared→Prop}{lo hi:Int}{t u v:Tok}{tk:Nat} (I:Inv X pins σ H s) (h1:-(2 ^ 62)≤lo) (h2:lo < 2 ^ 62) (h3:-(2 ^ 62)≤hi) (h4:hi < 2 ^ 62)
  (q:R (Itr lo (hi - lo).toNat) H):wpAny (model X.prog X.w) X.A (pyIter (.ref s.heap.objs.size)) (PIE X pins σ tg R) E { s with heap:=s.heap.push { cls:=.type "range",data:=.fields #[.int lo t,.int hi u,.int 1 v] },toks:=tk }:=by
 refine wpAny_pyIter_range (IsRange.new ..) (small_one h1 h2 h3 h4) ?_
 have I1:Inv X pins σ H { s with heap:=s.heap.push { cls:=.type "range",data:=.fields #[.int lo t,.int hi u,.int 1 v] },toks:=tk }:=I.kept fun b o e=>Heap.get?_push_of_some _ e
 refine ⟨(s.heap.push { cls:=.type "range",data:=.fields #[.int lo t,.int hi u,.int 1 v] }).objs.size,[(s.heap.push { cls:=.type "range",data:=.fields #[.int lo t,.int hi u,.int 1 v] }).objs.size],_,_,H,rfl,
  I1.kept (t':=tk) fun b o e=>Heap.get?_push_of_some _ e,turn_range _ lo (hi - lo).toNat,?_,fun b hb=>?_,q⟩
 ·have e1:lo + ((0:Nat):Int) * 1=lo:=by simp
  have e2:(((hi - lo).toNat:Nat):Int) - ((0:Nat):Int)=Builtin.Range.rangeSize lo hi 1:=by rw [rangeSize_one];split <;> omega
  show IsRangeIter _ _ (lo + ((0:Nat):Int) * 1) ((((hi - lo).toNat:Nat):Int) - ((0:Nat):Int)) 1
  rw [e1,e2]
  exact Heap.get?_push_size _ rfl
 ·have e:b=(s.heap.push { cls:=.type "range",data:=.fields #[.int lo t,.int hi u,.int 1 v] }).objs.size:=by simpa using hb
  subst e
  exact I1.fpOk (Nat.le_refl _) (I1.hok.fresh (Nat.le_refl _))
def iRng1 (ta:TA):TI:=fun σ H R=>ta σ H fun vs H1=>∃ j:Int,vs=[.int j]∧-(2 ^ 62)≤j∧j < 2 ^ 62∧R (Itr 0 j.toNat) H1
theorem pi_range1 {a:Expr}{ta:TA}{p pos:Pos} (hg:Gl X "range") (hm:X.mg "range"=none) (ha:PA X [a] ta) (hs:starEach [a] X.env=[(false,eval a X.env)]:=by rfl):PI X tg (.Call (.Name "range" p) [a] [] pos) (iRng1 ta):=by
 constructor
 intro pins s σ H R I h
 refine Call_ (ld_blt I hg hm boot_range (PyProof.Rows.callWith_type1 (thn (ha pos pins s σ H _ I h) fun us s1 ⟨vs,H1,I1,r1,q1⟩=>?_) hs rfl))
 obtain ⟨j,e,q1,q2,q⟩:=q1
 subst e
 cases r1 with
 | cons r rr=>
  cases rr
  obtain ⟨t,rfl⟩:=r
  exact call_range_1 (range_it I1 (by omega) (by omega) q1 q2 (by simpa using q))
def tFor (wi:TI) (g:TG) (tb:TS):TS:=fun D σ H=>wi σ H fun J H1=>∃ W:Nat→Nat→St→Hp→Prop,(∃ m,W 0 m σ H1)∧∀ i m σ H,W i m σ H→
 (J.stop i H∧D.nx σ H)∨(J.go i H∧∃ N:St→Hp→Prop,(∀ σ' H',N σ' H'→∃ m',m' < m∧W (i + 1) m' σ' H')∧∀ x H',J.yld i H x H'→g x σ H' fun σ2 H2=>tb { D with nx:=N,ct:=N,bk:=D.nx } σ2 H2)
def pinsAt (fp:List Addr) (h:Heap):List (Addr×Obj):=fp.filterMap fun b=>(h.get? b).map fun o=>(b,o)
theorem mem_pinsAt {fp:List Addr}{h:Heap}{b:Addr}{o:Obj} (hb:b∈fp) (e:h.get? b=some o):(b,o)∈pinsAt fp h:=List.mem_filterMap.mpr ⟨b,hb,by rw [e];rfl⟩
theorem of_pinsAt {fp:List Addr}{h:Heap}{p:Addr×Obj} (hp:p∈pinsAt fp h):p.1∈fp∧h.get? p.1=some p.2:=by
 obtain ⟨b,hb,e⟩:=List.mem_filterMap.mp hp
 cases q:h.get? b with
 | none=>rw [q] at e;cases e
 | some o=>
  rw [q] at e
  have e':(b,o)=p:=Option.some.inj e
  subst e'
  exact ⟨hb,q⟩
theorem Inv.pinned {pins:List (Addr×Obj)}{σ:St}{H:Hp}{s:Shared}{fp:List Addr} (I:Inv X pins σ H s) (hf:∀ b∈fp,FpOk X pins H b) (ho:∀ b∈fp,∃ o,s.heap.get? b=some o∧∀ v,o.data≠.cell v):Inv X (pins ++ pinsAt fp s.heap) σ H s:=
 I.pins_of fun p hp=>(List.mem_append.mp hp).elim (fun z=>I.pin p (List.mem_append_right _ z)) fun z=>by
  obtain ⟨hb,e⟩:=of_pinsAt z
  obtain ⟨f0,f1,f2,_⟩:=hf p.1 hb
  obtain ⟨o,e',d⟩:=ho p.1 hb
  rw [e] at e';cases e'
  exact ⟨e,f0,f1,f2,d⟩
theorem Inv.unpinned {pins pl:List (Addr×Obj)}{σ:St}{H:Hp}{s:Shared} (I:Inv X (pins ++ pl) σ H s):Inv X pins σ H s:=I.pins_of fun p hp=>I.pin p (List.mem_append_right _ (List.mem_append_left _ hp))
theorem ps_for {iter:Expr}{body:List Stmt}{wi:TI}{g:TG}{tb:TS}{pos:Pos} (hp:PassesOwn (model X.prog X.w) X.A X.env X.xe) (hc:X.calm=true) (hi:PI X tg iter wi) (hg:PG X tg g) (hb:PSs X body tb)
  (hs:∀ x,foldedSetIterable iter X.env x=pure x:=by intro _;rfl):PS X (.For tg iter body [] pos) (tFor wi g tb):=by
 constructor
 intro pins s σ H D I h
 refine wpAny_For (thn (hi pins s σ H _ I h) fun v s1 h1=>thn h1 fun itv s2 h2=>?_) hs
 obtain ⟨it,fp,tn,J,H2,e,I2,T,st2,f2,W,⟨m0,w0⟩,turn⟩:=h2
 subst e
 have stat:∀ {H':Hp},(∀ b∈fp,H' b=none)→∀ b∈fp,FpOk X pins H' b:=fun hn b hb=>⟨hn b hb,(f2 b hb).2⟩
 refine codeAny_forLoop_any (fun n s'=>∃ i σ' H',Inv X pins σ' H' s'∧tn i s'.heap∧(∀ b∈fp,H' b=none)∧W i n σ' H') ?_ m0 ⟨0,σ,H2,I2,st2,fun b hb=>(f2 b hb).1,w0⟩
 rintro n s3 ⟨i,σ3,H3,I3,st3,fr3,w3⟩
 rcases turn i n σ3 H3 w3 with ⟨stop,qn⟩ | ⟨go,N,hN,step⟩
 ·refine wpAny_passesOwn hp (thn (T.done X rfl rfl rfl hc i pins s3 σ3 H3 X.xe I3 (stat fr3) st3 stop) fun r s4 ⟨hr,I4⟩=>?_)
  subst hr
  exact wpAny_execs_nil ⟨σ3,H3,I4,qn⟩
 ·refine wpAny_passesOwn hp (thn (T.item X rfl rfl rfl hc i pins s3 σ3 H3 X.xe I3 (stat fr3) st3 go) fun r s4 ⟨u,hr,h4⟩=>?_)
  subst hr
  refine wpAny_passesOwn hp (thn h4 fun _ s5 ⟨x,H5,I5,r5,y5,st5,fr5⟩=>?_)
  have I5':=I5.pinned (stat fr5) (T.obj _ _ st5)
  refine wpAny_passesOwn hp (thn (hg _ s5 σ3 H5 x u _ I5' r5 (step x H5 y5)) fun _ s6 ⟨σ6,H6,I6,q6⟩=>?_)
  refine wpAny_passesOwn hp (thn (hb _ s6 σ6 H6 _ I6 q6) fun f s7 q7=>?_)
  have again:∀ {σ7:St} {H7:Hp},Inv X (pins ++ pinsAt fp s5.heap) σ7 H7 s7→N σ7 H7→∃ m,m < n∧∃ i σ' H',Inv X pins σ' H' s7∧tn i s7.heap∧(∀ b∈fp,H' b=none)∧W i m σ' H':=fun {σ7 H7} I7 n7=>by
   obtain ⟨m',hm,w7⟩:=hN σ7 H7 n7
   refine ⟨m',hm,i + 1,σ7,H7,I7.unpinned,T.keep _ _ _ st5 fun b hb o e=>(I7.pin (b,o) (List.mem_append_right _ (List.mem_append_right _ (mem_pinsAt hb e)))).1,fun b hb=>?_,w7⟩
   obtain ⟨o,e,d⟩:=T.obj _ _ st5 b hb
   exact (I7.pin (b,o) (List.mem_append_right _ (List.mem_append_right _ (mem_pinsAt hb e)))).2.1
  cases f with
  | next=>obtain ⟨σ7,H7,I7,n7⟩:=q7;exact again I7 n7
  | cont=>obtain ⟨σ7,H7,I7,n7⟩:=q7;exact again I7 n7
  | brk=>obtain ⟨σ7,H7,I7,q7⟩:=q7;exact ⟨σ7,H7,I7.unpinned,q7⟩
  | ret v=>obtain ⟨x7,σ7,H7,I7,r7,q7⟩:=q7;exact ⟨x7,σ7,H7,I7.unpinned,r7,q7⟩
end
theorem for_list {K:PySem.W.Frag}{a:Addr}{xs:List V}{g:TG}{tb:TS}{D:Ends}{σ:St}{H:Hp} (Pv:Nat→St→Hp→Prop) (h0:Pv 0 σ H) (hl:∀ i σ H,i≤xs.length→Pv i σ H→SqL K H a xs)
  (hs:∀ i x σ H,xs[i]?=some x→Pv i σ H→g x σ H fun σ2 H2=>tb { D with nx:=Pv (i + 1),ct:=Pv (i + 1),bk:=D.nx } σ2 H2) (hd:∀ σ H,Pv xs.length σ H→D.nx σ H):
  ∃ W:Nat→Nat→St→Hp→Prop,(∃ m,W 0 m σ H)∧∀ i m σ H,W i m σ H→
   ((Itl K a).stop i H∧D.nx σ H)∨((Itl K a).go i H∧∃ N:St→Hp→Prop,(∀ σ' H',N σ' H'→∃ m',m' < m∧W (i + 1) m' σ' H')∧∀ x H',(Itl K a).yld i H x H'→g x σ H' fun σ2 H2=>tb { D with nx:=N,ct:=N,bk:=D.nx } σ2 H2):=by
 refine ⟨fun i m σ H=>m=xs.length - i∧i≤xs.length∧Pv i σ H,⟨xs.length,by simp,Nat.zero_le _,h0⟩,?_⟩
 rintro i m σ H ⟨rfl,hi,p⟩
 have q:=hl i σ H hi p
 by_cases hlt:i < xs.length
 ·refine .inr ⟨⟨xs,xs[i],q,by simp [hlt]⟩,Pv (i + 1),fun σ' H' p'=>⟨xs.length - (i + 1),by omega,rfl,hlt,p'⟩,fun x H' y=>?_⟩
  obtain ⟨e,y⟩:=y
  subst e
  exact hs i x σ _ (y xs q) p
 ·have e:i=xs.length:=by omega
  subst e
  exact .inl ⟨⟨xs,q,Nat.le_refl _⟩,hd σ H p⟩
theorem for_tup {K:PySem.W.Frag}{a:Addr}{xs:List V}{g:TG}{tb:TS}{D:Ends}{σ:St}{H:Hp} (Pv:Nat→St→Hp→Prop) (h0:Pv 0 σ H) (hl:∀ i σ H,i≤xs.length→Pv i σ H→SqT K H a xs)
  (hs:∀ i x σ H,xs[i]?=some x→Pv i σ H→g x σ H fun σ2 H2=>tb { D with nx:=Pv (i + 1),ct:=Pv (i + 1),bk:=D.nx } σ2 H2) (hd:∀ σ H,Pv xs.length σ H→D.nx σ H):
  ∃ W:Nat→Nat→St→Hp→Prop,(∃ m,W 0 m σ H)∧∀ i m σ H,W i m σ H→
   ((Itt K a).stop i H∧D.nx σ H)∨((Itt K a).go i H∧∃ N:St→Hp→Prop,(∀ σ' H',N σ' H'→∃ m',m' < m∧W (i + 1) m' σ' H')∧∀ x H',(Itt K a).yld i H x H'→g x σ H' fun σ2 H2=>tb { D with nx:=N,ct:=N,bk:=D.nx } σ2 H2):=by
 refine ⟨fun i m σ H=>m=xs.length - i∧i≤xs.length∧Pv i σ H,⟨xs.length,by simp,Nat.zero_le _,h0⟩,?_⟩
 rintro i m σ H ⟨rfl,hi,p⟩
 have q:=hl i σ H hi p
 by_cases hlt:i < xs.length
 ·refine .inr ⟨⟨xs,xs[i],q,by simp [hlt]⟩,Pv (i + 1),fun σ' H' p'=>⟨xs.length - (i + 1),by omega,rfl,hlt,p'⟩,fun x H' y=>?_⟩
  obtain ⟨e,y⟩:=y
  subst e
  exact hs i x σ _ (y xs q) p
 ·have e:i=xs.length:=by omega
  subst e
  exact .inl ⟨⟨xs,q,Nat.le_refl _⟩,hd σ H p⟩
theorem for_range {lo:Int}{n:Nat}{g:TG}{tb:TS}{D:Ends}{σ:St}{H:Hp} (Pv:Nat→St→Hp→Prop) (h0:Pv 0 σ H)
  (hs:∀ i σ H,i < n→Pv i σ H→g (.int (lo + i)) σ H fun σ2 H2=>tb { D with nx:=Pv (i + 1),ct:=Pv (i + 1),bk:=D.nx } σ2 H2) (hd:∀ σ H,Pv n σ H→D.nx σ H):
  ∃ W:Nat→Nat→St→Hp→Prop,(∃ m,W 0 m σ H)∧∀ i m σ H,W i m σ H→
   ((Itr lo n).stop i H∧D.nx σ H)∨((Itr lo n).go i H∧∃ N:St→Hp→Prop,(∀ σ' H',N σ' H'→∃ m',m' < m∧W (i + 1) m' σ' H')∧∀ x H',(Itr lo n).yld i H x H'→g x σ H' fun σ2 H2=>tb { D with nx:=N,ct:=N,bk:=D.nx } σ2 H2):=by
 refine ⟨fun i m σ H=>m=n - i∧i≤n∧Pv i σ H,⟨n,by simp,Nat.zero_le _,h0⟩,?_⟩
 rintro i m σ H ⟨rfl,hi,p⟩
 by_cases hlt:i < n
 ·refine .inr ⟨hlt,Pv (i + 1),fun σ' H' p'=>⟨n - (i + 1),by omega,rfl,hlt,p'⟩,fun x H' y=>?_⟩
  obtain ⟨e,y⟩:=y
  subst e y
  exact hs i σ _ hlt p
 ·have e:i=n:=by omega
  subst e
  exact .inl ⟨Nat.le_refl _,hd σ H p⟩
end L2
namespace L2
open PySem PySem.Spec PyProof.Rows
abbrev R2:=V→V→Hp→VK→Prop
def OpR (X:Cx) (f:Value→Value→Sem Value) (r:R2):Prop:=
 ∀ (pins:List (Addr×Obj)) (s:Shared) (σ:St) (H:Hp) (x y:V) (v u:Value) (Q:VK),Inv X pins σ H s→RelV x v→RelV y u→r x y H Q→
  wpAny (model X.prog X.w) X.A (f v u) (EP X pins σ Q) X.xe s
def UnR (X:Cx) (f:Value→Sem Value) (r:V→Hp→VK→Prop):Prop:=
 ∀ (pins:List (Addr×Obj)) (s:Shared) (σ:St) (H:Hp) (x:V) (v:Value) (Q:VK),Inv X pins σ H s→RelV x v→r x H Q→
  wpAny (model X.prog X.w) X.A (f v) (EP X pins σ Q) X.xe s
def CallR (X:Cx) (f:Value) (r:List V→Hp→VK→Prop):Prop:=
 ∀ (pins:List (Addr×Obj)) (s:Shared) (σ:St) (H:Hp) (xs:List V) (us:List Value) (Q:VK),Inv X pins σ H s→Vals xs us→r xs H Q→
  wpAny (model X.prog X.w) X.A (call f us) (EP X pins σ Q) X.xe s
def TruR (X:Cx) (r:V→Hp→(Bool→Hp→Prop)→Prop):Prop:=
 ∀ (pins:List (Addr×Obj)) (s:Shared) (σ:St) (H:Hp) (x:V) (v:Value) (Q:Bool→Hp→Prop),Inv X pins σ H s→RelV x v→r x H Q→
  wpAny (model X.prog X.w) X.A (truthy v) (TP X pins σ Q) X.xe s
def tOp (r:R2) (ta tb:TE):TE:=fun σ H Q=>ta σ H fun x H1=>tb σ H1 fun y H2=>r x y H2 Q
def tUn (r:V→Hp→VK→Prop) (ta:TE):TE:=fun σ H Q=>ta σ H fun x H1=>r x H1 Q
def rI (C:Int→Int→Prop) (g:Int→Int→V):R2:=fun x y H Q=>∃ i j,x=.int i∧y=.int j∧C i j∧Q (g i j) H
def rI0 (g:Int→Int→V):R2:=fun x y H Q=>∃ i j,x=.int i∧y=.int j∧Q (g i j) H
def rU (g:Int→V):V→Hp→VK→Prop:=fun x H Q=>∃ i,x=.int i∧Q (g i) H
section
variable {X:Cx}{a b c:Expr}{ta tb tc:TE}{pos:Pos}
theorem binT (ha:PE X a ta) (hb:PE X b tb) {pins:List (Addr×Obj)}{s:Shared}{σ:St}{H:Hp}{R:V→V→Hp→Prop} (I:Inv X pins σ H s)
  (h:ta σ H fun x H1=>tb σ H1 fun y H2=>R x y H2) {Q:Value→Shared→Prop} {f:Value→Value→Sem Value}
  (hf:∀ v u s2 x y H2,Inv X pins σ H2 s2→RelV x v→RelV y u→R x y H2→wpAny (model X.prog X.w) X.A (f v u) Q X.xe s2):
  wpAny (model X.prog X.w) X.A (eval a X.env) (fun v s₁=>wpAny (model X.prog X.w) X.A (eval b X.env) (fun u s₂=>wpAny (model X.prog X.w) X.A (f v u) Q X.xe s₂) X.xe s₁) X.xe s:=by
 refine thn (ha pins s σ H _ I h) fun v s1 ⟨x,H1,I1,r1,q1⟩=>?_
 refine thn (hb pins s1 σ H1 _ I1 q1) fun u s2 ⟨y,H2,I2,r2,q2⟩=>?_
 exact hf v u s2 x y H2 I2 r1 r2 q2
theorem pe_op {op:Operator}{r:R2} (ho:OpR X (binaryOp op) r) (ha:PE X a ta) (hb:PE X b tb):PE X (.BinOp a op b pos) (tOp r ta tb):=by
 constructor
 intro pins s σ H Q I h
 exact wpAny_BinOp (binT ha hb I h fun v u s2 x y H2 I2 rx ry q=>ho pins s2 σ H2 x y v u Q I2 rx ry q)
theorem pe_un {op:UnaryOp}{r:V→Hp→VK→Prop} (ho:UnR X (unaryOp op) r) (ha:PE X a ta):PE X (.UnaryOp op a pos) (tUn r ta):=by
 constructor
 intro pins s σ H Q I h
 exact UnaryOp_ (thn (ha pins s σ H _ I h) fun v s1 ⟨x,H1,I1,r1,q1⟩=>ho pins s1 σ H1 x v Q I1 r1 q1)
theorem opI {f:Value→Value→Sem Value}{C:Int→Int→Prop}{g:Int→Int→Int}
  (rule:∀ (i j:Int) (t u:Tok) (s:Shared) (Q:Value→Shared→Prop) (E:Value→Shared→Prop),C i j→Q (.int (g i j) s.toks) { s with toks:=s.toks + 1 }→wpAny (model X.prog X.w) X.A (f (.int i t) (.int j u)) Q E s):
  OpR X f (rI C fun i j=>.int (g i j)):=by
 intro pins s σ H x y v u Q I rx ry h
 obtain ⟨i,j,rfl,rfl,hc,q⟩:=h
 obtain ⟨t,rfl⟩:=rx
 obtain ⟨t',rfl⟩:=ry
 exact rule i j t t' s _ _ hc ⟨.int (g i j),H,I.tok _,⟨_,rfl⟩,q⟩
theorem opI0 {f:Value→Value→Sem Value}{g:Int→Int→Int}
  (rule:∀ (i j:Int) (t u:Tok) (s:Shared) (Q:Value→Shared→Prop) (E:Value→Shared→Prop),Q (.int (g i j) s.toks) { s with toks:=s.toks + 1 }→wpAny (model X.prog X.w) X.A (f (.int i t) (.int j u)) Q E s):
  OpR X f (rI0 fun i j=>.int (g i j)):=by
 intro pins s σ H x y v u Q I rx ry h
 obtain ⟨i,j,rfl,rfl,q⟩:=h
 obtain ⟨t,rfl⟩:=rx
 obtain ⟨t',rfl⟩:=ry
 exact rule i j t t' s _ _ ⟨.int (g i j),H,I.tok _,⟨_,rfl⟩,q⟩
theorem opB0 {f:Value→Value→Sem Value}{g:Int→Int→Bool}
  (rule:∀ (i j:Int) (t u:Tok) (s:Shared) (Q:Value→Shared→Prop) (E:Value→Shared→Prop),Q (.bool (g i j)) s→wpAny (model X.prog X.w) X.A (f (.int i t) (.int j u)) Q E s):
  OpR X f (rI0 fun i j=>.bl (g i j)):=by
 intro pins s σ H x y v u Q I rx ry h
 obtain ⟨i,j,rfl,rfl,q⟩:=h
 obtain ⟨t,rfl⟩:=rx
 obtain ⟨t',rfl⟩:=ry
 exact rule i j t t' s _ _ ⟨.bl (g i j),H,I,rfl,q⟩
def CDiv (i j:Int):Prop:=0 < j∧j < 1073741824
def CPow (i j:Int):Prop:=0≤j∧j≤1000000∧i.natAbs < 2 ^ 64
def CMul (i j:Int):Prop:=(-(2 ^ 64) < i∧i < 2 ^ 64)∨(-(2 ^ 64) < j∧j < 2 ^ 64)
theorem CMul.ok {i j:Int} (h:CMul i j):IntMulOk i j:=by
 rcases h with ⟨h1,h2⟩ | ⟨h1,h2⟩
 ·exact .of_left (intBits_le_64 h1 h2)
 ·exact .of_right (intBits_le_64 h1 h2)
theorem op_add:OpR X (binaryOp .Add) (rI0 fun i j=>.int (i + j)):=opI0 fun _ _ _ _ _ _ _ q=>add_int q
theorem op_sub:OpR X (binaryOp .Sub) (rI0 fun i j=>.int (i - j)):=opI0 fun _ _ _ _ _ _ _ q=>sub_int q
theorem op_mul:OpR X (binaryOp .Mult) (rI CMul fun i j=>.int (i * j)):=opI fun _ _ _ _ _ _ _ hc q=>mul_int q hc.ok
theorem op_fdiv:OpR X (binaryOp .FloorDiv) (rI CDiv fun i j=>.int (i / j)):=opI fun i j _ _ _ _ _ hc q=>by
 have h1:(0:Int) < j:=hc.1
 have h2:j < 1073741824:=hc.2
 exact floordiv_int (by omega) (by rw [Int.fdiv_eq_ediv_of_nonneg i (by omega)];exact q) (.inl (PyProof.noPylong_small (by omega)))
theorem op_mod:OpR X (binaryOp .Mod) (rI (fun _ j=>0 < j) fun i j=>.int (i % j)):=opI fun i j _ _ _ _ _ hc q=>by
 have h1:(0:Int) < j:=hc
 exact mod_int' (by omega) (by rw [Int.fmod_eq_emod_of_nonneg i (by omega)];exact q)
theorem op_pow:OpR X (binaryOp .Pow) (rI CPow fun i j=>.int (i ^ j.toNat)):=opI fun _ _ _ _ _ _ _ hc q=>pow_int_small hc.1 hc.2.1 hc.2.2 q
theorem unI {f:Value→Sem Value}{g:Int→Int}
  (rule:∀ (i:Int) (t:Tok) (s:Shared) (Q:Value→Shared→Prop) (E:Value→Shared→Prop),Q (.int (g i) s.toks) { s with toks:=s.toks + 1 }→wpAny (model X.prog X.w) X.A (f (.int i t)) Q E s):
  UnR X f (rU fun i=>.int (g i)):=by
 intro pins s σ H x v Q I rx h
 obtain ⟨i,rfl,q⟩:=h
 obtain ⟨t,rfl⟩:=rx
 exact rule i t s _ _ ⟨.int (g i),H,I.tok _,⟨_,rfl⟩,q⟩
theorem un_neg:UnR X (unaryOp .USub) (rU fun i=>.int (-i)):=unI fun _ _ _ _ _ q=>neg_int q
end
def scal:V→V→Bool
 | .non,.non=>true | .non,.int _=>true | .int _,.non=>true | .non,.bl _=>true | .bl _,.non=>true | .non,.str _=>true | .str _,.non=>true
 | .int _,.int _=>true | .bl _,.bl _=>true | .str _,.str _=>true | .byt _,.byt _=>true
 | .int _,.str _=>true | .str _,.int _=>true | .bl _,.str _=>true | .str _,.bl _=>true
 | _,_=>false
def rEq:R2:=fun x y H Q=>scal x y=true∧Q (.bl (decide (x=y))) H
def rNe:R2:=fun x y H Q=>scal x y=true∧Q (.bl (!decide (x=y))) H
theorem dec_int {i j:Int}:decide (V.int i=V.int j)=(i == j):=by
 rw [Bool.eq_iff_iff]
 simp
theorem dec_bl {i j:Bool}:decide (V.bl i=V.bl j)=(i == j):=by
 rw [Bool.eq_iff_iff]
 simp
theorem dec_str {i j:Str}:decide (V.str i=V.str j)=(i == j):=by
 rw [Bool.eq_iff_iff]
 simp
theorem dec_byt {i j:Array UInt8}:decide (V.byt i=V.byt j)=(i.toList == j.toList):=by
 rw [Bool.eq_iff_iff]
 cases i
 cases j
 simp
section
variable {X:Cx}{a b c:Expr}{ta tb tc:TE}{pos:Pos}
theorem fin_bl {pins:List (Addr×Obj)}{σ:St}{H:Hp}{s:Shared}{Q:VK}{k k':Bool} (I:Inv X pins σ H s) (q:Q (.bl k) H) (e:k=k'):EP X pins σ Q (.bool k') s:=by
 subst e
 exact ⟨.bl k,H,I,rfl,q⟩
theorem op_eq:OpR X (compareOp .Eq) rEq:=by
 intro pins s σ H x y v u Q I rx ry h
 obtain ⟨hs,q⟩:=h
 cases x with
 | non=>
  cases rx
  cases y with
  | non=>cases ry;exact PySem.EqNone.eq_none_none (fin_bl I q (by simp))
  | bl j=>cases ry;exact PySem.EqNone.eq_none_bool (fin_bl I q (by simp))
  | int j=>obtain ⟨t',rfl⟩:=ry;exact PySem.EqNone.eq_none_int (fin_bl I q (by simp))
  | str j=>obtain ⟨t',rfl⟩:=ry;exact PySem.EqNone.eq_none_str (fin_bl I q (by simp))
  | _=>exact absurd (show false=true from hs) Bool.false_ne_true
 | bl i=>
  cases rx
  cases y with
  | non=>cases ry;exact PySem.EqNone.eq_bool_none (fin_bl I q (by simp))
  | bl j=>cases ry;exact eq_bool (fin_bl I q dec_bl)
  | str j=>obtain ⟨t',rfl⟩:=ry;exact PySem.EqMixed.eq_bool_str (fin_bl I q (by simp))
  | _=>exact absurd (show false=true from hs) Bool.false_ne_true
 | int i=>
  obtain ⟨t,rfl⟩:=rx
  cases y with
  | non=>cases ry;exact PySem.EqNone.eq_int_none (fin_bl I q (by simp))
  | int j=>obtain ⟨t',rfl⟩:=ry;exact eq_int (fin_bl I q dec_int)
  | str j=>obtain ⟨t',rfl⟩:=ry;exact PySem.EqMixed.eq_int_str (fin_bl I q (by simp))
  | _=>exact absurd (show false=true from hs) Bool.false_ne_true
 | str i=>
  obtain ⟨t,rfl⟩:=rx
  cases y with
  | non=>cases ry;exact PySem.EqNone.eq_str_none (fin_bl I q (by simp))
  | bl j=>cases ry;exact PySem.EqMixed.eq_str_bool (fin_bl I q (by simp))
  | int j=>obtain ⟨t',rfl⟩:=ry;exact PySem.EqMixed.eq_str_int (fin_bl I q (by simp))
  | str j=>obtain ⟨t',rfl⟩:=ry;exact eq_str (fin_bl I q dec_str)
  | _=>exact absurd (show false=true from hs) Bool.false_ne_true
 | byt i=>
  obtain ⟨t,rfl⟩:=rx
  cases y with
  | byt j=>obtain ⟨t',rfl⟩:=ry;exact PySem.W.eq_bytes (fin_bl I q dec_byt)
  | _=>exact absurd (show false=true from hs) Bool.false_ne_true
 | _=>cases y <;> exact absurd (show false=true from hs) Bool.false_ne_true
theorem op_ne:OpR X (compareOp .NotEq) rNe:=by
 intro pins s σ H x y v u Q I rx ry h
 obtain ⟨hs,q⟩:=h
 cases x with
 | non=>
  cases rx
  cases y with
  | non=>cases ry;exact PySem.EqNone.ne_none_none (fin_bl I q (by simp))
  | bl j=>cases ry;exact PySem.EqNone.ne_none_bool (fin_bl I q (by simp))
  | int j=>obtain ⟨t',rfl⟩:=ry;exact PySem.EqNone.ne_none_int (fin_bl I q (by simp))
  | str j=>obtain ⟨t',rfl⟩:=ry;exact PySem.EqNone.ne_none_str (fin_bl I q (by simp))
  | _=>exact absurd (show false=true from hs) Bool.false_ne_true
 | bl i=>
  cases rx
  cases y with
  | non=>cases ry;exact PySem.EqNone.ne_bool_none (fin_bl I q (by simp))
  | bl j=>cases ry;exact ne_bool (fin_bl I q (congrArg not dec_bl))
  | str j=>obtain ⟨t',rfl⟩:=ry;exact PySem.EqMixed.ne_bool_str (fin_bl I q (by simp))
  | _=>exact absurd (show false=true from hs) Bool.false_ne_true
 | int i=>
  obtain ⟨t,rfl⟩:=rx
  cases y with
  | non=>cases ry;exact PySem.EqNone.ne_int_none (fin_bl I q (by simp))
  | int j=>obtain ⟨t',rfl⟩:=ry;exact ne_int (fin_bl I q (congrArg not dec_int))
  | str j=>obtain ⟨t',rfl⟩:=ry;exact PySem.EqMixed.ne_int_str (fin_bl I q (by simp))
  | _=>exact absurd (show false=true from hs) Bool.false_ne_true
 | str i=>
  obtain ⟨t,rfl⟩:=rx
  cases y with
  | non=>cases ry;exact PySem.EqNone.ne_str_none (fin_bl I q (by simp))
  | bl j=>cases ry;exact PySem.EqMixed.ne_str_bool (fin_bl I q (by simp))
  | int j=>obtain ⟨t',rfl⟩:=ry;exact PySem.EqMixed.ne_str_int (fin_bl I q (by simp))
  | str j=>obtain ⟨t',rfl⟩:=ry;exact ne_str (fin_bl I q (congrArg not dec_str))
  | _=>exact absurd (show false=true from hs) Bool.false_ne_true
 | byt i=>
  obtain ⟨t,rfl⟩:=rx
  cases y with
  | byt j=>obtain ⟨t',rfl⟩:=ry;exact PySem.W.ne_bytes (fin_bl I q (congrArg not dec_byt))
  | _=>exact absurd (show false=true from hs) Bool.false_ne_true
 | _=>cases y <;> exact absurd (show false=true from hs) Bool.false_ne_true
theorem op_lt:OpR X (compareOp .Lt) (rI0 fun i j=>.bl (decide (i < j))):=opB0 fun _ _ _ _ _ _ _ q=>lt_int q
theorem op_gt:OpR X (compareOp .Gt) (rI0 fun i j=>.bl (decide (j < i))):=opB0 fun _ _ _ _ _ _ _ q=>gt_int q
theorem op_ge:OpR X (compareOp .GtE) (rI0 fun i j=>.bl (decide (j≤i))):=opB0 fun _ _ _ _ _ _ _ q=>ge_int q
theorem nomark (b:Expr) {op:CmpOp} (h:op≠.In:=by decide) (h2:op≠.NotIn:=by decide):behindInMarks op b=false:=by
 have e1:(op == CmpOp.In)=false:=by cases op <;> first | rfl | exact absurd rfl h
 have e2:(op == CmpOp.NotIn)=false:=by cases op <;> first | rfl | exact absurd rfl h2
 cases b <;> simp [behindInMarks,e1,e2]
theorem pe_cmpR {op:CmpOp}{r:R2} (ho:OpR X (compareOp op) r) (ha:PE X a ta) (hb:PE X b tb) (hm:behindInMarks op b=false):PE X (.Compare a [op] [b] pos) (tOp r ta tb):=by
 constructor
 intro pins s σ H Q I h
 exact wpAny_Compare1 (binT ha hb I h fun v u s2 x y H2 I2 rx ry q=>ho pins s2 σ H2 x y v u Q I2 rx ry q) hm
def tTest (t:TE):TT:=fun σ H Q=>t σ H fun x H'=>∃ k,x=.bl k∧Q k H'
theorem pt_cmpR {op:CmpOp}{r:R2} (ho:OpR X (compareOp op) r) (ha:PE X a ta) (hb:PE X b tb) (hm:behindInMarks op b=false):PT X (.Compare a [op] [b] pos) (tTest (tOp r ta tb)):=by
 constructor
 intro pins s σ H Q I h
 refine wpAny_isTrue_Compare1 (thn (ha pins s σ H _ I h) fun v s1 ⟨x,H1,I1,r1,q1⟩=>thn (hb pins s1 σ H1 _ I1 q1) fun u s2 ⟨y,H2,I2,r2,q2⟩=>
  thn (ho pins s2 σ H2 x y v u _ I2 r1 r2 q2) fun c s3 ⟨z,H3,I3,r3,k,e,q3⟩=>?_) hm
 subst e
 cases r3
 exact wpAny_truthy_bool ⟨H3,I3,q3⟩
def TruV (K:PySem.W.Frag) (x:V) (H:Hp) (k:Bool):Prop:=
 match x with
 | .non=>k=false
 | .bl b=>k=b
 | .int i=>k=(i != 0)
 | .str y=>y.length≤sizeLine∧k=((y.length:Int) != 0)
 | .byt y=>y.size≤sizeLine∧k=((y.size:Int) != 0)
 | .ref p=>(∃ xs,SqL K H p xs∧k=!xs.isEmpty)∨(∃ xs,SqT K H p xs∧k=!xs.isEmpty)∨∃ kvs,H p=some (.dK kvs)∧k=!kvs.isEmpty
 | _=>False
theorem isEmpty_kv {κ:Type}{kvs:List (κ×V)}{vs:List (κ×Value)} (r:KV kvs vs):(!vs.isEmpty)=!kvs.isEmpty:=by
 cases r <;> rfl
theorem isEmpty_of {xs:List V}{its:List Value} (r:Vals xs its):(!its.toArray.isEmpty)=!xs.isEmpty:=by
 cases r <;> simp
theorem line63:(sizeLine:Nat) < 2 ^ 63:=by rw [sizeLine_eq];decide
theorem tru_ok:TruR X (fun x H Q=>∃ k,TruV X.K x H k∧Q k H):=by
 intro pins s σ H x v Q I rx h
 obtain ⟨k,e,q⟩:=h
 have hl:=line63
 have hs:sizeLine=16777216:=sizeLine_eq
 cases x with
 | non=>
  cases rx
  have e':k=false:=e
  subst e'
  exact truthy_none ⟨H,I,q⟩
 | bl b=>
  cases rx
  have e':k=b:=e
  subst e'
  exact wpAny_truthy_bool ⟨H,I,q⟩
 | int i=>
  obtain ⟨t,rfl⟩:=rx
  have e':k=(i != 0):=e
  subst e'
  exact PySem.P.truthy_int ⟨H,I,q⟩
 | str y=>
  obtain ⟨t,rfl⟩:=rx
  obtain ⟨hy,e'⟩:y.length≤sizeLine∧k=((y.length:Int) != 0):=e
  subst e'
  exact PySem.P.truthy_str (by omega) ⟨H,I.tok _,q⟩
 | byt y=>
  obtain ⟨t,rfl⟩:=rx
  obtain ⟨hy,e'⟩:y.size≤sizeLine∧k=((y.size:Int) != 0):=e
  subst e'
  exact PySem.W.truthy_bytes (by omega) ⟨H,I.tok _,q⟩
 | ref p=>
  cases rx
  have e':(∃ xs,SqL X.K H p xs∧k=!xs.isEmpty)∨(∃ xs,SqT X.K H p xs∧k=!xs.isEmpty)∨∃ kvs,H p=some (.dK kvs)∧k=!kvs.isEmpty:=e
  rcases e' with ⟨xs,hx,e'⟩ | ⟨xs,hx,e'⟩ | ⟨kvs,hx,e'⟩
  ·subst e'
   obtain ⟨its,r,pl,hz⟩:=I.list hx
   have hlen:=r.length
   exact wpAny_truthy_list pl.isList (by simp only [List.size_toArray];omega) ⟨H,I.tok _,by rw [isEmpty_of r];exact q⟩
  ·subst e'
   obtain ⟨its,r,pl,hz⟩:=I.tuple hx
   have hlen:=r.length
   exact truthy_tuple pl (by simp only [List.size_toArray];omega) ⟨H,I.tok _,by rw [isEmpty_of r];exact q⟩
  ·subst e'
   obtain ⟨hz,hS,vs,r,m⟩:kvs.length≤sizeLine∧(p == sysModules)=false∧∃ vs,KV kvs vs∧s.heap.DictOf (mixKind X.prog X.w) p vs:=I.hok p _ hx
   have hlen:kvs.length=vs.length:=Paired.length r
   exact wpAny_truthy_dict hS m (by omega) ⟨H,I.tok _,by rw [isEmpty_kv r];exact q⟩
 | _=>exact (show False from e).elim
theorem pt_truth (ha:PE X a ta) (he:∀ whole,isTrue a X.env whole=(do let v ← whole;standAt a.pos;holding [v] (truthy v))):
  PT X a (fun σ H Q=>ta σ H fun x H'=>∃ k,TruV X.K x H' k∧Q k H'):=by
 constructor
 intro pins s σ H Q I h
 exact isTrue_plain (thn (ha pins s σ H _ I h) fun v s1 ⟨x,H1,I1,r1,q1⟩=>tru_ok pins s1 σ H1 x v Q I1 r1 q1) (he _)
theorem op_add_str:OpR X (binaryOp .Add) (fun x y H Q=>∃ i j,x=.str i∧y=.str j∧i.length + j.length≤sizeLine∧Q (.str (i ++ j)) H):=by
 intro pins s σ H x y v u Q I rx ry h
 obtain ⟨i,j,rfl,rfl,hz,q⟩:=h
 obtain ⟨t,rfl⟩:=rx
 obtain ⟨t',rfl⟩:=ry
 exact add_str (fun t' tk=>⟨.str (i ++ j),H,I.tok _,⟨_,rfl⟩,q⟩) hz
theorem vals1 {x:V}{us:List Value} (r:Vals [x] us):∃ u,us=[u]∧RelV x u:=by
 cases r with
 | cons r1 r2=>cases r2;exact ⟨_,rfl,r1⟩
theorem vals2 {x y:V}{us:List Value} (r:Vals [x,y] us):∃ u w',us=[u,w']∧RelV x u∧RelV y w':=by
 cases r with
 | cons r1 r2=>
  cases r2 with
  | cons r3 r4=>cases r4;exact ⟨_,_,rfl,r1,r3⟩
theorem call_abs:CallR X (.builtin "abs") (fun xs H Q=>∃ i,xs=[.int i]∧Q (.int (if i < 0 then -i else i)) H):=by
 intro pins s σ H xs us Q I r h
 obtain ⟨i,rfl,q⟩:=h
 obtain ⟨u,rfl,t,rfl⟩:=vals1 r
 exact call_abs_int fun u tk=>⟨.int (if i < 0 then -i else i),H,I.tok _,⟨_,rfl⟩,q⟩
theorem call_max2 (hc:X.calm=true):CallR X (.builtin "max") (fun xs H Q=>∃ i j,xs=[.int i,.int j]∧Q (.int (if j > i then j else i)) H):=by
 intro pins s σ H xs us Q I r h
 obtain ⟨i,j,rfl,q⟩:=h
 obtain ⟨u,w',rfl,⟨t,rfl⟩,⟨t',rfl⟩⟩:=vals2 r
 refine max_two_ints (I.ok.hd hc) fun h' tk k=>⟨_,H,I.kept k,?_,q⟩
 by_cases hj:j > i
 ·rw [if_pos hj,if_pos hj];exact ⟨_,rfl⟩
 ·rw [if_neg hj,if_neg hj];exact ⟨_,rfl⟩
theorem call_min2 (hc:X.calm=true):CallR X (.builtin "min") (fun xs H Q=>∃ i j,xs=[.int i,.int j]∧Q (.int (if j < i then j else i)) H):=by
 intro pins s σ H xs us Q I r h
 obtain ⟨i,j,rfl,q⟩:=h
 obtain ⟨u,w',rfl,⟨t,rfl⟩,⟨t',rfl⟩⟩:=vals2 r
 refine min_two_ints (I.ok.hd hc) fun h' tk k=>⟨_,H,I.kept k,?_,q⟩
 by_cases hj:j < i
 ·rw [if_pos hj,if_pos hj];exact ⟨_,rfl⟩
 ·rw [if_neg hj,if_neg hj];exact ⟨_,rfl⟩
theorem call_int1:CallR X (.type "int") (fun xs H Q=>(∃ i,xs=[.int i]∧Q (.int i) H)∨∃ k,xs=[.bl k]∧Q (.int (if k then 1 else 0)) H):=by
 intro pins s σ H xs us Q I r h
 rcases h with ⟨i,rfl,q⟩ | ⟨k,rfl,q⟩
 ·obtain ⟨u,rfl,t,rfl⟩:=vals1 r
  exact call_int_int ⟨.int i,H,I,⟨_,rfl⟩,q⟩
 ·obtain ⟨u,rfl,r1⟩:=vals1 r
  cases r1
  exact call_int_bool ⟨.int (if k then 1 else 0),H,I.tok _,⟨_,rfl⟩,q⟩
end
end L2
namespace L2
open PySem PySem.Spec PyProof.Rows
structure ObjM (h:Heap) (x dx C:Addr) (mA:Str→Option Value):Prop where
 obj:h.get? x=some (PySem.W.instObj C dx)
 ns:h.Ns1 dx mA
 ne:dx≠x
theorem lookIn_ns {h:Heap}{dx:Addr}{mA:Str→Option Value} (n:h.Ns1 dx mA):∃ od,h.get? dx=some od∧∀ name,PySem.W.lookIn name od=some (mA name):=by
 obtain ⟨o,es,ep,ho,hd,hk,_,hm⟩:=n
 refine ⟨o,ho,fun name=>?_⟩
 have e:=hm name
 unfold nsFind findBy at e
 rw [← Array.find?_toList] at e
 unfold PySem.W.lookIn
 rw [hd]
 dsimp only
 split
 ·rename_i y q
  rw [q] at e
  exact congrArg some e
 ·rename_i q
  rw [q] at e
  have a:es.toList.any (·.refKey)=false:=by
   rw [List.any_eq_false]
   intro y hy
   obtain ⟨z,t,hkey⟩:=hk y (Array.mem_toList_iff.mp hy)
   simp [DictEntry.refKey,hkey]
  have a':¬ es.toList.any (·.refKey)=true:=by rw [a];exact Bool.false_ne_true
  rw [if_neg a']
  exact congrArg some e
theorem ObjM.look {h:Heap}{x dx C:Addr}{mA:Str→Option Value} (I:ObjM h x dx C mA):∃ od,PySem.W.InstAt h x (PySem.W.instObj C dx) C (some od)∧∀ name,PySem.W.lookIn name od=some (mA name):=
 let ⟨od,ho,hl⟩:=lookIn_ns I.ns
 ⟨od,⟨I.obj,rfl,rfl,ho⟩,hl⟩
section
variable {prog:Program}{w:World}{A:Around}{E:Value→Shared→Prop}{s:Shared}{K:PySem.W.Frag}{x dx C f:Addr}{mA:Str→Option Value}{name:Str}{v:Value}
theorem get_map {expr:Bool}{Q:Value→Shared→Prop} (X:K.In s.heap) (I:ObjM s.heap x dx C mA) (hg:PySem.W.plainGet K C name=true) (hh:PySem.W.hasDictIn K C=true)
  (ha:PySem.W.findIn K (.ref C) name=some none) (hv:mA name=some v) (hv':PySem.W.handedIn v=true) (h:Q v { s with toks:=s.toks + 1 }):
  wpAny (model prog w) A (getAttr (.ref x) name expr) Q E s:=by
 obtain ⟨od,J,hl⟩:=I.look
 exact PySem.W.get_value X J (PySem.W.plainGet_of hg).1 (PySem.W.findObj_own hh ha rfl (by rw [hl,hv])) hv' h
theorem set_map {ns:List Str}{Q:Unit→Shared→Prop} (X:K.In s.heap) (I:ObjM s.heap x dx C mA)
  (hs:PySem.W.findIn K (.ref C) "__setattr__"=some (some (.builtin "object.__setattr__"))) (hp:PySem.W.plainOver K C=true) (ht:PySem.W.takerIn K C name=some none) (hh:PySem.W.hasDictIn K C=true)
  (hw:PySem.Within mA ns) (hsz:ns.length≤sizeLine)
  (h:∀ h',ObjM h' x dx C (fun y=>if y=name then some v else mA y)→Heap.SameBut dx s.heap h'→Q () { s with heap:=h',toks:=s.toks + 2 }):
  wpAny (model prog w) A (setAttr (.ref x) name v) Q E s:=by
 obtain ⟨od,J,hl⟩:=I.look
 refine PySem.W.set_plain X J hs (PySem.W.osa_open (s:={ s with toks:=s.toks + 1 }) (r:=none) X J hp ht fun b=>?_)
 obtain ⟨cd,hc,hd'⟩:=PySem.W.any_some hh
 have hx:s.heap.get? x=some ⟨.ref C,some dx,.plain,#[]⟩:=I.obj
 refine wpAny_bind (wpAny_pure (wpAny_bind (wpAny_bind (wpAny_loadPart hx (wpAny_bind (PySem.W.Looks.here (s:={ s with toks:=s.toks + 1 }) (PySem.W.looks_clsIn X hc) ?_))))))
 rw [hd']
 refine wpAny_pure (a:=some dx) (wpAny_bind (wpAny_pure (wpAny_bind ?_)))
 refine wpAny_nsSet1 (s:={ s with toks:=s.toks + 1 }) I.ns fun h' hn2 hs2=>?_
 obtain ⟨oD,esD,epD,hoD,hdD,hcD⟩:=hn2.count (PySem.Within.cons name v hw)
 refine wpAny_bind (wpAny_lookBehind hoD (by rw [hdD];exact pastItsLine_dict (Nat.le_trans hcD (by rw [List.length_cons];omega))) ?_)
 exact wpAny_pure (h _ ⟨(hs2.2 _ (Ne.symm I.ne)).trans I.obj,hn2,I.ne⟩ hs2)
theorem make_map {R:Result→Shared→Prop}{vs:List Value}{kw:List (Str×Value)} (X:K.In s.heap) (hm:PySem.W.makesIn K C=true)
  (hi:PySem.W.findIn K (.ref C) "__init__"=some (some (.ref f))) (hf:PySem.W.typeIn K (.ref f)=some (.type "function"))
  (h:codeAny (model prog w) (A.under (.builtin "type.__call__" ⟨.ref C :: vs,kw⟩)) (.call (.ref f) ⟨.ref (s.heap.objs.size + 1) :: vs,kw⟩) (PySem.W.InitBack (s.heap.objs.size + 1) R)
   { s with heap:=(s.heap.push PySem.W.emptyDict).push (PySem.W.instObj C s.heap.objs.size) }):
  codeAny (model prog w) A (.call (.ref C) ⟨vs,kw⟩) R s:=by
 obtain ⟨hh,g,d,t,os⟩:=s
 exact PySem.W.make_core (PySem.W.makes_of X hm) (PySem.W.looks_findIn X hi) (fun self=>PySem.W.bind_fn X self hf) (.inl rfl) h
end
def putF (f:Str) (v:V):List (Str×V)→List (Str×V)
 | []=>[(f,v)]
 | (g,x) :: r=>if g=f then (g,v) :: r else (g,x) :: putF f v r
theorem lookup_putF (f g:Str) (v:V):∀ fs:List (Str×V),(putF f v fs).lookup g=if g=f then some v else fs.lookup g
 | []=>by
  show List.lookup g [(f,v)]=_
  by_cases h:g=f
  ·have hb:(g == f)=true:=beq_iff_eq.mpr h
   simp only [List.lookup,hb,if_pos h]
  ·have hb:(g == f)=false:=beq_eq_false_iff_ne.mpr h
   simp only [List.lookup,hb,if_neg h]
 | (k,x) :: r=>by
  have ih:=lookup_putF f g v r
  rw [show putF f v ((k,x) :: r)=(if k=f then (k,v) :: r else (k,x) :: putF f v r) from rfl]
  by_cases hk:k=f
  ·rw [if_pos hk]
   by_cases h:g=k
   ·have hb:(g == k)=true:=beq_iff_eq.mpr h
    simp only [List.lookup,hb,if_pos (h.trans hk)]
   ·have hb:(g == k)=false:=beq_eq_false_iff_ne.mpr h
    simp only [List.lookup,hb,if_neg (fun e:g=f=>h (e.trans hk.symm))]
  ·rw [if_neg hk]
   by_cases h:g=k
   ·have hb:(g == k)=true:=beq_iff_eq.mpr h
    simp only [List.lookup,hb,if_neg (fun e:g=f=>hk (h.symm.trans e))]
   ·have hb:(g == k)=false:=beq_eq_false_iff_ne.mpr h
    simp only [List.lookup,hb]
    exact ih
theorem keys_putF (f:Str) (v:V):∀ fs:List (Str×V),f∈(putF f v fs).map (·.1)∧∀ g,g∈fs.map (·.1)→g∈(putF f v fs).map (·.1)
 | []=>⟨by simp [putF],fun g h=>by simp at h⟩
 | (k,x) :: r=>by
  obtain ⟨i1,i2⟩:=keys_putF f v r
  rw [show putF f v ((k,x) :: r)=(if k=f then (k,v) :: r else (k,x) :: putF f v r) from rfl]
  by_cases hk:k=f
  ·rw [if_pos hk]
   subst hk
   exact ⟨by simp,fun g h=>by simpa using h⟩
  ·rw [if_neg hk]
   refine ⟨?_,fun g h=>?_⟩
   ·rw [List.map_cons]
    exact List.mem_cons_of_mem _ i1
   ·rw [List.map_cons] at h ⊢
    rcases List.mem_cons.mp h with e | e
    ·exact List.mem_cons.mpr (.inl e)
    ·exact List.mem_cons_of_mem _ (i2 g e)
theorem length_putF (f:Str) (v:V):∀ fs:List (Str×V),(putF f v fs).length≤fs.length + 1
 | []=>by simp [putF]
 | (k,x) :: r=>by
  have ih:=length_putF f v r
  rw [show putF f v ((k,x) :: r)=(if k=f then (k,v) :: r else (k,x) :: putF f v r) from rfl]
  by_cases hk:k=f
  ·rw [if_pos hk,List.length_cons,List.length_cons];omega
  ·rw [if_neg hk,List.length_cons,List.length_cons];omega
theorem RelO.some_of {v:V}{o:Option Value} (r:RelO (some v) o):∃ u,o=some u∧RelV v u:=by
 cases o with
 | none=>exact (show False from r).elim
 | some u=>exact ⟨u,rfl,r⟩
theorem handed_of {v:V}{u:Value} (r:RelV v u):PySem.W.handedIn u=true:=by
 cases v with
 | non=>cases (show u=Value.none from r);rfl
 | bl b=>cases (show u=Value.bool b from r);rfl
 | int i=>obtain ⟨t,e⟩:=(show ∃ t,u=Value.int i t from r);cases e;rfl
 | str x=>obtain ⟨t,e⟩:=(show ∃ t,u=Value.str x t from r);cases e;rfl
 | byt b=>obtain ⟨t,e⟩:=(show ∃ t,u=Value.bytes b t from r);cases e;rfl
 | flt b=>obtain ⟨t,e⟩:=(show ∃ t,u=Value.float b t from r);cases e;rfl
 | ref a=>cases (show u=Value.ref a from r);rfl
 | ty n=>cases (show u=Value.type n from r);rfl
section
variable {P:Program}{w:World}{H H':Hp}{h h':Heap}{a C dx:Addr}{fs fs':List (Str×V)}
theorem ins_get (hok:HOk P w H h) (e:H a=some (.ins C dx fs)):∃ mA,ObjM h a dx C mA∧(∀ f,RelO (fs.lookup f) (mA f))∧PySem.Within mA (fs.map (·.1))∧fs.length≤1000∧H dx=some (.own a):=by
 obtain ⟨d,z,ne,ob,mA,n,r,q⟩:=(show ObjOk P w H h a (.ins C dx fs) from hok a _ e)
 exact ⟨mA,⟨ob,n,ne⟩,r,q,z,d⟩
end
structure Cls (K:PySem.W.Frag) (C:Addr):Prop where
 pg:PySem.W.plainGet K C Str.empty=true
 hd:PySem.W.hasDictIn K C=true
 po:PySem.W.plainOver K C=true
 sa:PySem.W.findIn K (.ref C) "__setattr__"=some (some (.builtin "object.__setattr__"))
theorem Cls.get {K:PySem.W.Frag}{C:Addr} (c:Cls K C) (f:Str):PySem.W.plainGet K C f=true:=c.pg
def NoAttr (K:PySem.W.Frag) (C:Addr) (f:Str):Prop:=PySem.W.findIn K (.ref C) f=some none
theorem NoAttr.taker {K:PySem.W.Frag}{C:Addr}{f:Str} (n:NoAttr K C f):PySem.W.takerIn K C f=some none:=by
 unfold PySem.W.takerIn
 rw [show PySem.W.findIn K (.ref C) f=some none from n]
 rfl
structure Con (K:PySem.W.Frag) (C:Addr) (f:Str) (v:V) (u:Value):Prop where
 at_:PySem.W.findIn K (.ref C) f=some (some u)
 rel:RelV v u
 get:PySem.W.specialIn K u "__get__"=some none
 cp:PySem.W.copiedNames.contains f=false
structure Meth (K:PySem.W.Frag) (C:Addr) (m:Str) (f:Addr):Prop where
 at_:PySem.W.findIn K (.ref C) m=some (some (.ref f))
 fn:PySem.W.isFn K (.ref f)=true
 kp:PySem.W.keepIn K (.ref f)=true
section
variable {X:Cx}{pins:List (Addr×Obj)}{σ:St}{H:Hp}{s:Shared}{a C dx:Addr}{fs:List (Str×V)}{f:Str}{v:V}{A:Around}{E:Value→Shared→Prop}
theorem getattr_ok {b:Bool}{Q:Value→Shared→Prop} (I:Inv X pins σ H s) (e:H a=some (.ins C dx fs)) (c:Cls X.K C) (n:NoAttr X.K C f) (l:fs.lookup f=some v)
  (h:∀ u s',Inv X pins σ H s'→RelV v u→Q u s'):wpAny (model X.prog X.w) A (getAttr (.ref a) f b) Q E s:=by
 obtain ⟨mA,O,r,_,_,_⟩:=ins_get I.hok e
 obtain ⟨u,hu,ru⟩:=RelO.some_of (v:=v) (o:=mA f) (by rw [← l];exact r f)
 exact get_map I.kIn O (c.get f) c.hd n hu (handed_of ru) (h u _ (I.tok _) ru)
theorem setattr_ok {y:V}{u:Value}{Q:Unit→Shared→Prop} (I:Inv X pins σ H s) (e:H a=some (.ins C dx fs)) (c:Cls X.K C) (n:NoAttr X.K C f) (hl:fs.length < 1000) (ry:RelV y u)
  (h:∀ s',Inv X pins σ (upd H a (.ins C dx (putF f y fs))) s'→Q () s'):wpAny (model X.prog X.w) A (setAttr (.ref a) f u) Q E s:=by
 obtain ⟨mA,O,r,wi,_,ho⟩:=ins_get I.hok e
 have hz:(fs.map (·.1)).length≤sizeLine:=by rw [List.length_map,sizeLine_eq];omega
 refine set_map I.kIn O c.sa c.po n.taker c.hd wi hz fun h' O' sb=>h _ ?_
 have hd:∃ o,h'.get? dx=some o:=let ⟨o,_,_,e',_⟩:=O'.ns;⟨o,e'⟩
 refine I.write (x:=a) (e:=dx) (by rw [e];exact True.intro) (.inr ho) (fun b q hb z=>(sb.2 b hb).trans z) hd ?_
 refine ⟨by rw [upd_ne O.ne];exact ho,?_,O.ne,O'.obj,_,O'.ns,fun g=>?_,fun g hg=>?_⟩
 ·have:=length_putF f y fs;omega
 ·show RelO ((putF f y fs).lookup g) (if g=f then some u else mA g)
  rw [lookup_putF]
  by_cases q:g=f
  ·rw [if_pos q,if_pos q];exact ry
  ·rw [if_neg q,if_neg q];exact r g
 ·by_cases q:g=f
  ·rw [q];exact (keys_putF f y fs).1
  ·refine (keys_putF f y fs).2 g (wi g fun z=>hg ?_)
   show (if g=f then some u else mA g)=none
   rw [if_neg q];exact z
theorem Inv.made (I:Inv X pins σ H s):Inv X pins σ (upd (upd H s.heap.objs.size (.own (s.heap.objs.size + 1))) (s.heap.objs.size + 1) (.ins C s.heap.objs.size []))
  { s with heap:=(s.heap.push PySem.W.emptyDict).push (PySem.W.instObj C s.heap.objs.size) }:=by
 have e1:(s.heap.push PySem.W.emptyDict).get? s.heap.objs.size=some PySem.W.emptyDict:=Heap.get?_push_size s.heap rfl
 have e2:((s.heap.push PySem.W.emptyDict).push (PySem.W.instObj C s.heap.objs.size)).get? (s.heap.objs.size + 1)=some (PySem.W.instObj C s.heap.objs.size):=by
  have:=Heap.get?_push_size (s.heap.push PySem.W.emptyDict) (o:=PySem.W.instObj C s.heap.objs.size) rfl
  rwa [Heap.size_push] at this
 have e3:(s.heap.push PySem.W.emptyDict).Ns s.heap.objs.size (fun _=>none):=⟨PySem.W.emptyDict,#[],_,e1,rfl,(fun e he=>absurd he (by simp)),fun _=>rfl⟩
 have I1:=I.laid (a:=s.heap.objs.size) (o:=.own (s.heap.objs.size + 1)) (h':=s.heap.push PySem.W.emptyDict) (t':=s.toks) (fun b u q=>Heap.get?_push_of_some _ q) (Nat.le_refl _) ⟨_,e1⟩
 refine I1.laid (a:=s.heap.objs.size + 1) (o:=.ins C s.heap.objs.size []) (t':=s.toks) (fun b u q=>Heap.get?_push_of_some _ q) (Nat.le_of_eq (Heap.size_push _ _)) ?_
 have ne:s.heap.objs.size≠s.heap.objs.size + 1:=Nat.ne_of_lt (Nat.lt_succ_self _)
 refine ⟨by rw [upd_ne ne,upd_same],Nat.zero_le _,ne,e2,fun _=>none,(Heap.Ns1.of_empty e3).at fun o q=>Heap.get?_push_of_some _ q,fun _=>True.intro,fun y hy=>absurd rfl hy⟩
theorem attr_of {prog:Program}{w:World}{env:Env}{e:Expr}{f:Str}{pos:Pos}{s:Shared}{Q:Value→Shared→Prop} (hb:attributeBase e f env (eval e env)=eval e env)
  (h:wpAny (model prog w) A (eval e env) (fun o s₁=>wpAny (model prog w) A (getAttr o f true) Q E s₁) E s):wpAny (model prog w) A (eval (.Attribute e f pos) env) Q E s:=
 Attribute_any_ h (by rw [arm_eval_Attribute,hb])
end
def tFld (K:PySem.W.Frag) (ta:TE) (f:Str):TE:=fun σ H Q=>ta σ H fun x H1=>∃ a C dx fs v,x=.ref a∧H1 a=some (.ins C dx fs)∧Cls K C∧NoAttr K C f∧fs.lookup f=some v∧Q v H1
def sFld (K:PySem.W.Frag) (ta tv:TE) (f:Str):TS:=fun D σ H=>tv σ H fun y H1=>ta σ H1 fun x H2=>∃ a C dx fs,x=.ref a∧H2 a=some (.ins C dx fs)∧Cls K C∧NoAttr K C f∧fs.length < 1000∧
 D.nx σ (upd H2 a (.ins C dx (putF f y fs)))
section
variable {X:Cx}{o e value:Expr}{f:Str}{pos pos' tpos:Pos}{ta tv:TE}
theorem pe_fld (he:PE X e ta) (hb:attributeBase e f X.env (eval e X.env)=eval e X.env):PE X (.Attribute e f pos) (tFld X.K ta f):=by
 constructor
 intro pins s σ H Q I h
 refine attr_of hb (thn (he pins s σ H _ I h) fun u s1 ⟨x,H1,I1,rx,a,C,dx,fs,v,ex,ea,c,n,l,q⟩=>?_)
 subst ex
 obtain rfl:u=Value.ref a:=rx
 exact getattr_ok I1 ea c n l fun u' s2 I2 ru=>⟨v,H1,I2,ru,q⟩
theorem ps_fld (ha:PE X o ta) (hv:PE X value tv) (hs:swapsWith value (some (.Attribute o f pos')) pos.line X.env=pure false):PS X (.Assign [.Attribute o f pos'] value pos) (sFld X.K ta tv f):=by
 constructor
 intro pins s σ H D I h
 refine plainObj_wpAny_Assign_Attribute (thn (hv pins s σ H _ I h) fun u s1 ⟨y,H1,I1,ry,q⟩=>thn (ha pins s1 σ H1 _ I1 q) fun ov s2 ⟨x,H2,I2,rx,a,C,dx,fs,ex,ea,c,n,l,q2⟩=>?_) hs
 subst ex
 obtain rfl:ov=Value.ref a:=rx
 exact setattr_ok I2 ea c n l ry fun s3 I3=>⟨σ,_,I3,q2⟩
end
section
variable {X:Cx}{pins:List (Addr×Obj)}{σ:St}{H:Hp}{s:Shared}{A:Around}{E:Value→Shared→Prop}{Q:Value→Shared→Prop}{c:Value}{b:Bool}
inductive TyOf (K:PySem.W.Frag) (H:Hp):V→Value→Prop where
 | non:TyOf K H .non (.type "NoneType")
 | bl (x:Bool):TyOf K H (.bl x) (.type "bool")
 | int (i:Int):TyOf K H (.int i) (.type "int")
 | str (x:Str):TyOf K H (.str x) (.type "str")
 | flt (x:UInt64):TyOf K H (.flt x) (.type "float")
 | lst {a:Addr} {xs:List V} (e:H a=some (.lst xs)):TyOf K H (.ref a) (.type "list")
 | frz {a:Addr} {o:Obj} {xs:List V} (e:H a=some (.frz o (.lst xs))):TyOf K H (.ref a) (.type "list")
 | tup {a:Addr} {xs:List V} (e:H a=some (.tup xs)):TyOf K H (.ref a) (.type "tuple")
 | dK {a:Addr} {kvs:List (Key×V)} (e:H a=some (.dK kvs)):TyOf K H (.ref a) (.type "dict")
 | dT {a:Addr} {kvs:List (List Key×V)} (e:H a=some (.dT kvs)):TyOf K H (.ref a) (.type "dict")
 | ins {a C dx:Addr} {fs:List (Str×V)} (e:H a=some (.ins C dx fs)) (cl:Cls K C) (ha:PySem.W.findIn K (.ref C) "__class__"=some (some (.builtin "object.__class__")))
   (hn:PySem.W.specialIn K (.builtin "object.__class__") "__get__"=some (some (.builtin "getset_descriptor.__get__"))) (htk:PySem.W.takesIn K (.builtin "object.__class__")=some true)
   (hm:PySem.W.mroIn K C (.type "object")=some true):TyOf K H (.ref a) (.ref C)
end
end L2
namespace L2
open PySem PySem.Spec PyProof.Rows
structure Room (k:Nat) (A:Around):Prop where
 hd:A.handled=none
 dp:A.depth + 3 * k + 5 < recursionLimit
 un:A.units + 16 * k + 200 < cLine
 gd:A.guards=some []
theorem Room.mono {j k:Nat}{A:Around} (r:Room k A) (h:j≤k):Room j A:=⟨r.hd,by have:=r.dp;omega,by have:=r.un;omega,r.gd⟩
theorem Room.deeper {k:Nat}{A:Around} (r:Room (k + 1) A) (env:Env):Room k (A.deeper env):=
 ⟨r.hd,by have:=r.dp;show A.depth + 1 + 3 * k + 5 < _;omega,by have:=r.un;show A.units + 3 + 16 * k + 200 < _;omega,r.gd⟩
theorem Room.in1 {k:Nat}{A:Around} (r:Room (k + 1) A):Room k A.in1:=
 ⟨r.hd,by have:=r.dp;show A.depth + 3 * k + 5 < _;omega,by have:=r.un;show A.units + 1 + 16 * k + 200 < _;omega,r.gd⟩
theorem make_depth {A:Around}{C:Addr}{us:List Value}{kw:List (Str×Value)}:(A.under (.builtin "type.__call__" ⟨.ref C :: us,kw⟩)).depth=A.depth + 1:=by
 first | rfl | simp [Around.under,Code.weight,Code.isCreation,Code.isGuard,Code.isCaller,Code.frames,Code.isFrame,guardIds]
theorem make_units {A:Around}{C:Addr}{us:List Value}{kw:List (Str×Value)}:(A.under (.builtin "type.__call__" ⟨.ref C :: us,kw⟩)).units=A.units + 1:=by
 first | rfl | simp [Around.under,Code.cUnits,Code.frames,Code.isFrame]
theorem make_guards {A:Around}{C:Addr}{us:List Value}{kw:List (Str×Value)}:(A.under (.builtin "type.__call__" ⟨.ref C :: us,kw⟩)).guards=A.guards:=by
 first | rfl | (cases A;rename_i a b c g e;cases g <;> first | rfl | simp [Around.under,Code.guards,Code.isGuard,guardIds,pushGuards])
theorem Room.make {k:Nat}{A:Around} (r:Room (k + 1) A) (C:Addr) (us:List Value) (kw:List (Str×Value)):Room k (A.under (.builtin "type.__call__" ⟨.ref C :: us,kw⟩)):=
 ⟨r.hd,by have:=r.dp;rw [make_depth];omega,by have:=r.un;rw [make_units];omega,make_guards.trans r.gd⟩
theorem Room.depth {k:Nat}{A:Around} (r:Room k A):A.depth < recursionLimit:=by have:=r.dp;omega
theorem Room.units {k:Nat}{A:Around} (r:Room k A):A.units + 64 < cLine:=by have:=r.un;omega
theorem Room.units0 {k:Nat}{A:Around} (r:Room k A):A.units < cLine:=by have:=r.un;omega
def tNil:TA:=fun _ H Q=>Q [] H
def tCons (ta:TE) (tr:TA):TA:=fun σ H Q=>ta σ H fun x H1=>tr σ H1 fun xs H2=>Q (x :: xs) H2
section
variable {X:Cx}{e:Expr}{es:List Expr}{te:TE}{t:TA}{pos:Pos}
theorem pa_nil:PA X [] tNil:=⟨fun _ _ _ _ H Q I h=>Calls.spliced_nil ⟨[],H,I,.nil,h⟩⟩
theorem pa_cons (ha:PE X e te) (hr:PA X es t) (hs:starEach (e :: es) X.env=(false,eval e X.env) :: starEach es X.env:=by rfl):PA X (e :: es) (tCons te t):=by
 constructor
 intro pos pins s σ H Q I h
 rw [hs]
 show wpAny _ _ (spliced ((false,eval e X.env) :: backTo pos (starEach es X.env))) _ _ s
 refine Calls.spliced_cons (thn (ha pins s σ H _ I h) fun u s1 ⟨x,H1,I1,r1,q1⟩=>?_)
 exact thn (hr pos pins s1 σ H1 _ I1 q1) fun us s2 ⟨xs,H2,I2,r2,q2⟩=>⟨x :: xs,H2,I2,.cons r1 r2,q2⟩
def tTup (t:TA):TE:=fun σ H Q=>t σ H fun xs H1=>xs.length≤sizeLine∧∀ p,H1 p=none→Q (.ref p) (upd H1 p (.tup xs))
def tLst (t:TA):TE:=fun σ H Q=>t σ H fun xs H1=>xs.length≤sizeLine∧∀ p,H1 p=none→Q (.ref p) (upd H1 p (.lst xs))
theorem pe_tup {x1} (h:PA X es t):PE X (.Tuple es x1 pos) (tTup t):=by
 constructor
 intro pins s σ H Q I hq
 refine wpAny_Tuple_spliced (thn (h pos pins s σ H _ I hq) fun us s1 ⟨xs,H1,I1,r,z,q⟩=>⟨by rw [← r.length];exact z,?_⟩)
 have hf:H1 s1.heap.objs.size=none:=I1.hok.fresh (Nat.le_refl _)
 refine ⟨.ref s1.heap.objs.size,upd H1 s1.heap.objs.size (.tup xs),I1.laid (t':=s1.toks) (fun b u e=>Heap.get?_push_of_some _ e) (Nat.le_refl _) ?_,rfl,q _ hf⟩
 exact ⟨z,us,r,⟨_,Heap.get?_push_size _ rfl,⟨rfl,_,rfl⟩,rfl⟩⟩
theorem pe_lst (h:PA X es t):PE X (.List es pos) (tLst t):=by
 constructor
 intro pins s σ H Q I hq
 refine wpAny_List_spliced (thn (h pos pins s σ H _ I hq) fun us s1 ⟨xs,H1,I1,r,z,q⟩=>⟨by rw [← r.length];exact z,?_⟩)
 have hf:H1 s1.heap.objs.size=none:=I1.hok.fresh (Nat.le_refl _)
 refine ⟨.ref s1.heap.objs.size,upd H1 s1.heap.objs.size (.lst xs),I1.laid (t':=s1.toks) (fun b u e=>Heap.get?_push_of_some _ e) (Nat.le_refl _) ?_,rfl,q _ hf⟩
 exact ⟨z,us,0,r,Heap.get?_push_size _ rfl⟩
end
abbrev Sp:=List V→Hp→VK→XK→Prop
abbrev CXT:=List Env→Hp→Shared→XK→Value→Shared→Prop
structure Env0 (P:Program) (w:World) (K:PySem.W.Frag) (mg:Str→Option Value) (base:Heap) (A:Around) (outer:List Env) (s:Shared) (H:Hp):Prop where
 frames:A.frames=some outer
 mod:Mod K mg base
 bs:∀ b o,base.get? b=some o→s.heap.get? b=some o∧H b=none
 bsz:base.objs.size≤s.heap.objs.size
 funs:s.heap.FunFrames base outer
 frf:∀ b∈frs outer,H b=none
 hok:HOk P w H s.heap
 bare:AllBare s.gens
def CE (outer:List Env) (P:Program) (w:World) (H:Hp) (s:Shared) (Q:VK) (u:Value) (s':Shared):Prop:=
 ∃ v H',s'.os=s.os∧AllBare s'.gens∧Un (frs outer) [] H H' s.heap s'.heap∧HOk P w H' s'.heap∧RelV v u∧Q v H'
def CR (CX:CXT) (outer:List Env) (P:Program) (w:World) (H:Hp) (s:Shared) (Q:VK) (E:XK) (r:Result) (s':Shared):Prop:=
 match r with
 | .ok (.ret u)=>CE outer P w H s Q u s'
 | .ok _=>False
 | .error e=>CX outer H s E e s'
structure FnOk (P:Program) (w:World) (K:PySem.W.Frag) (mg:Str→Option Value) (base:Heap) (CX:CXT) (k:Nat) (f:Addr) (fd:FuncData) (ps:List Str) (sp:Sp):Prop where
 len:∀ vs H Q E,sp vs H Q E→vs.length=ps.length
 run:∀ (A:Around) (outer:List Env) (s:Shared) (H:Hp) (args:Args) (us:List Value) (vs:List V) (Q:VK) (E:XK),Room k A→Env0 P w K mg base A outer s H→BindsTo s fd args (ps.zip us)→Vals vs us→sp vs H Q E→
  codeAny (model P w) A (.call (.ref f) args) (CR CX outer P w H s Q E) s
theorem FnOk.mono {P:Program}{w:World}{K:PySem.W.Frag}{mg:Str→Option Value}{base:Heap}{CX:CXT}{j k:Nat}{f:Addr}{fd:FuncData}{ps:List Str}{sp:Sp} (F:FnOk P w K mg base CX j f fd ps sp) (h:j≤k):
  FnOk P w K mg base CX k f fd ps sp:=⟨F.len,fun A outer s H args us vs Q E hr=>F.run A outer s H args us vs Q E (hr.mono h)⟩
theorem Env0.make {P:Program}{w:World}{K:PySem.W.Frag}{mg:Str→Option Value}{base:Heap}{A:Around}{outer:List Env}{s:Shared}{H:Hp} (e:Env0 P w K mg base A outer s H) (C:Addr) (us:List Value) (kw:List (Str×Value)):
  Env0 P w K mg base (A.under (.builtin "type.__call__" ⟨.ref C :: us,kw⟩)) outer s H:=⟨by first | exact e.frames | (simpa [Around.under,Code.envs,Code.isFrame,pushEnvs] using e.frames),e.mod,e.bs,e.bsz,e.funs,e.frf,e.hok,e.bare⟩
section
variable {X:Cx}{pins:List (Addr×Obj)}{σ:St}{H:Hp}{s s':Shared}
theorem Inv.env0 (I:Inv X pins σ H s):Env0 X.prog X.w X.K X.mg X.base X.A X.stack s H:=
 ⟨I.ok.frames,I.ok.mod,I.bs,Nat.le_trans I.ok.bsz I.sz,I.stack,I.stkFree,I.hok,I.bare⟩
theorem Inv.after {Q:VK}{u:Value} (I:Inv X pins σ H s) (h:CE X.stack X.prog X.w H s Q u s'):EP X pins σ Q u s':=by
 obtain ⟨v,H',os,bare,un,hok,r,q⟩:=h
 obtain ⟨hh,g,d,t,os'⟩:=s'
 obtain rfl:os'=s.os:=os
 exact ⟨v,H',I.call (h':=hh) (g':=g) (d':=d) (t':=t) (ch:=[]) un hok bare (fun b z=>absurd z (by simp)),r,q⟩
end
def tCall (sp:Sp) (dvs:List V) (E:XK) (t:TA):TE:=fun σ H Q=>t σ H fun vs H1=>sp (vs ++ dvs) H1 Q E
def tMake (C:Addr) (sp:Sp) (dvs:List V) (E:XK) (t:TA):TE:=fun σ H Q=>t σ H fun vs H1=>∀ x dx,H1 x=none→H1 dx=none→dx≠x→
 sp (.ref x :: (vs ++ dvs)) (upd (upd H1 dx (.own x)) x (.ins C dx [])) (fun v H2=>v=.non∧Q (.ref x) H2) E
def Binds (K:PySem.W.Frag) (fd:FuncData) (ps:List Str) (ds:List Value):Prop:=
 ∀ (s:Shared) (us:List Value),K.In s.heap→(us ++ ds).length=ps.length→BindsTo s fd ⟨us,[]⟩ (ps.zip (us ++ ds))
theorem Binds.all {K:PySem.W.Frag}{fd:FuncData}{ps:List Str} (h:∀ us:List Value,us.length=ps.length→bindArgs fd ⟨us,[]⟩=pure (ps.zip us)):Binds K fd ps []:=fun s us _ hl=>by
 rw [List.append_nil] at hl ⊢
 exact .of_eq (h us hl)
def Passes (CX:CXT) (X:Cx) (E:XK):Prop:=∀ (pins:List (Addr×Obj)) (σ:St) (H:Hp) (s:Shared) (e:Value) (s':Shared),Inv X pins σ H s→CX X.stack H s E e s'→X.xe e s'
section
variable {X:Cx}{CX:CXT}{k:Nat}{f C:Addr}{fd:FuncData}{ps:List Str}{sp:Sp}{dvs:List V}{ds:List Value}{E:XK}{x m:Str}{p pos apos:Pos}{e o:Expr}{es:List Expr}{ta:TE}{t:TA}
theorem run_fn {pins:List (Addr×Obj)}{σ:St}{H:Hp}{s:Shared}{Q:VK}{us:List Value}{vs:List V} (F:FnOk X.prog X.w X.K X.mg X.base CX k f fd ps sp) (hr:Room k X.A) (hb:Binds X.K fd ps ds) (hd:Vals dvs ds) (hx:Passes CX X E)
  (I:Inv X pins σ H s) (r:Vals vs us) (h:sp (vs ++ dvs) H Q E):wpAny (model X.prog X.w) X.A (call (.ref f) us) (EP X pins σ Q) X.xe s:=by
 have r2:Vals (vs ++ dvs) (us ++ ds):=r.append hd
 have hl:(us ++ ds).length=ps.length:=by rw [← r2.length];exact F.len _ _ _ _ h
 refine wpAny_call (codeAny_mono (F.run X.A X.stack s H ⟨us,[]⟩ (us ++ ds) (vs ++ dvs) Q E hr I.env0 (hb s us I.kIn hl) r2 h) fun r s' hq=>?_)
 cases r with
 | error e=>exact hx pins σ H s e s' I hq
 | ok fl=>
  cases fl with
  | ret u=>exact I.after hq
  | next=>exact False.elim hq
  | brk=>exact False.elim hq
  | cont=>exact False.elim hq
theorem pe_call (F:FnOk X.prog X.w X.K X.mg X.base CX k f fd ps sp) (hr:Room k X.A) (hg:Gl X x) (hm:X.mg x=some (.ref f)) (hk:PySem.W.keepIn X.K (.ref f)=true) (hb:Binds X.K fd ps ds) (hd:Vals dvs ds) (hx:Passes CX X E)
  (ha:PA X (e :: es) t) (hdb:(x == ("__debug__":Str))=false:=by decide) (he:starEach (e :: es) X.env=(false,eval e X.env) :: starEach es X.env:=by rfl) (hpl:(backTo pos (starEach es X.env)).any (·.1)=false:=by rfl):
  PE X (.Call (.Name x p) (e :: es) [] pos) (tCall sp dvs E t):=by
 constructor
 intro pins s σ H Q I h
 refine wpAny_Call_Name_kw (ld_glob I hg hm ?_ hdb)
 refine PySem.W.callWith_K (h₀:=X.base) I.ok.mod.kin hk (thn (ha pos pins s σ H _ I h) fun us s1 ⟨vs,H1,I1,r,q⟩=>⟨I1.kIn,?_⟩) he hpl
 exact run_fn F hr hb hd hx I1 r q
structure Mk (K:PySem.W.Frag) (C f:Addr):Prop where
 makes:PySem.W.makesIn K C=true
 init:PySem.W.findIn K (.ref C) "__init__"=some (some (.ref f))
 fn:PySem.W.isFn K (.ref f)=true
 kp:PySem.W.keepIn K (.ref C)=true
theorem run_make {pins:List (Addr×Obj)}{σ:St}{H:Hp}{s:Shared}{Q:VK}{us:List Value}{vs:List V} (M:Mk X.K C f) (F:FnOk X.prog X.w X.K X.mg X.base CX k f fd ps sp) (hr:Room (k + 1) X.A) (hb:Binds X.K fd ps ds) (hd:Vals dvs ds)
  (hx:Passes CX X E) (I:Inv X pins σ H s) (r:Vals vs us)
  (h:∀ x dx,H x=none→H dx=none→dx≠x→sp (.ref x :: (vs ++ dvs)) (upd (upd H dx (.own x)) x (.ins C dx [])) (fun v H2=>v=.non∧Q (.ref x) H2) E):
  wpAny (model X.prog X.w) X.A (call (.ref C) us) (EP X pins σ Q) X.xe s:=by
 have hq:=h (s.heap.objs.size + 1) s.heap.objs.size (I.hok.fresh (Nat.le_succ _)) (I.hok.fresh (Nat.le_refl _)) (Nat.ne_of_lt (Nat.lt_succ_self _))
 have I2:=Inv.made (C:=C) I
 have r2:Vals (V.ref (s.heap.objs.size + 1) :: (vs ++ dvs)) (Value.ref (s.heap.objs.size + 1) :: (us ++ ds)):=.cons rfl (r.append hd)
 have hl:(Value.ref (s.heap.objs.size + 1) :: us ++ ds).length=ps.length:=by
  have e:=r2.length
  rw [F.len _ _ _ _ hq] at e
  exact e.symm
 refine wpAny_call (make_map (f:=f) I.kIn M.makes M.init (beq_iff_eq.mp M.fn) (codeAny_mono (F.run _ X.stack _ _ ⟨Value.ref (s.heap.objs.size + 1) :: us,[]⟩ (Value.ref (s.heap.objs.size + 1) :: (us ++ ds)) _ _ E (hr.make C us [])
  (I2.env0.make C us []) (hb _ (Value.ref (s.heap.objs.size + 1) :: us) I2.kIn hl) r2 hq) fun r s' hq'=>?_))
 cases r with
 | error e=>exact hx pins σ _ _ e s' I2 hq'
 | ok fl=>
  cases fl with
  | ret u=>
   obtain ⟨v,H',I3,rv,ev,q3⟩:=I2.after hq'
   subst ev
   exact ⟨rv,⟨V.ref (s.heap.objs.size + 1),H',I3,rfl,q3⟩⟩
  | next=>exact False.elim hq'
  | brk=>exact False.elim hq'
  | cont=>exact False.elim hq'
theorem pe_make (M:Mk X.K C f) (F:FnOk X.prog X.w X.K X.mg X.base CX k f fd ps sp) (hr:Room (k + 1) X.A) (hg:Gl X x) (hm:X.mg x=some (.ref C)) (hb:Binds X.K fd ps ds) (hd:Vals dvs ds) (hx:Passes CX X E)
  (ha:PA X (e :: es) t) (hdb:(x == ("__debug__":Str))=false:=by decide) (he:starEach (e :: es) X.env=(false,eval e X.env) :: starEach es X.env:=by rfl) (hpl:(backTo pos (starEach es X.env)).any (·.1)=false:=by rfl):
  PE X (.Call (.Name x p) (e :: es) [] pos) (tMake C sp dvs E t):=by
 constructor
 intro pins s σ H Q I h
 refine wpAny_Call_Name_kw (ld_glob I hg hm ?_ hdb)
 refine PySem.W.callWith_K (h₀:=X.base) I.ok.mod.kin M.kp (thn (ha pos pins s σ H _ I h) fun us s1 ⟨vs,H1,I1,r,q⟩=>⟨I1.kIn,?_⟩) he hpl
 exact run_make M F hr hb hd hx I1 r q
end
structure PK (X:Cx) (kws:List Keyword) (t:TA):Prop where
 run:
  ∀ (pos:Pos) (pins:List (Addr×Obj)) (s:Shared) (σ:St) (H:Hp) (Q:List V→Hp→Prop),Inv X pins σ H s→t σ H Q→wpAny (model X.prog X.w) X.A (evalAll ((backToKw pos (keywordEach kws X.env)).map (·.2))) (AP X pins σ Q) X.xe s
instance {X:Cx} {kws:List Keyword} {t:TA}:CoeFun (PK X kws t) (fun _=>
 ∀ (pos:Pos) (pins:List (Addr×Obj)) (s:Shared) (σ:St) (H:Hp) (Q:List V→Hp→Prop),Inv X pins σ H s→t σ H Q→wpAny (model X.prog X.w) X.A (evalAll ((backToKw pos (keywordEach kws X.env)).map (·.2))) (AP X pins σ Q) X.xe s):=⟨fun h=>h.run⟩
section
variable {X:Cx}{CX:CXT}{k:Nat}{f C:Addr}{fd:FuncData}{ps ks:List Str}{sp:Sp}{E:XK}{x m:Str}{p pos apos kpos:Pos}{e o:Expr}{es:List Expr}{kws:List Keyword}{te ta:TE}{t tk:TA}{nm:Option Str}
theorem pk_nil:PK X [] tNil:=⟨fun _ _ _ _ H Q I h=>wpAny_evalAll_nil ⟨[],H,I,.nil,h⟩⟩
theorem pk_cons (ha:PE X e te) (hr:PK X kws t):PK X (⟨nm,e,kpos⟩ :: kws) (tCons te t):=by
 constructor
 intro pos pins s σ H Q I h
 show wpAny _ _ (evalAll ((do let v ← eval e X.env;standAt pos;pure v) :: (backToKw pos (keywordEach kws X.env)).map (·.2))) _ _ s
 refine wpAny_evalAll_cons (wpAny_bind (thn (ha pins s σ H _ I h) fun u s1 ⟨x,H1,I1,r1,q1⟩=>wpAny_bind (wpAny_standAt (wpAny_pure ?_))))
 exact thn (hr pos pins s1 σ H1 _ I1 q1) fun us s2 ⟨xs,H2,I2,r2,q2⟩=>⟨x :: xs,H2,I2,.cons r1 r2,q2⟩
structure KBinds (K:PySem.W.Frag) (fd:FuncData) (ps ks:List Str) (g:List Value→List Value→List Value) (gV:List V→List V→List V):Prop where
 to:∀ (s:Shared) (us ws:List Value),K.In s.heap→(g us ws).length=ps.length→BindsTo s fd ⟨us,ks.zip ws⟩ (ps.zip (g us ws))
 rel:∀ {vs:List V} {us:List Value} {zs:List V} {ws:List Value},Vals vs us→Vals zs ws→Vals (gV vs zs) (g us ws)
variable {g:List Value→List Value→List Value}{gV:List V→List V→List V}
end
structure FnScope (N P:List Str) (sc:Scope):Prop where
 kind:sc.kind=.function
 co:sc.isCoroutine=false
 gen:sc.isGenerator=false
 nd:N.Nodup
 pre:N.take P.length=P
 par:∀ x∈P,sc.names.lookup x=some .local∨sc.names.lookup x=some .cell
 nofree:∀ y∈sc.names,y.2≠.free
theorem bindL_out {kindOf:Str→Option NameKind}{x:Str}:∀ {binds:List (Str×Value)}{m:Str→Option Value},(∀ v,(x,v) ∉ binds)→bindL kindOf binds m x=m x
 | [],_,_=>rfl
 | (n,v) :: r,m,h=>by
  unfold bindL
  rw [bindL_out fun w hw=>h w (List.mem_cons_of_mem _ hw)]
  split
  ·have:x≠n:=by rintro rfl;exact h v List.mem_cons_self
   simp [this]
  ·rfl
theorem bindC_out {kindOf:Str→Option NameKind}{x:Str}:∀ {binds:List (Str×Value)}{m:Str→Option Value},(∀ v,(x,v) ∉ binds)→bindC kindOf binds m x=m x
 | [],_,_=>rfl
 | (n,v) :: r,m,h=>by
  unfold bindC
  rw [bindC_out fun w hw=>h w (List.mem_cons_of_mem _ hw)]
  split
  ·rfl
  ·have:x≠n:=by rintro rfl;exact h v List.mem_cons_self
   simp [this]
theorem bindL_get {kindOf:Str→Option NameKind}{x:Str}{v:Value}:∀ {P:List Str}{vs:List Value}{i:Nat}{m:Str→Option Value},P.Nodup→P[i]?=some x→vs[i]?=some v→kindOf x=some .local→
  bindL kindOf (P.zip vs) m x=some v
 | [],_,_,_,_,h,_,_=>by simp at h
 | _ :: _,[],_,_,_,_,h,_=>by simp at h
 | p :: P,w :: vs,0,m,nd,h1,h2,hk=>by
  simp at h1 h2;subst h1;subst h2
  show bindL kindOf ((p,w) :: P.zip vs) m p=_
  unfold bindL
  rw [bindL_out fun v hv=>(List.nodup_cons.mp nd).1 (List.of_mem_zip hv).1,if_pos hk]
  simp
 | p :: P,w :: vs,i + 1,m,nd,h1,h2,hk=>by
  show bindL kindOf ((p,w) :: P.zip vs) m x=_
  unfold bindL
  exact bindL_get (i:=i) (List.nodup_cons.mp nd).2 (by simpa using h1) (by simpa using h2) hk
theorem bindC_get {kindOf:Str→Option NameKind}{x:Str}{v:Value}:∀ {P:List Str}{vs:List Value}{i:Nat}{m:Str→Option Value},P.Nodup→P[i]?=some x→vs[i]?=some v→kindOf x≠some .local→
  bindC kindOf (P.zip vs) m x=some v
 | [],_,_,_,_,h,_,_=>by simp at h
 | _ :: _,[],_,_,_,_,h,_=>by simp at h
 | p :: P,w :: vs,0,m,nd,h1,h2,hk=>by
  simp at h1 h2;subst h1;subst h2
  show bindC kindOf ((p,w) :: P.zip vs) m p=_
  unfold bindC
  rw [bindC_out fun v hv=>(List.nodup_cons.mp nd).1 (List.of_mem_zip hv).1,if_neg hk]
  simp
 | p :: P,w :: vs,i + 1,m,nd,h1,h2,hk=>by
  show bindC kindOf ((p,w) :: P.zip vs) m x=_
  unfold bindC
  exact bindC_get (i:=i) (List.nodup_cons.mp nd).2 (by simpa using h1) (by simpa using h2) hk
def start (N:List Str) (vs:List V):St:=vs.map some ++ List.replicate (N.length - vs.length) none
def cxOf (CX:CXT) (P:Program) (w:World) (K:PySem.W.Frag) (mg:Str→Option Value) (base:Heap) (N:List Str) (qual:Str) (scope:Scope) (f:Addr) (cd:Value) (A:Around) (outer:List Env) (s:Shared) (H:Hp) (E:XK):Cx where
 prog:=P
 w:=w
 K:=K
 mg:=mg
 base:=base
 A:=A.deeper (envOfC qual scope s.heap.objs.size f cd)
 N:=N
 s₀:=s
 H₀:=H
 env:=envOfC qual scope s.heap.objs.size f cd
 outer:=outer
 stack:=envOfC qual scope s.heap.objs.size f cd :: outer
 ex:=[]
 calm:=true
 fn:=fun _=>true
 pn:=[]
 xe:=fun e s'=>wpAny (model P w) (A.deeper (envOfC qual scope s.heap.objs.size f cd)) (leaving (envOfC qual scope s.heap.objs.size f cd) e) (fun _ s''=>CX outer H s E e s'') (fun e' s''=>CX outer H s E e' s'') s'
theorem cell_has {sc:Scope}{n:Nat}{x:Str} (h:sc.names.lookup x=some .cell):∃ c,(cellsFrom n sc.names []).lookup x=some c:=by
 have q:=PySem.W.cellsFrom_some sc.names n [] (.inl h)
 exact Option.isSome_iff_exists.mp q
theorem inv_start {CX:CXT}{P:Program}{w:World}{K:PySem.W.Frag}{mg:Str→Option Value}{base:Heap}{N ps:List Str}{qual:Str}{scope:Scope}{f:Addr}{cd:Value}{A:Around}{outer:List Env}{s s1:Shared}{H:Hp}{E:XK}{us:List Value}{vs:List V}
  (S:FnScope N ps scope) (hd:A.handled=none) (e0:Env0 P w K mg base A outer s H) (hl:vs.length=ps.length) (r:Vals vs us)
  (x:InCallC s s.heap.objs.size (bindL (envOfC qual scope s.heap.objs.size f cd).kindOf (ps.zip us) fun _=>none) (cellsFrom (s.heap.objs.size + 1) scope.names []) (bindC (envOfC qual scope s.heap.objs.size f cd).kindOf (ps.zip us) fun _=>none) s1):
  Inv (cxOf CX P w K mg base N qual scope f cd A outer s H E) [] (start N vs) H s1:=by
 have hpl:ps.length≤N.length:=by have:=congrArg List.length S.pre;rw [List.length_take] at this;omega
 obtain ⟨h1,tk,rfl,hk⟩:=x.done
 have noA:∀ b:Addr,b ∉ (cxOf CX P w K mg base N qual scope f cd A outer s H E).ex:=fun b z=>absurd (show b∈([]:List Addr) from z) (by simp)
 refine ⟨⟨e0.mod,S.kind,rfl,rfl,Nat.le_refl _,fun y z c h1 h2=>?_,fun y hy=>?_,fun y c _ h=>?_,fun _=>hd,Around.frames_deeper e0.frames,.inr ⟨rfl,rfl⟩,fun b z=>absurd z (noA b),e0.bs,e0.bsz,fun b _ _=>noA b,fun b z=>absurd z (noA b),e0.funs,e0.frf⟩,
  rfl,e0.bare,Un.kept hk,⟨_,x.toInCall.ns,fun i y v h1 h2 h3=>?_⟩,fun y c h=>⟨_,x.cell y c h⟩,e0.hok.fresh (Nat.le_refl _),fun y c h=>?_,fun p hp=>absurd (show p∈([]:List (Addr×Obj)) from hp) (by simp),e0.hok.kept hk,?_⟩
 ·exact name_of_addr x.apart (PySem.mem_of_lookup h1) (PySem.mem_of_lookup h2)
 ·have hy:scope.names.lookup y=some .cell∨scope.names.lookup y=some .free:=hy
  rcases hy with hy | hy
  ·exact cell_has hy
  ·exact absurd rfl (S.nofree _ (PySem.mem_of_lookup hy))
 ·exact Nat.le_of_lt (x.above y c (PySem.mem_of_lookup h))
 ·have hi:i < vs.length:=by
   unfold start at h2
   by_cases hi:i < vs.length
   ·exact hi
   ·rw [List.getElem?_append_right (by simpa using hi)] at h2
    rw [List.getElem?_replicate] at h2
    split at h2 <;> cases h2
  have ha:vs[i]?=some v:=by
   unfold start at h2
   rw [List.getElem?_append_left (by simpa using hi),List.getElem?_map] at h2
   cases e:vs[i]? with
   | none=>rw [e] at h2;cases h2
   | some a=>rw [e] at h2;cases h2;rfl
  obtain ⟨u,hu,rv⟩:=r.get ha
  have hp:ps[i]?=some y:=by
   rw [← S.pre,List.getElem?_take_of_lt (by omega)];exact h1
  have ndP:ps.Nodup:=by rw [← S.pre];exact S.nd.sublist (List.take_sublist _ _)
  refine ⟨u,rv,?_⟩
  rcases S.par y (List.mem_of_getElem? hp) with k | k
  ·exact .inl ⟨k,bindL_get ndP hp hu k⟩
  ·obtain ⟨c,e⟩:=cell_has (n:=s.heap.objs.size + 1) k
   refine .inr ⟨.inl k,c,e,?_⟩
   have q:=x.cell y c e
   rw [bindC_get ndP hp hu (by show scope.names.lookup y≠_;rw [k];decide)] at q
   exact q
 ·exact e0.hok.fresh (Nat.le_of_lt (x.above y c (PySem.mem_of_lookup h)))
 ·unfold start
  show _=N.length
  rw [List.length_append,List.length_map,List.length_replicate]
  omega
theorem fn_of {CX:CXT}{P:Program}{w:World}{K:PySem.W.Frag}{mg:Str→Option Value}{base:Heap}{k:Nat}{f:Addr}{name qual:Str}{params:Arguments}{body:List Stmt}{scope:Scope}{dV kV doc pm cdv ct oc:Value}{an od:Option Addr}
  {osl:Array (Option Value)} {N ps:List Str} {sp:Sp} (lk:K.lookup f=some ⟨oc,od,.func (PySem.W.fnOf name qual params body scope dV kV doc pm an cdv ct),osl⟩) (hcd:PySem.W.codeIn K cdv qual=true) (S:FnScope N ps scope)
  (len:∀ vs H Q E,sp vs H Q E→vs.length=ps.length)
  (hbody:∀ (A:Around) (outer:List Env) (s:Shared) (H:Hp) (vs:List V) (Q:VK) (E:XK),Room k (A.deeper (envOfC qual scope s.heap.objs.size f cdv))→sp vs H Q E→
   ∃ t,PSs (cxOf CX P w K mg base N qual scope f cdv A outer s H E) body t∧t { nx:=fun _ H'=>Q .non H',rt:=Q } (start N vs) H):
  FnOk P w K mg base CX (k + 1) f (PySem.W.fnOf name qual params body scope dV kV doc pm an cdv ct) ps sp:=by
 refine ⟨len,fun A outer s H args us vs Q E hr e0 hb r hsp=>?_⟩
 have hl:=len _ _ _ _ hsp
 have KX:K.In s.heap:=e0.mod.kin.keeps fun b o e=>(e0.bs b o e).1
 have lim:s.heap.NoLimit:=e0.mod.nolimit.keeps fun b o e=>(e0.bs b o e).1
 have hkind:∀ y∈ps.zip us,scope.names.lookup y.1=some .local∨(scope.names.lookup y.1=some .cell∧((cellsFrom (s.heap.objs.size + 1) scope.names []).lookup y.1).isSome=true):=fun ⟨n,v⟩ hy=>by
  rcases S.par n (List.of_mem_zip hy).1 with q | q
  ·exact .inl q
  ·exact .inr ⟨q,PySem.W.cellsFrom_some _ _ _ (.inl q)⟩
 refine codeAny_call_function hr.depth (KX _ _ lk) rfl S.co S.gen rfl (PySem.W.codeRec_of KX hcd) (hb _ _ _ _ ?_)
 refine wpAny_newFunctionEnv_cells S.kind hkind fun env he s1 x=>?_
 subst he
 refine ⟨lim.keeps x.toInCall.keep,codeAny_func ?_⟩
 obtain ⟨t,ht,hq⟩:=hbody A outer s H vs Q E (hr.deeper _) hsp
 have I:Inv (cxOf CX P w K mg base N qual scope f cdv A outer s H E) [] (start N vs) H s1:=inv_start S hr.hd e0 hl r x
 refine wpAny_mono (ht [] s1 (start N vs) H _ I hq) (fun fl s' hs=>?_) fun e s' hs=>hs
 have fin:∀ {σ':St} {H':Hp} {v:V} {u:Value},Inv (cxOf CX P w K mg base N qual scope f cdv A outer s H E) [] σ' H' s'→RelV v u→Q v H'→CE outer P w H s Q u s':=
  fun {σ' H' v u} J rv q=>⟨v,H',J.os,J.bare,J.base,J.hok,rv,q⟩
 cases fl with
 | ret u=>
  obtain ⟨v,σ',H',J,rv,q⟩:=hs
  exact fin J rv q
 | next=>
  obtain ⟨σ',H',J,q⟩:=hs
  exact fin (v:=V.non) (u:=Value.none) J rfl q
 | brk=>
  obtain ⟨_,_,_,q⟩:=hs
  exact False.elim q
 | cont=>
  obtain ⟨_,_,_,q⟩:=hs
  exact False.elim q
end L2
namespace L2
open PySem PySem.Spec PyProof.Rows
section
variable {X:Cx}{x:Str}{p pos:Pos}{e:Expr}{es:List Expr}{t:TA}{id T:String}{r:List V→Hp→VK→Prop}
def tCB (r:List V→Hp→VK→Prop) (t:TA):TE:=fun σ H Q=>t σ H fun vs H1=>r vs H1 Q
theorem pe_callB (hc:CallR X (.builtin id) r) (hg:Gl X x) (hm:X.mg x=none) (hv:bootBuiltins x=some (.builtin id)) (ha:PA X (e :: es) t) (hn:x≠"__name__":=by decide) (hdb:(x == ("__debug__":Str))=false:=by decide)
  (he:starEach (e :: es) X.env=(false,eval e X.env) :: starEach es X.env:=by rfl) (hpl:(backTo pos (starEach es X.env)).any (·.1)=false:=by rfl):PE X (.Call (.Name x p) (e :: es) [] pos) (tCB r t):=by
 constructor
 intro pins s σ H Q I h
 refine wpAny_Call_Name_kw (ld_blt I hg hm hv ?_ hn hdb)
 exact PyProof.Rows.callWith_builtin1 (thn (ha pos pins s σ H _ I h) fun us s1 ⟨vs,H1,I1,r1,q1⟩=>hc pins s1 σ H1 vs us Q I1 r1 q1) he hpl
theorem pe_callTy (hc:CallR X (.type T) r) (hg:Gl X x) (hm:X.mg x=none) (hv:bootBuiltins x=some (.type T)) (ha:PA X (e :: es) t) (hn:x≠"__name__":=by decide) (hdb:(x == ("__debug__":Str))=false:=by decide)
  (he:starEach (e :: es) X.env=(false,eval e X.env) :: starEach es X.env:=by rfl) (hpl:(backTo pos (starEach es X.env)).any (·.1)=false:=by rfl):PE X (.Call (.Name x p) (e :: es) [] pos) (tCB r t):=by
 constructor
 intro pins s σ H Q I h
 refine wpAny_Call_Name_kw (ld_blt I hg hm hv ?_ hn hdb)
 exact PyProof.Rows.callWith_type1 (thn (ha pos pins s σ H _ I h) fun us s1 ⟨vs,H1,I1,r1,q1⟩=>hc pins s1 σ H1 vs us Q I1 r1 q1) he hpl
end
end L2
namespace HT
open PySem PyProof.Rows
theorem eqAt_int (A:Around) (s:Shared) (a:Int) (t:Tok) (c:Int) (u:Tok):∃ e,SeqAt.EqAt A s (.int a t) (.int c u) e∧(e=true↔a=c):=
 ⟨(a == c),SeqAt.EqAt.int_int a t c u,by simp⟩
section
open PySem.SeqAt
open PySem.AutoSeq1 (wpAny_loadPart')
open PySem.MeetsSeq PySem.MeetsSeq2 PySem.MeetsSeq3
end
section
variable {prog:Program}{w:World}{A:Around}{E:Value→Shared→Prop}{s:Shared}
theorem cat_tup {t b:Addr}{vs ws:List Value}{Q:Value→Shared→Prop} (ht:IsTup s.heap t vs.toArray) (hb:IsTup s.heap b ws.toArray) (hv:vs≠[])
  (h1:ws=[]→Q (.ref t) s) (h2:ws≠[]→Q (.ref s.heap.objs.size) { s with heap:=s.heap.push { cls:=.type "tuple",data:=.seq (vs ++ ws).toArray } })
  (hsz:vs.length + ws.length≤sizeLine):wpAny (model prog w) A (binaryOp .Add (.ref t) (.ref b)) Q E s:=by
 obtain ⟨⟨cls,dd,data,sl⟩,ho,hc,n,hd⟩:=id ht
 obtain ⟨⟨cls2,dd2,data2,sl2⟩,ho2,hc2,n2,hd2⟩:=id hb
 simp only at hc hd hc2 hd2
 subst hc hd hc2 hd2
 have e:vs.toArray ++ ws.toArray=(vs ++ ws).toArray:=by simp
 by_cases hw:ws=[]
 ·exact concat_meets ⟨_,ho,rfl⟩ ⟨_,ho2,rfl⟩ noFill_tuple_add seq_tuple_add PySem.F.slot_tuple_add PySem.F.entry_tuple_add (PySem.F.args_tuple_add_2 _ _)
   (tuple_addW1 t b vs.toArray ws.toArray n n2 dd dd2 sl sl2 (by simpa using hv) (by simp [hw])) ⟨ho,ho2,h1 hw⟩
 ·refine concat_meets ⟨_,ho,rfl⟩ ⟨_,ho2,rfl⟩ noFill_tuple_add seq_tuple_add PySem.F.slot_tuple_add PySem.F.entry_tuple_add (PySem.F.args_tuple_add_2 _ _)
   (tuple_addW2 t b vs.toArray ws.toArray n n2 dd dd2 sl sl2 (by simpa using hv) (by simpa using hw) (by rw [List.size_toArray,List.size_toArray];exact hsz)) ⟨ho,ho2,?_⟩
  rw [e]
  exact h2 hw
def sIx (n d:Nat):Option Int→Nat
 | none=>d
 | some v=>if v < 0 then (v + (n:Int)).toNat else min v.toNat n
theorem sIx_none (n d:Nat):sIx n d none=d:=rfl
theorem sIx_nat (n d k:Nat):sIx n d (some (k:Int))=min k n:=by
 show (if (k:Int) < 0 then ((k:Int) + (n:Int)).toNat else min (k:Int).toNat n)=min k n
 rw [if_neg (by omega),Int.toNat_natCast]
theorem sIx_le (n d:Nat) (hd:d≤n) (o:Option Int):sIx n d o≤n:=by
 cases o with
 | none=>exact hd
 | some v=>
  show (if v < 0 then (v + (n:Int)).toNat else min v.toNat n)≤n
  by_cases hv:v < 0
  ·rw [if_pos hv];omega
  ·rw [if_neg hv];exact Nat.min_le_right _ _
theorem clip_eq (v:Int) (n d:Nat):(if v < 0 then max (v + (n:Int)) 0 else min v (n:Int))=((sIx n d (some v):Nat):Int):=by
 show (if v < 0 then max (v + (n:Int)) 0 else min v (n:Int))=(((if v < 0 then (v + (n:Int)).toNat else min v.toNat n):Nat):Int)
 by_cases hv:v < 0
 ·simp only [if_pos hv];omega
 ·simp only [if_neg hv];omega
theorem adjust_gen (lo hi:Option Int) (n:Nat):Builtin.Slice.sliceAdjust lo hi 1 (n:Int)=(((sIx n 0 lo:Nat):Int),((sIx n n hi:Nat):Int)):=by
 have h1:¬ ((1:Int) < 0):=by omega
 unfold Builtin.Slice.sliceAdjust
 simp only [h1,if_false]
 refine Prod.ext ?_ ?_
 ·cases lo with
  | none=>rfl
  | some v=>exact clip_eq v n 0
 ·cases hi with
  | none=>rfl
  | some v=>exact clip_eq v n n
theorem places_gen (i j:Nat):Builtin.Slice.slicePlaces (i:Int) (j:Int) 1=j - i:=by
 unfold Builtin.Slice.slicePlaces
 have h1:(1:Int) > 0:=by omega
 simp only [h1,if_true,Int.ediv_one]
 split <;> omega
theorem slicePart_ {v:Value}{o:Option Int}{Q:Option Int→Shared→Prop} (p:IsPart v o) (h:Q o s):wpAny (model prog w) A (Builtin.Slice.slicePartIndex v) Q E s:=by
 cases p with
 | none=>exact slicePart_none h
 | int i t=>exact slicePart_int h
theorem sliceApplied_gen {sl:Addr}{vl vu:Value}{lo hi:Option Int}{n:Nat}{Q:Int×Int×Nat→Shared→Prop} (hs:s.heap.IsSliceOf sl vl vu .none) (pl:IsPart vl lo) (pu:IsPart vu hi)
  (h:Q (((sIx n 0 lo:Nat):Int),1,sIx n n hi - sIx n 0 lo) s):wpAny (model prog w) A (Builtin.Slice.sliceApplied (.ref sl) (pure (n:Int))) Q E s:=by
 obtain ⟨os,hos,hcs,hds⟩:=id hs
 unfold Builtin.Slice.sliceApplied Builtin.Slice.sliceFields
 refine wpAny_bind (wpAny_bind (wpAny_field hos hds (x:=vl) rfl (wpAny_bind (wpAny_field hos hds (x:=vu) rfl (wpAny_bind (wpAny_field hos hds (x:=.none) rfl (wpAny_pure ?_)))))))
 refine wpAny_bind (slicePart_none ?_)
 show wpAny _ _ (if ((1:Int) == 0)=true then _ else _) _ _ s
 rw [if_neg (by decide)]
 refine wpAny_bind (slicePart_ pl (wpAny_bind (slicePart_ pu (wpAny_bind (wpAny_pure ?_)))))
 show wpAny _ _ (match Builtin.Slice.sliceAdjust lo hi 1 (n:Int) with | (lo,hi)=>pure (lo,(1:Int),Builtin.Slice.slicePlaces lo hi 1)) _ _ s
 rw [adjust_gen lo hi n]
 show wpAny _ _ (pure (((sIx n 0 lo:Nat):Int),(1:Int),Builtin.Slice.slicePlaces ((sIx n 0 lo:Nat):Int) ((sIx n n hi:Nat):Int) 1)) _ _ s
 rw [places_gen]
 exact wpAny_pure h
theorem pick_gen (xs:Array Value) (i k:Nat):((List.range k).filterMap fun (m:Nat)=>xs[((i:Int) + (m:Int) * 1).toNat]?).toArray=((xs.toList.drop i).take k).toArray:=by
 have e:(fun (m:Nat)=>xs[((i:Int) + (m:Int) * 1).toNat]?)=fun m=>xs[i + m]?:=by
  funext m
  have:((i:Int) + (m:Int) * 1).toNat=i + m:=by omega
  rw [this]
 rw [e]
 have:=pick_run xs i k
 rw [List.filterMap_map] at this
 have e2:((fun x=>xs[x]?) ∘ fun x=>i + x)=fun m=>xs[i + m]?:=rfl
 rw [e2] at this
 rw [this]
theorem getItem_tuple_cut {t sl:Addr}{items:Array Value}{vl vu:Value}{lo hi:Option Int}{Q:Value→Shared→Prop} (ht:IsTup s.heap t items) (hs:s.heap.IsSliceOf sl vl vu .none) (pl:IsPart vl lo) (pu:IsPart vu hi)
  (hw:¬ (sIx items.size 0 lo=0∧sIx items.size items.size hi=items.size))
  (h:Q (.ref s.heap.objs.size) { s with heap:=s.heap.push { cls:=.type "tuple",data:=.seq ((items.toList.drop (sIx items.size 0 lo)).take (sIx items.size items.size hi - sIx items.size 0 lo)).toArray } })
  (hsz:items.size≤sizeLine):wpAny (model prog w) A (getItem (.ref t) (.ref sl)) Q E s:=by
 have htake:sizeOk (.seq ((items.toList.drop (sIx items.size 0 lo)).take (sIx items.size items.size hi - sIx items.size 0 lo)).toArray):=by
  show ((items.toList.drop (sIx items.size 0 lo)).take (sIx items.size items.size hi - sIx items.size 0 lo)).toArray.size≤sizeLine
  rw [List.size_toArray,List.length_take,List.length_drop,Array.length_toList]
  omega
 have hj:sIx items.size items.size hi≤items.size:=sIx_le _ _ (Nat.le_refl _) hi
 obtain ⟨os,hos,hcs,hds⟩:=id hs
 have hTs:s.TypeIs (.ref sl) "slice":=⟨os,hos,hcs⟩
 unfold getItem
 try with_reducible refine wpAny_holding ?_
 first | refine wpAny_bind (wpAny_pure ?_) | skip
 refine wpAny_bind (wpAny_sequenceKey ht.typeIs (by decide) ?_)
 refine wpAny_bind (wpAny_callSpecial?_slot (name:=Str.ofString "__getitem__") ht.typeIs PyProof.Rows.slot_tuple_getitem
  (wpAny_call_entry PyProof.Rows.slot_tuple_getitem ht.typeIs entry_tuple_getitem ?_ (args_tuple_getitem _ _)))
 show wpAny _ _ (Builtin.Tuple.tupleItemsOf (.ref t) >>= _) _ _ s
 refine wpAny_bind (tupleItemsOf_ ht ?_)
 refine wpAny_bind (wpAny_typeOf hTs ?_)
 rw [if_pos (by decide)]
 refine wpAny_bind (sliceApplied_gen hs pl pu ?_)
 have hno:¬ ((((sIx items.size 0 lo:Nat):Int) == 0 && (1:Int) == 1 && (sIx items.size items.size hi - sIx items.size 0 lo) == items.size)=true):=by
  intro q
  rw [Bool.and_eq_true,Bool.and_eq_true] at q
  have q1:((sIx items.size 0 lo:Nat):Int)=0:=eq_of_beq q.1.1
  have q2:sIx items.size items.size hi - sIx items.size 0 lo=items.size:=eq_of_beq q.2
  exact hw ⟨by omega,by omega⟩
 show wpAny _ _ (if (((sIx items.size 0 lo:Nat):Int) == 0 && (1:Int) == 1 && (sIx items.size items.size hi - sIx items.size 0 lo) == items.size)=true then _ else _) _ _ s
 rw [if_neg hno,pick_gen]
 first
  | exact wpAny_bind (m:=Builtin.Tuple.tupleExact _) (wpAny_newObj_type (wpAny_pure ⟨_,rfl,wpAny_pure h⟩) htake)
  | exact wpAny_bind (m:=Builtin.Tuple.tupleExact _) (wpAny_newObj_type (wpAny_bind (wpAny_pure (wpAny_pure ⟨_,rfl,wpAny_pure h⟩))) htake)
  | exact wpAny_bind (wpAny_bind (m:=Builtin.Tuple.tupleExact _) (wpAny_newObj_type (wpAny_pure (wpAny_pure ⟨_,rfl,wpAny_pure h⟩)) htake))
  | exact wpAny_bind (wpAny_bind (m:=Builtin.Tuple.tupleExact _) (wpAny_newObj_type (wpAny_pure ⟨_,rfl,wpAny_pure h⟩) htake))
end
end HT
namespace L2
open PySem PySem.Spec PyProof.Rows
abbrev TO:=St→Hp→(Option Int→Hp→Prop)→Prop
structure PO (X:Cx) (e:Option Expr) (t:TO):Prop where
 run:
  ∀ (pins:List (Addr×Obj)) (s:Shared) (σ:St) (H:Hp) (Q:Option Int→Hp→Prop),Inv X pins σ H s→t σ H Q→
   wpAny (model X.prog X.w) X.A (evalPart e X.env) (fun u s'=>∃ o H',Inv X pins σ H' s'∧IsPart u o∧Q o H') X.xe s
instance {X:Cx} {e:Option Expr} {t:TO}:CoeFun (PO X e t) (fun _=>
 ∀ (pins:List (Addr×Obj)) (s:Shared) (σ:St) (H:Hp) (Q:Option Int→Hp→Prop),Inv X pins σ H s→t σ H Q→
  wpAny (model X.prog X.w) X.A (evalPart e X.env) (fun u s'=>∃ o H',Inv X pins σ H' s'∧IsPart u o∧Q o H') X.xe s):=⟨fun h=>h.run⟩
def tNoPart:TO:=fun _ H Q=>Q none H
def tPart (t:TE):TO:=fun σ H Q=>t σ H fun x H1=>∃ i,x=.int i∧Q (some i) H1
theorem intsAre_of {ns:List Int}:∀ {us:List Value},Vals (ns.map V.int) us→IntsAre us ns:=by
 induction ns with
 | nil=>intro us r;rw [List.map_nil] at r;cases r;exact .nil
 | cons n ns ih=>
  intro us r
  rw [List.map_cons] at r
  cases r with
  | cons r1 r2=>
   obtain ⟨t,e⟩:=r1
   subst e
   exact .cons n t (ih r2)
section
variable {X:Cx}{e:Expr}{te:TE}{lo hi:Option Expr}{tl th:TO}{pos p2:Pos}
theorem po_none:PO X none tNoPart:=by
 constructor
 intro pins s σ H Q I h
 rw [evalPart_none]
 exact wpAny_pure ⟨none,H,I,.none,h⟩
theorem po_some (h:PE X e te):PO X (some e) (tPart te):=by
 constructor
 intro pins s σ H Q I hw
 rw [evalPart_some]
 refine thn (h pins s σ H _ I hw) fun u s1 ⟨x,H1,I1,r1,q1⟩=>?_
 obtain ⟨i,rfl,q⟩:=q1
 obtain ⟨t,rfl⟩:=r1
 exact ⟨some i,H1,I1,.int i t,q⟩
def SlR (X:Cx) (r:V→Option Int→Option Int→Hp→VK→Prop):Prop:=
 ∀ (pins:List (Addr×Obj)) (s:Shared) (σ:St) (H:Hp) (x:V) (v vl vu:Value) (lo hi:Option Int) (sl:Addr) (Q:VK),Inv X pins σ H s→RelV x v→s.heap.IsSliceOf sl vl vu .none→IsPart vl lo→IsPart vu hi→r x lo hi H Q→
  ∃ T id,typeLookup (.type T) "__getitem__"=pure (some (.builtin id))∧s.TypeIs v T∧wpAny (model X.prog X.w) X.A (getItem v (.ref sl)) (EP X pins σ Q) X.xe s
def tSl (r:V→Option Int→Option Int→Hp→VK→Prop) (te:TE) (tl th:TO):TE:=fun σ H Q=>te σ H fun x H1=>tl σ H1 fun l H2=>th σ H2 fun u H3=>r x l u H3 Q
theorem pe_slice {r:V→Option Int→Option Int→Hp→VK→Prop} (hr:SlR X r) (he:PE X e te) (hl:PO X lo tl) (hu:PO X hi th):PE X (.Subscript e (.Slice lo hi none p2) pos) (tSl r te tl th):=by
 constructor
 intro pins s σ H Q I h
 refine Subscript_ (thn (he pins s σ H _ I h) fun v s1 ⟨x,H1,I1,r1,q1⟩=>?_)
 refine wpAny_Slice (thn (hl pins s1 σ H1 _ I1 q1) fun vl s2 ⟨l,H2,I2,pl,q2⟩=>thn (hu pins s2 σ H2 _ I2 q2) fun vu s3 ⟨u,H3,I3,pu,q3⟩=>?_)
 rw [evalPart_none]
 refine wpAny_pure ?_
 have I4:Inv X pins σ H3 { s3 with heap:=s3.heap.push { cls:=.type "slice",data:=.fields #[vl,vu,.none] } }:=I3.kept (t':=s3.toks) fun b ob q=>Heap.get?_push_of_some _ q
 obtain ⟨T,id,hT,ht,hg⟩:=hr pins { s3 with heap:=s3.heap.push { cls:=.type "slice",data:=.fields #[vl,vu,.none] } } σ H3 x v vl vu l u s3.heap.objs.size Q I4 r1 (Heap.IsSliceOf.new ..) pl pu q3
 show wpAny (model X.prog X.w) X.A (subscriptTail e (.Slice lo hi none p2) v (.ref s3.heap.objs.size)) (EP X pins σ Q) X.xe { s3 with heap:=s3.heap.push { cls:=.type "slice",data:=.fields #[vl,vu,.none] } }
 exact tail_any (ops:=[.ref s3.heap.objs.size,v]) ht hT hg (by with_unfolding_all rfl)
def cutV (xs:List V) (lo hi:Option Int):List V:=(xs.drop (HT.sIx xs.length 0 lo)).take (HT.sIx xs.length xs.length hi - HT.sIx xs.length 0 lo)
theorem cutV_length (xs:List V) (lo hi:Option Int):(cutV xs lo hi).length≤xs.length:=by
 unfold cutV
 rw [List.length_take,List.length_drop]
 omega
def rSlT (K:PySem.W.Frag):V→Option Int→Option Int→Hp→VK→Prop:=fun x lo hi H Q=>∃ a xs,x=.ref a∧SqT K H a xs∧
 ¬ (HT.sIx xs.length 0 lo=0∧HT.sIx xs.length xs.length hi=xs.length)∧∀ p,H p=none→Q (.ref p) (upd H p (.tup (cutV xs lo hi)))
theorem sl_tup:SlR X (rSlT X.K):=by
 intro pins s σ H x v vl vu lo hi sl Q I rx hs pl pu h
 obtain ⟨a,xs,rfl,hx,hw,q⟩:=h
 cases rx
 obtain ⟨its,r,ht,hz⟩:=I.tuple hx
 have hlen:its.toArray.size=xs.length:=by rw [List.size_toArray];exact r.length.symm
 refine ⟨"tuple",_,PyProof.Rows.slot_tuple_getitem.lookup,ht.typeIs,?_⟩
 refine HT.getItem_tuple_cut ht hs pl pu (by rw [hlen];exact hw) ?_ (by rw [hlen];exact hz)
 rw [hlen]
 refine ⟨.ref s.heap.objs.size,_,I.laid (t':=s.toks) (o:=.tup (cutV xs lo hi)) (fun b ob q=>Heap.get?_push_of_some _ q) (Nat.le_refl _) ?_,rfl,q _ (I.hok.fresh (Nat.le_refl _))⟩
 exact ⟨Nat.le_trans (cutV_length xs lo hi) hz,_,(r.drop (HT.sIx xs.length 0 lo)).take (HT.sIx xs.length xs.length hi - HT.sIx xs.length 0 lo),⟨_,Heap.get?_push_size _ rfl,⟨rfl,_,rfl⟩,rfl⟩⟩
def rCatT (K:PySem.W.Frag):R2:=fun x y H Q=>∃ a b xs ys,x=.ref a∧y=.ref b∧SqT K H a xs∧SqT K H b ys∧xs≠[]∧xs.length + ys.length≤sizeLine∧
 (ys=[]→Q (.ref a) H)∧(ys≠[]→∀ p,H p=none→Q (.ref p) (upd H p (.tup (xs ++ ys))))
theorem Vals.nil_iff {xs:List V}{us:List Value} (r:Vals xs us):us=[]↔xs=[]:=by
 cases r with
 | nil=>simp
 | cons _ _=>simp
theorem op_catT:OpR X (binaryOp .Add) (rCatT X.K):=by
 intro pins s σ H x y v u Q I rx ry h
 obtain ⟨a,b,xs,ys,rfl,rfl,ha,hb,hx,hz,q1,q2⟩:=h
 cases rx
 cases ry
 obtain ⟨its,r1,p1,_⟩:=I.tuple ha
 obtain ⟨its2,r2,p2,_⟩:=I.tuple hb
 refine HT.cat_tup p1 p2 (fun z=>hx (r1.nil_iff.mp z)) (fun z=>⟨.ref a,H,I,rfl,q1 (r2.nil_iff.mp z)⟩) (fun z=>?_) (by rw [← r1.length,← r2.length];exact hz)
 refine ⟨.ref s.heap.objs.size,_,I.laid (t':=s.toks) (o:=.tup (xs ++ ys)) (fun b ob q=>Heap.get?_push_of_some _ q) (Nat.le_refl _) ?_,rfl,q2 (fun w=>z (r2.nil_iff.mpr w)) _ (I.hok.fresh (Nat.le_refl _))⟩
 exact ⟨by rw [List.length_append];exact hz,_,r1.append r2,⟨_,Heap.get?_push_size _ rfl,⟨rfl,_,rfl⟩,rfl⟩⟩
end
end L2
namespace L2
open PySem PySem.Spec PyProof.Rows
def ixN (n:Nat) (i:Int):Option Nat:=if 0≤i then (if i < n then some i.toNat else none) else if -(n:Int)≤i then some (i + n).toNat else none
def atI {α:Type} (xs:List α) (i:Int):Option α:=(ixN xs.length i).bind fun j=>xs[j]?
theorem ixN_seq {n:Nat}{i:Int}{j:Nat} (h:ixN n i=some j):seqIndex? i n=some j∧j < n∧-(n:Int)≤i∧i < n:=by
 unfold ixN at h
 by_cases h0:0≤i
 ·rw [if_pos h0] at h
  by_cases h1:i < n
  ·rw [if_pos h1] at h
   have e:i.toNat=j:=Option.some.inj h
   exact ⟨by rw [seqIndex_of h0 h1,e],by omega,by omega,h1⟩
  ·rw [if_neg h1] at h;cases h
 ·rw [if_neg h0] at h
  by_cases h1:-(n:Int)≤i
  ·rw [if_pos h1] at h
   have e:(i + n).toNat=j:=Option.some.inj h
   exact ⟨by rw [seqIndex_neg (by omega) h1,e],by omega,h1,by omega⟩
  ·rw [if_neg h1] at h;cases h
theorem atI_get {α:Type}{xs:List α}{i:Int}{v:α} (h:atI xs i=some v):∃ j,seqIndex? i xs.length=some j∧xs[j]?=some v∧j < xs.length∧-(xs.length:Int)≤i∧i < xs.length:=by
 unfold atI at h
 cases e:ixN xs.length i with
 | none=>rw [e] at h;cases h
 | some j=>
  rw [e] at h
  obtain ⟨h1,h2,h3,h4⟩:=ixN_seq e
  exact ⟨j,h1,h,h2,h3,h4⟩
theorem atI_nat {α:Type}{xs:List α}{j:Nat}{v:α} (h:xs[j]?=some v):atI xs (j:Int)=some v:=by
 have hj:j < xs.length:=(List.getElem?_eq_some_iff.mp h).1
 have e:ixN xs.length (j:Int)=some j:=by
  unfold ixN
  rw [if_pos (by omega),if_pos (by omega)];simp
 unfold atI;rw [e];exact h
theorem atI_last {α:Type} (xs:List α) (v:α):atI (xs ++ [v]) (-1)=some v:=by
 have hl:(xs ++ [v]).length=xs.length + 1:=by simp
 have e:ixN (xs ++ [v]).length (-1)=some xs.length:=by
  unfold ixN
  rw [hl,if_neg (by decide),if_pos (by omega)]
  congr 1
  omega
 unfold atI
 rw [e]
 show (xs ++ [v])[xs.length]?=some v
 simp
def PlainIx (b:Expr):Prop:=∀ o i,subscripted b false o i=operate [o,i] (getItem o i)
def IxR (X:Cx) (r:R2):Prop:=
 ∀ (value slice:Expr) (pins:List (Addr×Obj)) (s:Shared) (σ:St) (H:Hp) (x y:V) (v u:Value) (Q:VK),Inv X pins σ H s→RelV x v→RelV y u→r x y H Q→
  subscripted slice false v u=operate [v,u] (getItem v u)→wpAny (model X.prog X.w) X.A (subscriptTail value slice v u) (EP X pins σ Q) X.xe s
def MtR (X:Cx) (id:String) (r:V→List V→Hp→VK→Prop):Prop:=
 ∀ (pins:List (Addr×Obj)) (s:Shared) (σ:St) (H:Hp) (x:V) (xs:List V) (v:Value) (us:List Value) (Q:VK),Inv X pins σ H s→RelV x v→Vals xs us→r x xs H Q→
  wpAny (model X.prog X.w) X.A (call (.builtin id) (v :: us)) (EP X pins σ Q) X.xe s
section
variable {X:Cx}{a b:Expr}{ta tb:TE}{pos:Pos}
theorem pe_ix {r:R2} (hr:IxR X r) (ha:PE X a ta) (hb:PE X b tb) (hs:PlainIx b):PE X (.Subscript a b pos) (tOp r ta tb):=by
 constructor
 intro pins s σ H Q I h
 exact Subscript_ (binT ha hb I h fun v u s2 x y H2 I2 rx ry q=>hr a b pins s2 σ H2 x y v u Q I2 rx ry q (hs _ _))
def rIxL (K:PySem.W.Frag):R2:=fun x y H Q=>∃ p xs i v,x=.ref p∧y=.int i∧SqL K H p xs∧atI xs i=some v∧Q v H
def rIxT (K:PySem.W.Frag):R2:=fun x y H Q=>∃ p xs i v,x=.ref p∧y=.int i∧SqT K H p xs∧atI xs i=some v∧Q v H
def rIxS:R2:=fun x y H Q=>∃ z i c,x=.str z∧y=.int i∧z.length≤sizeLine∧atI z.cps.toList i=some c∧Q (.str ⟨#[c]⟩) H
theorem ix_list:IxR X (rIxL X.K):=by
 intro value slice pins s σ H x y v u Q I rx ry h hs
 obtain ⟨p,xs,i,z,rfl,rfl,hq,he,q⟩:=h
 cases rx
 obtain ⟨t,rfl⟩:=ry
 obtain ⟨its,r,pl,hz⟩:=I.list hq
 obtain ⟨j,h1,h2,h3,h4,h5⟩:=atI_get he
 obtain ⟨w,ew,rw'⟩:=r.get h2
 have hl:=r.length
 have hn:=line63
 have fin:EP X pins σ Q w s:=⟨z,H,I,rw',q⟩
 by_cases h0:0≤i
 ·have hj:i.toNat=j:=by
   rw [seqIndex_of h0 h5] at h1
   exact Option.some.inj h1
  exact item_listR pl.isList h0 (by omega) (by rw [hj];simpa using ew) fin hs
 ·have hj:(i + (its.toArray.size:Int)).toNat=j:=by
   rw [seqIndex_neg (by omega) h4] at h1
   rw [List.size_toArray,← hl]
   exact Option.some.inj h1
  exact subscriptTail_builtinR (x:=w) pl.isList.typeIs slot_list_getitem.lookup
   (wpAny_getItem_list_neg (Q:=fun r s'=>r=w∧EP X pins σ Q r s') pl.isList (by omega) (by rw [List.size_toArray] <;> omega) (by omega) (by rw [hj];simpa using ew) ⟨rfl,fin⟩) hs
theorem ix_tup:IxR X (rIxT X.K):=by
 intro value slice pins s σ H x y v u Q I rx ry h hs
 obtain ⟨p,xs,i,z,rfl,rfl,hq,he,q⟩:=h
 cases rx
 obtain ⟨t,rfl⟩:=ry
 obtain ⟨its,r,pl,hz⟩:=I.tuple hq
 obtain ⟨j,h1,h2,h3,h4,h5⟩:=atI_get he
 obtain ⟨w,ew,rw'⟩:=r.get h2
 have hl:=r.length
 have hn:=line63
 have fin:EP X pins σ Q w s:=⟨z,H,I,rw',q⟩
 exact subscriptTail_builtinR (x:=w) pl.typeIs slot_tuple_getitem.lookup
  (getItem_tuple (j:=j) (Q:=fun r s'=>r=w∧EP X pins σ Q r s') pl (by omega) (by omega) (by rw [List.size_toArray,← hl];exact h1) (by simpa using ew) ⟨rfl,fin⟩) hs
theorem ix_str:IxR X rIxS:=by
 intro value slice pins s σ H x y v u Q I rx ry h hs
 obtain ⟨z,i,c,rfl,rfl,hz,he,q⟩:=h
 obtain ⟨t,rfl⟩:=rx
 obtain ⟨t',rfl⟩:=ry
 obtain ⟨j,h1,h2,h3,h4,h5⟩:=atI_get he
 have hl:z.cps.toList.length=z.length:=by simp [Str.length]
 rw [hl] at h1 h4 h5
 have hn:=line63
 exact tail_any (typeIs_str s z t) slot_str_getitem.lookup (getItem_str (c:=c) (by
  have e1:decide (i < -(2 ^ 63:Int))=false:=decide_eq_false (by omega)
  have e2:decide (i ≥ 2 ^ 63)=false:=decide_eq_false (by omega)
  rw [e1,e2,Bool.or_false]) (by rw [h1];simpa using h2) ⟨.str ⟨#[c]⟩,H,I.tok _,⟨_,rfl⟩,q⟩) hs
theorem mapSeq_set (its:List Value) (n j:Nat) (u:Value):Obj.mapSeq (·.setIfInBounds j u) { cls:=.type "list",data:=.seq its.toArray n }={ cls:=.type "list",data:=.seq (its.set j u).toArray n }:=by
 simp [Obj.mapSeq]
theorem Inv.lst {pins:List (Addr×Obj)}{σ:St}{H:Hp}{s:Shared}{p:Addr}{xs:List V} (I:Inv X pins σ H s) (h:H p=some (.lst xs)):
  ∃ (its:List Value) (n:Nat),Vals xs its∧s.heap.get? p=some { cls:=.type "list",data:=.seq its.toArray n }∧xs.length≤sizeLine:=by
 obtain ⟨z,its,n,r,e⟩:=I.hok p _ h
 exact ⟨its,n,r,e,z⟩
theorem Inv.lstUpd {pins:List (Addr×Obj)}{σ:St}{H:Hp}{s:Shared}{p:Addr}{xs ys:List V}{its its':List Value}{n n':Nat}{f:Obj→Obj} (I:Inv X pins σ H s) (h:H p=some (.lst xs))
  (ho:s.heap.get? p=some { cls:=.type "list",data:=.seq its.toArray n }) (hf:f { cls:=.type "list",data:=.seq its.toArray n }={ cls:=.type "list",data:=.seq its'.toArray n' }) (r:Vals ys its') (hz:ys.length≤sizeLine) (t:Nat):
  Inv X pins σ (upd H p (.lst ys)) { s with heap:=s.heap.update p f,toks:=t }:=by
 have e:(s.heap.update p f).get? p=some { cls:=.type "list",data:=.seq its'.toArray n' }:=by
  rw [Heap.get?_update_self f ho (by rw [hf] <;> rfl),hf]
 refine I.write (x:=p) (e:=p) (by rw [h];trivial) (.inl rfl) (fun b u hb q=>(Heap.get?_update_other _ _ (Ne.symm hb)).trans q) ⟨_,e⟩ ?_
 exact ⟨hz,its',n',r,e⟩
def rSetL:V→V→V→Hp→(Hp→Prop)→Prop:=fun o i v H Q=>∃ p xs k j,o=.ref p∧i=.int k∧H p=some (.lst xs)∧ixN xs.length k=some j∧Q (upd H p (.lst (xs.set j v)))
theorem set_list:PSet X rSetL:=by
 intro pins s σ H o i v ov iv u Q I ro ri rv h
 obtain ⟨p,xs,k,j,rfl,rfl,hp,hj,q⟩:=h
 cases ro
 obtain ⟨t,rfl⟩:=ri
 obtain ⟨its,n,r,ho,hz⟩:=I.lst hp
 obtain ⟨h1,h2,h3,h4⟩:=ixN_seq hj
 have hl:=r.length
 have hn:=line63
 have I':Inv X pins σ (upd H p (.lst (xs.set j v))) { s with heap:=s.heap.update p (Obj.mapSeq (·.setIfInBounds j u)) }:=
  I.lstUpd hp ho (mapSeq_set its n j u) (r.set rv j) (by rw [List.length_set];exact hz) s.toks
 by_cases h0:0≤k
 ·have hk:k.toNat=j:=by
   rw [seqIndex_of h0 h4] at h1
   exact Option.some.inj h1
  exact PySem.W.ki_setAt ho h0 (by omega) (by rw [List.size_toArray,← hl];exact h4) (by rw [hk];exact ⟨_,I',q⟩)
 ·have hk:(k + (its.toArray.size:Int)).toNat=j:=by
   rw [seqIndex_neg (by omega) h3] at h1
   rw [List.size_toArray,← hl]
   exact Option.some.inj h1
  exact PySem.W.ki_setBack ho (by omega) (by rw [List.size_toArray,← hl];exact h3) (by omega) (by rw [hk];exact ⟨_,I',q⟩)
theorem slice_bounds (lo hi:Option Int) (n:Nat):(sliceBounds lo hi none n).1=((HT.sIx n 0 lo:Nat):Int)∧(sliceBounds lo hi none n).2.1=((HT.sIx n n hi:Nat):Int)∧(sliceBounds lo hi none n).2.2=1:=by
 refine ⟨?_,?_,rfl⟩
 ·cases lo with
  | none=>simp [sliceBounds,HT.sIx]
  | some i=>
   simp only [sliceBounds,HT.sIx,Option.getD_none,show (1:Int) > 0 by decide,if_true]
   by_cases h:i < 0
   ·simp only [h,if_true] <;> omega
   ·simp only [h,if_false] <;> omega
 ·cases hi with
  | none=>simp [sliceBounds,HT.sIx]
  | some i=>
   simp only [sliceBounds,HT.sIx,Option.getD_none,show (1:Int) > 0 by decide,if_true]
   by_cases h:i < 0
   ·simp only [h,if_true] <;> omega
   ·simp only [h,if_false] <;> omega
theorem slicePick_cut (its:List Value) (lo hi:Option Int):slicePick its.toArray lo hi none=((its.drop (HT.sIx its.length 0 lo)).take (HT.sIx its.length its.length hi - HT.sIx its.length 0 lo)).toArray:=by
 obtain ⟨h1,h2,h3⟩:=slice_bounds lo hi its.toArray.size
 unfold slicePick
 rw [h1,h2,h3]
 simp only [sliceRange_one,pick_run,List.size_toArray] <;> rfl
def rSlL (K:PySem.W.Frag):V→Option Int→Option Int→Hp→VK→Prop:=fun x lo hi H Q=>∃ a xs,x=.ref a∧SqL K H a xs∧∀ p,H p=none→Q (.ref p) (upd H p (.lst (cutV xs lo hi)))
theorem sl_list:SlR X (rSlL X.K):=by
 intro pins s σ H x v vl vu lo hi sl Q I rx hs pl pu h
 obtain ⟨a,xs,rfl,hx,q⟩:=h
 cases rx
 obtain ⟨its,r,ht,hz⟩:=I.list hx
 have hlen:=r.length
 refine ⟨"list",_,slot_list_getitem.lookup,ht.isList.typeIs,?_⟩
 refine wpAny_getItem_list_slice ht.isList hs pl pu .none (by simp) ?_ (by rw [List.size_toArray] <;> omega)
 rw [slicePick_cut,← hlen]
 refine ⟨.ref s.heap.objs.size,_,I.laid (t':=s.toks) (o:=.lst (cutV xs lo hi)) (fun b ob q=>Heap.get?_push_of_some _ q) (Nat.le_refl _) ?_,rfl,q _ (I.hok.fresh (Nat.le_refl _))⟩
 exact ⟨Nat.le_trans (cutV_length xs lo hi) hz,_,0,(r.drop (HT.sIx xs.length 0 lo)).take (HT.sIx xs.length xs.length hi - HT.sIx xs.length 0 lo),Heap.get?_push_size _ rfl⟩
def flatV:V→Bool
 | .non=>true
 | .bl _=>true
 | .int _=>true
 | .str _=>true
 | _=>false
def eqV:V→V→Bool
 | .non,.non=>true
 | .bl a,.bl b=>a == b
 | .bl a,.int b=>(if a then 1 else 0) == b
 | .int a,.bl b=>a == (if b then 1 else 0)
 | .int a,.int b=>a == b
 | .str a,.str b=>a == b
 | _,_=>false
theorem eqAt_V {A:Around}{s:Shared}{y x:V}{u v:Value} (ry:RelV y u) (rx:RelV x v) (fy:flatV y=true) (fx:flatV x=true):SeqAt.EqAt A s u v (eqV y x):=by
 cases y with
 | non=>
  cases ry
  cases x with
  | non=>cases rx;exact SeqAt.EqAt.same _
  | bl b=>cases rx;exact SeqAt.EqAt.none_bool b
  | int b=>obtain ⟨t,rfl⟩:=rx;exact SeqAt.EqAt.none_int b t
  | str b=>obtain ⟨t,rfl⟩:=rx;exact SeqAt.EqAt.none_str b t
  | _=>exact absurd (show false=true from fx) Bool.false_ne_true
 | bl a=>
  cases ry
  cases x with
  | non=>cases rx;exact SeqAt.EqAt.bool_none a
  | bl b=>cases rx;exact SeqAt.EqAt.bool_bool a b
  | int b=>obtain ⟨t,rfl⟩:=rx;exact SeqAt.EqAt.bool_int a b t
  | str b=>obtain ⟨t,rfl⟩:=rx;exact SeqAt.EqAt.bool_str a b t
  | _=>exact absurd (show false=true from fx) Bool.false_ne_true
 | int a=>
  obtain ⟨t',rfl⟩:=ry
  cases x with
  | non=>cases rx;exact SeqAt.EqAt.int_none a t'
  | bl b=>cases rx;exact SeqAt.EqAt.int_bool a t' b
  | int b=>obtain ⟨t,rfl⟩:=rx;exact SeqAt.EqAt.int_int a t' b t
  | str b=>obtain ⟨t,rfl⟩:=rx;exact SeqAt.EqAt.int_str a t' b t
  | _=>exact absurd (show false=true from fx) Bool.false_ne_true
 | str a=>
  obtain ⟨t',rfl⟩:=ry
  cases x with
  | non=>cases rx;exact SeqAt.EqAt.str_none a t'
  | bl b=>cases rx;exact SeqAt.EqAt.str_bool a t' b
  | int b=>obtain ⟨t,rfl⟩:=rx;exact SeqAt.EqAt.str_int a t' b t
  | str b=>obtain ⟨t,rfl⟩:=rx;exact SeqAt.EqAt.str_str a t' b t
  | _=>exact absurd (show false=true from fx) Bool.false_ne_true
 | _=>exact absurd (show false=true from fy) Bool.false_ne_true
def eqU (x:V) (u:Value):Bool:=match u with
 | .none=>eqV .non x
 | .bool b=>eqV (.bl b) x
 | .int i _=>eqV (.int i) x
 | .str z _=>eqV (.str z) x
 | _=>false
theorem eqU_of {x y:V}{u:Value} (r:RelV y u) (f:flatV y=true):eqU x u=eqV y x:=by
 cases y with
 | non=>cases r;rfl
 | bl b=>cases r;rfl
 | int i=>obtain ⟨t,rfl⟩:=r;rfl
 | str z=>obtain ⟨t,rfl⟩:=r;rfl
 | _=>exact absurd (show false=true from f) Bool.false_ne_true
theorem any_eqU {x:V}:∀ {xs:List V}{us:List Value},Vals xs us→xs.all flatV=true→us.any (eqU x)=xs.any fun y=>eqV y x
 | _,_,.nil,_=>rfl
 | y :: xs,u :: us,.cons r t,f=>by
  rw [List.all_cons,Bool.and_eq_true] at f
  rw [List.any_cons,List.any_cons,eqU_of r f.1,any_eqU t f.2]
theorem mem_eqAt {A:Around}{s:Shared}{x:V}{v:Value} (rx:RelV x v) (fx:flatV x=true):∀ {xs:List V}{us:List Value},Vals xs us→xs.all flatV=true→∀ u∈us,SeqAt.EqAt A s u v (eqU x u)
 | _,_,.nil,_=>fun u hu=>by cases hu
 | y :: xs,u :: us,.cons r t,f=>fun u' hu=>by
  rw [List.all_cons,Bool.and_eq_true] at f
  rcases List.mem_cons.mp hu with rfl | hu
  ·rw [eqU_of r f.1];exact eqAt_V r rx f.1 fx
  ·exact mem_eqAt rx fx t f.2 u' hu
def inV (x:V) (xs:List V):Bool:=xs.any fun y=>eqV y x
def rIn (K:PySem.W.Frag) (neg:Bool):R2:=fun x y H Q=>∃ p xs,y=.ref p∧(SqL K H p xs∨SqT K H p xs)∧flatV x=true∧xs.all flatV=true∧Q (.bl (if neg then !inV x xs else inV x xs)) H
theorem op_in_seq:OpR X (compareOp .In) (rIn X.K false):=by
 intro pins s σ H x y v u Q I rx ry h
 obtain ⟨p,xs,rfl,hq,fx,fs,q⟩:=h
 cases ry
 rcases hq with hq | hq
 ·obtain ⟨its,r,pl,hz⟩:=I.list hq
  refine SeqAt.in_listAt (eqU x) pl.isList (fun w hw=>mem_eqAt rx fx r fs w (by simpa using hw)) ⟨.bl _,H,I,rfl,?_⟩
  rw [show its.toArray.any (eqU x)=its.any (eqU x) by simp,any_eqU r fs]
  exact q
 ·obtain ⟨its,r,pl,hz⟩:=I.tuple hq
  refine SeqAt.in_tupleAt (eqU x) pl (fun w hw=>mem_eqAt rx fx r fs w (by simpa using hw)) ⟨.bl _,H,I,rfl,?_⟩
  rw [show its.toArray.any (eqU x)=its.any (eqU x) by simp,any_eqU r fs]
  exact q
theorem op_notIn_seq:OpR X (compareOp .NotIn) (rIn X.K true):=by
 intro pins s σ H x y v u Q I rx ry h
 obtain ⟨p,xs,rfl,hq,fx,fs,q⟩:=h
 cases ry
 rcases hq with hq | hq
 ·obtain ⟨its,r,pl,hz⟩:=I.list hq
  refine SeqAt.notIn_listAt (eqU x) pl.isList (fun w hw=>mem_eqAt rx fx r fs w (by simpa using hw)) ⟨.bl _,H,I,rfl,?_⟩
  rw [show its.toArray.any (eqU x)=its.any (eqU x) by simp,any_eqU r fs]
  exact q
 ·obtain ⟨its,r,pl,hz⟩:=I.tuple hq
  refine SeqAt.notIn_tupleAt (eqU x) pl (fun w hw=>mem_eqAt rx fx r fs w (by simpa using hw)) ⟨.bl _,H,I,rfl,?_⟩
  rw [show its.toArray.any (eqU x)=its.any (eqU x) by simp,any_eqU r fs]
  exact q
theorem call_len_seq:CallR X (.builtin "len") (fun xs H Q=>∃ p ys,xs=[.ref p]∧(SqL X.K H p ys∨SqT X.K H p ys)∧Q (.int ys.length) H):=by
 intro pins s σ H xs us Q I r h
 obtain ⟨p,ys,rfl,hq,q⟩:=h
 obtain ⟨u,rfl,rx⟩:=vals1 r
 cases rx
 have hn:=line63
 rcases hq with hq | hq
 ·obtain ⟨its,r',pl,hz⟩:=I.list hq
  have hlen:=r'.length
  exact Calls.call_len_list pl.isList (by simp only [List.size_toArray] <;> omega) ⟨.int ys.length,H,I.tok _,⟨s.toks + 1,by rw [List.size_toArray,hlen]⟩,q⟩
 ·obtain ⟨its,r',pl,hz⟩:=I.tuple hq
  have hlen:=r'.length
  exact len_tuple pl (by simp only [List.size_toArray] <;> omega) ⟨.int ys.length,H,I.tok _,⟨s.toks + 1,by rw [List.size_toArray,hlen]⟩,q⟩
theorem call_len_str:CallR X (.builtin "len") (fun xs H Q=>∃ z,xs=[.str z]∧z.length≤sizeLine∧Q (.int z.length) H):=by
 intro pins s σ H xs us Q I r h
 obtain ⟨z,rfl,hz,q⟩:=h
 obtain ⟨u,rfl,t,rfl⟩:=vals1 r
 have hn:=line63
 exact len_str (by omega) ⟨.int z.length,H,I.tok _,⟨_,rfl⟩,q⟩
theorem call_list_of:CallR X (.type "list") (fun xs H Q=>∃ p ys,xs=[.ref p]∧(SqL X.K H p ys∨SqT X.K H p ys)∧∀ l,H l=none→Q (.ref l) (upd H l (.lst ys))):=by
 intro pins s σ H xs us Q I r h
 obtain ⟨p,ys,rfl,hq,q⟩:=h
 obtain ⟨u,rfl,rx⟩:=vals1 r
 cases rx
 have fin:∀ (its:List Value),Vals ys its→ys.length≤sizeLine→∀ (h':Heap) (c':Nat),(∀ b o',s.heap.get? b=some o'→h'.get? b=some o')→
   h'.get? s.heap.objs.size=some { cls:=.type "list",dict:=none,data:=.seq its.toArray c',slots:=#[] }→EP X pins σ Q (.ref s.heap.objs.size) { s with heap:=h' }:=fun its r' hz h' c' kp e=>
  ⟨.ref s.heap.objs.size,_,I.laid (t':=s.toks) kp (Nat.le_refl _) (show ObjOk X.prog X.w _ h' _ (.lst ys) from ⟨hz,its,c',r',e⟩),rfl,q _ (I.hok.fresh (Nat.le_refl _))⟩
 rcases hq with hq | hq
 ·obtain ⟨its,r',pl,hz⟩:=I.list hq
  have hlen:=r'.length
  obtain ⟨o,ho,hc,n,hd⟩:=pl.isList
  exact call_list_seq p (.inl rfl) ho hc hd (fun h' c' kp e=>fin its r' hz h' c' kp e) (by simp only [List.size_toArray] <;> omega)
 ·obtain ⟨its,r',pl,hz⟩:=I.tuple hq
  have hlen:=r'.length
  obtain ⟨o,ho,hc,n,hd⟩:=pl
  exact call_list_seq p (.inr rfl) ho hc hd (fun h' c' kp e=>fin its r' hz h' c' kp e) (by simp only [List.size_toArray] <;> omega)
theorem call_tuple_of:CallR X (.type "tuple") (fun xs H Q=>∃ p ys,xs=[.ref p]∧((SqL X.K H p ys∧∀ l,H l=none→Q (.ref l) (upd H l (.tup ys)))∨(SqT X.K H p ys∧Q (.ref p) H))):=by
 intro pins s σ H xs us Q I r h
 obtain ⟨p,ys,rfl,h⟩:=h
 obtain ⟨u,rfl,rx⟩:=vals1 r
 cases rx
 rcases h with ⟨hq,q⟩ | ⟨hq,q⟩
 ·obtain ⟨its,r',pl,hz⟩:=I.list hq
  have hlen:=r'.length
  refine call_tuple_list pl.isList (fun h' kp=>?_) (by simp only [List.size_toArray] <;> omega)
  have I1:Inv X pins σ H { s with heap:=h' }:=I.kept (t':=s.toks) kp
  have I2:Inv X pins σ (upd H h'.objs.size (.tup ys)) { s with heap:=h'.push { cls:=.type "tuple",data:=.seq its.toArray } }:=
   I1.laid (t':=s.toks) (fun b o e=>Heap.get?_push_of_some _ e) (Nat.le_refl _) (show ObjOk X.prog X.w _ _ _ (.tup ys) from ⟨hz,its,r',⟨_,Heap.get?_push_size _ rfl,⟨rfl,_,rfl⟩,rfl⟩⟩)
  exact ⟨.ref h'.objs.size,_,I2,rfl,q _ (I1.hok.fresh (Nat.le_refl _))⟩
 ·obtain ⟨its,r',pl,hz⟩:=I.tuple hq
  exact call_tuple_same pl ⟨.ref p,H,I,rfl,q⟩
def tyV (K:PySem.W.Frag) (T:String) (x:V) (H:Hp):Prop:=match x with
 | .str _=>T="str"
 | .int _=>T="int"
 | .ref p=>(T="list"∧∃ xs,SqL K H p xs)∨(T="tuple"∧∃ o,K.lookup p=some o∧o.cls=.type "tuple"∧o.dict=none)∨
   (T="dict"∧((∃ kvs,H p=some (.dK kvs))∨∃ kvs,H p=some (.dT kvs)))∨(T="set"∧∃ S n,H p=some (.set S n))∨(T="tuple"∧∃ xs,H p=some (.tup xs))
 | _=>False
theorem tyV_is {pins:List (Addr×Obj)}{σ:St}{H:Hp}{s:Shared}{T:String}{x:V}{v:Value} (I:Inv X pins σ H s) (r:RelV x v) (ty:tyV X.K T x H):
  s.TypeIs v T∧∀ a,v=.ref a→∃ ob,s.heap.get? a=some ob∧ob.dict=none:=by
 cases x with
 | str z=>
  obtain ⟨t,rfl⟩:=r
  cases (show T="str" from ty)
  exact ⟨typeIs_str s z t,fun _ e=>nomatch e⟩
 | int i=>
  obtain ⟨t,rfl⟩:=r
  cases (show T="int" from ty)
  exact ⟨typeIs_int s i t,fun _ e=>nomatch e⟩
 | ref p=>
  cases r
  rcases ty with ⟨rfl,xs,hq⟩ | ⟨rfl,o,hk,hc,hd⟩ | ⟨rfl,hk⟩ | ⟨rfl,S,n,hk⟩ | ⟨rfl,xs,hq⟩
  ·obtain ⟨its,_,pl,_⟩:=I.list hq
   refine ⟨pl.isList.typeIs,fun a e=>?_⟩
   cases e
   obtain ⟨o,n,e,c,hd,_⟩:=pl
   exact ⟨o,e,hd⟩
  ·refine ⟨⟨o,I.kIn p o hk,hc⟩,fun a e=>?_⟩
   cases e
   exact ⟨o,I.kIn _ o hk,hd⟩
  ·have z:∃ o,s.heap.get? p=some o∧o.ExactDict:=by
    rcases hk with ⟨kvs,hk⟩ | ⟨kvs,hk⟩
    ·obtain ⟨_,_,_,_,o,_,_,e,ex,_⟩:=I.hok p _ hk
     exact ⟨o,e,ex⟩
    ·obtain ⟨_,_,_,_,o,_,_,e,ex,_⟩:=I.hok p _ hk
     exact ⟨o,e,ex⟩
   obtain ⟨o,e,ex⟩:=z
   refine ⟨⟨o,e,ex.1⟩,fun a e2=>?_⟩
   cases e2
   exact ⟨o,e,ex.2.1⟩
  ·obtain ⟨o,_,_,_,e,ex,_⟩:=I.hok p _ hk
   refine ⟨⟨o,e,ex.1⟩,fun a e2=>?_⟩
   cases e2
   exact ⟨o,e,ex.2.1⟩
  ·obtain ⟨_,_,_,o,e,⟨c,_⟩,hd⟩:=(show ObjOk X.prog X.w H s.heap p (.tup xs) from I.hok p _ hq)
   refine ⟨⟨o,e,c⟩,fun a e2=>?_⟩
   cases e2
   exact ⟨o,e,hd⟩
 | _=>exact False.elim ty
def tBM (K:PySem.W.Frag) (T:String) (r:V→List V→Hp→VK→Prop) (to:TE) (t:TA):TE:=fun σ H Q=>to σ H fun x H1=>tyV K T x H1∧t σ H1 fun xs H2=>r x xs H2 Q
variable {o e:Expr}{es:List Expr}{to:TE}{t:TA}{name:Str}{apos cpos:Pos}{T id:String}{r:V→List V→Hp→VK→Prop}
theorem pe_bm (pa:PlainAttrs T) (slot:Slot T name id) (hty:typeOf (.builtin id)=pure (.type "method_descriptor")) (hm:MtR X id r) (ho:PE X o to) (ha:PA X (e :: es) t)
  (hbase:attributeBase o name X.env (eval o X.env)=eval o X.env:=by rfl)
  (hfew:((backTo cpos (starEach (e :: es) X.env)).all (fun x=>!x.1) && (backToKw cpos (keywordEach [] X.env)).all (fun x=>x.1.isSome)
   && decide ((e :: es).length + ([]:List Keyword).length + (if ([]:List Keyword).isEmpty then 0 else 1) < 30))=true:=by rfl)
  (hline:(apos.endLine == cpos.line)=true:=by rfl) (hs:starEach (e :: es) X.env=(false,eval e X.env) :: starEach es X.env:=by rfl) (hplain:(backTo cpos (starEach es X.env)).any (·.1)=false:=by rfl):
  PE X (.Call (.Attribute o name apos) (e :: es) [] cpos) (tBM X.K T r to t):=by
 constructor
 intro pins s σ H Q I h
 refine wpAny_Call_method_late hbase hfew hline rfl (thn (ho pins s σ H _ I h) fun v s1 ⟨x,H1,I1,r1,ty,q1⟩=>?_)
 obtain ⟨h1,h2⟩:=tyV_is I1 r1 ty
 refine ⟨T,id,pa,slot,hty,h1,h2,?_⟩
 have hA:=ha cpos pins s1 σ H1 _ I1 q1
 rw [hs] at hA ⊢
 refine Calls.callWith_builtin (by show (false || (backTo cpos (starEach es X.env)).any (·.1))=false;rw [hplain] <;> rfl) (Calls.evalArgs_plain ?_)
 exact thn hA fun us s2 ⟨vs,H2,I2,r2,q2⟩=>hm pins s2 σ H2 x vs v us Q I2 r1 r2 q2
end
end L2
namespace L2
open PySem PySem.Spec PyProof.Rows
def MtM (X:Cx) (id:String) (r:V→List V→Hp→VK→Prop):Prop:=
 ∀ (pins:List (Addr×Obj)) (s:Shared) (σ:St) (H:Hp) (x:V) (xs:List V) (v:Value) (us:List Value) (Q:VK),Inv X pins σ H s→RelV x v→Vals xs us→r x xs H Q→
  wpAny (model X.prog X.w) X.A (call (.builtin id) (v :: us)) (EP X pins σ Q) X.xe s
theorem Vals.one:∀ {x:V}{us:List Value},Vals [x] us→∃ u,us=[u]∧RelV x u
 | _,_,.cons r .nil=>⟨_,rfl,r⟩
theorem Vals.eraseIdx:∀ {xs:List V}{us:List Value} (i:Nat),Vals xs us→Vals (xs.eraseIdx i) (us.eraseIdx i)
 | _,_,_,.nil=>.nil
 | _,_,0,.cons _ t=>t
 | _,_,i + 1,.cons r t=>.cons r (Vals.eraseIdx i t)
theorem len_erase {α:Type}:∀ (l:List α) (i:Nat),(l.eraseIdx i).length≤l.length
 | [],_=>Nat.le_refl _
 | _ :: _,0=>Nat.le_succ _
 | _ :: r,i + 1=>Nat.succ_le_succ (len_erase r i)
section
variable {X:Cx}{pins:List (Addr×Obj)}{σ:St}{H:Hp}{s:Shared}{l b:Addr}{xs ys zs:List V}
theorem Inv.lset {its its':List Value}{n:Nat}{f:Array Value→Array Value}{t':Nat} (I:Inv X pins σ H s) (hH:H l=some (.lst xs))
  (e:s.heap.get? l=some { cls:=.type "list",data:=.seq its.toArray n }) (hf:f its.toArray=its'.toArray) (hv:Vals ys its') (hz:ys.length≤sizeLine):
  Inv X pins σ (upd H l (.lst ys)) { s with heap:=s.heap.update l (Obj.mapSeq f),toks:=t' }:=by
 have q:=PySem.IsL.update e f
 rw [hf] at q
 refine I.write (x:=l) (e:=l) (by rw [hH];exact trivial) (.inl rfl) (fun b' u hb hu=>(Heap.get?_update_other s.heap (Obj.mapSeq f) (Ne.symm hb)).trans hu) ⟨_,q⟩ ?_
 exact ⟨hz,its',_,hv,q⟩
theorem Inv.lnew {its:List Value}{t':Nat} (I:Inv X pins σ H s) (hv:Vals ys its) (hz:ys.length≤sizeLine):
  Inv X pins σ (upd H s.heap.objs.size (.lst ys)) { s with heap:=s.heap.push { cls:=.type "list",data:=.seq its.toArray },toks:=t' }:=
 I.laid (fun _ _ q=>Heap.get?_push_of_some _ q) (Nat.le_refl _) ⟨hz,its,0,hv,Heap.get?_push_size _ rfl⟩
theorem Inv.fresh (I:Inv X pins σ H s):H s.heap.objs.size=none:=I.hok.fresh (Nat.le_refl _)
theorem Inv.lstM (I:Inv X pins σ H s) (hH:H l=some (.lst xs)):xs.length≤sizeLine∧∃ (its:List Value) (n:Nat),Vals xs its∧xs.length=its.length∧s.heap.get? l=some { cls:=.type "list",data:=.seq its.toArray n }:=by
 obtain ⟨z,its,n,r,e⟩:=I.hok l _ hH
 exact ⟨z,its,n,r,r.length,e⟩
theorem notLongL {n:Nat} (h:n≤sizeLine):Builtin.List.listTooLong n=false:=by
 unfold Builtin.List.listTooLong
 exact decide_eq_false (by omega)
end
section
variable {X:Cx}
def rAppend:V→List V→Hp→VK→Prop:=fun x vs H Q=>∃ l xs y,x=.ref l∧vs=[y]∧H l=some (.lst xs)∧xs.length < sizeLine∧Q .non (upd H l (.lst (xs ++ [y])))
theorem mt_append:MtM X "list.append" rAppend:=by
 intro pins s σ H x vs v us Q I rx rv h
 obtain ⟨l,xs,y,rfl,rfl,hH,hz,q⟩:=h
 cases rx
 obtain ⟨u,rfl,ru⟩:=rv.one
 obtain ⟨z,its,n,r,hl,e⟩:=I.lstM hH
 refine call_meets F.slot_list_append ⟨_,e,rfl⟩ F.entry_list_append (F.args_list_append_2 _ _) (PySem.list_append l its.toArray n u (by rw [List.size_toArray];omega)) ⟨e,?_⟩
 refine ⟨.non,_,I.lset (its':=its ++ [u]) hH e (by simp) (r.append (.cons ru .nil)) ?_,rfl,q⟩
 rw [List.length_append,List.length_singleton]
 omega
def rPopAt:V→List V→Hp→VK→Prop:=fun x vs H Q=>∃ l xs i k y,x=.ref l∧vs=[.int i]∧H l=some (.lst xs)∧-(2 ^ 63)≤i∧i < 2 ^ 63∧seqIndex? i xs.length=some k∧xs[k]?=some y∧Q y (upd H l (.lst (xs.eraseIdx k)))
theorem mt_popAt:MtM X "list.pop" rPopAt:=by
 intro pins s σ H x vs v us Q I rx rv h
 obtain ⟨l,xs,i,k,y,rfl,rfl,hH,h1,h2,hk,hy,q⟩:=h
 cases rx
 obtain ⟨u,rfl,ru⟩:=rv.one
 obtain ⟨t,rfl⟩:=ru
 obtain ⟨z,its,n,r,hl,e⟩:=I.lstM hH
 obtain ⟨w,hw,rw'⟩:=r.get hy
 refine call_meets F.slot_list_pop ⟨_,e,rfl⟩ F.entry_list_pop (F.args_list_pop_2 _ _)
  (MeetsSeq.list_pop_at l its.toArray n i t k w (fitsIndex_both h1 h2) (by rw [List.size_toArray,← hl];exact hk) (by rw [← Array.getElem?_toList];exact hw) (by rw [List.size_toArray];omega)) ⟨e,?_⟩
 refine ⟨y,_,I.lset (its':=its.eraseIdx k) hH e ?_ (r.eraseIdx k) ?_,rw',q⟩
 ·show its.toArray.eraseIdxIfInBounds k=(its.eraseIdx k).toArray
  rw [List.eraseIdxIfInBounds_toArray]
 ·have:=len_erase xs k
  omega
def rCat:R2:=fun x y H Q=>∃ l b xs zs,x=.ref l∧y=.ref b∧H l=some (.lst xs)∧H b=some (.lst zs)∧xs.length + zs.length≤sizeLine∧∀ p,H p=none→Q (.ref p) (upd H p (.lst (xs ++ zs)))
theorem op_cat:OpR X (binaryOp .Add) rCat:=by
 intro pins s σ H x y v u Q I rx ry h
 obtain ⟨l,b,xs,zs,rfl,rfl,hH,hB,hz,q⟩:=h
 cases rx
 cases ry
 obtain ⟨z,its,n,r,hl,e⟩:=I.lstM hH
 obtain ⟨z2,its2,n2,r2,hl2,e2⟩:=I.lstM hB
 refine PySem.P.add_list e e2 ?_ (by rw [List.size_toArray,List.size_toArray];omega)
 have ea:its.toArray ++ its2.toArray=(its ++ its2).toArray:=by simp
 rw [ea]
 exact ⟨.ref _,_,I.lnew (t':=s.toks) (r.append r2) (by rw [List.length_append];omega),rfl,q _ I.fresh⟩
end
section
variable {prog:Program}{w:World}{A:Around}{E:Value→Shared→Prop}{s:Shared}
end
section
variable {X:Cx}
end
end L2
namespace L2
open PySem PySem.Spec PyProof.Rows
section
variable {κ:Type} [DecidableEq κ]
def valV (kvs:List (κ×V)) (k:κ):Option V:=(kvs.find? fun kv=>decide (kv.1=k)).map (·.2)
def putK (kvs:List (κ×V)) (k:κ) (v:V):List (κ×V):=
 if (kvs.any fun kv=>decide (kv.1=k))=true then kvs.map (fun kv=>if kv.1=k then (kv.1,v) else kv) else kvs ++ [(k,v)]
def dropK (kvs:List (κ×V)) (k:κ):List (κ×V):=kvs.filter fun kv=>decide (kv.1≠k)
theorem valV_nil {k:κ}:valV ([]:List (κ×V)) k=none:=rfl
theorem valV_pos {p:κ×V}{r:List (κ×V)}{k:κ} (e:p.1=k):valV (p :: r) k=some p.2:=by simp [valV,List.find?_cons,e]
theorem valV_neg {p:κ×V}{r:List (κ×V)}{k:κ} (e:¬ p.1=k):valV (p :: r) k=valV r k:=by simp [valV,List.find?_cons,e]
theorem valV_any (k:κ):∀ kvs:List (κ×V),(kvs.any fun kv=>decide (kv.1=k))=(valV kvs k).isSome
 | []=>rfl
 | p :: r=>by
  rw [List.any_cons]
  by_cases e:p.1=k
  ·simp only [valV_pos e,decide_eq_true e,Bool.true_or,Option.isSome_some]
  ·rw [valV_neg e,decide_eq_false e,Bool.false_or];exact valV_any k r
theorem valV_map (k j:κ) (y:V):∀ kvs:List (κ×V),valV (kvs.map fun kv=>if kv.1=k then (kv.1,y) else kv) j=(valV kvs j).map fun x=>if j=k then y else x
 | []=>rfl
 | p :: r=>by
  have ih:=valV_map k j y r
  rw [List.map_cons]
  by_cases h:p.1=k
  ·rw [if_pos h]
   by_cases e:p.1=j
   ·rw [valV_pos (p:=(p.1,y)) e,valV_pos e,Option.map_some,if_pos (e.symm.trans h)]
   ·rw [valV_neg (p:=(p.1,y)) e,valV_neg e,ih]
  ·rw [if_neg h]
   by_cases e:p.1=j
   ·rw [valV_pos (p:=p) e,valV_pos e,Option.map_some,if_neg (fun z=>h (e.trans z))]
   ·rw [valV_neg (p:=p) e,valV_neg e,ih]
theorem valV_snoc (k j:κ) (y:V):∀ kvs:List (κ×V),valV kvs k=none→valV (kvs ++ [(k,y)]) j=if j=k then some y else valV kvs j
 | [],_=>by
  by_cases e:k=j
  ·rw [if_pos e.symm];exact valV_pos (p:=(k,y)) e
  ·rw [if_neg (fun z=>e z.symm)];exact valV_neg (p:=(k,y)) e
 | p :: r,hn=>by
  rw [List.cons_append]
  have hk:¬ p.1=k:=fun z=>by rw [valV_pos z] at hn;cases hn
  rw [valV_neg hk] at hn
  have ih:=valV_snoc k j y r hn
  by_cases e:p.1=j
  ·rw [valV_pos e,valV_pos e,if_neg (fun z=>hk (e.trans z))]
  ·rw [valV_neg e,valV_neg e,ih]
theorem valV_put (kvs:List (κ×V)) (k j:κ) (y:V):valV (putK kvs k y) j=if j=k then some y else valV kvs j:=by
 unfold putK
 by_cases a:(kvs.any fun kv=>decide (kv.1=k))=true
 ·rw [if_pos a,valV_map]
  rw [valV_any] at a
  by_cases e:j=k
  ·obtain ⟨x,hx⟩:=Option.isSome_iff_exists.mp a
   rw [if_pos e,e,hx,Option.map_some,if_pos rfl]
  ·rw [if_neg e]
   cases valV kvs j with
   | none=>rfl
   | some x=>rw [Option.map_some,if_neg e]
 ·rw [if_neg a]
  refine valV_snoc k j y kvs ?_
  rw [valV_any] at a
  cases q:valV kvs k with
  | none=>rfl
  | some x=>rw [q] at a;exact (a rfl).elim
theorem length_putK (kvs:List (κ×V)) (k:κ) (v:V):(putK kvs k v).length≤kvs.length + 1:=by
 unfold putK
 split
 ·rw [List.length_map];omega
 ·rw [List.length_append,List.length_cons,List.length_nil];omega
theorem putK_new {kvs:List (κ×V)}{k:κ} (v:V) (h:valV kvs k=none):putK kvs k v=kvs ++ [(k,v)]:=by
 unfold putK
 rw [valV_any,h]
 exact if_neg (by decide)
theorem RelO.isSome_eq {o:Option V}{u:Option Value} (r:RelO o u):o.isSome=u.isSome:=by
 cases o with
 | none=>cases u with
  | none=>rfl
  | some _=>exact (show False from r).elim
 | some _=>cases u with
  | none=>exact (show False from r).elim
  | some _=>rfl
theorem RelO.getD {o:Option V}{u:Option Value}{d:V}{d':Value} (r:RelO o u) (rd:RelV d d'):RelV (o.getD d) (u.getD d'):=by
 cases o with
 | none=>cases u with
  | none=>exact rd
  | some _=>exact (show False from r).elim
 | some _=>cases u with
  | none=>exact (show False from r).elim
  | some _=>exact r
theorem KV.val {kvs:List (κ×V)}{vs:List (κ×Value)} (r:KV kvs vs) (k:κ):RelO (valV kvs k) (valueAt vs k):=by
 unfold KV at r
 induction r with
 | nil=>exact True.intro
 | @cons p q ps qs h t ih=>
  obtain ⟨h1,h2⟩:=h
  by_cases e:p.1=k
  ·have e':q.1=k:=h1.symm.trans e
   have b:valueAt (q :: qs) k=some q.2:=by simp [valueAt,List.find?_cons,e']
   rw [valV_pos e,b];exact h2
  ·have e':¬ q.1=k:=fun z=>e (h1.trans z)
   have b:valueAt (q :: qs) k=valueAt qs k:=by simp [valueAt,List.find?_cons,e']
   rw [valV_neg e,b];exact ih
theorem KV.any {kvs:List (κ×V)}{vs:List (κ×Value)} (r:KV kvs vs) (k:κ):(kvs.any fun kv=>decide (kv.1=k))=vs.any fun kv=>decide (kv.1=k):=by
 unfold KV at r
 induction r with
 | nil=>rfl
 | cons h t ih=>rw [List.any_cons,List.any_cons,ih,h.1]
theorem KV.repl {kvs:List (κ×V)}{vs:List (κ×Value)} (r:KV kvs vs) (k:κ) {y:V}{u:Value} (ry:RelV y u):
  KV (kvs.map fun kv=>if kv.1=k then (kv.1,y) else kv) (vs.map fun kv=>if kv.1=k then (kv.1,u) else kv):=by
 unfold KV at r ⊢
 induction r with
 | nil=>exact .nil
 | @cons p q ps qs h t ih=>
  rw [List.map_cons,List.map_cons]
  refine .cons ?_ ih
  obtain ⟨h1,h2⟩:=h
  by_cases e:p.1=k
  ·rw [if_pos e,if_pos (h1.symm.trans e)];exact ⟨h1,ry⟩
  ·rw [if_neg e,if_neg (fun z=>e (h1.trans z))];exact ⟨h1,h2⟩
theorem KV.put {kvs:List (κ×V)}{vs:List (κ×Value)} (r:KV kvs vs) (k:κ) {y:V}{u:Value} (ry:RelV y u):KV (putK kvs k y) (stored vs k u):=by
 unfold putK stored
 rw [r.any k]
 by_cases e:(vs.any fun kv=>decide (kv.1=k))=true
 ·rw [if_pos e,if_pos e];exact r.repl k ry
 ·rw [if_neg e,if_neg e];exact Paired.snoc r ⟨rfl,ry⟩
theorem KV.drop {kvs:List (κ×V)}{vs:List (κ×Value)} (r:KV kvs vs) (k:κ):KV (dropK kvs k) (without vs k):=by
 unfold KV at r ⊢
 unfold dropK without
 induction r with
 | nil=>exact .nil
 | @cons p q ps qs h t ih=>
  obtain ⟨h1,h2⟩:=h
  rw [List.filter_cons,List.filter_cons]
  by_cases e:p.1=k
  ·have a:¬ decide (p.1≠k)=true:=by simp [e]
   have b:¬ decide (q.1≠k)=true:=by simp [h1.symm.trans e]
   rw [if_neg a,if_neg b];exact ih
  ·have e':¬ q.1=k:=fun z=>e (h1.trans z)
   have a:decide (p.1≠k)=true:=by simp [e]
   have b:decide (q.1≠k)=true:=by simp [e']
   rw [if_pos a,if_pos b];exact .cons ⟨h1,h2⟩ ih
theorem KV.length {kvs:List (κ×V)}{vs:List (κ×Value)} (r:KV kvs vs):kvs.length=vs.length:=Paired.length r
theorem dropK_le (kvs:List (κ×V)) (k:κ):(dropK kvs k).length≤kvs.length:=List.length_filter_le _ _
end
theorem kV_is {P:Program}{w:World}{k:Key}{u:Value} (r:RelV (kV k) u):(mixKind P w).is k u=true:=by
 cases k with
 | inl i=>obtain ⟨t,e⟩:=(show ∃ t,u=Value.int i t from r);subst e;exact mixKind_int P w i t
 | inr x=>obtain ⟨t,e⟩:=(show ∃ t,u=Value.str x t from r);subst e;exact mixKind_str P w x t
theorem items_are {P:Program}{w:World}:∀ {ks:List Key}{us:List Value},Vals (ks.map kV) us→ItemsAre (mixKind P w) ks us
 | [],_,r=>by rw [List.map_nil] at r;cases r;exact .nil
 | k :: ks,_,r=>by
  rw [List.map_cons] at r
  cases r with
  | cons h t=>exact .cons (kV_is h) (items_are t)
abbrev KT (H:Hp):List (List Key×V)→List (List Key×Addr×Value)→Prop:=Paired fun p q=>p.1=q.1∧H q.2.1=some (.tup (p.1.map kV))∧RelV p.2 q.2.2
theorem KT.val {H:Hp}{kvs:List (List Key×V)}{xs:List (List Key×Addr×Value)} (r:KT H kvs xs) (k:List Key):RelO (valV kvs k) ((atKey xs k).map (·.2)):=by
 induction r with
 | nil=>exact True.intro
 | @cons p q ps qs h t ih=>
  obtain ⟨h1,_,h2⟩:=h
  by_cases e:p.1=k
  ·have e':q.1=k:=h1.symm.trans e
   have b:atKey (q :: qs) k=some q.2:=by simp [atKey,List.find?_cons,e']
   rw [valV_pos e,b];exact h2
  ·have e':¬ q.1=k:=fun z=>e (h1.trans z)
   have b:atKey (q :: qs) k=atKey qs k:=by simp [atKey,List.find?_cons,e']
   rw [valV_neg e,b];exact ih
theorem KT.repl {H:Hp}{kvs:List (List Key×V)}{xs:List (List Key×Addr×Value)} (r:KT H kvs xs) (k:List Key) {y:V}{u:Value} (ry:RelV y u):
  KT H (kvs.map fun kv=>if kv.1=k then (kv.1,y) else kv) (xs.map (putAt k u)):=by
 induction r with
 | nil=>exact .nil
 | @cons p q ps qs h t ih=>
  rw [List.map_cons,List.map_cons]
  refine .cons ?_ ih
  obtain ⟨h1,h2,h3⟩:=h
  unfold putAt
  by_cases e:p.1=k
  ·rw [if_pos e,if_pos (h1.symm.trans e)];exact ⟨h1,h2,ry⟩
  ·rw [if_neg e,if_neg (fun z=>e (h1.trans z))];exact ⟨h1,h2,h3⟩
theorem KT.put {H:Hp}{kvs:List (List Key×V)}{xs:List (List Key×Addr×Value)} (r:KT H kvs xs) (k:List Key) {b:Addr}{y:V}{u:Value} (hb:H b=some (.tup (k.map kV))) (ry:RelV y u):
  KT H (putK kvs k y) (storedH xs k b u):=by
 have e:(kvs.any fun kv=>decide (kv.1=k))=(atKey xs k).isSome:=by
  rw [valV_any,(r.val k).isSome_eq,Option.isSome_map]
 unfold putK storedH
 rw [e]
 by_cases q:(atKey xs k).isSome=true
 ·rw [if_pos q,if_pos q];exact r.repl k ry
 ·rw [if_neg q,if_neg q];exact Paired.snoc r ⟨rfl,hb,ry⟩
theorem KT.keeps {H H':Hp}{kvs:List (List Key×V)}{xs:List (List Key×Addr×Value)} (r:KT H kvs xs) (ht:∀ b ys,H b=some (.tup ys)→H' b=some (.tup ys)):KT H' kvs xs:=
 Paired.mapP r fun _ _ z=>⟨z.1,ht _ _ z.2.1,z.2.2⟩
section
variable {P:Program}{w:World}{H:Hp}{h:Heap}{a:Addr}
theorem rd_of {u:HO} (ok:HOk P w H h) (e:Rd H a u):ObjOk P w H h a u:=e.ok ok
theorem dk_rd {kvs:List (Key×V)} (ok:HOk P w H h) (e:Rd H a (.dK kvs)):kvs.length≤sizeLine∧(a == sysModules)=false∧∃ vs,KV kvs vs∧h.DictOf (mixKind P w) a vs:=
 show ObjOk P w H h a (.dK kvs) from rd_of ok e
theorem dk_of {kvs:List (Key×V)} (ok:HOk P w H h) (e:H a=some (.dK kvs)):kvs.length≤sizeLine∧(a == sysModules)=false∧∃ vs,KV kvs vs∧h.DictOf (mixKind P w) a vs:=dk_rd ok (.inl e)
theorem key_of {ks:List Key} (ok:HOk P w H h) (e:H a=some (.tup (ks.map kV))):(tupleKind (mixKind P w)).is h ks a:=by
 obtain ⟨_,its,r,o,h1,⟨h2,n,h3⟩,_⟩:=(show ObjOk P w H h a (.tup (ks.map kV)) from ok a _ e)
 exact ⟨o,its.toArray,n,h1,h2,h3,by simpa using items_are r⟩
theorem dt_rd {kvs:List (List Key×V)} (ok:HOk P w H h) (e:Rd H a (.dT kvs)):kvs.length≤sizeLine∧(a == sysModules)=false∧
  ∃ xs,KT H kvs xs∧h.DictOfH (tupleKind (mixKind P w)) a xs:=by
 obtain ⟨z,y,xs,r,o,es,ep,h1,h2,h3,h4,h5⟩:=(show ObjOk P w H h a (.dT kvs) from rd_of ok e)
 refine ⟨z,y,xs,r,o,es,ep,h1,h2,h3,h4,fun x hx=>?_,h5⟩
 have all:∀ {l:List (List Key×V)} {m:List (List Key×Addr×Value)},KT H l m→∀ x∈m,(tupleKind (mixKind P w)).is h x.1 x.2.1:=by
  intro l m q
  induction q with
  | nil=>intro x hx;exact nomatch hx
  | @cons p q ps qs hq t ih=>
   intro x hx
   rcases List.mem_cons.mp hx with e | hx
   ·subst e
    exact key_of ok (by rw [← hq.1];exact hq.2.1)
   ·exact ih x hx
 exact all r x hx
theorem dt_of {kvs:List (List Key×V)} (ok:HOk P w H h) (e:H a=some (.dT kvs)):kvs.length≤sizeLine∧(a == sysModules)=false∧
  ∃ xs,KT H kvs xs∧h.DictOfH (tupleKind (mixKind P w)) a xs:=dt_rd ok (.inl e)
end
def DGet (H:Hp) (a:Addr) (y:V) (r:Option V):Prop:=
 (∃ kvs k,Rd H a (.dK kvs)∧y=kV k∧r=valV kvs k)∨∃ kvs k b,Rd H a (.dT kvs)∧y=.ref b∧H b=some (.tup (k.map kV))∧r=valV kvs k
def DPut (H:Hp) (a:Addr) (y v:V) (H':Hp):Prop:=
 (∃ kvs k,H a=some (.dK kvs)∧y=kV k∧kvs.length < sizeLine∧H'=upd H a (.dK (putK kvs k v)))∨
 ∃ kvs k b,H a=some (.dT kvs)∧y=.ref b∧H b=some (.tup (k.map kV))∧kvs.length < sizeLine∧H'=upd H a (.dT (putK kvs k v))
theorem DGet.k {H:Hp}{a:Addr}{kvs:List (Key×V)}{k:Key} (e:H a=some (.dK kvs)):DGet H a (kV k) (valV kvs k):=.inl ⟨kvs,k,.inl e,rfl,rfl⟩
theorem DPut.k {H:Hp}{a:Addr}{kvs:List (Key×V)}{k:Key}{v:V} (e:H a=some (.dK kvs)) (hl:kvs.length < sizeLine):DPut H a (kV k) v (upd H a (.dK (putK kvs k v))):=.inl ⟨kvs,k,e,rfl,hl,rfl⟩
section
variable {X:Cx}{pins:List (Addr×Obj)}{σ:St}{H:Hp}{s:Shared}{a:Addr}{y v:V}{u r:Value}{o:Option V}{A:Around}{E:Value→Shared→Prop}
theorem Inv.big (I:Inv X pins σ H s):sysModules < s.heap.objs.size:=by
 have h:mainGlobals < s.heap.objs.size:=(I.mod.glob.keeps I.bk).lt
 exact Nat.lt_trans (by decide) h
theorem d_getItem {Q:Value→Shared→Prop} (hu:A.units + 1 < cLine) (I:Inv X pins σ H s) (g:DGet H a y (some v)) (ry:RelV y u) (h:∀ w' s',Inv X pins σ H s'→RelV v w'→Q w' s'):
  wpAny (model X.prog X.w) A (getItem (.ref a) u) Q E s:=by
 rcases g with ⟨kvs,k,e,ey,l⟩ | ⟨kvs,k,b,e,ey,eb,l⟩
 ·subst ey
  obtain ⟨z,hd,vs,rel,dd⟩:=dk_rd I.hok e
  obtain ⟨w',hw,rw'⟩:=RelO.some_of (v:=v) (o:=valueAt vs k) (by rw [l];exact rel.val k)
  exact wpAny_getItem_of (kV_is ry) dd.mapOf hw (h w' _ (I.tok _) rw')
 ·subst ey
  cases (show u=Value.ref b from ry)
  obtain ⟨z,hd,xs,rel,dd⟩:=dt_rd I.hok e
  obtain ⟨w',hw,rw'⟩:=RelO.some_of (v:=v) (o:=(atKey xs k).map (·.2)) (by rw [l];exact rel.val k)
  obtain ⟨p,hp,hp2⟩:=Option.map_eq_some_iff.mp hw
  refine wpAny_getItem_heap (tupleKind_room_in1 hu) (key_of I.hok eb) dd hp ?_
  rw [hp2]
  exact h w' _ (I.tok _) rw'
theorem d_in {Q:Value→Shared→Prop} (hu:A.units + 1 < cLine) (I:Inv X pins σ H s) (g:DGet H a y o) (ry:RelV y u) (h:∀ s',Inv X pins σ H s'→Q (.bool o.isSome) s'):
  wpAny (model X.prog X.w) A (compareOp .In u (.ref a)) Q E s:=by
 rcases g with ⟨kvs,k,e,ey,l⟩ | ⟨kvs,k,b,e,ey,eb,l⟩
 ·subst ey
  obtain ⟨z,hd,vs,rel,dd⟩:=dk_rd I.hok e
  refine wpAny_in_of (kV_is ry) hd dd.mapOf ?_
  rw [← (rel.val k).isSome_eq,← l]
  exact h _ (I.tok _)
 ·subst ey
  cases (show u=Value.ref b from ry)
  obtain ⟨z,hd,xs,rel,dd⟩:=dt_rd I.hok e
  refine wpAny_in_heap (tupleKind_room_in1 hu) (key_of I.hok eb) hd dd ?_
  have q:=(rel.val k).isSome_eq
  rw [Option.isSome_map] at q
  rw [← q,← l]
  exact h _ (I.tok _)
theorem d_notIn {Q:Value→Shared→Prop} (hu:A.units + 1 < cLine) (I:Inv X pins σ H s) (g:DGet H a y o) (ry:RelV y u) (h:∀ s',Inv X pins σ H s'→Q (.bool (!o.isSome)) s'):
  wpAny (model X.prog X.w) A (compareOp .NotIn u (.ref a)) Q E s:=by
 rcases g with ⟨kvs,k,e,ey,l⟩ | ⟨kvs,k,b,e,ey,eb,l⟩
 ·subst ey
  obtain ⟨z,hd,vs,rel,dd⟩:=dk_rd I.hok e
  refine wpAny_notIn_of (kV_is ry) hd dd.mapOf ?_
  rw [← (rel.val k).isSome_eq,← l]
  exact h _ (I.tok _)
 ·subst ey
  cases (show u=Value.ref b from ry)
  obtain ⟨z,hd,xs,rel,dd⟩:=dt_rd I.hok e
  refine wpAny_notIn_heap (tupleKind_room_in1 hu) (key_of I.hok eb) hd dd ?_
  have q:=(rel.val k).isSome_eq
  rw [Option.isSome_map] at q
  rw [← q,← l]
  exact h _ (I.tok _)
theorem d_write {h':Heap}{t':Nat}{ob:HO} (I:Inv X pins σ H s) (mu:Mut (H a)) (hs:Heap.SameBut a s.heap h') (he:∃ q,h'.get? a=some q) (new:ObjOk X.prog X.w (upd H a ob) h' a ob):
  Inv X pins σ (upd H a ob) { s with heap:=h',toks:=t' }:=
 I.write (x:=a) (e:=a) mu (.inl rfl) (fun b q hb z=>(hs.2 b hb).trans z) he new
theorem dk_new {P:Program}{w:World}{H':Hp}{h':Heap}{kvs:List (Key×V)}{vs:List (Key×Value)} (z:kvs.length≤sizeLine) (hd:(a == sysModules)=false) (rel:KV kvs vs) (dd:h'.DictOf (mixKind P w) a vs):
  ObjOk P w H' h' a (.dK kvs):=⟨z,hd,vs,rel,dd⟩
theorem d_setItem {H':Hp}{Q:Unit→Shared→Prop} (hu:A.units + 1 < cLine) (I:Inv X pins σ H s) (g:DPut H a y v H') (ry:RelV y u) (rv:RelV v r) (h:∀ s',Inv X pins σ H' s'→Q () s'):
  wpAny (model X.prog X.w) A (setItem (.ref a) u r) Q E s:=by
 rcases g with ⟨kvs,k,e,ey,l,eH⟩ | ⟨kvs,k,b,e,ey,eb,l,eH⟩
 ·subst ey eH
  obtain ⟨z,hd,vs,rel,dd⟩:=dk_of I.hok e
  have hz:vs.length≤sizeLine:=by rw [← rel.length];exact z
  have hl:(putK kvs k v).length≤sizeLine:=by have:=length_putK kvs k v;omega
  refine wpAny_setItem_pairs (hsz:=hz) (kV_is ry) dd fun h' dd' hs=>h _ ?_
  have he:∃ q,h'.get? a=some q:=let ⟨q,_,_,hq,_⟩:=dd';⟨q,hq⟩
  exact d_write I (by rw [e];exact True.intro) hs he (dk_new hl hd (rel.put k rv) dd')
 ·subst ey eH
  cases (show u=Value.ref b from ry)
  obtain ⟨z,hd,xs,rel,dd⟩:=dt_of I.hok e
  have hz:xs.length≤sizeLine:=by rw [← Paired.length rel];exact z
  have hl:(putK kvs k v).length≤sizeLine:=by have:=length_putK kvs k v;omega
  refine wpAny_setItem_heap (hsz:=hz) (tupleKind_room_in1 hu) (key_of I.hok eb) dd fun h' dd' hs=>h _ ?_
  obtain ⟨q,es,ep,hq,h2,h3,h4,_,h5⟩:=dd'
  refine d_write I (by rw [e];exact True.intro) hs ⟨q,hq⟩ ⟨hl,hd,_,(rel.put k eb rv).keeps fun c ys ec=>?_,q,es,ep,hq,h2,h3,h4,h5⟩
  rw [upd_ne (ne_of ec e (fun z=>nomatch z))]
  exact ec
end
section
variable {X:Cx}{pins:List (Addr×Obj)}{σ:St}{H:Hp}{s:Shared}{a:Addr}{kvs:List (Key×V)}{k:Key}{u:Value}{A:Around}{E:Value→Shared→Prop}
theorem d_pop {v:V}{more:List Value}{Q:Value→Shared→Prop} (I:Inv X pins σ H s) (e:H a=some (.dK kvs)) (ry:RelV (kV k) u) (l:valV kvs k=some v) (hm:more=[]∨∃ x,more=[x])
  (h:∀ w' s',Inv X pins σ (upd H a (.dK (dropK kvs k))) s'→RelV v w'→Q w' s'):wpAny (model X.prog X.w) A (call (.builtin "dict.pop") (.ref a :: u :: more)) Q E s:=by
 obtain ⟨z,hd,vs,rel,dd⟩:=dk_of I.hok e
 obtain ⟨w',hw,rw'⟩:=RelO.some_of (v:=v) (o:=valueAt vs k) (by rw [← l];exact rel.val k)
 have hp:(keyPart u).isSome=true:=by
  cases k with
  | inl i=>obtain ⟨t,q⟩:=(show ∃ t,u=Value.int i t from ry);subst q;rfl
  | inr x=>obtain ⟨t,q⟩:=(show ∃ t,u=Value.str x t from ry);subst q;rfl
 have ha:argsOk "dict.pop" ⟨.ref a :: u :: more,[]⟩:=by
  rcases hm with q | ⟨x,q⟩
  ·subst q;exact PySem.F.args_dict_pop_2 _ _
  ·subst q;exact PySem.F.args_dict_pop_3 _ _ _
 refine call_meetsIn PySem.F.slot_dict_pop dd.typeIs PySem.F.entry_dict_pop ha (meets_dict_pop_there (mixKind X.prog X.w) a (kV_is ry) more hm hp)
  ⟨vs,w',dd,by rw [← rel.length];exact z,hw,fun h' dd' hs=>h w' _ ?_ rw'⟩
 have he:∃ q,h'.get? a=some q:=let ⟨q,_,_,hq,_⟩:=dd';⟨q,hq⟩
 exact d_write I (by rw [e];exact True.intro) hs he (dk_new (Nat.le_trans (dropK_le kvs k) z) hd (rel.drop k) dd')
theorem d_len {Q:Value→Shared→Prop} (I:Inv X pins σ H s) (e:Rd H a (.dK kvs)) (h:∀ t s',Inv X pins σ H s'→Q (.int kvs.length t) s'):wpAny (model X.prog X.w) A (call (.builtin "len") [.ref a]) Q E s:=by
 obtain ⟨z,hd,vs,rel,dd⟩:=dk_rd I.hok e
 refine call_len_dict hd dd (by rw [← rel.length];rw [sizeLine_eq] at z;omega) ?_
 rw [← rel.length]
 exact h _ _ (I.tok _)
end
def NoSl (i:Expr):Prop:=∀ ov iv,subscripted i false ov iv=operate [ov,iv] (getItem ov iv)
theorem subD_of {prog:Program}{w:World}{A:Around}{E:Value→Shared→Prop}{s:Shared}{env:Env}{value slice:Expr}{pos:Pos}{T id:String}{Q:Value→Shared→Prop}
  (hl:typeLookup (.type T) "__getitem__"=pure (some (.builtin id))) (hs:NoSl slice)
  (h:wpAny (model prog w) A (eval value env) (fun o s₁=>wpAny (model prog w) A (eval slice env) (fun i s₂=>s₂.TypeIs o T∧wpAny (model prog w) A (getItem o i) Q E s₂) E s₁) E s):
  wpAny (model prog w) A (eval (.Subscript value slice pos) env) Q E s:=by
 refine Subscript_ (wpAny_mono h (fun o s₁ h₁=>wpAny_mono h₁ (fun i s₂ h₂=>?_) fun _ _ x=>x) fun _ _ x=>x)
 obtain ⟨hT,h₂⟩:=h₂
 unfold subscriptTail
 refine wpAny_bind ?_
 rw [getitemInPython_of_ne hT.not_modules]
 refine wpAny_bind (wpAny_specialOf hT hl ?_)
 have fin:wpAny (model prog w) A (subscripted slice false o i) (fun r s₃=>wpAny (model prog w) A (letTemporaryGo value o r >>= fun _=>pure r) Q E s₃) E s₂:=by
  rw [hs o i]
  exact wpAny_operating (wpAny_mono h₂ (fun r s₃ h₃=>wpAny_bind (wpAny_letTemporaryGo (wpAny_pure h₃))) fun _ _ x=>x)
 first
  | exact wpAny_pure (wpAny_bind fin)
  | exact wpAny_bind (wpAny_pure (wpAny_bind fin))
  | exact wpAny_bind fin
theorem dict_typeIs {X:Cx}{pins:List (Addr×Obj)}{σ:St}{H:Hp}{s:Shared}{a:Addr}{y:V}{o:Option V} (I:Inv X pins σ H s) (g:DGet H a y o):s.TypeIs (.ref a) "dict":=by
 rcases g with ⟨kvs,k,e,_,_⟩ | ⟨kvs,k,b,e,_,_,_⟩
 ·obtain ⟨_,_,vs,_,dd⟩:=dk_rd I.hok e
  exact dd.typeIs
 ·obtain ⟨_,_,xs,_,dd⟩:=dt_rd I.hok e
  exact dd.typeIs
def tDGet (td ty:TE):TE:=fun σ H Q=>td σ H fun x H1=>ty σ H1 fun y H2=>∃ a v,x=.ref a∧DGet H2 a y (some v)∧Q v H2
def tDIn (ty td:TE):TE:=fun σ H Q=>ty σ H fun y H1=>td σ H1 fun x H2=>∃ a o,x=.ref a∧DGet H2 a y o∧Q (.bl o.isSome) H2
def tDNotIn (ty td:TE):TE:=fun σ H Q=>ty σ H fun y H1=>td σ H1 fun x H2=>∃ a o,x=.ref a∧DGet H2 a y o∧Q (.bl (!o.isSome)) H2
def sDPut (td ty tv:TE):TS:=fun D σ H=>tv σ H fun v H1=>td σ H1 fun x H2=>ty σ H2 fun y H3=>∃ a H4,x=.ref a∧DPut H3 a y v H4∧D.nx σ H4
section
variable {X:Cx}{o i e value:Expr}{pos pos' tpos:Pos}{td ty tv:TE}
theorem pe_dget (hu:X.A.units + 1 < cLine) (ho:PE X o td) (hi:PE X i ty) (hs:NoSl i):PE X (.Subscript o i pos) (tDGet td ty):=by
 constructor
 intro pins s σ H Q I h
 refine subD_of PySem.F.slot_dict_getitem.lookup hs (thn (ho pins s σ H _ I h) fun u s1 ⟨x,H1,I1,rx,q1⟩=>thn (hi pins s1 σ H1 _ I1 q1) fun iv s2 ⟨y,H2,I2,ry,a,v,ex,g,q2⟩=>?_)
 subst ex
 obtain rfl:u=Value.ref a:=rx
 exact ⟨dict_typeIs I2 g,d_getItem hu I2 g ry fun w' s3 I3 rw'=>⟨v,H2,I3,rw',q2⟩⟩
theorem pc_din (hu:X.A.units + 1 < cLine) (hi:PE X i ty) (ho:PE X o td):PC X .In i o (tDIn ty td):=by
 constructor
 intro pins s σ H Q I h
 refine thn (hi pins s σ H _ I h) fun iv s1 ⟨y,H1,I1,ry,q1⟩=>thn (ho pins s1 σ H1 _ I1 q1) fun u s2 ⟨x,H2,I2,rx,a,ov,ex,g,q2⟩=>?_
 subst ex
 obtain rfl:u=Value.ref a:=rx
 exact d_in hu I2 g ry fun s3 I3=>⟨.bl ov.isSome,H2,I3,rfl,q2⟩
theorem pc_dnotin (hu:X.A.units + 1 < cLine) (hi:PE X i ty) (ho:PE X o td):PC X .NotIn i o (tDNotIn ty td):=by
 constructor
 intro pins s σ H Q I h
 refine thn (hi pins s σ H _ I h) fun iv s1 ⟨y,H1,I1,ry,q1⟩=>thn (ho pins s1 σ H1 _ I1 q1) fun u s2 ⟨x,H2,I2,rx,a,ov,ex,g,q2⟩=>?_
 subst ex
 obtain rfl:u=Value.ref a:=rx
 exact d_notIn hu I2 g ry fun s3 I3=>⟨.bl (!ov.isSome),H2,I3,rfl,q2⟩
theorem ps_dput (hu:X.A.units + 1 < cLine) (ho:PE X o td) (hi:PE X i ty) (hv:PE X value tv) (hs:swapsWith value (some (.Subscript o i pos')) pos.line X.env=pure false):
  PS X (.Assign [.Subscript o i pos'] value pos) (sDPut td ty tv):=by
 constructor
 intro pins s σ H D I h
 refine wpAny_Assign_Subscript (thn (hv pins s σ H _ I h) fun r s1 ⟨v,H1,I1,rv,q1⟩=>thn (ho pins s1 σ H1 _ I1 q1) fun u s2 ⟨x,H2,I2,rx,q2⟩=>thn (hi pins s2 σ H2 _ I2 q2) fun iv s3 ⟨y,H3,I3,ry,a,H4,ex,g,q3⟩=>?_) hs
 subst ex
 obtain rfl:u=Value.ref a:=rx
 exact d_setItem hu I3 g ry rv fun s4 I4=>⟨σ,H4,I4,q3⟩
end
theorem dk_empty {P:Program}{w:World}{H:Hp} (h:Heap) (hb:sysModules < h.objs.size):ObjOk P w H (h.push { cls:=.type "dict",data:=.dict #[] }) h.objs.size (.dK []):=
 ⟨Nat.zero_le _,beq_eq_false_iff_ne.mpr (Ne.symm (Nat.ne_of_lt hb)),[],.nil,Heap.DictOf.new h⟩
def tDNewK:TE:=fun _ H Q=>∀ p,H p=none→Q (.ref p) (upd H p (.dK []))
section
variable {X:Cx}{pos:Pos}
theorem pe_dnewK:PE X (.Dict [] [] pos) tDNewK:=⟨fun pins s σ H Q I h=>
 wpAny_Dict_empty ⟨.ref s.heap.objs.size,_,I.laid (a:=s.heap.objs.size) (o:=.dK []) (t':=s.toks) (fun _ _ q=>Heap.get?_push_of_some _ q) (Nat.le_refl _) (dk_empty s.heap I.big),rfl,h _ (I.hok.fresh (Nat.le_refl _))⟩⟩
end
def tPairs:List (TE×TE)→St→Hp→(List (V×V)→Hp→Prop)→Prop
 | [],_,H,Q=>Q [] H
 | (tk,tv) :: r,σ,H,Q=>tk σ H fun x H1=>tv σ H1 fun y H2=>tPairs r σ H2 fun ps H3=>Q ((x,y) :: ps) H3
abbrev VV:List (V×V)→List (Value×Value)→Prop:=Paired fun p q=>RelV p.1 q.1∧RelV p.2 q.2
def PPs (X:Cx) (pos:Pos) (keys:List (Option Expr)) (values:List Expr) (trs:List (TE×TE)):Prop:=
 ∀ (pins:List (Addr×Obj)) (s:Shared) (σ:St) (H:Hp) (Q:List (V×V)→Hp→Prop),Inv X pins σ H s→tPairs trs σ H Q→
  wpAny (model X.prog X.w) X.A (evalPairs (pairTrees keys values X.env pos)) (fun vs s'=>∃ ps H',Inv X pins σ H' s'∧VV ps vs∧Q ps H') X.xe s
theorem pps_nil {X:Cx}{pos:Pos}:PPs X pos [] [] []:=fun pins s σ H Q I h=>pairTrees_nil_walk ⟨[],H,I,.nil,h⟩
theorem pps_cons {X:Cx}{pos:Pos}{k v:Expr}{ks:List (Option Expr)}{vs:List Expr}{tk tv:TE}{trs:List (TE×TE)} (hk:PE X k tk) (hv:PE X v tv) (hr:PPs X pos ks vs trs):
  PPs X pos (some k :: ks) (v :: vs) ((tk,tv) :: trs):=fun pins s σ H Q I h=>
 pairTrees_cons_walk (thn (hk pins s σ H _ I h) fun u s1 ⟨x,H1,I1,rx,q1⟩=>thn (hv pins s1 σ H1 _ I1 q1) fun w2 s2 ⟨y,H2,I2,ry,q2⟩=>
  thn (hr pins s2 σ H2 _ I2 q2) fun ws s3 ⟨ps,H3,I3,rel,q3⟩=>⟨(x,y) :: ps,H3,I3,.cons ⟨rx,ry⟩ rel,q3⟩)
def mergeK (kvs more:List (Key×V)):List (Key×V):=more.foldl (fun acc kv=>putK acc kv.1 kv.2) kvs
theorem KV.merge:∀ {more:List (Key×V)}{rs:List (Key×Value)}{kvs:List (Key×V)}{vs:List (Key×Value)},KV more rs→KV kvs vs→KV (mergeK kvs more) (merged vs rs):=by
 intro more rs kvs vs r
 unfold KV at r
 induction r generalizing kvs vs with
 | nil=>intro q;exact q
 | @cons p q ps qs h t ih=>
  intro r0
  have e:KV (putK kvs p.1 p.2) (stored vs q.1 q.2):=by
   have:=r0.put p.1 h.2
   rw [← h.1];exact this
  exact ih e
theorem length_mergeK:∀ (more kvs:List (Key×V)),(mergeK kvs more).length≤kvs.length + more.length
 | [],kvs=>by show kvs.length≤kvs.length + 0;omega
 | p :: r,kvs=>by
  have h1:=length_mergeK r (putK kvs p.1 p.2)
  have h2:=length_putK kvs p.1 p.2
  show (mergeK (putK kvs p.1 p.2) r).length≤_
  rw [List.length_cons];omega
theorem carries_of {P:Program}{w:World}:∀ {kvs:List (Key×V)}{ws:List (Value×Value)},VV (kvs.map fun kv=>(kV kv.1,kv.2)) ws→∃ rs,Carries (mixKind P w) ws rs∧KV kvs rs
 | [],_,r=>by rw [List.map_nil] at r;cases r;exact ⟨[],True.intro,.nil⟩
 | p :: kvs,_,r=>by
  rw [List.map_cons] at r
  cases r with
  | @cons a b as bs h t=>
   obtain ⟨rs,c,q⟩:=carries_of (P:=P) (w:=w) t
   obtain ⟨b1,b2⟩:=b
   exact ⟨(p.1,b2) :: rs,⟨kV_is h.1,rfl,c⟩,.cons ⟨rfl,h.2⟩ q⟩
def tDisp (trs:List (TE×TE)):TE:=fun σ H Q=>∀ p,H p=none→tPairs trs σ (upd H p (.dK [])) fun ps H2=>H2 p=some (.dK [])∧∃ kvs:List (Key×V),ps=kvs.map (fun kv=>(kV kv.1,kv.2))∧kvs.length≤15∧Q (.ref p) (upd H2 p (.dK (mergeK [] kvs)))
theorem pe_disp {X:Cx}{pos:Pos}{keys:List (Option Expr)}{values:List Expr}{trs:List (TE×TE)} (h:PPs X pos keys values trs) (hall:keys.all (·.isSome)=true) (hl:keys.length=values.length) (h0:keys≠[])
  (h15:keys.length≤15):PE X (.Dict keys values pos) (tDisp trs):=by
 constructor
 intro pins s σ H Q I q
 have hn:=I.hok.fresh (Nat.le_refl s.heap.objs.size)
 have I1:=I.laid (a:=s.heap.objs.size) (o:=.dK []) (h':=s.heap.push { cls:=.type "dict",data:=.dict #[] }) (t':=s.toks) (fun _ _ q=>Heap.get?_push_of_some _ q) (Nat.le_refl _) (dk_empty s.heap I.big)
 refine wpAny_Dict_walk (knd:=mixKind X.prog X.w) hall hl h0 h15 (thn (h pins _ σ _ _ I1 (q _ hn)) fun ws s2 ⟨ps,H2,I2,rel,e,kvs,ep,lk,q2⟩=>?_)
 subst ep
 obtain ⟨rs,c,rk⟩:=carries_of (P:=X.prog) (w:=X.w) rel
 obtain ⟨z,hd,vs0,r0,dd⟩:=dk_of I2.hok e
 cases r0
 refine ⟨rs,c,dd,fun h' dd' hs=>⟨.ref s.heap.objs.size,_,?_,rfl,q2⟩⟩
 have hz:(mergeK [] kvs).length≤sizeLine:=by
  have h1:=length_mergeK kvs []
  rw [List.length_nil] at h1
  rw [sizeLine_eq];omega
 have he:∃ q,h'.get? s.heap.objs.size=some q:=let ⟨q,_,_,hq,_⟩:=dd';⟨q,hq⟩
 exact d_write I2 (by rw [e];exact True.intro) hs he (dk_new hz hd (rk.merge .nil) dd')
structure M1 (X:Cx) (o:Expr) (m:Str) (apos:Pos) (e:Expr) (cpos:Pos):Prop where
 base:attributeBase o m X.env (eval o X.env)=eval o X.env
 few:((backTo cpos (starEach [e] X.env)).all (fun x=>!x.1) && (backToKw cpos (keywordEach [] X.env)).all (fun x=>x.1.isSome)
  && decide (([e]:List Expr).length + ([]:List Keyword).length + (if ([]:List Keyword).isEmpty then 0 else 1) < 30))=true
 line:(apos.endLine == cpos.line)=true
 trees:backTo cpos (starEach [e] X.env)=[(false,eval e X.env)]
structure M2 (X:Cx) (o:Expr) (m:Str) (apos:Pos) (e f:Expr) (cpos:Pos):Prop where
 base:attributeBase o m X.env (eval o X.env)=eval o X.env
 few:((backTo cpos (starEach [e,f] X.env)).all (fun x=>!x.1) && (backToKw cpos (keywordEach [] X.env)).all (fun x=>x.1.isSome)
  && decide (([e,f]:List Expr).length + ([]:List Keyword).length + (if ([]:List Keyword).isEmpty then 0 else 1) < 30))=true
 line:(apos.endLine == cpos.line)=true
 trees:backTo cpos (starEach [e,f] X.env)=[(false,eval e X.env),(false,eval f X.env)]
def IsD (H:Hp) (a:Addr):Prop:=(∃ kvs,Rd H a (.dK kvs))∨∃ kvs,Rd H a (.dT kvs)
theorem isD_at {X:Cx}{pins:List (Addr×Obj)}{σ:St}{H:Hp}{s:Shared}{a:Addr} (I:Inv X pins σ H s) (d:IsD H a):
  s.TypeIs (.ref a) "dict"∧(∀ b,Value.ref a=.ref b→∃ ob,s.heap.get? b=some ob∧ob.dict=none)∧(a == sysModules)=false:=by
 rcases d with ⟨kvs,e⟩ | ⟨kvs,e⟩
 ·obtain ⟨_,hd,vs,_,dd⟩:=dk_rd I.hok e
  refine ⟨dd.typeIs,fun b q=>?_,hd⟩
  cases q
  obtain ⟨ob,_,_,h1,h2,_⟩:=dd
  exact ⟨ob,h1,h2.2.1⟩
 ·obtain ⟨_,hd,xs,_,dd⟩:=dt_rd I.hok e
  refine ⟨dd.typeIs,fun b q=>?_,hd⟩
  cases q
  obtain ⟨ob,_,_,h1,h2,_⟩:=dd
  exact ⟨ob,h1,h2.2.1⟩
section
variable {X:Cx}{pins:List (Addr×Obj)}{σ:St}{H:Hp}{s:Shared}{a:Addr}{y d:V}{u r:Value}{o:Option V}{A:Around}{E:Value→Shared→Prop}
theorem d_get2 {Q:Value→Shared→Prop} (hu:A.units + 1 < cLine) (I:Inv X pins σ H s) (g:DGet H a y o) (ry:RelV y u) (rd:RelV d r) (h:∀ w' s',Inv X pins σ H s'→RelV (o.getD d) w'→Q w' s'):
  wpAny (model X.prog X.w) A (call (.builtin "dict.get") [.ref a,u,r]) Q E s:=by
 rcases g with ⟨kvs,k,e,ey,l⟩ | ⟨kvs,k,b,e,ey,eb,l⟩
 ·subst ey
  obtain ⟨z,hd,vs,rel,dd⟩:=dk_rd I.hok e
  refine call_meetsIn PySem.F.slot_dict_get dd.typeIs PySem.F.entry_dict_get (PySem.F.args_dict_get_3 _ _ _) (meets_dict_get_default (mixKind X.prog X.w) a (kV_is ry) hd r) ⟨_,dd.mapOf,h _ _ (I.tok _) ?_⟩
  rw [l]
  exact (rel.val k).getD rd
 ·subst ey
  cases (show u=Value.ref b from ry)
  obtain ⟨z,hd,xs,rel,dd⟩:=dt_rd I.hok e
  refine call_meetsIn PySem.F.slot_dict_get dd.typeIs PySem.F.entry_dict_get (PySem.F.args_dict_get_3 _ _ _) (meetsH_dict_get_default (tupleKind (mixKind X.prog X.w)) a b hd r) ⟨tupleKind_room_in1 hu,k,xs,key_of I.hok eb,dd,h _ _ (I.tok _) ?_⟩
  rw [l]
  exact (rel.val k).getD rd
end
def tDGet2 (td ty tx:TE):TE:=fun σ H Q=>td σ H fun x H1=>∃ a,x=.ref a∧IsD H1 a∧ty σ H1 fun y H2=>tx σ H2 fun z H3=>∃ o,DGet H3 a y o∧Q (o.getD z) H3
def tDPop1 (td ty:TE):TE:=fun σ H Q=>td σ H fun x H1=>∃ a,x=.ref a∧IsD H1 a∧ty σ H1 fun y H2=>∃ kvs k v,H2 a=some (.dK kvs)∧y=kV k∧valV kvs k=some v∧Q v (upd H2 a (.dK (dropK kvs k)))
section
variable {X:Cx}{o e f:Expr}{apos cpos:Pos}{td ty tx:TE}
theorem pe_dget2 (hu:X.A.units + 1 < cLine) (ho:PE X o td) (he:PE X e ty) (hf:PE X f tx) (m:M2 X o "get" apos e f cpos):PE X (.Call (.Attribute o "get" apos) [e,f] [] cpos) (tDGet2 td ty tx):=by
 constructor
 intro pins s σ H Q I h
 refine wpAny_Call_method m.base m.few m.line PySem.F.plainAttrs_dict PySem.F.slot_dict_get PySem.F.type_dict_get (thn (ho pins s σ H _ I h) fun u s1 ⟨x,H1,I1,rx,a,ex,d,q1⟩=>?_)
 subst ex
 obtain rfl:u=Value.ref a:=rx
 obtain ⟨t1,t2,_⟩:=isD_at I1 d
 refine ⟨t1,t2,?_⟩
 rw [m.trees]
 refine Calls.callWith_builtin rfl (Calls.evalArgs_plain (Calls.spliced_cons (thn (he pins s1 σ H1 _ I1 q1) fun iv s2 ⟨y,H2,I2,ry,q2⟩=>
  Calls.spliced_cons (thn (hf pins s2 σ H2 _ I2 q2) fun fv s3 ⟨z,H3,I3,rz,ov,g,q3⟩=>Calls.spliced_nil ?_))))
 exact d_get2 hu I3 g ry rz fun w' s4 I4 rw'=>⟨_,H3,I4,rw',q3⟩
theorem pe_dpop1 (ho:PE X o td) (he:PE X e ty) (m:M1 X o "pop" apos e cpos):PE X (.Call (.Attribute o "pop" apos) [e] [] cpos) (tDPop1 td ty):=by
 constructor
 intro pins s σ H Q I h
 refine wpAny_Call_method m.base m.few m.line PySem.F.plainAttrs_dict PySem.F.slot_dict_pop PySem.F.type_dict_pop (thn (ho pins s σ H _ I h) fun u s1 ⟨x,H1,I1,rx,a,ex,d,q1⟩=>?_)
 subst ex
 obtain rfl:u=Value.ref a:=rx
 obtain ⟨t1,t2,_⟩:=isD_at I1 d
 refine ⟨t1,t2,?_⟩
 rw [m.trees]
 refine Calls.callWith_builtin rfl (Calls.evalArgs_plain (Calls.spliced_cons (thn (he pins s1 σ H1 _ I1 q1) fun iv s2 ⟨y,H2,I2,ry,kvs,k,v,ea,ey,l,q2⟩=>Calls.spliced_nil ?_)))
 subst ey
 exact d_pop I2 ea ry l (.inl rfl) fun w' s3 I3 rw'=>⟨v,_,I3,rw',q2⟩
end
section
variable {X:Cx}{pins:List (Addr×Obj)}{σ:St}{H:Hp}{s:Shared}{a:Addr}{kvs:List (Key×V)}{A:Around}{E:Value→Shared→Prop}
end
section
variable {X:Cx}{pins:List (Addr×Obj)}{σ:St}{H:Hp}{s:Shared}{a:Addr}{y:V}{u:Value}{A:Around}{E:Value→Shared→Prop}
end
end L2
namespace Att
open PySem PySem.W PySem.Calls PyProof.Rows
theorem ints_of_wellAll {P:Params}{h:Heap}:∀ (ns:List Int) (vs:List Value),WellAll P h vs (ns.map WData.int)→IntsAre vs ns:=by
 intro ns
 induction ns with
 | nil=>
  intro vs w
  rw [List.map_nil] at w
  cases w
  exact .nil
 | cons n ns ih=>
  intro vs w
  rw [List.map_cons] at w
  cases w with
  | cons a b=>
   cases a
   exact .cons _ _ (ih _ b)
theorem script_of {l:OpenLaw}{n:Nat} (hn:l.most=some n) {P:Params}{h:Heap}{args:List WData}{vals:List Value}
  (hpre:l.row.toRowW.claim.pre args=true) (hwl:WellAll P h vals args):
  ∃ a vs ns,vals=[Value.ref a]∧args=[WData.list (ns.map WData.int)]∧h.get? a=some { cls:=.type "list",data:=.seq vs.toArray }∧IntsAre vs ns∧ns.length≤n:=by
 have hsh:WShape.hasAll [] args [.list .int]=true:=(pre_splitW hpre).1
 have hc:l.pre.holds [] { args:=args }=true:=(pre_splitW hpre).2
 obtain ⟨d,r,rfl,h1,h2⟩:=hasAllW_cons hsh
 obtain rfl:=hasAllW_nil h2
 obtain ⟨xs,rfl,h3⟩:=hasW_list h1
 obtain ⟨ns,rfl⟩:=items_int h3
 have hlen:ns.length≤n:=by
  unfold OpenLaw.pre at hc
  have h4:(WTm.not (.lt (.lit (.int (n:Int))) (.len (.arg 0)))).holds [] { args:=[.list (ns.map .int)] }=true:=by
   have h4:=(holds_andW hc).1
   rw [hn] at h4
   exact h4
  have h5:=condW_of h4 (w_not (w_lt w_lit (w_len_list (w_arg rfl))))
  rw [List.length_map] at h5
  refine Nat.le_of_not_lt fun q=>?_
  have q':(n:Int) < ((ns.length:Nat):Int):=by omega
  first
   | (rw [decide_eq_true q'] at h5;exact absurd h5 (by decide))
   | (simp at h5;omega)
 cases hwl with
 | cons w1 w2=>
  cases w2
  cases w1 with
  | list ho hall=>exact ⟨_,_,ns,rfl,rfl,ho,ints_of_wellAll ns _ hall,hlen⟩
theorem post_true (l:OpenLaw) (args:List WData):l.row.toRowW.claim.post args (.bool true) args=true:=
 postW_of (r:=l.row.toRowW) (X:=(true == true))
  (show WShape.has [] (.bool true) .bool=true by first | rfl | decide | simp [WShape.has,WShape.arms,WShape.armsAll])
  (show (WTm.eq .res (.lit (.bool true))).value [] { args:=args,res:=some (.bool true),after:=args }=some (.bool (true == true)) from w_eq_bool (w_res rfl) w_lit) rfl
theorem attach_call {l:OpenLaw}{n:Nat}{q:Program}{loose:List Str}{XP:(Str→Option Value)→Heap→Prop}{YP:World→Heap→Prop}{d:DefRec}
  (hn:l.most=some n) (hdf:d.params.defaults=[])
  (call:∀ (w:World) (s₀ s₁:Shared) (mg mb:Str→Option Value) (fa:Addr) (o:Obj) (pm cd doc:Value) (a:Addr) (vs:List Value) (ns:List Int),
   Ground q loose [] XP w s₀ mg mb s₁.heap→YP w s₁.heap→
   s₁.heap.get? fa=some o→o.data=.func (docDef d.name d.params d.body d.scope pm cd doc)→s₁.heap.CodeRec cd d.name→mg d.name=some (.ref fa)→
   s₁.heap.get? a=some { cls:=.type "list",data:=.seq vs.toArray }→IntsAre vs ns→ns.length≤n→s₁.gens=#[]→
   codeAny (model l.prog w) callerA (.call (.ref fa) ⟨[.ref a],[]⟩) (fun r s'=>r=.ok (.ret (.bool true))∧OldK s₁.heap s'.heap∧s'.os=s₁.os∧AllBare s'.gens) s₁):
  WalkO q loose XP YP l.row.toRowW d [] (fun f vs=>PySem.call f vs):=by
 intro w s₀ s₁ mg mb G Y fa o pm cd doc dV kV ho hd hcd hD hmg hg args vals as hpre hlay hrd hwl hlo
 obtain rfl:dV=.none:=Dflts.none hD hdf
 obtain rfl:kV=.none:=Dflts.noKw hD
 obtain ⟨a,vs,ns,rfl,rfl,hobj,hints,hlen⟩:=script_of hn hpre hwl
 refine enter_call (codeAny_mono (call w s₀ s₁ mg mb fa o pm cd doc a vs ns G Y ho (fd_plain hd) hcd hmg hobj hints hlen hg) fun r s' hq=>?_)
 obtain ⟨rfl,h2,h3,h4⟩:=hq
 exact ⟨.inl ⟨.bool true,.bool true,[],rfl,fun _=>rfl,.bool true,post_true l _,fun _=>⟨List.Pairwise.nil,fun _ hm=>(nomatch hm)⟩⟩,h2,h3,h4⟩
section
variable {prog:Program}{w:World}{A:Around}{E:Value→Shared→Prop}{s:Shared}{K:Frag}
end
end Att
namespace L2
open PySem PySem.Spec PyProof.Rows
theorem vals_ints:∀ {vs:List Value}{ns:List Int},IntsAre vs ns→Vals (ns.map V.int) vs
 | _,_,.nil=>.nil
 | _,_,.cons n t h=>.cons ⟨t,rfl⟩ (vals_ints h)
def Only (H:Hp):Prop:=∀ b,H b=none∨∃ o xs,H b=some (.frz o (.lst xs))
end L2
namespace L2
open PySem PySem.Spec PyProof.Rows
abbrev KOf {K:PySem.W.Frag}{h:Heap} (_:K.In h):PySem.W.Frag:=K
end L2
namespace L2
open PySem PySem.Spec PyProof.Rows
def inClass (s:Stmt) (j:Nat):Stmt:=match s with
 | .ClassDef _ _ _ body _ _ _ _ _ _ _=>body.getD j (.Pass ⟨0,0,0,0⟩)
 | _=>.Pass ⟨0,0,0,0⟩
def defArgs (s:Stmt):Arguments:=match s with
 | .FunctionDef _ a _ _ _ _ _ _ _ _=>a
 | _=>{ posonlyargs:=[],args:=[],vararg:=none,kwonlyargs:=[],kw_defaults:=[],kwarg:=none,defaults:=[] }
def defBody (s:Stmt):List Stmt:=match s with
 | .FunctionDef _ _ b _ _ _ _ _ _ _=>b
 | _=>[]
def defScope (s:Stmt):Scope:=match s with
 | .FunctionDef _ _ _ _ _ _ sc _ _ _=>sc
 | _=>{ kind:=.function,names:=[],isGenerator:=false,isCoroutine:=false }
abbrev CX0:CXT:=fun _ _ _ _ _ _=>False
abbrev E0:XK:=fun _ _ _=>False
theorem pass0 {X:Cx}:Passes CX0 X E0:=fun _ _ _ _ _ _ _ h=>h.elim
structure Fun (K:PySem.W.Frag) (x qual:Str) (st:Stmt) (f:Addr) (fd:FuncData):Prop where
 ex:∃ (oc:Value) (od:Option Addr) (kV doc pm:Value) (an:Option Addr) (cdv ct:Value) (osl:Array (Option Value)),
  fd=PySem.W.fnOf x qual (defArgs st) (defBody st) (defScope st) .none kV doc pm an cdv ct∧K.lookup f=some ⟨oc,od,.func fd,osl⟩∧PySem.W.codeIn K cdv qual=true
 kp:PySem.W.keepIn K (.ref f)=true
section
variable {P:Program}{w:World}{K:PySem.W.Frag}{mg:Str→Option Value}{base:Heap}
theorem Fun.ok {x qual:Str}{st:Stmt}{f:Addr}{fd:FuncData}{N ps:List Str}{k:Nat}{sp:Sp} (F:Fun K x qual st f fd) (S:FnScope N ps (defScope st)) (len:∀ vs H Q E,sp vs H Q E→vs.length=ps.length)
  (hbody:∀ (cdv:Value) (A:Around) (outer:List Env) (s:Shared) (H:Hp) (vs:List V) (Q:VK) (E:XK),Room k (A.deeper (envOfC qual (defScope st) s.heap.objs.size f cdv))→sp vs H Q E→
   ∃ t,PSs (cxOf CX0 P w K mg base N qual (defScope st) f cdv A outer s H E).nox (defBody st) t∧t { nx:=fun _ H'=>Q .non H',rt:=Q } (start N vs) H):FnOk P w K mg base CX0 (k + 1) f fd ps sp:=by
 obtain ⟨oc,od,kV,doc,pm,an,cdv,ct,osl,rfl,lk,hcd⟩:=F.ex
 refine fn_of lk hcd S len fun A outer s H vs Q E hr hsp=>?_
 obtain ⟨t,h,q⟩:=hbody cdv A outer s H vs Q E hr hsp
 exact ⟨t,h.nox,q⟩
theorem Fun.binds {x qual:Str}{st:Stmt}{f:Addr}{fd:FuncData}{ps:List Str} (F:Fun K x qual st f fd)
  (h:∀ (kV doc pm:Value) (an:Option Addr) (cdv ct:Value) (us:List Value),us.length=ps.length→bindArgs (PySem.W.fnOf x qual (defArgs st) (defBody st) (defScope st) .none kV doc pm an cdv ct) ⟨us,[]⟩=pure (ps.zip us)):Binds K fd ps []:=by
 obtain ⟨oc,od,kV,doc,pm,an,cdv,ct,osl,rfl,lk,hcd⟩:=F.ex
 exact .all (h kV doc pm an cdv ct)
theorem fun_mk {x qual:Str}{st:Stmt}{f:Addr}{oc:Value}{od an:Option Addr}{osl:Array (Option Value)}{kV doc pm cdv ct:Value} (l:K.lookup f=some ⟨oc,od,.func (PySem.W.fnOf x qual (defArgs st) (defBody st) (defScope st) .none kV doc pm an cdv ct),osl⟩)
  (c:PySem.W.codeIn K cdv qual=true) (k:PySem.W.keepIn K (.ref f)=true):Fun K x qual st f (PySem.W.fnOf x qual (defArgs st) (defBody st) (defScope st) .none kV doc pm an cdv ct):=⟨⟨oc,od,kV,doc,pm,an,cdv,ct,osl,rfl,l,c⟩,k⟩
end
theorem hu_of {A:Around}{k:Nat} (hr:Room k A):A.units + 1 < cLine:=Nat.lt_of_le_of_lt (Nat.add_le_add_left (by decide:1≤64) _) hr.units
theorem small1000 {n:Nat} (h:n≤1000):n < sizeLine:=Nat.lt_of_le_of_lt h (by decide)
section
variable {X:Cx}
theorem pv (i:Nat) {x:Str}{pos:Pos} (hN:X.N[i]?=some x:=by rfl) (hv:Vis X.env.scope x:=by first | exact Or.inl rfl | exact Or.inr (Or.inl rfl) | exact Or.inr (Or.inr rfl)) (hd:(x == ("__debug__":Str))=false:=by decide)
  (hcd:(x == ("__classdict__":Str))=false:=by decide):PE X (.Name x pos) (tVar i):=pe_var hN hv hd hcd
end
theorem iteF {A B:Prop} (h:B):if false=true then A else B:=by
 rw [if_neg Bool.false_ne_true]
 exact h
theorem iteT {A B:Prop} (h:A):if true=true then A else B:=by
 rw [if_pos rfl]
 exact h
theorem ite2 {c A B:Prop} [Decidable c] (h1:c→A) (h2:¬ c→B):if c then A else B:=by
 by_cases h:c
 ·rw [if_pos h]
  exact h1 h
 ·rw [if_neg h]
  exact h2 h
def Same (H H':Hp):Prop:=∀ b o,H b=some o→H' b=some o
theorem Same.refl (H:Hp):Same H H:=fun _ _ h=>h
theorem Same.trans {H H1 H2:Hp} (a:Same H H1) (b:Same H1 H2):Same H H2:=fun c o h=>b c o (a c o h)
theorem Same.free {H H':Hp} (e:Same H H') {l:Addr} (h:H' l=Option.none):H l=Option.none:=by
 cases q:H l with
 | none=>rfl
 | some o=>
  rw [e l o q] at h
  cases h
theorem Same.seq {K:PySem.W.Frag}{H H':Hp}{a:Addr}{xs:List V} (e:Same H H') (h:SqL K H a xs):SqL K H' a xs:=by
 rcases h with (h | ⟨o,h⟩) | h
 ·exact .inl (.inl (e _ _ h))
 ·exact .inl (.inr ⟨o,e _ _ h⟩)
 ·exact .inr h
end L2
namespace L2
open PySem PySem.Spec PyProof.Rows
section
variable {X:Cx}
theorem call_lenD:CallR X (.builtin "len") (fun xs H Q=>∃ a kvs,xs=[V.ref a]∧H a=some (.dK kvs)∧Q (.int kvs.length) H):=by
 intro pins s σ H xs us Q I r h
 obtain ⟨a,kvs,rfl,ha,q⟩:=h
 obtain ⟨u,rfl,ru⟩:=vals1 r
 cases ru
 exact d_len I (.inl ha) fun t s' I'=>⟨.int kvs.length,H,I',⟨t,rfl⟩,q⟩
end
section
variable {κ:Type} [DecidableEq κ]
theorem valV_not {kvs:List (κ×V)}{k:κ} (h:valV kvs k=none):¬ k∈kvs.map (·.1):=by
 intro m
 obtain ⟨p,hp,e⟩:=List.mem_map.mp m
 have q:(kvs.any fun kv=>decide (kv.1=k))=true:=List.any_eq_true.mpr ⟨p,hp,decide_eq_true e⟩
 rw [valV_any,h] at q
 exact absurd q (by simp)
theorem valV_in {kvs:List (κ×V)}{k:κ}{v:V} (h:valV kvs k=some v):k∈kvs.map (·.1):=by
 have q:(kvs.any fun kv=>decide (kv.1=k))=true:=by
  rw [valV_any,h]
  all_goals rfl
 obtain ⟨p,hp,e⟩:=List.any_eq_true.mp q
 exact List.mem_map.mpr ⟨p,hp,of_decide_eq_true e⟩
theorem nd_snoc:∀ {l:List κ}{k:κ},l.Nodup→¬ k∈l→(l ++ [k]).Nodup
 | [],k,_,_=>by simp
 | a :: r,k,h,hk=>by
  obtain ⟨h1,h2⟩:=List.nodup_cons.mp h
  show (a :: (r ++ [k])).Nodup
  refine List.nodup_cons.mpr ⟨fun m=>?_,nd_snoc h2 fun m=>hk (List.mem_cons.mpr (Or.inr m))⟩
  rcases List.mem_append.mp m with q | q
  ·exact h1 q
  ·exact hk (List.mem_cons.mpr (Or.inl (List.mem_singleton.mp q).symm))
theorem nd_putK {kvs:List (κ×V)}{k:κ} (v:V) (hn:(kvs.map (·.1)).Nodup) (h:valV kvs k=none):((putK kvs k v).map (·.1)).Nodup:=by
 rw [putK_new v h,List.map_append]
 exact nd_snoc hn (valV_not h)
theorem dropK_pos {p:κ×V}{r:List (κ×V)}{k:κ} (e:p.1=k):dropK (p :: r) k=dropK r k:=by
 unfold dropK
 rw [List.filter_cons,if_neg (by simp [e])]
theorem dropK_neg {p:κ×V}{r:List (κ×V)}{k:κ} (e:¬ p.1=k):dropK (p :: r) k=p :: dropK r k:=by
 unfold dropK
 rw [List.filter_cons,if_pos (by simp [e])]
theorem dropK_mem {kvs:List (κ×V)}{k:κ}{p:κ×V} (h:p∈dropK kvs k):p∈kvs:=(List.mem_filter.mp h).1
theorem nd_dropK:∀ {kvs:List (κ×V)}{k:κ},(kvs.map (·.1)).Nodup→((dropK kvs k).map (·.1)).Nodup
 | [],_,_=>List.nodup_nil
 | p :: r,k,h=>by
  have h:(p.1 :: r.map (·.1)).Nodup:=h
  obtain ⟨h1,h2⟩:=List.nodup_cons.mp h
  by_cases e:p.1=k
  ·rw [dropK_pos e]
   exact nd_dropK h2
  ·rw [dropK_neg e]
   show (p.1 :: (dropK r k).map (·.1)).Nodup
   refine List.nodup_cons.mpr ⟨fun m=>h1 ?_,nd_dropK h2⟩
   obtain ⟨q,hq,eq⟩:=List.mem_map.mp m
   exact List.mem_map.mpr ⟨q,dropK_mem hq,eq⟩
end
end L2
namespace L2
open PySem PySem.Spec PyProof.Rows
section
variable {X:Cx}{pins:List (Addr×Obj)}{σ:St}{H:Hp}{s:Shared}
theorem Inv.track {D:Addr}{ob:HO} (I:Inv X pins σ H s) (hf:FpOk X pins H D) (new:ObjOk X.prog X.w (upd H D ob) s.heap D ob):Inv X pins σ (upd H D ob) s:=by
 obtain ⟨hn,hL,hfs,hex,hce,hpi⟩:=hf
 have nD:∀ b u,H b=some u→b≠D:=fun b u e=>ne_of_none e hn
 refine I.step (g':=s.gens) (t':=s.toks) (d':=s.drawn) (h':=s.heap) (H':=upd H D ob) (ch:=[D]) (fun b hb=>?_) (fun b o _ _ _ e _=>e) (fun b o _ _ _ e _=>⟨o.slots,e⟩) (fun b o hc e n=>?_)
  (fun b o _ e=>⟨o,e⟩) (fun b xs e=>by rw [upd_ne (nD b _ e)];exact e) (fun b o u e=>by rw [upd_ne (nD b _ e)];exact e) (fun b ps e=>⟨#[],by rw [upd_ne (nD b _ e),e];simp⟩) (fun m hm=>hm) (fun b u e=>?_) I.bare
 ·have e:b=D:=by simpa using hb
  subst e
  exact ⟨hex,hL,hce,hpi⟩
 ·rw [upd_ne (fun z=>hc (by simp [z]))]
  exact n
 ·by_cases hb:b=D
  ·subst hb
   rw [upd_same] at e
   cases e
   exact new
  ·rw [upd_ne hb] at e
   exact (I.hok b u e).stay (fun c v _ q=>q) (fun c q=>by rw [upd_ne (nD c _ q)];exact q) fun c xs q=>by rw [upd_ne (nD c _ q)];exact q
end
def closL (env:Env):List (Str×NameKind)→List (Str×Addr)→List (Str×Addr)
 | [],cs=>cs
 | (n,k) :: r,cs=>closL env r (if k=.free then (match env.cells.lookup n with | some c=>(n,c) :: cs | none=>cs) else cs)
theorem forIn_pure {α β:Type} (f:α→β→Sem (ForInStep β)) (g:α→β→β):∀ (l:List α) (b:β),(∀ y∈l,∀ b,f y b=pure (.yield (g y b)))→(forIn l b f:Sem β)=pure (l.foldl (fun b y=>g y b) b)
 | [],b,_=>rfl
 | a :: r,b,h=>by
  rw [List.forIn_cons,h a List.mem_cons_self b]
  exact forIn_pure f g r (g a b) fun y hy=>h y (List.mem_cons_of_mem _ hy)
def closG (env:Env) (y:Str×NameKind) (cs:List (Str×Addr)):List (Str×Addr):=if y.2=.free then (match env.cells.lookup y.1 with | some c=>(y.1,c) :: cs | none=>cs) else cs
theorem closL_fold (env:Env):∀ (l:List (Str×NameKind)) (cs:List (Str×Addr)),l.foldl (fun b y=>closG env y b) cs=closL env l cs
 | [],cs=>rfl
 | (n,k) :: r,cs=>by
  rw [List.foldl_cons,closL_fold env r]
  rfl
theorem closureFor_L {scope:Scope}{env:Env} (h:∀ y∈scope.names,y.2=.free→∃ c,env.cells.lookup y.1=some c):closureFor scope env=pure (closL env scope.names []):=by
 simp only [closureFor]
 rw [forIn_pure _ (closG env) scope.names [] (fun y hy b=>?_)]
 ·rw [closL_fold]
  rfl
 ·obtain ⟨n,k⟩:=y
  by_cases hk:k=.free
  ·obtain ⟨c,hc⟩:=h (n,k) hy hk
   subst hk
   have e:cellOf env n=pure c:=by unfold cellOf;rw [hc]
   have e2:closG env (n,NameKind.free) b=(n,c) :: b:=by unfold closG;rw [if_pos rfl,hc]
   simp only [e,e2]
   rfl
  ·have e:(k == NameKind.free)=false:=by simpa using hk
   have e2:closG env (n,k) b=b:=by unfold closG;rw [if_neg hk]
   simp only [e,e2,Bool.false_eq_true,if_false]
theorem closL_sub {env:Env}:∀ (l:List (Str×NameKind)) (cs:List (Str×Addr)),(∀ x c,cs.lookup x=some c→env.cells.lookup x=some c)→∀ x c,(closL env l cs).lookup x=some c→env.cells.lookup x=some c
 | [],cs,h,x,c,e=>h x c e
 | (n,k) :: r,cs,h,x,c,e=>by
  unfold closL at e
  refine closL_sub r _ (fun x c e=>?_) x c e
  by_cases hk:k=.free
  ·rw [if_pos hk] at e
   cases hc:env.cells.lookup n with
   | none=>rw [hc] at e;exact h x c e
   | some d=>
    rw [hc] at e
    by_cases hx:x=n
    ·subst hx
     simp at e
     rw [← e];exact hc
    ·have:(x == n)=false:=by simpa using hx
     rw [List.lookup_cons,this] at e
     exact h x c e
  ·rw [if_neg hk] at e
   exact h x c e
theorem closL_has {env:Env}:∀ (l:List (Str×NameKind)) (cs:List (Str×Addr)) (x:Str),(∀ y∈l,y.2=.free→∃ c,env.cells.lookup y.1=some c)→((∃ c,cs.lookup x=some c)∨(x,NameKind.free)∈l)→∃ c,(closL env l cs).lookup x=some c
 | [],cs,x,_,h=>by
  rcases h with h | h
  ·exact h
  ·simp at h
 | (n,k) :: r,cs,x,hc,h=>by
  unfold closL
  refine closL_has r _ x (fun y hy=>hc y (List.mem_cons_of_mem _ hy)) ?_
  rcases h with ⟨c,h⟩ | h
  ·refine .inl ?_
   split
   ·split
    ·rename_i d _
     by_cases hx:x=n
     ·subst hx;exact ⟨d,by simp⟩
     ·have:(x == n)=false:=by simpa using hx
      exact ⟨c,by rw [List.lookup_cons,this];exact h⟩
    ·exact ⟨c,h⟩
   ·exact ⟨c,h⟩
  ·rcases List.mem_cons.mp h with h | h
   ·cases h
    obtain ⟨d,hd⟩:=hc (n,NameKind.free) List.mem_cons_self rfl
    refine .inl ⟨d,?_⟩
    rw [if_pos rfl]
    have hd':env.cells.lookup n=some d:=hd
    rw [hd']
    simp
   ·exact .inr h
theorem relabel_cf {env : Env} : ∀ {names : List (Str × NameKind)}{x : Str}, (∀ y ∈ names, y.2 ≠ .cell) →
    ((names.map fun (n, k) => if (k == NameKind.free && env.scope.kind == .function && env.kindOf n == some .cell) then (n, NameKind.cell) else (n, k)).lookup x = some .cell ∨
     (names.map fun (n, k) => if (k == NameKind.free && env.scope.kind == .function && env.kindOf n == some .cell) then (n, NameKind.cell) else (n, k)).lookup x = some .free) → names.lookup x = some .free
  | [], x, _, h => by simp at h
  | (n, k) :: r, x, hc, h => by
    have ih := @relabel_cf env r x fun y hy => hc y (List.mem_cons_of_mem _ hy)
    have hk := hc (n, k) List.mem_cons_self
    rw [List.map_cons] at h
    by_cases hx : x = n
    · subst hx
      rw [List.lookup_cons, beq_self_eq_true]
      simp only
      by_cases hcond : (k == NameKind.free && env.scope.kind == .function && env.kindOf x == some .cell) = true
      · have : (k == NameKind.free) = true := by
          rw [Bool.and_eq_true, Bool.and_eq_true] at hcond
          exact hcond.1.1
        simpa using this
      · simp only [if_neg hcond, List.lookup_cons, beq_self_eq_true] at h
        rcases h with h | h
        · exact absurd (Option.some.inj h) hk
        · exact h
    · have e : (x == n) = false := by simpa using hx
      rw [List.lookup_cons, e]
      refine ih ?_
      by_cases hcond : (k == NameKind.free && env.scope.kind == .function && env.kindOf n == some .cell) = true
      · simp only [if_pos hcond, List.lookup_cons, e] at h
        exact h
      · simp only [if_neg hcond, List.lookup_cons, e] at h
        exact h
theorem relabel_free {env : Env} : ∀ {names : List (Str × NameKind)}{x : Str}, names.lookup x = some .free →
    ((names.map fun (n, k) => if (k == NameKind.free && env.scope.kind == .function && env.kindOf n == some .cell) then (n, NameKind.cell) else (n, k)).lookup x = some .cell ∨
     (names.map fun (n, k) => if (k == NameKind.free && env.scope.kind == .function && env.kindOf n == some .cell) then (n, NameKind.cell) else (n, k)).lookup x = some .free)
  | [], x, h => by simp at h
  | (n, k) :: r, x, h => by
    have ih := @relabel_free env r x
    rw [List.map_cons]
    by_cases hx : x = n
    · subst hx
      rw [List.lookup_cons, beq_self_eq_true] at h
      simp only at h
      cases h
      by_cases hcond : (NameKind.free == NameKind.free && env.scope.kind == .function && env.kindOf x == some .cell) = true
      · refine .inl ?_
        show List.lookup x ((if (NameKind.free == NameKind.free && env.scope.kind == .function && env.kindOf x == some .cell) = true then (x, NameKind.cell) else (x, NameKind.free)) :: _) = _
        rw [if_pos hcond, List.lookup_cons, beq_self_eq_true]
      · refine .inr ?_
        show List.lookup x ((if (NameKind.free == NameKind.free && env.scope.kind == .function && env.kindOf x == some .cell) = true then (x, NameKind.cell) else (x, NameKind.free)) :: _) = _
        rw [if_neg hcond, List.lookup_cons, beq_self_eq_true]
    · have e : (x == n) = false := by simpa using hx
      rw [List.lookup_cons, e] at h
      have := ih h
      by_cases hcond : (k == NameKind.free && env.scope.kind == .function && env.kindOf n == some .cell) = true
      · simp only [if_pos hcond, List.lookup_cons, e]
        exact this
      · simp only [if_neg hcond, List.lookup_cons, e]
        exact this
def blk (X:Cx) (N:List Str) (scope:Scope) (cl:List (Str×Addr)) (s:Shared) (H:Hp) (fp:List Addr) (pins:List (Addr×Obj)) (C:Addr):Cx where
 prog:=X.prog
 w:=X.w
 K:=X.K
 mg:=X.mg
 base:=X.base
 A:=X.A
 N:=N
 s₀:=s
 H₀:=H
 env:=compEnvC scope cl C X.env
 outer:=X.stack
 stack:=X.stack
 ex:=fp
 fn:=fun _=>false
 calm:=X.calm
 pn:=X.pn ++ pins
 xe:=fun _ _=>False
def srcOk (N:List Str) (src:List (Option Nat)) (scope:Scope) (oN:List Str):Bool:=
 (N.zip src).all fun p=>match p.2 with | none=>true | some j=>(oN[j]? == some p.1) && (scope.names.lookup p.1 == some .free)
structure BlkOk (N:List Str) (src:List (Option Nat)) (scope osc:Scope) (oN:List Str):Prop where
 kind:scope.kind=.function
 nocell:∀ y∈scope.names,y.2≠.cell
 names:∀ y∈scope.names,y.2=.local→scope.names.lookup y.1=some .local
 fr:∀ y∈scope.names,y.2=.free→osc.names.lookup y.1=some .cell∨osc.names.lookup y.1=some .free
 len:src.length=N.length
 srcs:srcOk N src scope oN=true
def sub (src:List (Option Nat)) (σ:St):St:=src.map fun o=>match o with | none=>none | some j=>(σ[j]?).getD none
theorem srcOk_at {N:List Str}{src:List (Option Nat)}{scope:Scope}{oN:List Str} (h:srcOk N src scope oN=true) {i j:Nat}{x:Str} (h1:N[i]?=some x) (h2:src[i]?=some (some j)):oN[j]?=some x∧scope.names.lookup x=some .free:=by
 have hm:(x,some j)∈N.zip src:=by
  refine List.mem_of_getElem? (i:=i) ?_
  rw [List.getElem?_zip_eq_some]
  exact ⟨h1,h2⟩
 have:=List.all_eq_true.mp h _ hm
 simp only [Bool.and_eq_true,beq_iff_eq] at this
 exact this
theorem sub_at {src:List (Option Nat)}{σ:St}{i:Nat}{v:V} (h:(sub src σ)[i]?=some (some v)):∃ j,src[i]?=some (some j)∧σ[j]?=some (some v):=by
 unfold sub at h
 rw [List.getElem?_map] at h
 cases e:src[i]? with
 | none=>rw [e] at h;simp at h
 | some o=>
  rw [e] at h
  cases o with
  | none=>simp at h
  | some j=>
   refine ⟨j,rfl,?_⟩
   cases e2:σ[j]? with
   | none=>simp [e2] at h
   | some o2=>
    simp [e2] at h
    rw [h]
structure PTs (X:Cx) (ifs:List Expr) (t:TT):Prop where
 run:
  ∀ (pins:List (Addr×Obj)) (s:Shared) (σ:St) (H:Hp) (Q:Bool→Hp→Prop),Inv X pins σ H s→t σ H Q→
   wpAny (model X.prog X.w) X.A (forIn ifs true fun c r=>if r=true then do let ok ← isTrue c X.env (eval c X.env);pure (ForInStep.yield ok) else pure (ForInStep.yield r)) (TP X pins σ Q) X.xe s
instance {X:Cx} {ifs:List Expr} {t:TT}:CoeFun (PTs X ifs t) (fun _=>
 ∀ (pins:List (Addr×Obj)) (s:Shared) (σ:St) (H:Hp) (Q:Bool→Hp→Prop),Inv X pins σ H s→t σ H Q→
  wpAny (model X.prog X.w) X.A (forIn ifs true fun c r=>if r=true then do let ok ← isTrue c X.env (eval c X.env);pure (ForInStep.yield ok) else pure (ForInStep.yield r)) (TP X pins σ Q) X.xe s):=⟨fun h=>h.run⟩
theorem pts_nil {X:Cx}:PTs X [] (fun _ H Q=>Q true H):=⟨fun _ _ _ H _ I h=>wpAny_tests_nil ⟨H,I,h⟩⟩
section
variable {X:Cx}{pins:List (Addr×Obj)}{σ:St}{H:Hp}{s:Shared}
theorem Inv.clos {N:List Str}{src:List (Option Nat)}{scope:Scope} (B:BlkOk N src scope X.env.scope X.N) (I:Inv X pins σ H s):∀ y∈scope.names,y.2=.free→∃ c,X.env.cells.lookup y.1=some c:=
 fun y hy hf=>I.ok.has y.1 (B.fr y hy hf)
theorem Inv.block {N:List Str}{src:List (Option Nat)}{scope:Scope}{fp:List Addr}{s1:Shared}{C:Addr}{m:Str→Option Value} (B:BlkOk N src scope X.env.scope X.N) (I:Inv X pins σ H s)
  (hf:∀ b∈fp,FpOk X pins H b) (hfo:∀ b∈fp,b < s.heap.objs.size) (hC:s.heap.objs.size≤C) (ho:s1.os=s.os) (hb:AllBare s1.gens) (hk:∀ b o,s.heap.get? b=some o→s1.heap.get? b=some o) (hn:s1.heap.Ns C m):
  Inv (blk X N scope (closL X.env scope.names []) s H fp pins C) [] (sub src σ) H s1:=by
 have hclos:=I.clos B
 have cl_sub:∀ x c,(closL X.env scope.names []).lookup x=some c→X.env.cells.lookup x=some c:=closL_sub _ _ (fun x c e=>by simp at e)
 have fsub:∀ b∈frs X.stack,b < s.heap.objs.size:=fun b hb=>by
  obtain ⟨_,o,ho,_⟩:=I.stack.mem hb
  exact Heap.lt_size ho
 refine ⟨⟨I.ok.mod,B.kind,I.ok.glob,I.ok.blt,hC,fun x y c e1 e2=>I.ok.inj x y c (cl_sub x c e1) (cl_sub y c e2),fun x hx=>?_,fun x c hx=>absurd hx Bool.false_ne_true,I.ok.hd,I.ok.frames,.inl rfl,fun b hb=>⟨?_,fun x c e=>?_⟩,fun b o e=>?_,Nat.le_trans I.ok.bsz I.sz,fun b o e hb=>?_,fun b hb hz=>?_,I.stack,I.stkFree⟩,
  ho,hb,Un.kept hk,⟨m,hn,fun i x v e1 e2 e3=>?_⟩,fun x c e=>?_,?_,fun x c e=>I.freeC x c (cl_sub x c e),fun p hp=>?_,I.hok.kept hk,?_⟩
 ·have hx':=relabel_cf (env:=X.env) B.nocell hx
  exact closL_has _ _ x hclos (.inr (PySem.mem_of_lookup hx'))
 ·exact Nat.ne_of_lt (Nat.lt_of_lt_of_le (hfo b hb) hC)
 ·exact (hf b hb).2.2.2.2.1 x c (cl_sub x c e)
 ·exact I.bs b o e
 ·rcases (hf b hb).2.2.2.1 with z | z
  ·exact I.ok.noex b o e z
  ·exact absurd (Nat.lt_of_lt_of_le (Heap.lt_size e) (Nat.le_trans I.ok.bsz z)) (Nat.lt_irrefl _)
 ·rcases List.mem_cons.mp (I.stkSub b hz) with e | z
  ·exact (hf b hb).2.1 e
  ·exact (hf b hb).2.2.1 z
 ·obtain ⟨j,ej,ev⟩:=sub_at e2
  obtain ⟨oj,fj⟩:=srcOk_at B.srcs e1 ej
  have hvis:=B.fr _ (PySem.mem_of_lookup fj) rfl
  obtain ⟨m0,hn0,hl0⟩:=id I.loc
  obtain ⟨u,ru,lk⟩:=hl0 j x v oj ev (.inr hvis)
  refine ⟨u,ru,.inr ⟨relabel_free fj,?_⟩⟩
  rcases lk with ⟨k,_⟩ | ⟨k,c,hc,hcell⟩
  ·have k':X.env.scope.names.lookup x=some .local:=k
   rcases hvis with z | z <;> (rw [k'] at z;cases z)
  ·obtain ⟨c',hc'⟩:=closL_has (env:=X.env) scope.names [] x hclos (.inr (PySem.mem_of_lookup fj))
   have e:=cl_sub x c' hc'
   rw [hc] at e
   cases e
   obtain ⟨o,ho,hd⟩:=hcell
   exact ⟨c,hc',o,hk _ _ ho,hd⟩
 ·obtain ⟨v,o,ho,hd⟩:=I.cell x c (cl_sub x c e)
  exact ⟨v,o,hk _ _ ho,hd⟩
 ·exact I.hok.fresh hC
 ·have hp':p∈X.pn ++ pins:=by
   rcases List.mem_append.mp hp with z | z
   ·exact z
   ·simp at z
  obtain ⟨q1,q2,q3,q4,q5⟩:=I.pin p hp'
  refine ⟨hk _ _ q1,q2,Nat.ne_of_lt (Nat.lt_of_lt_of_le (Heap.lt_size q1) hC),fun z=>?_,q5⟩
  rcases List.mem_cons.mp (I.stkSub _ z) with e | z
  ·exact q3 e
  ·exact q4 z
 ·show (sub src σ).length=N.length
  unfold sub
  rw [List.length_map]
  exact B.len
end
section
variable {prog:Program}{w:World}{A:Around}{R:Result→Shared→Prop}{s:Shared}
theorem compLoop_go {elt target iter:Expr}{ifs:List Expr}{scope:Scope}{pos:Pos}{it acc:Value}{env:Env} (I:Nat→Shared→Prop)
  (turn:∀ n s,I n s→wpAny (model prog w) A (pyNext it) (fun r s₁=>match r with
   | none=>R (.ok .next) s₁
   | some v=>wpAny (model prog w) A (letOwnedTupleGo target it v) (fun _ s₁'=>wpAny (model prog w) A (assign target env v) (fun _ s₂=>
     wpAny (model prog w) A (forIn ifs true fun c r=>if r=true then do let ok ← isTrue c env (eval c env);pure (ForInStep.yield ok) else pure (ForInStep.yield r)) (fun ok s₃=>
      if ok=true then wpAny (model prog w) A (eval elt env) (fun x s₄=>
       wpAny (model prog w) A (call (.builtin "list.append") [acc,x]) (fun _ s₅=>∃ m,m < n∧I m s₅) (fun _ _=>False) s₄) (fun _ _=>False) s₃
      else ∃ m,m < n∧I m s₃) (fun _ _=>False) s₂) (fun _ _=>False) s₁') (fun _ _=>False) s₁) (fun _ _=>False) s)
  (n:Nat) (h:I n s):
  codeAny (model prog w) A (.compLoop (.ListComp elt [⟨target,iter,ifs,0⟩] scope pos) 0 it acc env) R s:=by
 have nv:∀ {α:Type} {t:Sem α} {Q:α→Shared→Prop} {E:Value→Shared→Prop} {s:Shared},wpAny (model prog w) A t Q (fun _ _=>False) s→wpAny (model prog w) A t Q E s:=fun h=>wpAny_mono h (fun _ _ x=>x) fun _ _ x=>x.elim
 refine codeAny_loop rfl I (fun n s hI=>?_) n h
 show wpAny _ A ((compTurn (.ListComp elt [⟨target,iter,ifs,0⟩] scope pos) 0 it acc env).onRaise (fun x=>do noteFrame x env;theTreesLotGoes x)) _ _ s
 refine wpAny_noted ?_
 rw [compTurn_list]
 refine wpAny_bind (wpAny_standAt (wpAny_bind (nv (thn (turn n s hI) (fun r s₁ h₁=>?_)))))
 cases r with
 | none=>exact wpAny_pure h₁
 | some v=>
  refine wpAny_bind (wpAny_mono h₁ (fun _ s₁' h₁'=>?_) fun _ _ x=>x.elim)
  refine wpAny_bind (wpAny_mono h₁' (fun _ s₂ h₂=>wpAny_bind (wpAny_mono h₂ (fun ok s₃ h₃=>?_) fun _ _ h'=>h'.elim)) fun _ _ h'=>h'.elim)
  cases ok with
  | false=>exact wpAny_pure ⟨rfl,h₃⟩
  | true=>
   exact wpAny_bind (wpAny_bind (wpAny_mono h₃ (fun x s₄ h₄=>wpAny_bind (wpAny_mono h₄ (fun _ s₅ h₅=>wpAny_pure (wpAny_pure ⟨rfl,h₅⟩)) fun _ _ h'=>h'.elim)) fun _ _ h'=>h'.elim))
end
def CompW (J : It) (g : TG) (tt : TT) (te : TE) (σ₀ : St) (H₀ : Hp) (Q : VK) : Prop :=
  ∃ W : Nat → Nat → List V → St → Hp → Prop, (∃ m, W 0 m [] σ₀ H₀) ∧ ∀ i m ys σ H, W i m ys σ H → ys.length ≤ sizeLine ∧
    ((J.stop i H ∧ ∀ D, H D = none → Q (.ref D) (upd H D (.lst ys))) ∨
     (J.go i H ∧ ∃ N : List V → St → Hp → Prop, (∀ zs σ' H', N zs σ' H' → ∃ m', m' < m ∧ W (i + 1) m' zs σ' H') ∧
       ∀ x H', J.yld i H x H' → g x σ H' fun σ2 H2 => tt σ2 H2 fun b H3 => if b = true then te σ2 H3 fun v H4 => N (ys ++ [v]) σ2 H4 else N ys σ2 H3))
section
variable {X:Cx}{pins:List (Addr×Obj)}{σ:St}
theorem comp_core {tg iter elt:Expr}{ifs:List Expr}{scope:Scope}{pos:Pos}{N:List Str}{src:List (Option Nat)}{g:TG}{tt:TT}{te:TE}{J:It}{fp:List Addr}{it:Addr}{tn:Nat→Heap→Prop}{H2:Hp}{s2:Shared}{Q:VK}{E:Value→Shared→Prop}
  {RR:Value→Addr→Result→Shared→Prop} (B:BlkOk N src scope X.env.scope X.N) (hc:X.calm=true)
  (hb:∀ cl s H fp pins C,PG (blk X N scope cl s H fp pins C) tg g∧PTs (blk X N scope cl s H fp pins C) ifs tt∧PE (blk X N scope cl s H fp pins C) elt te)
  (I2:Inv X pins σ H2 s2) (T:Turn X.prog X.w X.K tg J fp it tn) (st2:tn 0 s2.heap) (f2:∀ b∈fp,FpOk X pins H2 b) (cw:CompW J g tt te (sub src σ) H2 Q)
  (hRR:∀ D C H' m s',Inv X pins σ H' s'→s'.heap.Ns C m→FpOk X pins H' C→D≠C→Q (.ref D) H'→RR (.ref D) C (.ok .next) s'):
  wpAny (model X.prog X.w) X.A (newList []) (fun acc s₃=>wpAny (model X.prog X.w) X.A (newFunctionEnv scope X.env.globals (closL X.env scope.names []) [] X.env.qual none .none (some X.env)) (fun cenv s₄=>
   codeAny (model X.prog X.w) X.A (.compStart (.ListComp elt [⟨tg,iter,ifs,0⟩] scope pos) 0 (.ref it) acc { cenv with scope:=relabel scope X.env }) (RR acc cenv.locals) s₄) E s₃) E s2:=by
 refine wpAny_newObj_type (wpAny_newFunctionEnv B.nocell (by intro y hy;simp at hy) (fun h₁ hns₁ hsb₁=>?_) B.kind)
 dsimp only at hns₁ hsb₁ ⊢
 generalize hH2:s2.heap.push { cls:=.type "list",dict:=none,data:=.seq ([]:List Value).toArray }=HH at hns₁ hsb₁ ⊢
 have hCs:HH.objs.size=s2.heap.objs.size + 1:=by rw [← hH2,Heap.size_push]
 have hDC:s2.heap.objs.size≠HH.objs.size:=by rw [hCs];exact Nat.ne_of_lt (Nat.lt_succ_self _)
 have hCle:s2.heap.objs.size≤HH.objs.size:=by rw [hCs];exact Nat.le_succ _
 have fpo:∀ b∈fp,b < s2.heap.objs.size:=fun b hb=>by
  obtain ⟨o,e,_⟩:=T.obj _ _ st2 b hb
  exact Heap.lt_size e
 have old:∀ b o,s2.heap.get? b=some o→h₁.get? b=some o:=fun b o e=>
  hsb₁.extBut b o (by rw [hCs];exact Nat.ne_of_lt (Nat.lt_succ_of_lt (Heap.lt_size e))) (Heap.get?_push_of_some _ (hH2 ▸ Heap.get?_push_of_some _ e))
 have hacc:h₁.PlainList s2.heap.objs.size #[]:=⟨_,hsb₁.extBut _ _ hDC (Heap.get?_push_of_some _ (hH2 ▸ Heap.get?_push_size _ rfl))⟩
 have st1:tn 0 h₁:=T.keep _ _ _ st2 fun b _ o e=>old b o e
 obtain ⟨W,⟨m0,w0⟩,turn⟩:=cw
 have fsub:∀ b∈frs X.stack,b < s2.heap.objs.size:=fun b hb=>by
  obtain ⟨_,o,ho,_⟩:=I2.stack.mem hb
  exact Heap.lt_size ho
 generalize hXb:blk X N scope (closL X.env scope.names []) s2 H2 fp pins HH.objs.size=Xb
 have hbl:=hb (closL X.env scope.names []) s2 H2 fp pins HH.objs.size
 rw [hXb] at hbl
 have eP:Xb.prog=X.prog:=by rw [← hXb];rfl
 have eW:Xb.w=X.w:=by rw [← hXb];rfl
 have eK:Xb.K=X.K:=by rw [← hXb];rfl
 have eA:Xb.A=X.A:=by rw [← hXb];rfl
 have eE:Xb.env=compEnvC scope (closL X.env scope.names []) HH.objs.size X.env:=by rw [← hXb];rfl
 have eL:Xb.env.locals=HH.objs.size:=by rw [eE];rfl
 have eF:Xb.fs=frs X.stack:=by rw [← hXb];rfl
 have eX:Xb.ex=fp:=by rw [← hXb];rfl
 have eS:Xb.s₀=s2:=by rw [← hXb];rfl
 have eH:Xb.H₀=H2:=by rw [← hXb];rfl
 have eC:Xb.calm=true:=by rw [← hXb];exact hc
 have ePn:Xb.pn=X.pn ++ pins:=by rw [← hXb];rfl
 have eXe:Xb.xe=fun _ _=>False:=by rw [← hXb];rfl
 have cl_sub:∀ x c,Xb.env.cells.lookup x=some c→X.env.cells.lookup x=some c:=fun x c e=>by
  rw [eE] at e
  exact closL_sub scope.names [] (fun x c e=>by simp at e) x c e
 have cells_lt:∀ x c,Xb.env.cells.lookup x=some c→c < s2.heap.objs.size:=fun x c e=>by
  obtain ⟨v,o,ho,_⟩:=I2.cell x c (cl_sub x c e)
  exact Heap.lt_size ho
 have pins_lt:∀ p∈X.pn ++ pins,p.1 < s2.heap.objs.size:=fun p hp=>Heap.lt_size (I2.pin p hp).1
 generalize hD:s2.heap.objs.size=D at *
 generalize hCC:HH.objs.size=C at *
 have loop:∀ s₃:Shared,s₃={ s2 with heap:=h₁,toks:=s2.toks + ([]:List (Str×Value)).length }→
   codeAny (model X.prog X.w) X.A (.compLoop (.ListComp elt [⟨tg,iter,ifs,0⟩] scope pos) 0 (.ref it) (.ref D) (compEnvC scope (closL X.env scope.names []) C X.env)) (RR (.ref D) C) s₃:=by
  rintro s₃ rfl
  have I3:Inv Xb [] (sub src σ) H2 { s2 with heap:=h₁,toks:=s2.toks + ([]:List (Str×Value)).length }:=by
   rw [← hXb]
   exact I2.block B f2 (by rw [hD];exact fpo) (by rw [hD];exact hCle) rfl I2.bare old hns₁
  have nD2:H2 D=none:=I2.hok.fresh (Nat.le_of_eq hD)
  have dfs:D ∉ Xb.fs:=fun z=>by rw [eF] at z;exact absurd (fsub D z) (Nat.lt_irrefl _)
  have dpin:∀ {σ':St} {H':Hp} {s':Shared} {pl:List (Addr×Obj)} {its:List Value} {n:Nat},Inv Xb pl σ' H' s'→H' D=none→s'.heap.get? D=some { cls:=.type "list",data:=.seq its.toArray n }→
    Inv Xb ((D,{ cls:=.type "list",data:=.seq its.toArray n }) :: pl) σ' H' s':=fun {σ' H' s' pl its n} I' hn hg=>
   I'.pins_of fun p hp=>by
    rcases List.mem_cons.mp hp with e | hp
    ·subst e
     exact ⟨hg,hn,by rw [eL];exact hDC,dfs,fun v z=>by cases z⟩
    ·exact I'.pin p (List.mem_append_right _ hp)
  obtain ⟨n0,hg0⟩:=hacc
  have I3':=dpin (its:=[]) I3 nD2 hg0
  have fpb:∀ {H':Hp} {pl:List (Addr×Obj)},(∀ p∈pl,p.1=D)→(∀ b∈fp,H' b=none)→∀ b∈fp,FpOk Xb pl H' b:=fun {H' pl} hpl hn b hb=>by
   refine ⟨hn b hb,by rw [eL];exact Nat.ne_of_lt (Nat.lt_of_lt_of_le (fpo b hb) hCle),fun z=>?_,.inl (by rw [eX];exact hb),fun x c e=>(f2 b hb).2.2.2.2.1 x c (cl_sub x c e),fun p hp=>?_⟩
   ·rw [eF] at z
    rcases List.mem_cons.mp (I2.stkSub b z) with e | z
    ·exact (f2 b hb).2.1 e
    ·exact (f2 b hb).2.2.1 z
   ·rw [ePn] at hp
    rcases List.mem_append.mp hp with z | z
    ·exact (f2 b hb).2.2.2.2.2 p z
    ·rw [hpl p z];exact Nat.ne_of_gt (fpo b hb)
  refine compLoop_go (fun n s'=>∃ i ys its nn σ' H',Inv Xb [(D,{ cls:=.type "list",data:=.seq its.toArray nn })] σ' H' s'∧tn i s'.heap∧(∀ b∈fp,H' b=none)∧Vals ys its∧W i n ys σ' H') ?_ m0
   ⟨0,[],[],n0,sub src σ,H2,I3',st1,fun b hb=>(f2 b hb).1,.nil,w0⟩
  rintro n s4 ⟨i,ys,its,nn,σ4,H4,I4,st4,fr4,vs4,w4⟩
  obtain ⟨hsz,hcase⟩:=turn i n ys σ4 H4 w4
  have one:∀ {o:Obj},∀ p∈[(D,o)],p.1=D:=fun {o} p hp=>by
   have:=List.mem_singleton.mp hp
   rw [this]
  rcases hcase with ⟨stop,qn⟩ | ⟨go,Nx,hN,step⟩
  ·have hdone:=T.done Xb eP eW eK eC i _ s4 σ4 H4 (fun _ _=>False) I4 (fpb one fr4) st4 stop
   rw [eA] at hdone
   refine thn hdone fun r s5 ⟨hr,I5⟩=>?_
   subst hr
   have pd:=I5.pin _ (List.mem_append_right _ List.mem_cons_self)
   have hb5:Un (frs X.stack) fp H2 H4 s2.heap s5.heap:=by
    have:=I5.base
    rw [eF,eX,eS,eH] at this
    exact this
   have hok5:HOk X.prog X.w H4 s5.heap:=by
    have:=I5.hok
    rw [eP,eW] at this
    exact this
   have os5:s5.os=s2.os:=by
    have:=I5.os
    rw [eS] at this
    exact this
   have J5:Inv X pins σ H4 s5:=I2.call' os5 hb5 hok5 I5.bare fun b hb=>⟨(f2 b hb).2.2.2.1,(f2 b hb).2.1,(f2 b hb).2.2.2.2.1,(f2 b hb).2.2.2.2.2⟩
   have fD:FpOk X pins H4 D:=I2.fpOk (Nat.le_of_eq hD) pd.2.1
   have J6:Inv X pins σ (upd H4 D (.lst ys)) s5:=J5.track fD ⟨hsz,its,nn,vs4,pd.1⟩
   obtain ⟨mm,nsC,_⟩:=I5.loc
   rw [eL] at nsC
   have hC4:H4 C=none:=by
    have:=I5.free
    rw [eL] at this
    exact this
   have fC:FpOk X pins (upd H4 D (.lst ys)) C:=I2.fpOk (by rw [hD];exact hCle) (by rw [upd_ne (Ne.symm hDC)];exact hC4)
   exact hRR D C _ mm s5 J6 nsC fC hDC (qn D pd.2.1)
  ·have hitem:=T.item Xb eP eW eK eC i _ s4 σ4 H4 (fun _ _=>False) I4 (fpb one fr4) st4 go
   rw [eA] at hitem
   refine thn hitem fun r s5 ⟨u,hr,h5⟩=>?_
   subst hr
   refine thn h5 fun _ s6 ⟨x,H6,I6,r6,y6,st6,fr6⟩=>?_
   have I6':=I6.pinned (fpb one fr6) (T.obj _ _ st6)
   obtain ⟨hg,ht,he⟩:=hbl
   have e1:=hg _ s6 σ4 H6 x u _ I6' r6 (step x H6 y6)
   rw [eP,eW,eA,eE,eXe] at e1
   refine thn e1 fun _ s7 ⟨σ7,H7,I7,q7⟩=>?_
   have e2:=ht _ s7 σ7 H7 _ I7 q7
   rw [eP,eW,eA,eE,eXe] at e2
   refine thn e2 fun ok s8 ⟨H8,I8,q8⟩=>?_
   have fin:∀ {σ':St} {H':Hp} {s':Shared} {its':List Value} {nn':Nat} {zs:List V},Inv Xb ([(D,{ cls:=.type "list",data:=.seq its'.toArray nn' })] ++ pinsAt fp s6.heap) σ' H' s'→Vals zs its'→Nx zs σ' H'→
     ∃ m,m < n∧∃ i ys its nn σ' H',Inv Xb [(D,{ cls:=.type "list",data:=.seq its.toArray nn })] σ' H' s'∧tn i s'.heap∧(∀ b∈fp,H' b=none)∧Vals ys its∧W i m ys σ' H':=fun {σ' H' s' its' nn' zs} I' vs' n'=>by
    obtain ⟨m',hm,w'⟩:=hN zs σ' H' n'
    refine ⟨m',hm,i + 1,zs,its',nn',σ',H',I'.unpinned,T.keep _ _ _ st6 fun b hb o e=>(I'.pin (b,o) (List.mem_append_right _ (List.mem_append_right _ (mem_pinsAt hb e)))).1,fun b hb=>?_,vs',w'⟩
    obtain ⟨o,e,d⟩:=T.obj _ _ st6 b hb
    exact (I'.pin (b,o) (List.mem_append_right _ (List.mem_append_right _ (mem_pinsAt hb e)))).2.1
   cases ok with
   | false=>
    simp only [Bool.false_eq_true,if_false] at q8 ⊢
    exact fin I8 vs4 q8
   | true=>
    simp only [if_true] at q8 ⊢
    have e3:=he _ s8 σ7 H8 _ I8 q8
    rw [eP,eW,eA,eE,eXe] at e3
    refine thn e3 fun v s9 ⟨y,H9,I9,r9,q9⟩=>?_
    have pd:=I9.pin _ (List.mem_append_right _ (List.mem_append_left _ List.mem_cons_self))
    have hlen:=vs4.length
    refine wpAny_list_append_plain (hsz:=by simp only [List.size_toArray];omega) (⟨nn,pd.1⟩:s9.heap.PlainList D its.toArray) fun h' ⟨nn',hg'⟩ hs'=>?_
    have I10:Inv Xb (pinsAt fp s6.heap) σ7 H9 s9:=I9.pins_of fun p hp=>I9.pin p (List.mem_append_right _ (List.mem_append_right _ hp))
    have I11:Inv Xb (pinsAt fp s6.heap) σ7 H9 { s9 with heap:=h' }:=I10.turned (t':=s9.toks) (it:=D) (fun b o hb e=>(hs'.2 b hb).trans e) pd.2.1 (by rw [eL];exact hDC) (.inr (by rw [eS];exact Nat.le_of_eq hD))
     (fun x c e=>Nat.ne_of_lt (cells_lt x c e)) fun p hp=>by
      rw [ePn] at hp
      rcases List.mem_append.mp hp with z | z
      ·exact Nat.ne_of_lt (pins_lt p z)
      ·exact Nat.ne_of_lt (fpo _ (of_pinsAt z).1)
    have hg'':h'.get? D=some { cls:=.type "list",data:=.seq (its ++ [v]).toArray nn' }:=by
     rw [hg']
     simp
    exact fin (dpin (s':={ s9 with heap:=h' }) I11 pd.2.1 hg'') (vs4.append (.cons r9 .nil)) q9
 exact codeAny_compStart_list (loop _ rfl) (T.self X.A 0 _ _ _ st1 (loop _ rfl))
end
def tComp (src:List (Option Nat)) (wi:TI) (g:TG) (tt:TT) (te:TE):TE:=fun σ H Q=>wi σ H fun J H1=>CompW J g tt te (sub src σ) H1 Q
section
variable {X:Cx}
theorem pe_comp {tg iter elt:Expr}{ifs:List Expr}{scope osc:Scope}{pos:Pos}{N oN:List Str}{src:List (Option Nat)}{wi:TI}{g:TG}{tt:TT}{te:TE} (B:BlkOk N src scope osc oN) (hi:PI X tg iter wi)
  (hb:∀ cl s H fp pins C,PG (blk X N scope cl s H fp pins C) tg g∧PTs (blk X N scope cl s H fp pins C) ifs tt∧PE (blk X N scope cl s H fp pins C) elt te)
  (hc:X.calm=true:=by rfl) (eo:X.env.scope=osc:=by rfl) (eN:X.N=oN:=by rfl)
  (hs:∀ x,foldedSetIterable iter X.env x=pure x:=by intro _;rfl):PE X (.ListComp elt [⟨tg,iter,ifs,0⟩] scope pos) (tComp src wi g tt te):=by
 subst eo eN
 constructor
 intro pins s σ H Q I h
 rw [eval_ListComp]
 refine wpAny_comprehension_free (use:=none) (cl:=closL X.env scope.names []) rfl hs (closureFor_L (I.clos B)) B.kind B.names (thn (hi pins s σ H _ I h) fun xv s1 h1=>thn h1 fun itv s2 h2=>?_)
 obtain ⟨it,fp,tn,J,H2,e,I2,T,st2,f2,cw⟩:=h2
 subst e
 refine comp_core B hc hb I2 T st2 f2 cw fun D C H' m s' J' nsC fC hDC q=>?_
 refine ⟨m,nsC,fun h' sb=>⟨.ref D,H',?_,rfl,q⟩⟩
 obtain ⟨f0,f1,_,f3,f4,f5⟩:=fC
 exact J'.turned (t':=s'.toks) (fun b o hb e=>(sb.2 b hb).trans e) f0 f1 f3 f4 f5
theorem ps_setComp {tg iter elt:Expr}{ifs:List Expr}{scope osc:Scope}{pos ps py:Pos}{y:Str}{i:Nat}{N oN:List Str}{src:List (Option Nat)}{wi:TI}{g:TG}{tt:TT}{te:TE} (B:BlkOk N src scope osc oN) (hN:X.N.Nodup) (hy:X.N[i]?=some y) (hi:PI X tg iter wi)
  (hb:∀ cl s H fp pins C,PG (blk X N scope cl s H fp pins C) tg g∧PTs (blk X N scope cl s H fp pins C) ifs tt∧PE (blk X N scope cl s H fp pins C) elt te)
  (hloc:X.env.scope.names.lookup y=some .local:=by rfl)
  (hsw:swapsWith (.ListComp elt [⟨tg,iter,ifs,0⟩] scope pos) (some (.Name y py)) ps.line X.env=pure true:=by rfl)
  (hc:X.calm=true:=by rfl) (eo:X.env.scope=osc:=by rfl) (eN:X.N=oN:=by rfl)
  (hs:∀ x,foldedSetIterable iter X.env x=pure x:=by intro _;rfl):PS X (.Assign [.Name y py] (.ListComp elt [⟨tg,iter,ifs,0⟩] scope pos) ps) (tAsg (tComp src wi g tt te) (gName i)):=by
 subst eo eN
 constructor
 intro pins s σ H D I h
 rw [exec_Assign_Name_used _ _ _ _ hsw]
 refine wpAny_bind (wpAny_standAt (wpAny_bind ?_))
 show wpAny _ _ (evalThenUse (.ListComp elt [⟨tg,iter,ifs,0⟩] scope pos) X.env (assign (.Name y py) X.env)) _ _ s
 have e:evalThenUse (.ListComp elt [⟨tg,iter,ifs,0⟩] scope pos) X.env (assign (.Name y py) X.env)=(do
   let _ ← comprehension (.ListComp elt [⟨tg,iter,ifs,0⟩] scope pos) scope X.env (firstIterPos [⟨tg,iter,ifs,0⟩] pos) (newList []) (firstAsync [⟨tg,iter,ifs,0⟩]) (firstIter [⟨tg,iter,ifs,0⟩] X.env) (some (assign (.Name y py) X.env))):=rfl
 rw [e]
 refine wpAny_bind ?_
 refine wpAny_comprehension_free (use:=some (assign (.Name y py) X.env)) (cl:=closL X.env scope.names []) rfl hs (closureFor_L (I.clos B)) B.kind B.names (thn (hi pins s σ H _ I h) fun xv s1 h1=>thn h1 fun itv s2 h2=>?_)
 obtain ⟨it,fp,tn,J,H2,e,I2,T,st2,f2,cw⟩:=h2
 subst e
 refine comp_core B hc hb I2 T st2 f2 cw fun D' C H' m s' J' nsC fC hDC q=>?_
 obtain ⟨f0,f1,_,f3,f4,f5⟩:=fC
 refine wpAny_assign_Name (store_ok2 J' hN hy (.inl hloc) (v:=.ref D') rfl (fun s'' J'' ⟨a,sb,ha⟩=>?_) (.inr hloc))
 have haC:C≠a:=by
  rcases ha with rfl | ha
  ·exact f1
  ·exact fun z=>f4 y a ha z.symm
 refine ⟨m,nsC.sameBut sb haC,fun h' sb'=>wpAny_pure (wpAny_pure ⟨_,H',J''.turned (t':=s''.toks) (fun b o hb e=>(sb'.2 b hb).trans e) f0 f1 f3 f4 f5,q⟩)⟩
end
end L2
namespace L2
open PySem PySem.Spec PyProof.Rows
section
variable {X:Cx}
def CDivL (i j:Int):Prop:=0 < j∧j.natAbs.log2 < 9000
theorem CDivL.of {i j:Int} (h:0 < j) (h2:j < 2 ^ 512):CDivL i j:=by
 refine ⟨h,?_⟩
 have h0:j.natAbs≠0:=by omega
 have:j.natAbs.log2 < 512:=(Nat.log2_lt h0).mpr (by
  have e:((2:Int) ^ 512)=((2 ^ 512:Nat):Int):=by decide
  rw [e] at h2
  omega)
 omega
theorem op_fdivL:OpR X (binaryOp .FloorDiv) (rI CDivL fun i j=>.int (i / j)):=opI fun i j _ _ _ _ _ hc q=>by
 have h1:(0:Int) < j:=hc.1
 refine floordiv_int (by omega) ?_ (Or.inl (PyProof.noPylong_of_log2 hc.2))
 rw [Int.fdiv_eq_ediv_of_nonneg i (by omega)]
 exact q
theorem sl_str:SlR X (fun x lo hi H Q=>∃ z,x=.str z∧z.length≤sizeLine∧Q (.str (Txt.slice z lo hi)) H):=by
 intro pins s σ H x v vl vu lo hi sl Q I rx hs pl pu h
 obtain ⟨z,rfl,hz,q⟩:=h
 obtain ⟨t,rfl⟩:=rx
 refine ⟨"str",_,F.slot_str_getitem.lookup,typeIs_str _ _ _,?_⟩
 have fin:∀ t' k,EP X pins σ Q (.str (Txt.slice z lo hi) t') { s with toks:=k }:=fun t' k=>⟨.str _,H,I.tok _,⟨_,rfl⟩,q⟩
 obtain ⟨o,ho,hc,hd⟩:=hs
 cases pl with
 | none=>
  cases pu with
  | none=>exact wpAny_getItem_str_slice (l:=none) (u:=none) (st:=none) ⟨o,ho,hc,hd⟩ rfl (post_val_or_str ⟨Nat.le_trans (Txt.slice_le z _ _) hz,fin⟩)
  | int j uj=>exact wpAny_getItem_str_slice (l:=none) (u:=some (j,uj)) (st:=none) ⟨o,ho,hc,hd⟩ rfl (post_val_or_str ⟨Nat.le_trans (Txt.slice_le z _ _) hz,fin⟩)
 | int i ui=>
  cases pu with
  | none=>exact wpAny_getItem_str_slice (l:=some (i,ui)) (u:=none) (st:=none) ⟨o,ho,hc,hd⟩ rfl (post_val_or_str ⟨Nat.le_trans (Txt.slice_le z _ _) hz,fin⟩)
  | int j uj=>exact wpAny_getItem_str_slice (l:=some (i,ui)) (u:=some (j,uj)) (st:=none) ⟨o,ho,hc,hd⟩ rfl (post_val_or_str ⟨Nat.le_trans (Txt.slice_le z _ _) hz,fin⟩)
theorem strs_of:∀ {ys:List Str}{us:List Value},Vals (ys.map V.str) us→StrsAre us ys
 | [],_,.nil=>.nil
 | y :: ys,_,.cons ⟨t,rfl⟩ r=>.cons y t (strs_of r)
theorem mt_join:MtR X "str.join" (fun x xs H Q=>∃ z p ys,x=.str z∧xs=[.ref p]∧SqL X.K H p (ys.map V.str)∧(ys.map (·.length)).sum + ys.length * z.length≤16777216∧Q (.str (Txt.join z ys)) H):=by
 intro pins s σ H x xs v us Q I rx r h
 obtain ⟨z,p,ys,rfl,rfl,hx,hz,q⟩:=h
 obtain ⟨t,rfl⟩:=rx
 obtain ⟨u,rfl,ru⟩:=vals1 r
 cases ru
 obtain ⟨its,rv,pl,_⟩:=I.list hx
 exact join_list pl.isList (by simpa using strs_of rv) hz fun t' k=>⟨.str _,H,I.tok _,⟨_,rfl⟩,q⟩
theorem bools_of:∀ {bs:List Bool}{us:List Value},Vals (bs.map V.bl) us→∀ (i:Nat) v,us[i]?=some v→∃ b,bs[i]?=some b∧v=.bool b
 | [],_,.nil,i,v,e=>by simp at e
 | b :: bs,_,.cons rfl r,0,v,e=>by simp at e;exact ⟨b,rfl,e.symm⟩
 | b :: bs,_,.cons rfl r,i + 1,v,e=>by
  obtain ⟨c,h1,h2⟩:=bools_of r i v (by simpa using e)
  exact ⟨c,by simpa using h1,h2⟩
theorem range_allB (bs:List Bool):((List.range bs.length).all fun i=>(bs[i]?).getD true)=bs.all id:=by
 rw [Bool.eq_iff_iff,List.all_eq_true,List.all_eq_true]
 constructor
 ·intro h b hb
  obtain ⟨i,hi,e⟩:=List.mem_iff_getElem.mp hb
  have:=h i (List.mem_range.mpr hi)
  rw [List.getElem?_eq_getElem hi] at this
  simpa [e] using this
 ·intro h i hi
  have hi':=List.mem_range.mp hi
  rw [List.getElem?_eq_getElem hi']
  exact h _ (List.getElem_mem hi')
theorem range_anyB (bs:List Bool):((List.range bs.length).any fun i=>(bs[i]?).getD false)=bs.any id:=by
 rw [Bool.eq_iff_iff,List.any_eq_true,List.any_eq_true]
 constructor
 ·rintro ⟨i,hi,e⟩
  have hi':=List.mem_range.mp hi
  rw [List.getElem?_eq_getElem hi'] at e
  exact ⟨_,List.getElem_mem hi',e⟩
 ·rintro ⟨b,hb,e⟩
  obtain ⟨i,hi,e2⟩:=List.mem_iff_getElem.mp hb
  refine ⟨i,List.mem_range.mpr hi,?_⟩
  rw [List.getElem?_eq_getElem hi,e2]
  exact e
theorem call_all (hc:X.calm=true):CallR X (.builtin "all") (fun xs H Q=>∃ (p:Addr) (bs:List Bool),xs=[.ref p]∧SqL X.K H p (bs.map V.bl)∧Q (.bl (bs.all id)) H):=by
 intro pins s σ H xs us Q I r h
 obtain ⟨p,bs,rfl,hx,q⟩:=h
 obtain ⟨u,rfl,ru⟩:=vals1 r
 cases ru
 obtain ⟨its,rv,pl,_⟩:=I.list hx
 have hl:=pl.isList
 have hlen:its.length=bs.length:=by have:=rv.length;simpa using this.symm
 have hlt:p < s.heap.objs.size:=by obtain ⟨_,e,_⟩:=hl;exact Heap.lt_size e
 refine call_all_walk (wpAny_pyIter_list hl ?_)
 refine ⟨s.heap.objs.size,[s.heap.objs.size,p],[s.heap.objs.size],its.toArray.size,_,_,fun i=>(bs[i]?).getD true,rfl,Walks.list (A:=X.A.in1) (I.ok.hd hc) _ p (Nat.ne_of_lt hlt) its.toArray,
  ⟨⟨_,Heap.get?_push_size _ rfl,rfl,rfl⟩,hl.push _⟩,fun i v s' Q' E' hP hQ=>?_,fun h' tk hk=>?_⟩
 ·obtain ⟨b,e,rfl⟩:=bools_of rv i v (by simpa using hP)
  simp only [e,Option.getD_some] at hQ
  exact wpAny_truthy_bool hQ
 ·rw [List.size_toArray,hlen,range_allB]
  exact ⟨.bl _,H,I.kept fun b x e=>hk b x (fun hm=>by rw [List.mem_singleton.mp hm] at e;exact Nat.lt_irrefl _ (Heap.lt_size e)) (Heap.get?_push_of_some _ e),rfl,q⟩
theorem call_any (hc:X.calm=true):CallR X (.builtin "any") (fun xs H Q=>∃ (p:Addr) (bs:List Bool),xs=[.ref p]∧SqL X.K H p (bs.map V.bl)∧Q (.bl (bs.any id)) H):=by
 intro pins s σ H xs us Q I r h
 obtain ⟨p,bs,rfl,hx,q⟩:=h
 obtain ⟨u,rfl,ru⟩:=vals1 r
 cases ru
 obtain ⟨its,rv,pl,_⟩:=I.list hx
 have hl:=pl.isList
 have hlen:its.length=bs.length:=by have:=rv.length;simpa using this.symm
 have hlt:p < s.heap.objs.size:=by obtain ⟨_,e,_⟩:=hl;exact Heap.lt_size e
 refine call_any_walk (wpAny_pyIter_list hl ?_)
 refine ⟨s.heap.objs.size,[s.heap.objs.size,p],[s.heap.objs.size],its.toArray.size,_,_,fun i=>(bs[i]?).getD false,rfl,Walks.list (A:=X.A.in1) (I.ok.hd hc) _ p (Nat.ne_of_lt hlt) its.toArray,
  ⟨⟨_,Heap.get?_push_size _ rfl,rfl,rfl⟩,hl.push _⟩,fun i v s' Q' E' hP hQ=>?_,fun h' tk hk=>?_⟩
 ·obtain ⟨b,e,rfl⟩:=bools_of rv i v (by simpa using hP)
  simp only [e,Option.getD_some] at hQ
  exact wpAny_truthy_bool hQ
 ·rw [List.size_toArray,hlen,range_anyB]
  exact ⟨.bl _,H,I.kept fun b x e=>hk b x (fun hm=>by rw [List.mem_singleton.mp hm] at e;exact Nat.lt_irrefl _ (Heap.lt_size e)) (Heap.get?_push_of_some _ e),rfl,q⟩
def eqVs:List V→List V→Bool
 | [],[]=>true
 | x :: xs,y :: ys=>eqV x y && eqVs xs ys
 | _,_=>false
theorem eqVs_len:∀ {xs ys:List V},xs.length≠ys.length→eqVs xs ys=false
 | [],[],h=>absurd rfl h
 | [],_ :: _,_=>rfl
 | _ :: _,[],_=>rfl
 | x :: xs,y :: ys,h=>by
  show (eqV x y && eqVs xs ys)=false
  rw [eqVs_len (fun e=>h (by simp [e])),Bool.and_false]
theorem eqVs_all:∀ {xs ys:List V},xs.length=ys.length→((List.range xs.length).all fun i=>eqV (xs[i]?.getD .non) (ys[i]?.getD .non))=eqVs xs ys
 | [],[],_=>rfl
 | x :: xs,y :: ys,h=>by
  have ih:=eqVs_all (xs:=xs) (ys:=ys) (by simpa using h)
  rw [List.length_cons,List.range_succ_eq_map,List.all_cons,List.all_map]
  show (eqV x y && _)=(eqV x y && eqVs xs ys)
  rw [← ih]
  rfl
theorem eq_items {A:Around}{s:Shared}{xs ys:List V}{us ws:List Value} (r1:Vals xs us) (r2:Vals ys ws) (f1:xs.all flatV=true) (f2:ys.all flatV=true) (j:Nat) (h1:j < us.toArray.size) (h2:j < ws.toArray.size):
  SeqAt.EqAt A s us.toArray[j] ws.toArray[j] (eqV (xs[j]?.getD .non) (ys[j]?.getD .non)):=by
 have l1:=r1.length
 have l2:=r2.length
 have h1':j < xs.length:=by simpa [l1] using h1
 have h2':j < ys.length:=by simpa [l2] using h2
 obtain ⟨u,eu,ru⟩:=r1.get (List.getElem?_eq_getElem h1')
 obtain ⟨w',ew,rw'⟩:=r2.get (List.getElem?_eq_getElem h2')
 have e1:us.toArray[j]=u:=by
  rw [List.getElem?_eq_getElem (by simpa using h1)] at eu
  simpa using eu
 have e2:ws.toArray[j]=w':=by
  rw [List.getElem?_eq_getElem (by simpa using h2)] at ew
  simpa using ew
 rw [e1,e2,List.getElem?_eq_getElem h1',List.getElem?_eq_getElem h2']
 exact eqAt_V ru rw' (List.all_eq_true.mp f1 _ (List.getElem_mem h1')) (List.all_eq_true.mp f2 _ (List.getElem_mem h2'))
theorem op_eqL (hu:X.A.units < cLine):OpR X (compareOp .Eq) (fun x y H Q=>∃ p q xs ys,x=.ref p∧y=.ref q∧SqL X.K H p xs∧SqL X.K H q ys∧xs.all flatV=true∧ys.all flatV=true∧Q (.bl (eqVs xs ys)) H):=by
 intro pins s σ H x y v u Q I rx ry h
 obtain ⟨p,q,xs,ys,rfl,rfl,h1,h2,f1,f2,hq⟩:=h
 cases rx
 cases ry
 obtain ⟨us,r1,p1,_⟩:=I.list h1
 obtain ⟨ws,r2,p2,_⟩:=I.list h2
 have l1:=r1.length
 have l2:=r2.length
 by_cases e:xs.length=ys.length
 ·refine SeqAt.eq_listAt p1.isList p2.isList (by simp;omega) hu (eq_items r1 r2 f1 f2) ?_
  rw [List.size_toArray,← l1,eqVs_all e]
  exact ⟨.bl _,H,I,rfl,hq⟩
 ·refine SeqAt.eq_list_lengthsAt p1.isList p2.isList (by simp;omega) hu ?_
  rw [eqVs_len e] at hq
  exact ⟨.bl _,H,I,rfl,hq⟩
theorem op_neL (hu:X.A.units < cLine):OpR X (compareOp .NotEq) (fun x y H Q=>∃ p q xs ys,x=.ref p∧y=.ref q∧SqL X.K H p xs∧SqL X.K H q ys∧xs.all flatV=true∧ys.all flatV=true∧Q (.bl (!eqVs xs ys)) H):=by
 intro pins s σ H x y v u Q I rx ry h
 obtain ⟨p,q,xs,ys,rfl,rfl,h1,h2,f1,f2,hq⟩:=h
 cases rx
 cases ry
 obtain ⟨us,r1,p1,_⟩:=I.list h1
 obtain ⟨ws,r2,p2,_⟩:=I.list h2
 have l1:=r1.length
 have l2:=r2.length
 by_cases e:xs.length=ys.length
 ·refine SeqAt.RcNeAt.lists p1.isList p2.isList (by simp;omega) hu (eq_items r1 r2 f1 f2) X.prog X.w _ _ ?_
  rw [List.size_toArray,← l1,eqVs_all e]
  exact ⟨.bl _,H,I,rfl,hq⟩
 ·refine SeqAt.RcNeAt.lists_lengths p1.isList p2.isList (by simp;omega) hu X.prog X.w _ _ ?_
  rw [eqVs_len e] at hq
  exact ⟨.bl _,H,I,rfl,hq⟩
end
end L2
namespace L2
open PySem PySem.Spec PyProof.Rows
theorem sizeLine_big {n:Nat} (h:n≤1000000):n≤sizeLine:=by
 have:sizeLine=16777216:=sizeLine_eq
 omega
theorem comp_by {J:It}{g:TG}{tt:TT}{te:TE}{σ₀:St}{H₀:Hp}{Q:VK} (n:Nat) (Pv:Nat→List V→St→Hp→Prop) (h0:Pv 0 [] σ₀ H₀) (hn:n≤sizeLine) (hlen:∀ i ys σ H,Pv i ys σ H→ys.length≤i)
  (hgo:∀ i ys σ H,i < n→Pv i ys σ H→J.go i H) (hstop:∀ ys σ H,Pv n ys σ H→J.stop n H)
  (hs:∀ i ys σ H x H',i < n→Pv i ys σ H→J.yld i H x H'→g x σ H' fun σ2 H2=>tt σ2 H2 fun b H3=>if b=true then te σ2 H3 fun v H4=>Pv (i + 1) (ys ++ [v]) σ2 H4 else Pv (i + 1) ys σ2 H3)
  (hd:∀ ys σ H,Pv n ys σ H→∀ D,H D=none→Q (.ref D) (upd H D (.lst ys))):CompW J g tt te σ₀ H₀ Q:=by
 refine ⟨fun i m ys σ H=>m=n - i∧i≤n∧Pv i ys σ H,⟨n,by simp,Nat.zero_le _,h0⟩,?_⟩
 rintro i m ys σ H ⟨rfl,hi,p⟩
 refine ⟨Nat.le_trans (hlen i ys σ H p) (Nat.le_trans hi hn),?_⟩
 by_cases hlt:i < n
 ·exact .inr ⟨hgo i ys σ H hlt p,Pv (i + 1),fun zs σ' H' p'=>⟨n - (i + 1),by omega,rfl,hlt,p'⟩,fun x H' y=>hs i ys σ H x H' hlt p y⟩
 ·have e:i=n:=by omega
  subst e
  exact .inl ⟨hstop ys σ H p,hd ys σ H p⟩
theorem comp_range {lo:Int}{n:Nat}{g:TG}{tt:TT}{te:TE}{σ₀:St}{H₀:Hp}{Q:VK} (Pv:Nat→List V→St→Hp→Prop) (h0:Pv 0 [] σ₀ H₀) (hn:n≤sizeLine) (hlen:∀ i ys σ H,Pv i ys σ H→ys.length≤i)
  (hs:∀ i ys σ H,i < n→Pv i ys σ H→g (.int (lo + i)) σ H fun σ2 H2=>tt σ2 H2 fun b H3=>if b=true then te σ2 H3 fun v H4=>Pv (i + 1) (ys ++ [v]) σ2 H4 else Pv (i + 1) ys σ2 H3)
  (hd:∀ ys σ H,Pv n ys σ H→∀ D,H D=none→Q (.ref D) (upd H D (.lst ys))):CompW (Itr lo n) g tt te σ₀ H₀ Q:=
 comp_by n Pv h0 hn hlen (fun i _ _ _ h _=>h) (fun _ _ _ _=>Nat.le_refl _) (fun i ys σ H v H' hi p y=>by
  obtain ⟨e,rfl⟩:=y
  subst e
  exact hs i ys σ _ hi p) hd
theorem comp_list {K:PySem.W.Frag}{a:Addr}{xs:List V}{g:TG}{tt:TT}{te:TE}{σ₀:St}{H₀:Hp}{Q:VK} (Pv:Nat→List V→St→Hp→Prop) (h0:Pv 0 [] σ₀ H₀) (hn:xs.length≤sizeLine) (hlen:∀ i ys σ H,Pv i ys σ H→ys.length≤i)
  (hl:∀ i ys σ H,Pv i ys σ H→SqL K H a xs)
  (hs:∀ i x ys σ H,xs[i]?=some x→Pv i ys σ H→g x σ H fun σ2 H2=>tt σ2 H2 fun b H3=>if b=true then te σ2 H3 fun v H4=>Pv (i + 1) (ys ++ [v]) σ2 H4 else Pv (i + 1) ys σ2 H3)
  (hd:∀ ys σ H,Pv xs.length ys σ H→∀ D,H D=none→Q (.ref D) (upd H D (.lst ys))):CompW (Itl K a) g tt te σ₀ H₀ Q:=
 comp_by xs.length Pv h0 hn hlen (fun i ys σ H h p=>⟨xs,xs[i],hl i ys σ H p,by simp [h]⟩) (fun ys σ H p=>⟨xs,hl _ ys σ H p,Nat.le_refl _⟩) (fun i ys σ H v H' hi p y=>by
  obtain ⟨e,y⟩:=y
  subst e
  exact hs i v ys σ _ (y xs (hl i ys σ _ p)) p) hd
theorem comp_tup {K:PySem.W.Frag}{a:Addr}{xs:List V}{g:TG}{tt:TT}{te:TE}{σ₀:St}{H₀:Hp}{Q:VK} (Pv:Nat→List V→St→Hp→Prop) (h0:Pv 0 [] σ₀ H₀) (hn:xs.length≤sizeLine) (hlen:∀ i ys σ H,Pv i ys σ H→ys.length≤i)
  (hl:∀ i ys σ H,Pv i ys σ H→SqT K H a xs)
  (hs:∀ i x ys σ H,xs[i]?=some x→Pv i ys σ H→g x σ H fun σ2 H2=>tt σ2 H2 fun b H3=>if b=true then te σ2 H3 fun v H4=>Pv (i + 1) (ys ++ [v]) σ2 H4 else Pv (i + 1) ys σ2 H3)
  (hd:∀ ys σ H,Pv xs.length ys σ H→∀ D,H D=none→Q (.ref D) (upd H D (.lst ys))):CompW (Itt K a) g tt te σ₀ H₀ Q:=
 comp_by xs.length Pv h0 hn hlen (fun i ys σ H h p=>⟨xs,xs[i],hl i ys σ H p,by simp [h]⟩) (fun ys σ H p=>⟨xs,hl _ ys σ H p,Nat.le_refl _⟩) (fun i ys σ H v H' hi p y=>by
  obtain ⟨e,y⟩:=y
  subst e
  exact hs i v ys σ _ (y xs (hl i ys σ _ p)) p) hd
def KeepBut (p:Addr) (H H':Hp):Prop:=∀ b o,H b=some o→b≠p→H' b=some o
theorem KeepBut.refl (p:Addr) (H:Hp):KeepBut p H H:=fun _ _ e _=>e
theorem KeepBut.trans {p:Addr}{H H1 H2:Hp} (a:KeepBut p H H1) (b:KeepBut p H1 H2):KeepBut p H H2:=fun c o e h=>b c o (a c o e h) h
theorem KeepBut.same {p:Addr}{H H1 H2:Hp} (a:KeepBut p H H1) (b:Same H1 H2):KeepBut p H H2:=fun c o e h=>b c o (a c o e h)
theorem Same.but {p:Addr}{H H1:Hp} (a:Same H H1):KeepBut p H H1:=fun c o e _=>a c o e
theorem KeepBut.upd {p:Addr}{o:HO}{H H1:Hp} (a:KeepBut p H H1):KeepBut p H (upd H1 p o):=fun c u e h=>by rw [upd_ne h];exact a c u e h
theorem Same.new {p:Addr}{o:HO}{H:Hp} (h:H p=none):Same H (upd H p o):=fun c u e=>by rw [upd_ne (ne_of_none e h)];exact e
section
variable {X:Cx}
end
section
variable {X:Cx}
def tMid (t:TS):TS:=fun D σ H=>∃ R:St→Hp→Prop,t { D with nx:=R } σ H∧∀ σ' H',R σ' H'→D.nx σ' H'
theorem ps_mid {st:Stmt}{t:TS} (h:PS X st t):PS X st (tMid t):=by
 constructor
 intro pins s σ H D I q
 obtain ⟨R,q1,q2⟩:=q
 refine thn (h pins s σ H _ I q1) fun f s' z=>?_
 cases f with
 | next=>obtain ⟨σ',H',I',r⟩:=z;exact ⟨σ',H',I',q2 _ _ r⟩
 | brk=>exact z
 | cont=>exact z
 | ret u=>exact z
def tMidT (t:TT):TT:=fun σ H Q=>∃ R:Bool→Hp→Prop,t σ H R∧∀ b H',R b H'→Q b H'
theorem pt_mid {e:Expr}{t:TT} (h:PT X e t):PT X e (tMidT t):=by
 constructor
 intro pins s σ H Q I q
 obtain ⟨R,q1,q2⟩:=q
 exact thn (h pins s σ H _ I q1) fun b s' ⟨H',I',z⟩=>⟨H',I',q2 _ _ z⟩
end
theorem flat_ints:∀ ns:List Int,(ns.map V.int).all flatV=true
 | []=>rfl
 | _ :: r=>flat_ints r
theorem atI_in {xs:List V}{i:Int} (h0:0≤i) (h1:i < xs.length):∃ v,v∈xs∧atI xs i=some v:=by
 have hlt:i.toNat < xs.length:=by omega
 refine ⟨xs[i.toNat],List.getElem_mem hlt,?_⟩
 have e:=atI_nat (xs:=xs) (j:=i.toNat) (v:=xs[i.toNat]) (List.getElem?_eq_getElem hlt)
 rw [Int.toNat_of_nonneg h0] at e
 exact e
def noStar:Expr→Bool
 | .Starred ..=>false
 | _=>true
theorem star_cons {e:Expr}{es:List Expr}{env:Env} (h:noStar e=true):starEach (e :: es) env=(false,eval e env) :: starEach es env:=by
 cases e <;> first | rfl | cases h
theorem pa_c {X:Cx}{e:Expr}{es:List Expr}{te:TE}{t:TA} (ha:PE X e te) (hr:PA X es t) (hs:noStar e=true:=by rfl):PA X (e :: es) (tCons te t):=pa_cons ha hr (star_cons hs)
end L2
namespace L2
open PySem PySem.Spec PyProof.Rows
section
variable {X:Cx}
theorem call_sum (hc:X.calm=true):CallR X (.builtin "sum") (fun xs H Q=>∃ (p:Addr) (ns:List Int),xs=[.ref p]∧SqL X.K H p (ns.map V.int)∧Q (.int ns.sum) H):=by
 intro pins s σ H xs us Q I r h
 obtain ⟨p,ns,rfl,hx,q⟩:=h
 obtain ⟨u,rfl,ru⟩:=vals1 r
 cases ru
 obtain ⟨its,rv,pl,_⟩:=I.list hx
 have hi:IntsAre its ns:=intsAre_of rv
 have hl:=pl.isList
 obtain ⟨xs,hx'⟩:=hi.allInts.items
 have hl':s.heap.IsList p (intItems xs):=hx' ▸ hl
 refine sum_intListG (I.ok.hd hc) hl' fun h' tk t' hk=>?_
 have e1:ns=xs.toList.map (·.1):=by
  rw [← nums_intItems,← hx']
  exact (show numsOf its.toArray.toList=ns from hi.numsOf).symm
 have e2:preSum (numAt xs) xs.size=ns.sum:=by
  rw [preSum_eq,List.take_of_length_le (by simp),e1]
 rw [e2]
 exact ⟨.int ns.sum,H,I.kept hk,⟨_,rfl⟩,q⟩
theorem Inv.turnedL {pins:List (Addr×Obj)}{σ:St}{H:Hp}{s:Shared}{h':Heap}{t':Nat}{fp:List Addr} (I:Inv X pins σ H s) (k:∀ b o,b ∉ fp→s.heap.get? b=some o→h'.get? b=some o) (hf:∀ b∈fp,FpOk X pins H b):
  Inv X pins σ H { s with heap:=h',toks:=t' }:=by
 have nit:∀ b u,H b=some u→b ∉ fp:=fun b u e z=>by rw [(hf b z).1] at e;cases e
 refine I.step (g':=s.gens) (d':=s.drawn) (ch:=fp) (fun b hb=>?_) (fun b o _ _ hc e _=>k b o hc e) (fun b o _ _ hc e _=>⟨o.slots,k b o hc e⟩) (fun _ _ _ _ n=>n)
  (fun b o hc e=>⟨o,k b o hc e⟩) (fun _ _ e=>e) (fun _ _ _ e=>e) (fun b ps e=>⟨#[],by rw [e];simp⟩) (fun m hm=>?_) (fun b u e=>?_) I.bare
 ·obtain ⟨_,h1,_,h3,h4,h5⟩:=hf b hb
  exact ⟨h3,h1,h4,h5⟩
 ·obtain ⟨o,es,ep,ho,r⟩:=hm
  exact ⟨o,es,ep,k _ o (fun z=>(hf _ z).2.1 rfl) ho,r⟩
 ·refine (I.hok b u e).stay (fun c v hc q=>k c v ?_ q) (fun _ q=>q) fun _ _ q=>q
  rcases hc with z | z
  ·rw [z];exact nit b u e
  ·exact nit c _ z
structure ZA (z TI TO i1 i2:Addr):Prop where
 a1:TI≠z
 a2:TO≠z
 a3:i1≠z
 a4:i2≠z
 a5:TI≠TO
 a6:TI≠i1
 a7:TI≠i2
 a8:TO≠i1
 a9:TO≠i2
 a10:i1≠i2
end
end L2
namespace L2
open PySem PyProof.Rows
def stepS (σ:List Str) (v:Str):List Str:=if v∈σ then σ else σ ++ [v]
def metS (val:Nat→Str):Nat→List Str
 | 0=>[]
 | i + 1=>stepS (metS val i) (val i)
theorem any_mem (σ:List Str) (k:Str):(σ.any fun x=>x == k)=decide (k∈σ):=by
 rw [Bool.eq_iff_iff,List.any_eq_true,decide_eq_true_iff]
 constructor
 ·rintro ⟨x,hx,e⟩
  rw [beq_iff_eq] at e
  exact e ▸ hx
 ·intro h
  exact ⟨k,h,beq_self_eq_true k⟩
theorem stepS_any (σ:List Str) (v k:Str):((stepS σ v).any fun x=>x == k)=((σ.any fun x=>x == k) || decide (k=v)):=by
 rw [any_mem,any_mem]
 unfold stepS
 split
 ·next h=>
  rw [Bool.eq_iff_iff]
  simp only [decide_eq_true_eq,Bool.or_eq_true]
  constructor
  ·intro z;exact .inl z
  ·rintro (z | z)
   ·exact z
   ·exact z ▸ h
 ·rw [Bool.eq_iff_iff]
  simp
theorem stepS_length (σ:List Str) (v:Str):(stepS σ v).length=if (σ.any fun x=>x == v)=true then σ.length else σ.length + 1:=by
 rw [any_mem]
 unfold stepS
 by_cases h:v∈σ
 ·rw [if_pos h,if_pos (decide_eq_true h)]
 ·rw [if_neg h,if_neg (by simpa using h),List.length_append];rfl
theorem metS_le (val:Nat→Str):∀ i,(metS val i).length≤i
 | 0=>Nat.le_refl _
 | i + 1=>by
  have ih:=metS_le val i
  show (stepS _ _).length≤_
  rw [stepS_length]
  split <;> omega
theorem loop_strs {prog:Program}{w:World}{A:Around}{R:Result→Shared→Prop}{I:Addr}{fp wr:List Addr}{G:Array GenState→Array GenState→Prop}{n:Nat}{P:Nat→Value→Prop}{St:Nat→Shared→Prop}
  (W:WalksS prog w A.in1 I fp wr G n P St) (S:Addr) (hSf:¬ S∈fp) (val:Nat→Str) (hval:∀ (i:Nat) (v:Value),P i v→∃ t,v=Value.str (val i) t) (hb:n + 1 < scanBound):
  ∀ (k i:Nat) (s:Shared),n - i=k→i≤n→St i s→Heap.SetOf (PySem.strKind prog w) s.heap S (fun k'=>(metS val i).any fun x=>x == k') (metS val i).length→
   (∀ s':Shared,Moved (S :: wr) G s s'→Heap.SetOf (PySem.strKind prog w) s'.heap S (fun k'=>(metS val n).any fun x=>x == k') (metS val n).length→R (Except.ok (Flow.ret Value.none)) s')→
   codeAny (model prog w) A (Code.builtin "set.update.loop" { pos:=[Value.ref S,Value.ref I] }) R s:=by
 have hSw:¬ S∈wr:=fun h=>hSf (W.sub S h)
 have hsub:∀ b,b∈wr→b∈S :: wr:=fun b hb=>List.mem_cons_of_mem S hb
 intro k
 induction k with
 | zero=>
  intro i s hk hi hst hS hR
  have hin:i=n:=by omega
  subst hin
  refine codeAny_builtin PyProof.Rows.F.entry_set_update_loop ?_
  rw [Around.under_plainId PyProof.Rows.F.plain_set_update_loop]
  refine wpAny_bind (W.done s _ _ hst fun s' hm=>?_)
  refine wpAny_pure (hR s' (Moved.mono hm hsub) ?_)
  obtain ⟨o,es,ep,t,ho,rest⟩:=hS
  exact ⟨o,es,ep,t,hm.heap S o hSw ho,rest⟩
 | succ k ih=>
  intro i s hk hi hst hS hR
  have hlt:i < n:=by omega
  refine codeAny_builtin PyProof.Rows.F.entry_set_update_loop ?_
  rw [Around.under_plainId PyProof.Rows.F.plain_set_update_loop]
  refine wpAny_bind (W.item i s _ _ hlt hst fun v s' hP hst' hm=>?_)
  obtain ⟨t,rfl⟩:=hval i v hP
  have hS':Heap.SetOf (PySem.strKind prog w) s'.heap S (fun k'=>(metS val i).any fun x=>x == k') (metS val i).length:=by
   obtain ⟨o,es,ep,tb,ho,rest⟩:=hS
   exact ⟨o,es,ep,tb,hm.heap S o hSw ho,rest⟩
  have hroom:(metS val i).length + 1 < scanBound:=by
   have:=metS_le val i
   omega
  refine wpAny_bind (wpAny_holding (wpAny_holding (wpAny_bind ((PySem.strKind prog w).pyHash (strKind_is prog w (val i) t) ?_))))
  refine wpAny_setAddHashed_of (strKind_is prog w (val i) t) rfl hS' hroom fun h' hsb hS2=>?_
  refine wpAny_pure ⟨plainId_quiet PyProof.Rows.F.plain_set_update_loop _,?_⟩
  refine ih (i + 1) _ (by omega) hlt (W.frame (i + 1) s' h' _ hst' (Nat.le_succ s'.toks) fun b hb o e=>?_) ?_ fun s'' hm'' hS''=>?_
  ·rw [hsb.right b fun h=>hSf (h ▸ hb)]
   exact e
  ·refine SetOf_congr hS2 (fun k'=>?_) ?_
   ·show _=((stepS _ _).any _)
    rw [stepS_any]
   ·show _=(stepS _ _).length
    rw [stepS_length]
  ·refine hR s'' (Moved.trans W.gtrans (Moved.then_heap (Moved.mono hm hsub) (Nat.le_succ s'.toks) fun b o hb e=>?_) hm'') hS''
   rw [hsb.right b fun h=>hb (h ▸ List.mem_cons_self)]
   exact e
theorem call_set_strs {prog:Program}{w:World}{A:Around}{E:Value→Shared→Prop}{s:Shared}{l:Addr}{items:Array Value}{val:Nat→Str}{Q:Value→Shared→Prop} (hh:A.handled=none) (hl:s.heap.IsList l items)
  (hi:∀ (i:Nat) (v:Value),items[i]?=some v→∃ t,v=Value.str (val i) t) (hb:items.size + 1 < scanBound)
  (h:∀ (h':Heap) (tk:Nat),Heap.SetOf (PySem.strKind prog w) h' s.heap.objs.size (fun k'=>(metS val items.size).any fun x=>x == k') (metS val items.size).length→
   (∀ (b:Nat) (o:Obj),b < s.heap.objs.size→s.heap.get? b=some o→h'.get? b=some o)→Q (Value.ref s.heap.objs.size) { s with heap:=h',toks:=tk }):
  wpAny (model prog w) A (call (Value.type "set") [Value.ref l]) Q E s:=by
 obtain ⟨c,tl,hmro⟩:=F.called_set.mro
 have hmade:=F.called_set.made
 have hsub:=F.called_set.sub
 have hct:=F.typeCall_set_1 (Value.ref l)
 refine wpAny_call (codeAny_of_tree (wpAny_pure ⟨Code.quiet_builtin _ (by decide),codeAny_builtin F.entry_type_call ?_⟩))
 rw [Around.under_plain (weight_type_call_type "set" [Value.ref l] []) rfl]
 unfold Builtin.«type.__call__»
 dsimp only
 refine wpAny_ite_false (by first | rfl | decide) ?_
 refine wpAny_ite_false (by first | rfl | decide) ?_
 refine wpAny_bind (wpAny_of_eq hct ?_)
 refine wpAny_bind (wpAny_of_eq hmro ?_)
 refine wpAny_ite_false (by first | rfl | decide) ?_
 refine wpAny_bind (wpAny_of_eq hmade ?_)
 refine wpAny_bind (wpAny_pure ?_)
 refine wpAny_bind (wpAny_holding (wpAny_call (codeAny_mono (code_set_new_1 (Q₁:=fun obj s₁=>∃ led,obj=Value.ref s.heap.objs.size∧s₁={ s with heap:=s.heap.push { cls:=Value.type "set",data:=Data.set #[] 0 (SetTable.fresh 0 0 led) } }) (E:=E) (Value.ref l) fun led=>⟨led,rfl,rfl⟩) fun r s₁ hr=>?_)))
 cases r with
 | error e=>exact hr
 | ok fl=>
  cases fl with
  | next=>exact hr.elim
  | brk=>exact hr.elim
  | cont=>exact hr.elim
  | ret v=>
   obtain ⟨led,rfl,rfl⟩:=hr
   have hS:=Heap.get?_push_size s.heap (o:={ cls:=Value.type "set",data:=Data.set #[] 0 (SetTable.fresh 0 0 led) }) rfl
   have hT:Shared.TypeIs { s with heap:=s.heap.push { cls:=Value.type "set",data:=Data.set #[] 0 (SetTable.fresh 0 0 led) } } (Value.ref s.heap.objs.size) "set":=⟨_,hS,rfl⟩
   have hli:=F.called_set.init.lookup
   have hbi:=F.called_set.init.bind (Value.ref s.heap.objs.size)
   obtain ⟨ol,hol,hcl,nl,hdl⟩:=hl
   have hol':=Heap.get?_push_of_some { cls:=Value.type "set",data:=Data.set #[] 0 (SetTable.fresh 0 0 led) } hol
   have hl1:Heap.IsList (s.heap.push { cls:=Value.type "set",data:=Data.set #[] 0 (SetTable.fresh 0 0 led) }) l items:=⟨ol,hol',hcl,nl,hdl⟩
   refine wpAny_bind (wpAny_isInstance hT hsub ?_)
   refine wpAny_ite_false (by first | rfl | decide) ?_
   refine wpAny_bind (wpAny_holding ?_)
   unfold callSpecial?
   refine wpAny_bind (wpAny_specialOf hT hli ?_)
   dsimp only
   refine wpAny_holding ?_
   refine wpAny_bind (wpAny_of_eq hbi ?_)
   refine wpAny_bind (wpAny_call (codeAny_mono (codeAny_call_builtin F.called_set.init.plain F.entry_set_init (R:=fun r s'=>match r with | .ok (.ret v)=>v=.none∧Q (.ref s.heap.objs.size) s' | _=>False) (check_set_init_1 hT ?_)) fun r s₁ hr=>?_))
   ·unfold Builtin.«set.__init__»
    refine wpAny_bind (wpAny_ite_true (by first | rfl | decide) (wpAny_pure ?_))
    refine wpAny_bind (wpAny_bind (wpAny_bind (wpAny_typeOf hT (wpAny_ite_false (by first | rfl | decide) (wpAny_pure ?_)))))
    refine wpAny_pure ?_
    refine wpAny_bind ?_
    unfold checkCount
    refine wpAny_ite_false (by first | rfl | decide) ?_
    refine wpAny_ite_false (by first | rfl | decide) ?_
    refine wpAny_ite_false (by first | rfl | decide) (wpAny_pure ?_)
    refine wpAny_bind (wpAny_pure ?_)
    refine wpAny_bind ?_
    unfold setUsed setState
    refine wpAny_bind (wpAny_bind (wpAny_load' hS ?_))
    dsimp only
    refine wpAny_ite_false (by first | rfl | decide) (wpAny_pure ?_)
    refine wpAny_pure ?_
    refine wpAny_ite_false (by first | rfl | decide) ?_
    show wpAny _ _ (do let __r ← Builtin.Frozenset.updateFrom "set.__init__" s.heap.objs.size (Value.ref l);ret Value.none) _ _ _
    refine wpAny_bind ?_
    unfold Builtin.Frozenset.updateFrom
    refine wpAny_bind ?_
    have hTl:Shared.TypeIs { s with heap:=s.heap.push { cls:=Value.type "set",data:=Data.set #[] 0 (SetTable.fresh 0 0 led) } } (Value.ref l) "list":=⟨ol,hol',hcl⟩
    unfold Builtin.Frozenset.isAnySet
    refine wpAny_bind (wpAny_isInstance hTl F.sub_list_set ?_)
    refine wpAny_isInstance hTl F.sub_list_frozenset ?_
    refine wpAny_ite_false (by first | rfl | decide) ?_
    refine wpAny_bind (wpAny_typeOf hTl ?_)
    refine wpAny_ite_false (by first | rfl | decide) ?_
    refine wpAny_bind (wpAny_pyIter_list hl1 ?_)
    refine wpAny_bind (wpAny_runValue ?_)
    have hlS:l < s.heap.objs.size:=Heap.lt_size hol
    have hsz:(s.heap.push { cls:=Value.type "set",data:=Data.set #[] 0 (SetTable.fresh 0 0 led) }).objs.size=s.heap.objs.size + 1:=Heap.size_push _ _
    have hneI:l≠(s.heap.push { cls:=Value.type "set",data:=Data.set #[] 0 (SetTable.fresh 0 0 led) }).objs.size:=by rw [hsz];exact Nat.ne_of_lt (Nat.lt_succ_of_lt hlS)
    have hSf:¬ s.heap.objs.size∈[(s.heap.push { cls:=Value.type "set",data:=Data.set #[] 0 (SetTable.fresh 0 0 led) }).objs.size,l]:=by
     rw [hsz]
     simp only [List.mem_cons,List.not_mem_nil,or_false,not_or]
     exact ⟨Nat.ne_of_lt (Nat.lt_succ_self _),Nat.ne_of_gt hlS⟩
    have hh3:A.in1.in1.in1.handled=none:=hh
    refine loop_strs (Walks.toS (Walks.list hh3 _ l hneI items)) s.heap.objs.size hSf val hi hb (items.size - 0) 0 _ rfl (Nat.zero_le _) ⟨⟨_,Heap.get?_push_size _ rfl,rfl,rfl⟩,Heap.IsList.push hl1 _⟩ ?_ ?_
    ·have hget:=Heap.get?_push_of_some { cls:=Value.type "list_iterator",data:=Data.fields #[Value.ref l,Value.int 0 0] } hS
     exact SetOf_congr (Obj.SetObjOf.setOf (setObjOf_fresh led) hget (by show 0 < scanBound;decide)) (fun x=>rfl) rfl
    ·rintro ⟨h',g',d',tk',os'⟩ hm hS'
     refine wpAny_pure (wpAny_pure ⟨rfl,?_⟩)
     have e1:=hm.gens
     have e2:=hm.drawn
     have e3:=hm.os
     dsimp only at e1 e2 e3
     subst e1 e2 e3
     refine h h' tk' hS' fun b o hb e=>hm.heap b o ?_ ?_
     ·simp only [List.mem_cons,List.not_mem_nil,or_false,not_or]
      rw [hsz]
      exact ⟨Nat.ne_of_lt hb,Nat.ne_of_lt (Nat.lt_succ_of_lt hb)⟩
     ·exact Heap.get?_push_of_some _ (Heap.get?_push_of_some _ e)
   ·cases r with
    | error e=>exact hr.elim
    | ok fl=>
     cases fl with
     | next=>exact hr.elim
     | brk=>exact hr.elim
     | cont=>exact hr.elim
     | ret v=>
      obtain ⟨rfl,q⟩:=hr
      refine wpAny_pure ?_
      refine wpAny_ite_false (by first | rfl | decide) ?_
      exact wpAny_pure q
end L2
namespace L2
open PySem PyProof.Rows
section
variable {X:Cx}
def setS (P:Program) (w:World) (a:Addr) (ss:List Str):HO:=.ext fun h=>Heap.SetOf (PySem.strKind P w) h a (fun k=>(metS (fun i=>ss.getD i "") ss.length).any fun x=>x == k) (metS (fun i=>ss.getD i "") ss.length).length
theorem call_setS (hc:X.calm=true):CallR X (.type "set") (fun xs H Q=>∃ (p:Addr) (ss:List Str),xs=[.ref p]∧SqL X.K H p (ss.map V.str)∧ss.length≤1000∧∀ a,H a=none→Q (.ref a) (upd H a (setS X.prog X.w a ss))):=by
 intro pins s σ H xs us Q I r h
 obtain ⟨p,ss,rfl,hx,h1000,q⟩:=h
 obtain ⟨u,rfl,ru⟩:=vals1 r
 cases ru
 obtain ⟨its,rv,pl,_⟩:=I.list hx
 have hlen:=rv.length
 rw [List.length_map] at hlen
 refine call_set_strs (val:=fun i=>ss.getD i "") (I.ok.hd hc) pl.isList (fun i v hv=>?_) (by rw [List.size_toArray,← hlen];show _ < 4096;omega) fun h' tk hS hk=>?_
 ·have hv':its[i]?=some v:=by simpa using hv
  have hi:i < ss.length:=by
   rw [hlen]
   exact (List.getElem?_eq_some_iff.mp hv').1
  have e:(ss.map V.str)[i]?=some (V.str (ss.getD i "")):=by
   rw [List.getElem?_map,List.getElem?_eq_getElem hi]
   simp [hi]
  obtain ⟨u,hu,ru⟩:=rv.get e
  rw [hv'] at hu
  cases hu
  exact ru
 ·have esz:its.toArray.size=ss.length:=by rw [List.size_toArray,← hlen]
  rw [esz] at hS
  have hkk:∀ b u,s.heap.get? b=some u→h'.get? b=some u:=fun b u e=>hk b u (Heap.lt_size e) e
  have hn:H s.heap.objs.size=none:=I.hok.fresh (Nat.le_refl _)
  refine ⟨.ref s.heap.objs.size,_,I.laid (t':=tk) (o:=setS X.prog X.w s.heap.objs.size ss) hkk (Nat.le_refl _) ⟨hS,?_,fun h1 h2 f g=>?_⟩,rfl,q _ hn⟩
  ·obtain ⟨o,_,_,_,e,_⟩:=hS
   exact ⟨o,e⟩
  ·obtain ⟨o,es,ep,t,e,rest⟩:=f
   exact ⟨o,es,ep,t,g o e,rest⟩
theorem call_lenS:CallR X (.builtin "len") (fun xs H Q=>∃ (p:Addr) (ss:List Str),xs=[.ref p]∧H p=some (setS X.prog X.w p ss)∧ss.length≤1000∧Q (.int ((metS (fun i=>ss.getD i "") ss.length).length:Nat)) H):=by
 intro pins s σ H xs us Q I r h
 obtain ⟨p,ss,rfl,hx,h1000,q⟩:=h
 obtain ⟨u,rfl,ru⟩:=vals1 r
 cases ru
 obtain ⟨⟨o,es,ep,t,ho,hex,hd,_,_,_,hf,hn⟩,_,_⟩:ObjOk X.prog X.w H s.heap p (setS X.prog X.w p ss):=I.hok p _ hx
 have hle:=metS_le (fun i=>ss.getD i "") ss.length
 exact call_len_set ho hex hd hf (by omega) ⟨.int _,H,I.tok _,⟨_,by rw [hn]⟩,q⟩
theorem metS_sub (val:Nat→Str):∀ i k,k∈metS val i↔∃ j,j < i∧val j=k
 | 0,k=>by
  show k∈[]↔_
  simp
 | i + 1,k=>by
  show k∈stepS (metS val i) (val i)↔_
  have ih:=metS_sub val i
  unfold stepS
  by_cases h:val i∈metS val i
  ·rw [if_pos h,ih k]
   constructor
   ·rintro ⟨j,hj,e⟩;exact ⟨j,by omega,e⟩
   ·rintro ⟨j,hj,e⟩
    by_cases z:j=i
    ·subst z
     obtain ⟨j',hj',e'⟩:=(ih _).mp h
     exact ⟨j',hj',e'.trans e⟩
    ·exact ⟨j,by omega,e⟩
  ·rw [if_neg h,List.mem_append,ih k,List.mem_singleton]
   constructor
   ·rintro (⟨j,hj,e⟩ | e)
    ·exact ⟨j,by omega,e⟩
    ·exact ⟨i,by omega,e.symm⟩
   ·rintro ⟨j,hj,e⟩
    by_cases z:j=i
    ·subst z;exact .inr e.symm
    ·exact .inl ⟨j,by omega,e⟩
theorem metS_full (val:Nat→Str):∀ i,(metS val i).length=i↔((List.range i).map val).Nodup
 | 0=>by simp [metS]
 | i + 1=>by
  have ih:=metS_full val i
  have hle:=metS_le val i
  show (stepS (metS val i) (val i)).length=_↔_
  rw [stepS_length,any_mem,List.range_succ,List.map_append,List.nodup_append]
  have hm:val i∈metS val i↔val i∈(List.range i).map val:=by
   rw [metS_sub,List.mem_map]
   constructor
   ·rintro ⟨j,hj,e⟩;exact ⟨j,List.mem_range.mpr hj,e⟩
   ·rintro ⟨j,hj,e⟩;exact ⟨j,List.mem_range.mp hj,e⟩
  by_cases h:val i∈metS val i
  ·rw [if_pos (decide_eq_true h)]
   constructor
   ·intro z;omega
   ·rintro ⟨_,_,z⟩
    exact absurd rfl (z _ (hm.mp h) _ (by simp))
  ·rw [if_neg (by simpa using h)]
   constructor
   ·intro z
    refine ⟨ih.mp (by omega),by simp,fun a ha b hb e=>?_⟩
    have hb':b=val i:=by simpa using hb
    subst hb'
    exact h (hm.mpr (e ▸ ha))
   ·rintro ⟨z,_,_⟩
    rw [ih.mpr z]
theorem set_count (ss:List Str):decide (((metS (fun i=>ss.getD i "") ss.length).length:Int)=(ss.length:Int))=decide ss.Nodup:=by
 have e:(List.range ss.length).map (fun i=>ss.getD i "")=ss:=by
  apply List.ext_getElem?
  intro j
  rw [List.getElem?_map]
  by_cases h:j < ss.length
  ·rw [List.getElem?_range h,List.getElem?_eq_getElem h]
   simp [h]
  ·rw [List.getElem?_eq_none (by rw [List.length_range];omega),List.getElem?_eq_none (by omega)]
   rfl
 have:=metS_full (fun i=>ss.getD i "") ss.length
 rw [e] at this
 rw [decide_eq_decide,← this]
 omega
def rCatT0 (K:PySem.W.Frag):R2:=fun x y H Q=>∃ a b ys,x=.ref a∧y=.ref b∧SqT K H a []∧SqT K H b ys∧Q (.ref b) H
theorem op_catT0:OpR X (binaryOp .Add) (rCatT0 X.K):=by
 intro pins s σ H x y v u Q I rx ry h
 obtain ⟨a,b,ys,rfl,rfl,ha,hb,q⟩:=h
 cases rx
 cases ry
 obtain ⟨its,r1,p1,_⟩:=I.tuple ha
 obtain ⟨its2,r2,p2,_⟩:=I.tuple hb
 cases r1
 obtain ⟨⟨cls,dd,data,sl⟩,ho,hc,n,hd⟩:=id p1
 obtain ⟨⟨cls2,dd2,data2,sl2⟩,ho2,hc2,n2,hd2⟩:=id p2
 simp only at hc hd hc2 hd2
 subst hc hd hc2 hd2
 exact concat_meets ⟨_,ho,rfl⟩ ⟨_,ho2,rfl⟩ noFill_tuple_add seq_tuple_add PySem.F.slot_tuple_add PySem.F.entry_tuple_add (PySem.F.args_tuple_add_2 _ _)
   (tuple_addW0 a b _ _ n n2 dd dd2 sl sl2 (by simp)) ⟨ho,ho2,⟨.ref b,H,I,rfl,q⟩⟩
end
end L2
namespace L2
open PySem PySem.Spec PyProof.Rows
section
variable {prog:Program}{w:World}{A:Around}{E:Value→Shared→Prop}{s:Shared}
end
section
variable {X:Cx}{e st:Expr}{te ts:TE}{pos p2:Pos}
end
end L2
namespace L2
open PySem PySem.Spec PyProof.Rows
section
variable {X:Cx}
end
end L2
namespace L2
open PySem PySem.Spec PyProof.Rows
mutual
inductive RdV (m:Bool) (H:Hp):V→PyData→Prop
 | non:RdV m H .non .none
 | bl (b:Bool):RdV m H (.bl b) (.bool b)
 | int (i:Int):RdV m H (.int i) (.int i)
 | str (z:Str) (h:z.length≤1000):RdV m H (.str z) (.str z)
 | lst {a:Addr} {xs:List V} {ds:List PyData} (hm:m=true) (e:H a=some (.lst xs)) (hl:xs.length≤1000) (r:RdVs m H xs ds):RdV m H (.ref a) (.list ds)
 | tup {a:Addr} {xs:List V} {ds:List PyData} (e:H a=some (.tup xs)) (hl:xs.length≤1000) (r:RdVs m H xs ds):RdV m H (.ref a) (.tuple ds)
 | dct {a:Addr} (hm:m=false) (e:H a=some (.dK [])):RdV m H (.ref a) (.dict [])
inductive RdVs (m:Bool) (H:Hp):List V→List PyData→Prop
 | nil:RdVs m H [] []
 | cons {x:V} {d:PyData} {xs:List V} {ds:List PyData} (a:RdV m H x d) (r:RdVs m H xs ds):RdVs m H (x :: xs) (d :: ds)
end
mutual
theorem RdV.keep {m:Bool}{H H':Hp} (k:∀ a o,H a=some o→(∀ kv r,o≠.dK (kv :: r))→H' a=some o):∀ {x:V}{d:PyData},RdV m H x d→RdV m H' x d
 | _,_,.non=>.non
 | _,_,.bl b=>.bl b
 | _,_,.int i=>.int i
 | _,_,.str z h=>.str z h
 | _,_,.lst hm e hl r=>.lst hm (k _ _ e (fun _ _ z=>nomatch z)) hl (RdVs.keep k r)
 | _,_,.tup e hl r=>.tup (k _ _ e (fun _ _ z=>nomatch z)) hl (RdVs.keep k r)
 | _,_,.dct hm e=>.dct hm (k _ _ e (fun _ _ z=>nomatch z))
theorem RdVs.keep {m:Bool}{H H':Hp} (k:∀ a o,H a=some o→(∀ kv r,o≠.dK (kv :: r))→H' a=some o):∀ {xs:List V}{ds:List PyData},RdVs m H xs ds→RdVs m H' xs ds
 | _,_,.nil=>.nil
 | _,_,.cons a r=>.cons (RdV.keep k a) (RdVs.keep k r)
end
theorem RdV.same {m:Bool}{H H':Hp}{x:V}{d:PyData} (h:RdV m H x d) (s:Same H H'):RdV m H' x d:=h.keep fun a o e _=>s a o e
theorem RdVs.same {m:Bool}{H H':Hp}{x:List V}{d:List PyData} (h:RdVs m H x d) (s:Same H H'):RdVs m H' x d:=h.keep fun a o e _=>s a o e
theorem RdVs.len {m:Bool}{H:Hp}:∀ {xs:List V}{ds:List PyData},RdVs m H xs ds→xs.length=ds.length
 | _,_,.nil=>rfl
 | _,_,.cons _ r=>by rw [List.length_cons,List.length_cons,RdVs.len r]
theorem RdVs.app {m:Bool}{H:Hp}:∀ {xs:List V}{ds:List PyData}{ys:List V}{es:List PyData},RdVs m H xs ds→RdVs m H ys es→RdVs m H (xs ++ ys) (ds ++ es)
 | _,_,_,_,.nil,h=>h
 | _,_,_,_,.cons a r,h=>.cons a (RdVs.app r h)
theorem RdVs.at {m:Bool}{H:Hp}:∀ {xs:List V}{ds:List PyData}{i:Nat}{x:V},RdVs m H xs ds→xs[i]?=some x→∃ d,ds[i]?=some d∧RdV m H x d
 | _,_,0,_,.cons a r,e=>by simp at e;subst e;exact ⟨_,rfl,a⟩
 | _,_,i + 1,_,.cons a r,e=>by simp at e;simpa using RdVs.at r e
section
variable {X:Cx}
mutual
theorem RdV.reads {pins:List (Addr×Obj)}{σ:St}{m:Bool}{H:Hp}{s:Shared} (I:Inv X pins σ H s):∀ {x:V}{d:PyData}{v:Value},RdV m H x d→RelV x v→∃ as,Reads s.heap v d as∧(m=true→d.hasDict=false)∧(m=false→¬ sysModules∈as)
 | _,_,_,.non,r=>by cases r;exact ⟨[],.none,fun _=>rfl,fun _=>by simp⟩
 | _,_,_,.bl b,r=>by cases r;exact ⟨[],.bool b,fun _=>rfl,fun _=>by simp⟩
 | _,_,_,.int i,r=>by obtain ⟨t,rfl⟩:=r;exact ⟨[],.int i t,fun _=>rfl,fun _=>by simp⟩
 | _,_,_,.str z _,r=>by obtain ⟨t,rfl⟩:=r;exact ⟨[],.str z t,fun _=>rfl,fun _=>by simp⟩
 | _,_,_,.lst hm e _ rs,r=>by
  cases r
  obtain ⟨_,its,n,rv,eo⟩:ObjOk X.prog X.w H s.heap _ (.lst _):=I.hok _ _ e
  obtain ⟨as,ra,h1,h2⟩:=RdVs.reads I rs rv
  exact ⟨_,.list eo rfl rfl (by simpa using ra),fun _=>h1 hm,fun z=>by rw [hm] at z;cases z⟩
 | _,_,_,.tup e _ rs,r=>by
  cases r
  obtain ⟨_,its,rv,pt⟩:ObjOk X.prog X.w H s.heap _ (.tup _):=I.hok _ _ e
  obtain ⟨as,ra,h1,h2⟩:=RdVs.reads I rs rv
  obtain ⟨o,eo,⟨hc,n,hd⟩,_⟩:=pt
  exact ⟨as,.tuple eo hc hd (by simpa using ra),h1,h2⟩
 | _,_,_,.dct hm e,r=>by
  cases r
  obtain ⟨_,hs,vs,kv,o,es,ep,eo,hx,hd,hk,hp,_⟩:ObjOk X.prog X.w H s.heap _ (.dK []):=I.hok _ _ e
  cases kv
  have hes:es.toList=[]:=by
   cases h:es.toList with
   | nil=>rfl
   | cons y r=>rw [h] at hp;cases hp
  refine ⟨_,Reads.dict (kvs:=[]) (as:=[]) (bs:=[]) eo hx.1 hd (by rw [hes];exact .nil) (by rw [hes];exact .nil),(fun z=>by rw [hm] at z;cases z),fun _=>?_⟩
  intro z
  simp at z
  rw [z] at hs
  simp at hs
theorem RdVs.reads {pins:List (Addr×Obj)}{σ:St}{m:Bool}{H:Hp}{s:Shared} (I:Inv X pins σ H s):∀ {xs:List V}{ds:List PyData}{vs:List Value},RdVs m H xs ds→Vals xs vs→∃ as,ReadsAll s.heap vs ds as∧(m=true→PyData.hasDictAll ds=false)∧(m=false→¬ sysModules∈as)
 | _,_,_,.nil,.nil=>⟨[],.nil,fun _=>rfl,fun _=>by simp⟩
 | _,_,_,.cons a r,.cons ra rr=>by
  obtain ⟨as,h1,h2,h3⟩:=RdV.reads I a ra
  obtain ⟨bs,g1,g2,g3⟩:=RdVs.reads I r rr
  refine ⟨as ++ bs,.cons h1 g1,fun z=>?_,fun z w=>?_⟩
  ·unfold PyData.hasDictAll
   rw [h2 z,g2 z]
   rfl
  ·rcases List.mem_append.mp w with w | w
   ·exact h3 z w
   ·exact g3 z w
end
end
end L2
namespace L2
open PySem PySem.Spec PyProof.Rows
section
variable {prog:Program}{w:World}{A:Around}{E:Value→Shared→Prop}{s:Shared}
theorem getItem_tuple_all {t sl:Addr}{items:Array Value}{vl vu:Value}{lo hi:Option Int}{Q:Value→Shared→Prop} (ht:IsTup s.heap t items) (hs:s.heap.IsSliceOf sl vl vu .none) (pl:IsPart vl lo) (pu:IsPart vu hi)
  (hw:HT.sIx items.size 0 lo=0∧HT.sIx items.size items.size hi=items.size) (h:Q (.ref t) s):wpAny (model prog w) A (getItem (.ref t) (.ref sl)) Q E s:=by
 obtain ⟨os,hos,hcs,hds⟩:=id hs
 have hTs:s.TypeIs (.ref sl) "slice":=⟨os,hos,hcs⟩
 unfold getItem
 try with_reducible refine wpAny_holding ?_
 first | refine wpAny_bind (wpAny_pure ?_) | skip
 refine wpAny_bind (wpAny_sequenceKey ht.typeIs (by decide) ?_)
 refine wpAny_bind (wpAny_callSpecial?_slot (name:=Str.ofString "__getitem__") ht.typeIs PyProof.Rows.slot_tuple_getitem
  (wpAny_call_entry PyProof.Rows.slot_tuple_getitem ht.typeIs entry_tuple_getitem ?_ (args_tuple_getitem _ _)))
 show wpAny _ _ (Builtin.Tuple.tupleItemsOf (.ref t) >>= _) _ _ s
 refine wpAny_bind (tupleItemsOf_ ht ?_)
 refine wpAny_bind (wpAny_typeOf hTs ?_)
 rw [if_pos (by decide)]
 refine wpAny_bind (HT.sliceApplied_gen hs pl pu ?_)
 have hyes:(((HT.sIx items.size 0 lo:Nat):Int) == 0 && (1:Int) == 1 && (HT.sIx items.size items.size hi - HT.sIx items.size 0 lo) == items.size)=true:=by
  rw [hw.1,hw.2]
  simp
 show wpAny _ _ (if (((HT.sIx items.size 0 lo:Nat):Int) == 0 && (1:Int) == 1 && (HT.sIx items.size items.size hi - HT.sIx items.size 0 lo) == items.size)=true then _ else _) _ _ s
 rw [if_pos hyes]
 obtain ⟨⟨cls,dd,data,sl'⟩,ho,hc,n,hd⟩:=id ht
 simp only at hc hd
 subst hc hd
 wp_walk
 exact ⟨_,rfl,wpAny_pure h⟩
end
section
variable {X:Cx}
def rSlA (K:PySem.W.Frag):V→Option Int→Option Int→Hp→VK→Prop:=fun x lo hi H Q=>∃ a xs,x=.ref a∧H a=some (.tup xs)∧∀ r H',Same H H'→H' r=some (.tup (cutV xs lo hi))→Q (.ref r) H'
theorem sl_tupA:SlR X (rSlA X.K):=by
 intro pins s σ H x v vl vu lo hi sl Q I rx hs pl pu h
 obtain ⟨a,xs,rfl,hx,q⟩:=h
 by_cases hw:HT.sIx xs.length 0 lo=0∧HT.sIx xs.length xs.length hi=xs.length
 ·cases rx
  obtain ⟨its,r,ht,hz⟩:=I.tuple (SqT.of hx)
  have hlen:its.toArray.size=xs.length:=by rw [List.size_toArray];exact r.length.symm
  refine ⟨"tuple",_,PyProof.Rows.slot_tuple_getitem.lookup,ht.typeIs,?_⟩
  refine getItem_tuple_all ht hs pl pu (by rw [hlen];exact hw) ⟨.ref a,H,I,rfl,q a H (Same.refl H) ?_⟩
  have e:cutV xs lo hi=xs:=by
   unfold cutV
   rw [hw.1,hw.2,List.drop_zero,Nat.sub_zero,List.take_length]
  rw [e]
  exact hx
 ·exact sl_tup pins s σ H _ v vl vu lo hi sl Q I rx hs pl pu ⟨a,xs,rfl,SqT.of hx,hw,fun p hp=>q p _ (Same.new hp) upd_same⟩
def rCatA:R2:=fun x y H Q=>∃ a b xs ys,x=.ref a∧y=.ref b∧H a=some (.tup xs)∧H b=some (.tup ys)∧xs.length + ys.length≤1000000∧∀ r H',Same H H'→H' r=some (.tup (xs ++ ys))→Q (.ref r) H'
theorem op_catA:OpR X (binaryOp .Add) rCatA:=by
 intro pins s σ H x y v u Q I rx ry h
 obtain ⟨a,b,xs,ys,rfl,rfl,ha,hb,hz,q⟩:=h
 by_cases h0:xs=[]
 ·subst h0
  exact op_catT0 pins s σ H _ _ v u Q I rx ry ⟨a,b,ys,rfl,rfl,SqT.of ha,SqT.of hb,q b H (Same.refl H) hb⟩
 ·refine op_catT pins s σ H _ _ v u Q I rx ry ⟨a,b,xs,ys,rfl,rfl,SqT.of ha,SqT.of hb,h0,sizeLine_big hz,fun h1=>?_,fun h1 p hp=>q p _ (Same.new hp) upd_same⟩
  subst h1
  exact q a H (Same.refl H) (by rw [List.append_nil];exact ha)
theorem cut_to {α:Type} (xs:List V) (n:Nat):cutV xs none (some (n:Int))=xs.take n:=by
 unfold cutV
 rw [HT.sIx_none,HT.sIx_nat,List.drop_zero,Nat.sub_zero]
 by_cases h:n≤xs.length
 ·rw [Nat.min_eq_left h]
 ·rw [Nat.min_eq_right (by omega),List.take_length,List.take_of_length_le (by omega)]
theorem cut_from {α:Type} (xs:List V) (n:Nat):cutV xs (some (n:Int)) none=xs.drop n:=by
 unfold cutV
 rw [HT.sIx_none,HT.sIx_nat]
 by_cases h:n≤xs.length
 ·rw [Nat.min_eq_left h]
  exact List.take_of_length_le (by rw [List.length_drop];exact Nat.le_refl _)
 ·rw [Nat.min_eq_right (by omega),List.drop_eq_nil_of_le (Nat.le_refl _),List.drop_eq_nil_of_le (by omega),List.take_nil]
mutual
theorem RdV.flip {H:Hp}:∀ {x:V}{d:PyData},RdV false H x d→d.hasDict=false→∀ m,RdV m H x d
 | _,_,.non,_,_=>.non
 | _,_,.bl b,_,_=>.bl b
 | _,_,.int i,_,_=>.int i
 | _,_,.str z h,_,_=>.str z h
 | _,_,.lst hm _ _ _,_,_=>nomatch hm
 | _,_,.tup e hl r,h,m=>.tup e hl (RdVs.flip r (by unfold PyData.hasDict at h;exact h) m)
 | _,_,.dct _ _,h,_=>by unfold PyData.hasDict at h;cases h
theorem RdVs.flip {H:Hp}:∀ {xs:List V}{ds:List PyData},RdVs false H xs ds→PyData.hasDictAll ds=false→∀ m,RdVs m H xs ds
 | _,_,.nil,_,_=>.nil
 | _,_,.cons a r,h,m=>by
  unfold PyData.hasDictAll at h
  rw [Bool.or_eq_false_iff] at h
  exact .cons (RdV.flip a h.1 m) (RdVs.flip r h.2 m)
end
mutual
theorem RdV.keepF {H H':Hp} (k:∀ a o,H a=some o→(∀ kv r,o≠.dK (kv :: r))→(∀ xs,o≠.lst xs)→H' a=some o):∀ {x:V}{d:PyData},RdV false H x d→RdV false H' x d
 | _,_,.non=>.non
 | _,_,.bl b=>.bl b
 | _,_,.int i=>.int i
 | _,_,.str z h=>.str z h
 | _,_,.lst hm _ _ _=>nomatch hm
 | _,_,.tup e hl r=>.tup (k _ _ e (fun _ _ z=>nomatch z) (fun _ z=>nomatch z)) hl (RdVs.keepF k r)
 | _,_,.dct hm e=>.dct hm (k _ _ e (fun _ _ z=>nomatch z) (fun _ z=>nomatch z))
theorem RdVs.keepF {H H':Hp} (k:∀ a o,H a=some o→(∀ kv r,o≠.dK (kv :: r))→(∀ xs,o≠.lst xs)→H' a=some o):∀ {xs:List V}{ds:List PyData},RdVs false H xs ds→RdVs false H' xs ds
 | _,_,.nil=>.nil
 | _,_,.cons a r=>.cons (RdV.keepF k a) (RdVs.keepF k r)
end
end
end L2
namespace L2
open PySem PySem.Spec PyProof.Rows PySem.W
def KAll {α:Type} (n:Nat) (P:α→Prop):KasT α→Prop
 | .ret a=>P a
 | .ask i j k=>i < n∧j < n∧∀ b,KAll n P (k b)
theorem KAll.bind {α β:Type}{n:Nat}{P:α→Prop}{Q:β→Prop}{f:α→KasT β}:∀ {t:KasT α},KAll n P t→(∀ a,P a→KAll n Q (f a))→KAll n Q (t.bind f)
 | .ret a,h,g=>by rw [KasT.bind.eq_1];exact g a h
 | .ask i j k,h,g=>by
  rw [KasT.bind.eq_2]
  exact ⟨h.1,h.2.1,fun b=>KAll.bind (h.2.2 b) g⟩
theorem KAll.wp {α:Type}{n:Nat}{cmp:Nat→Nat→(Bool→Shared→Prop)→Shared→Prop}{Q:α→Shared→Prop}{s:Shared} (hc:∀ i j C,i < n→j < n→(∀ b,C b s)→cmp i j C s):∀ {t:KasT α},KAll n (fun a=>Q a s) t→KasT.kasWp cmp t Q s
 | .ret a,h=>by rw [KasT.kasWp.eq_1];exact h
 | .ask i j k,h=>by
  rw [KasT.kasWp.eq_2]
  exact hc i j _ h.1 h.2.1 fun b=>KAll.wp hc (h.2.2 b)
def Pm (n:Nat) (p:Array Nat):Prop:=p.Perm (List.range n).toArray
theorem Pm.lt {n:Nat}{p:Array Nat} (h:Pm n p) (hn:0 < n) (i:Nat):p.getD i 0 < n:=by
 by_cases hi:i < p.size
 ·have hm:p[i]∈(List.range n).toArray:=h.mem_iff.mp (Array.getElem_mem hi)
  have:p[i] < n:=by simpa using hm
  rw [Array.getD_eq_getD_getElem?,Array.getElem?_eq_getElem hi]
  exact this
 ·rw [Array.getD_eq_getD_getElem?,Array.getElem?_eq_none (by omega)]
  exact hn
theorem Pm.rev {n:Nat}{p:Array Nat} (h:Pm n p) (i j:Nat):Pm n (kas_rev p i j):=(mirror_perm p i j _).trans h
theorem Pm.bub {n:Nat}{p:Array Nat} (h:Pm n p) (i j:Nat):Pm n (bubble p i j):=(bubble_perm p i j).trans h
section
variable {n:Nat} (hn:0 < n)
include hn
theorem kall_asc {p:Array Nat} (h:Pm n p):∀ (f x:Nat),KAll n (fun _=>True) (kas_asc p f x)
 | 0,x=>by rw [kas_asc.eq_1];trivial
 | f + 1,x=>by
  rw [kas_asc.eq_2]
  refine ⟨h.lt hn _,h.lt hn _,fun b=>?_⟩
  cases b
  ·exact kall_asc h f (x + 1)
  ·exact trivial
theorem kall_desc:∀ (f:Nat) {p:Array Nat} (x y:Nat),Pm n p→KAll n (fun r=>Pm n r.1) (kas_desc f p x y)
 | 0,p,x,y,h=>by rw [kas_desc.eq_1];exact h
 | f + 1,p,x,y,h=>by
  rw [kas_desc.eq_2]
  refine ⟨h.lt hn _,h.lt hn _,fun b=>?_⟩
  cases b
  ·refine ⟨h.lt hn _,h.lt hn _,fun b=>?_⟩
   cases b
   ·exact kall_desc f _ _ h
   ·exact h
  ·show KAll n _ (if y > 0 then _ else _)
   split
   ·exact kall_desc f _ _ (h.rev _ _)
   ·exact kall_desc f _ _ h
theorem kall_place {p:Array Nat} (h:Pm n p) (k:Nat):∀ (f x y:Nat),KAll n (fun _=>True) (kas_place p k f x y)
 | 0,x,y=>by rw [kas_place.eq_1];trivial
 | f + 1,x,y=>by
  rw [kas_place.eq_2]
  split
  ·trivial
  ·refine ⟨h.lt hn _,h.lt hn _,fun b=>?_⟩
   cases b
   ·exact kall_place h k f _ _
   ·exact kall_place h k f _ _
theorem kall_bin:∀ (f:Nat) {p:Array Nat} (x:Nat),Pm n p→KAll n (Pm n) (kas_bin f p x)
 | 0,p,x,h=>by rw [kas_bin.eq_1];exact h
 | f + 1,p,x,h=>by
  rw [kas_bin.eq_2]
  exact (kall_place hn h x _ _ _).bind fun l _=>kall_bin f _ (h.bub _ _)
theorem kall_tail3 {p:Array Nat} (h:Pm n p) (a b:Nat):KAll n (fun r=>Pm n r.2) (kas_tail3 a b p):=by
 unfold kas_tail3
 exact (kall_asc hn (h.rev _ _) _ _).bind fun m _=>h.rev _ _
theorem kall_descPart {p:Array Nat} (h:Pm n p) (a b:Nat):KAll n (fun r=>Pm n r.2) (kas_descPart a b p):=by
 unfold kas_descPart
 refine (kall_desc hn _ _ _ h).bind fun r hr=>?_
 split
 ·exact kall_tail3 hn (hr.rev _ _) _ _
 ·exact kall_tail3 hn hr _ _
theorem kall_count {p:Array Nat} (h:Pm n p) (a:Nat):KAll n (fun r=>Pm n r.2) (kas_count a p):=by
 unfold kas_count
 refine (kall_asc hn h _ _).bind fun m _=>?_
 split
 ·exact h
 ·split
  ·refine ⟨h.lt hn _,h.lt hn _,fun b=>?_⟩
   cases b
   ·exact kall_descPart hn (h.rev _ _) _ _
   ·exact h
  ·exact kall_descPart hn h _ _
theorem kall_sort:KAll n (Pm n) (kas_sort n):=by
 unfold kas_sort
 refine (kall_count hn (Array.Perm.refl _) n).bind fun r hr=>?_
 split
 ·exact kall_bin hn _ _ hr
 ·exact hr
end
end L2
namespace L2
open PySem PySem.Spec PyProof.Rows PySem.W
section
variable {prog:Program}{w:World}{A:Around}{E:Value→Shared→Prop}{s:Shared}
theorem ltF_int {a b:Int}{t u:Tok}{Q:Bool→Shared→Prop} (h:∀ b,Q b s):wpAny (model prog w) A (oneLt' false (Value.int a t) (Value.int b u)) Q E s:=by
 rw [oneLt'_eq]
 show wpAny _ _ (compareOp .Lt (Value.int a t) (Value.int b u) >>= _) _ _ _
 refine wpAny_bind (lt_int ?_)
 wp_walk
 exact h _
theorem ltF_str {a b:Str}{t u:Tok}{Q:Bool→Shared→Prop} (h:∀ b,Q b s):wpAny (model prog w) A (oneLt' false (Value.str a t) (Value.str b u)) Q E s:=by
 rw [oneLt'_eq]
 show wpAny _ _ (compareOp .Lt (Value.str a t) (Value.str b u) >>= _) _ _ _
 refine wpAny_bind (lt_str ?_)
 wp_walk
 exact h _
theorem items_tup {x:Addr}{its:Array Value}{Q:Array Value→Shared→Prop} (hx:IsTup s.heap x its) (h:Q its s):wpAny (model prog w) A (Builtin.List.listItems (Value.ref x)) Q E s:=by
 obtain ⟨⟨cls,dd,data,sl⟩,ho,hc,n,hd⟩:=id hx
 simp only at hc hd
 subst hc hd
 unfold Builtin.List.listItems
 wp_walk
 exact h
theorem ltT {fb:Bool}{x y:Addr}{a1 a2 b1 b2:Int}{c1 c2:Str}{t1 t2 t3 u1 u2 u3:Tok}{C:Bool→Shared→Prop} (hx:IsTup s.heap x #[.int a1 t1,.int b1 t2,.str c1 t3]) (hy:IsTup s.heap y #[.int a2 u1,.int b2 u2,.str c2 u3]) (h:∀ b,C b s):
  wpAny (model prog w) A (keyLt' (tuples' fb) (.ref x) (.ref y)) C E s:=by
 show wpAny _ _ (Builtin.List.listItems (.ref x) >>= _) _ _ _
 refine wpAny_bind (items_tup hx ?_)
 refine wpAny_bind (items_tup hy ?_)
 dsimp only [List.zip_cons_cons,List.zipIdx_cons,List.zip_nil_left]
 rw [List.zipIdx_nil]
 have e1:∀ {Q:Bool→Shared→Prop} {a b:Int} {t u:Tok},(∀ z,Q z s)→wpAny (model prog w) A (eqBool (.int a t) (.int b u)) Q E s:=fun {Q a b t u} q=>by
  obtain ⟨z,hz,_⟩:=HT.eqAt_int A s a t b u
  exact hz prog w _ _ (q z)
 have e2:∀ {Q:Bool→Shared→Prop} {a b:Str} {t u:Tok},(∀ z,Q z s)→wpAny (model prog w) A (eqBool (.str a t) (.str b u)) Q E s:=fun {Q a b t u} q=>by
  exact SeqAt.EqAt.str_str a t b u prog w _ _ (q _)
 refine wpAny_bind ?_
 rw [List.forIn_cons]
 refine wpAny_bind (wpAny_bind (e1 fun z=>?_))
 cases z with
 | false=>
  refine wpAny_ite_true (by decide) ?_
  refine wpAny_bind ?_
  show wpAny _ _ (oneLt' (fb && 0 == 0) (Value.int a1 t1) (Value.int a2 u1)) _ _ _
  cases fb
  ·exact ltF_int fun z=>wpAny_pure (wpAny_pure (wpAny_pure (h z)))
  ·exact oneLt_int (wpAny_pure (wpAny_pure (wpAny_pure (h _))))
 | true=>
  refine wpAny_ite_false (by decide) (wpAny_pure ?_)
  dsimp only
  rw [List.forIn_cons]
  refine wpAny_bind (wpAny_bind (e1 fun z=>?_))
  cases z with
  | false=>
   refine wpAny_ite_true (by decide) ?_
   refine wpAny_bind ?_
   have ez:(fb && ((0 + 1:Nat) == 0))=false:=by cases fb <;> rfl
   show wpAny _ _ (oneLt' (fb && (0 + 1 == 0)) (Value.int b1 t2) (Value.int b2 u2)) _ _ _
   rw [ez]
   exact ltF_int fun z=>wpAny_pure (wpAny_pure (wpAny_pure (h z)))
  | true=>
   refine wpAny_ite_false (by decide) (wpAny_pure ?_)
   dsimp only
   rw [List.forIn_cons]
   refine wpAny_bind (wpAny_bind (e2 fun z=>?_))
   cases z with
   | false=>
    refine wpAny_ite_true (by decide) ?_
    refine wpAny_bind ?_
    have ez:(fb && ((0 + 1 + 1:Nat) == 0))=false:=by cases fb <;> rfl
    show wpAny _ _ (oneLt' (fb && (0 + 1 + 1 == 0)) (Value.str c1 t3) (Value.str c2 u3)) _ _ _
    rw [ez]
    exact ltF_str fun z=>wpAny_pure (wpAny_pure (wpAny_pure (h z)))
   | true=>
    refine wpAny_ite_false (by decide) (wpAny_pure ?_)
    dsimp only
    rw [List.forIn_nil]
    exact wpAny_pure (wpAny_pure (h _))
end
end L2
namespace L2
open PySem PySem.Spec PyProof.Rows PySem.W
section
variable {prog:Program}{w:World}{A:Around}{E:Value→Shared→Prop}{s:Shared}
def KeyT (h:Heap) (v:Value):Prop:=∃ t a b c u1 u2 u3,v=.ref t∧IsTup h t #[.int a u1,.int b u2,.str c u3]
theorem mapM_any {α β:Type}{f:α→Sem β}{R:α→β→Prop}:∀ (l:List α) {Q:List β→Shared→Prop},(∀ v∈l,∃ r,R v r∧∀ Q':β→Shared→Prop,Q' r s→wpAny (model prog w) A (f v) Q' E s)→(∀ rs:List β,rs.length=l.length→(∀ r∈rs,∃ v∈l,R v r)→Q rs s)→wpAny (model prog w) A (List.mapM f l) Q E s
 | [],Q,_,q=>by
  rw [List.mapM_nil]
  exact wpAny_pure (q [] rfl fun r hr=>by simp at hr)
 | a :: l,Q,h,q=>by
  rw [List.mapM_cons]
  obtain ⟨r,hr,hw⟩:=h a List.mem_cons_self
  refine wpAny_bind (hw _ (wpAny_bind (mapM_any l (fun v hv=>h v (List.mem_cons_of_mem _ hv)) fun rs hl hrs=>wpAny_pure (q (r :: rs) (by rw [List.length_cons,List.length_cons,hl]) fun z hz=>?_))))
  rcases List.mem_cons.mp hz with rfl | hz
  ·exact ⟨a,List.mem_cons_self,hr⟩
  ·obtain ⟨v,hv,hR⟩:=hrs z hz
   exact ⟨v,List.mem_cons_of_mem _ hv,hR⟩
theorem kindT {ks:List Value}{Q:SortKind→Shared→Prop} (hk:∀ v∈ks,KeyT s.heap v) (h:∀ b,Q (tuples' b) s):wpAny (model prog w) A (keyKind' ks.toArray) Q E s:=by
 rw [keyKind'_eq,Array.mapM_eq_mapM_toList]
 refine wpAny_bind ?_
 rw [← bind_pure_comp]
 refine wpAny_bind (mapM_any (R:=fun _ r=>∃ a u,r=some (Value.int a u)) ks (fun v hv=>?_) fun rs hl hrs=>wpAny_pure ?_)
 ·obtain ⟨t,a,b,c,u1,u2,u3,rfl,ht⟩:=hk v hv
  refine ⟨some (.int a u1),⟨a,u1,rfl⟩,fun Q' q=>?_⟩
  rw [kas_first_eq]
  refine wpAny_bind (wpAny_typeOf ht.typeIs ?_)
  refine wpAny_ite_false (by decide) ?_
  refine wpAny_bind (items_tup ht ?_)
  exact wpAny_pure q
 ·have hall:(rs.toArray.all fun x=>x.isSome)=true:=by
   rw [List.all_toArray,List.all_eq_true]
   intro r hr
   obtain ⟨v,_,a,u,rfl⟩:=hrs r hr
   rfl
  refine wpAny_ite_true (by rw [hall];rfl) ?_
  refine wpAny_bind (wpAny_rule ?_)
  rw [oneTypeOnly'_eq,Array.mapM_eq_mapM_toList]
  refine wpAny_bind ?_
  refine wpAny_bind ?_
  rw [← bind_pure_comp]
  refine wpAny_bind (mapM_any (R:=fun _ r=>r=Value.type "int") _ (fun v hv=>?_) fun ts htl hts=>wpAny_pure ?_)
  ·have hv':some v∈rs:=by simpa using hv
   obtain ⟨_,_,a,u,e⟩:=hrs _ hv'
   cases e
   exact ⟨_,rfl,fun Q' q=>wpAny_typeOf (typeIs_int s a u) q⟩
  ·cases hts0:ts.toArray[0]? with
   | none=>exact wpAny_pure (wpAny_pure (h _))
   | some t=>exact wpAny_pure (wpAny_pure (h _))
theorem runsT {b:Bool}{it:Array Keyed}{n:Nat}{Q:Unit×SortSt→Shared→Prop} (hn:it.size=n) (h2:2≤n) (h64:n < 64) (hk:∀ i,i < n→KeyT s.heap (kas_item it i).1)
  (h:∀ st:SortSt,(arrOf st).Perm it→failedOf st=none→Q ((),st) s):wpAny (model prog w) A (sortRuns'.run (SortSt.mk' (tuples' b) it #[] 7 none)) Q E s:=by
 have e0:Array.map (kas_item it) (List.range n).toArray=it:=by
  apply Array.ext
  ·simp [hn]
  ·intro i h1 h2
   simp [kas_item,hn,h2]
   rw [Array.getElem?_eq_getElem h2]
   rfl
 have main:=kas_runs (prog:=prog) (w:=w) (A:=A) (E:=E) (κ:=tuples' b) (it:=it) (n:=n) (s:=s) (Q:=fun u st s'=>s'=s∧Q (u,st) s) (G:=fun p s'=>Pm n p∧s'=s) h2 h64 (fun p' st' s' hsz ha hf hG=>?_)
  (KAll.wp (n:=n) (fun i j C hi hj hC=>?_) ?_)
 ·have e1:kas_st (tuples' b) it (List.range n).toArray=SortSt.mk' (tuples' b) it #[] 7 none:=by
   unfold kas_st
   rw [e0]
  rw [e1] at main
  exact wpAny_mono main (fun r s' z=>by
   obtain ⟨rfl,q⟩:=z
   exact q) fun e s' z=>z
 ·obtain ⟨hp,rfl⟩:=hG
  refine ⟨rfl,h st' ?_ hf⟩
  rw [ha]
  have hp':(Array.map (kas_item it) p').toList.Perm (Array.map (kas_item it) (List.range n).toArray).toList:=by
   rw [Array.toList_map,Array.toList_map]
   exact (Array.perm_iff_toList_perm.mp hp).map _
  rw [e0] at hp'
  exact Array.perm_iff_toList_perm.mpr hp'
 ·obtain ⟨t,a1,b1,c1,u1,u2,u3,e1,ht⟩:=hk i hi
  obtain ⟨t',a2,b2,c2,v1,v2,v3,e2,ht'⟩:=hk j hj
  unfold kas_cmp
  rw [e1,e2]
  exact ltT ht ht' hC
 ·exact (fun z=>by
   have:=kall_sort (n:=n) (by omega)
   revert this
   generalize kas_sort n=tr
   intro this
   induction tr with
   | ret a=>exact ⟨this,rfl⟩
   | ask i j k ih=>exact ⟨this.1,this.2.1,fun b=>ih b (this.2.2 b)⟩:True→_) trivial
end
end L2
namespace L2
open PySem PySem.Spec PyProof.Rows PySem.W
section
variable {prog:Program}{w:World}{A:Around}{E:Value→Shared→Prop}{s:Shared}
theorem tailT {a kS:Addr}{st:SortSt}{keys:Array Value}{e e1:Nat}{P:PySem.Fin→Shared→Prop} (ha:s.heap.get? a=some (seqObj "list" #[] e1)) (hk:s.heap.get? kS=some (seqObj "list" keys e)) (hne:a≠kS) (hkz:keys.size≤sizeLine) (hz:(arrOf st).size≤sizeLine) (hf:failedOf st=none)
  (h:P (Fin.done (Flow.ret Value.none)) { s with heap:=(s.heap.update kS (Obj.mapSeq fun _=>#[])).update a (Obj.mapSeq fun _=>(arrOf st).map (·.2)) }):wpAny (model prog w) A (ksk_tail a false e1 (.ref kS) st) P E s:=by
 unfold ksk_tail
 refine wpAny_bind (listUpdate_at hk rfl ?_ hkz (Nat.zero_le _))
 refine wpAny_bind (wpAny_letGo ?_)
 have ha1:(s.heap.update kS (Obj.mapSeq fun _=>#[])).get? a=some (seqObj "list" #[] e1):=by
  rw [Heap.get?_update_ne _ _ _ _ hne]
  exact ha
 refine wpAny_bind (seqEpoch_at ha1 rfl ?_)
 refine wpAny_bind (listUpdate_at ha1 rfl ?_ (Nat.zero_le _) (by show ((arrOf st).map (·.2)).size≤_;rw [Array.size_map];omega))
 rw [hf]
 refine wpAny_ite_false (by simp) ?_
 exact wpAny_pure h
theorem endT {a kS:Addr}{ks its:List Value}{e e1:Nat}{P:PySem.Fin→Shared→Prop} (ha:s.heap.get? a=some (seqObj "list" #[] e1)) (hk:s.heap.get? kS=some (seqObj "list" ks.toArray e)) (hne:a≠kS) (hl:ks.length=its.length) (h64:its.length < 64) (hK:∀ v∈ks,KeyT s.heap v)
  (h:∀ out:List Value,out.Perm its→P (Fin.done (Flow.ret Value.none)) { s with heap:=(s.heap.update kS (Obj.mapSeq fun _=>#[])).update a (Obj.mapSeq fun _=>out.toArray) }):wpAny (model prog w) A (ksk_end a false its.toArray e1 (.ref kS) ks.toArray) P E s:=by
 have z:∀ n:Nat,n < 64→n≤sizeLine:=fun n hn=>sizeLine_big (by omega)
 have zip_size:(ks.toArray.zip its.toArray).size=its.length:=by simp [hl]
 have fin:∀ st:SortSt,(arrOf st).Perm (ks.toArray.zip its.toArray)→failedOf st=none→wpAny (model prog w) A (ksk_tail a false e1 (.ref kS) st) P E s:=fun st hp hf=>by
  refine tailT ha hk hne (by rw [List.size_toArray];exact z _ (by omega)) (by rw [hp.size_eq,zip_size];exact z _ h64) hf ?_
  have hp':((arrOf st).map (·.2)).toList.Perm its:=by
   rw [Array.toList_map]
   have:=(Array.perm_iff_toList_perm.mp hp).map (·.2)
   have e2:(ks.toArray.zip its.toArray).toList.map (·.2)=its:=by
    rw [Array.toList_zip]
    exact List.map_snd_zip (by simp [hl])
   rw [e2] at this
   exact this
  have:=h _ hp'
  rw [Array.toArray_toList] at this
  exact this
 unfold ksk_end
 dsimp only
 by_cases h2:its.length < 2
 ·have h2':its.toArray.size < 2:=by simpa using h2
  rw [if_neg Bool.false_ne_true,if_pos h2']
  refine wpAny_bind (wpAny_pure ?_)
  rw [if_pos h2',if_neg Bool.false_ne_true]
  refine wpAny_bind (wpAny_pure ?_)
  exact fin _ (Array.Perm.refl _) rfl
 ·have h2':¬ its.toArray.size < 2:=by simpa using h2
  rw [if_neg Bool.false_ne_true,if_neg h2']
  refine wpAny_bind (kindT hK fun b=>?_)
  rw [if_neg h2',if_neg Bool.false_ne_true]
  refine wpAny_bind (runsT (n:=its.length) zip_size (by omega) h64 (fun i hi=>?_) fun st hp hf=>fin st hp hf)
  have e3:kas_item (ks.toArray.zip its.toArray) i=(ks[i],its[i]):=by
   unfold kas_item
   rw [Array.getD_eq_getD_getElem?,Array.getElem?_eq_getElem (by rw [zip_size];exact hi)]
   simp
  rw [e3]
  exact hK _ (List.getElem_mem _)
end
end L2
namespace L2
open PySem PySem.Spec PyProof.Rows PySem.W
theorem perm_vals:∀ {out its:List Value},out.Perm its→∀ {xs:List V},Vals xs its→∃ ys:List V,ys.Perm xs∧Vals ys out:=by
 intro out its hp
 induction hp with
 | nil=>intro xs r;exact ⟨xs,.refl _,r⟩
 | cons a _ ih=>
  intro xs r
  cases r with
  | cons r1 r2=>
   obtain ⟨ys,h1,h2⟩:=ih r2
   exact ⟨_ :: ys,h1.cons _,.cons r1 h2⟩
 | swap a b l=>
  intro xs r
  cases r with
  | cons r1 r2=>
   cases r2 with
   | cons r3 r4=>exact ⟨_ :: _ :: _,.swap _ _ _,.cons r3 (.cons r1 r4)⟩
 | trans _ _ ih1 ih2=>
  intro xs r
  obtain ⟨ys,h1,h2⟩:=ih2 r
  obtain ⟨zs,h3,h4⟩:=ih1 h2
  exact ⟨zs,h3.trans h1,h4⟩
section
variable {X:Cx}{pins:List (Addr×Obj)}{σ:St}
def KeyH (H:Hp) (v:Value):Prop:=∃ t a b c,v=.ref t∧H t=some (.tup [.int a,.int b,.str c])
theorem KeyH.same {H H':Hp}{v:Value} (h:KeyH H v) (s:Same H H'):KeyH H' v:=by
 obtain ⟨t,a,b,c,e,ht⟩:=h
 exact ⟨t,a,b,c,e,s _ _ ht⟩
theorem KeyH.real {H:Hp}{s:Shared}{v:Value} (I:Inv X pins σ H s) (h:KeyH H v):KeyT s.heap v:=by
 obtain ⟨t,a,b,c,rfl,ht⟩:=h
 obtain ⟨_,its,rv,hT⟩:ObjOk X.prog X.w H s.heap t (.tup [.int a,.int b,.str c]):=I.hok _ _ ht
 cases rv with
 | cons r1 rv=>
  cases rv with
  | cons r2 rv=>
   cases rv with
   | cons r3 rv=>
    cases rv
    obtain ⟨u1,e1⟩:=r1
    obtain ⟨u2,e2⟩:=r2
    obtain ⟨u3,e3⟩:=r3
    subst e1 e2 e3
    exact ⟨t,a,b,c,u1,u2,u3,rfl,hT⟩
theorem key_loop {k:Nat}{f:Addr}{fd:FuncData}{x:Str}{sp:Sp}{A':Around}{E:Value→Shared→Prop} (F:FnOk X.prog X.w X.K X.mg X.base CX0 k f fd [x] sp) (hr:Room k A') (hA:A'.frames=some X.stack) (hb:Binds X.K fd [x] [])
  {D kS:Addr} {H0:Hp} {e1:Nat} {xs:List V} (fD:∀ H',H' D=none→FpOk X pins H' D) (fK:∀ H',H' kS=none→FpOk X pins H' kS) (hne:D≠kS)
  (hkey:∀ y∈xs,∀ (H':Hp) (Q:VK),Same H0 H'→(∀ t a b c H'',Same H' H''→H'' t=some (.tup [.int a,.int b,.str c])→Q (.ref t) H'')→sp [y] H' Q E0) {er:Value→Value→Sem (ForInStep PUnit)} {Q:Shared→Prop}
  {body:Value→PUnit→Sem (ForInStep PUnit)} (hbody:∀ v u,body v u=(do
   let r ← (call (.ref f) [v]).attempt
   match r with
   | Except.ok k=>do
    Builtin.List.listUpdate (.ref kS) fun x=>x.push k
    pure (ForInStep.yield PUnit.unit)
   | Except.error e=>er v e)):
  ∀ (rest:List Value) (xr:List V) (s:Shared) (H:Hp) (ks:List Value) (e:Nat),Vals xr rest→(∀ y∈xr,y∈xs)→Inv X pins σ H s→Same H0 H→H D=none→H kS=none→s.heap.get? D=some (seqObj "list" #[] e1)→s.heap.get? kS=some (seqObj "list" ks.toArray e)→(∀ v∈ks,KeyH H v)→ks.length + rest.length < 64→
   (∀ (s':Shared) (H':Hp) (ks':List Value) (e':Nat),Inv X pins σ H' s'→Same H0 H'→H' D=none→H' kS=none→s'.heap.get? D=some (seqObj "list" #[] e1)→s'.heap.get? kS=some (seqObj "list" ks'.toArray e')→(∀ v∈ks',KeyH H' v)→ks'.length=ks.length + rest.length→Q s')→
   wpAny (model X.prog X.w) A' (forIn rest PUnit.unit body) (fun _ s'=>Q s') E s:=by
 intro rest
 induction rest with
 | nil=>
  intro xr s H ks e r hsub I S hD hK gD gK hk h64 q
  rw [List.forIn_nil]
  exact wpAny_pure (q s H ks e I S hD hK gD gK hk rfl)
 | cons v rest ih=>
  intro xr s H ks e r hsub I S hD hK gD gK hk h64 q
  rw [List.length_cons] at h64
  cases r with
  | @cons y _ xr' _ r1 r2=>
  rw [List.forIn_cons,hbody]
  refine wpAny_bind (wpAny_bind (wpAny_attempt ?_))
  have I3:Inv X ((D,seqObj "list" #[] e1) :: (kS,seqObj "list" ks.toArray e) :: pins) σ H s:=I.pins_of fun p hp=>by
   rcases List.mem_cons.mp hp with z | hp
   ·subst z
    exact ⟨gD,hD,(fD H hD).2.1,(fD H hD).2.2.1,fun v z=>by cases z⟩
   ·rcases List.mem_cons.mp hp with z | hp
    ·subst z
     exact ⟨gK,hK,(fK H hK).2.1,(fK H hK).2.2.1,fun v z=>by cases z⟩
    ·exact I.pin p (List.mem_append_right _ hp)
  have e0:Env0 X.prog X.w X.K X.mg X.base A' X.stack s H:=⟨hA,I.env0.mod,I.env0.bs,I.env0.bsz,I.env0.funs,I.env0.frf,I.env0.hok,I.env0.bare⟩
  refine wpAny_call (codeAny_mono (F.run A' X.stack s H ⟨[v],[]⟩ [v] [y] (fun u H''=>∃ t a b c,u=.ref t∧H'' t=some (.tup [.int a,.int b,.str c])∧Same H H'') E0 hr e0 (hb s [v] I.kIn rfl) (.cons r1 .nil)
   (hkey y (hsub y List.mem_cons_self) H _ S fun t a b c H'' s2 h2=>⟨t,a,b,c,rfl,h2,s2⟩)) fun r s' hq=>?_)
  cases r with
  | error e=>exact False.elim hq
  | ok fl=>
   cases fl with
   | next=>exact False.elim hq
   | brk=>exact False.elim hq
   | cont=>exact False.elim hq
   | ret u=>
    obtain ⟨vv,H',I',r',t,a,b,c,rfl,ht,S'⟩:=I3.after hq
    cases r'
    obtain ⟨gD',hD',_⟩:=I'.pin (D,seqObj "list" #[] e1) (List.mem_append_right _ List.mem_cons_self)
    obtain ⟨gK',hK',_⟩:=I'.pin (kS,seqObj "list" ks.toArray e) (List.mem_append_right _ (List.mem_cons_of_mem _ List.mem_cons_self))
    have I4:Inv X pins σ H' s':=I'.pins_of fun p hp=>I'.pin p (List.mem_append_right _ (List.mem_cons_of_mem _ (List.mem_cons_of_mem _ hp)))
    refine wpAny_bind (listUpdate_at gK' rfl ?_ (sizeLine_big (by rw [List.size_toArray];omega)) (by rw [Array.size_push,List.size_toArray];exact Nat.le_succ_of_le (sizeLine_big (by omega))))
    refine wpAny_pure ?_
    have gK2:=get?_update_seq gK' (fun x=>x.push (.ref t))
    have ep:(ks.toArray.push (.ref t))=(ks ++ [Value.ref t]).toArray:=by simp
    rw [ep] at gK2
    have I5:Inv X pins σ H' { s' with heap:=s'.heap.update kS (Obj.mapSeq fun x=>x.push (.ref t)) }:=I4.turnedL (t':=s'.toks) (fp:=[kS]) (fun b o hb e=>by
     rw [Heap.get?_update_ne _ _ _ _ (fun z=>hb (by simp [z]))]
     exact e) fun b hb=>by
      rw [List.mem_singleton.mp hb]
      exact fK H' hK'
    refine ih xr' _ H' (ks ++ [Value.ref t]) _ r2 (fun y hy=>hsub y (List.mem_cons_of_mem _ hy)) I5 (S.trans S') hD' hK' ?_ gK2 (fun z hz=>?_) (by rw [List.length_append,List.length_singleton];omega) fun s'' H'' ks'' e'' a1 a2 a3 a4 a5 a6 a7 a8=>?_
    ·show (s'.heap.update kS _).get? D=_
     rw [Heap.get?_update_ne _ _ _ _ hne]
     exact gD'
    ·rcases List.mem_append.mp hz with hz | hz
     ·exact (hk z hz).same S'
     ·rw [List.mem_singleton.mp hz]
      exact ⟨t,a,b,c,rfl,ht⟩
    ·exact q s'' H'' ks'' e'' a1 a2 a3 a4 a5 a6 a7 (by rw [a8,List.length_append,List.length_singleton,List.length_cons];omega)
end
end L2
namespace L2
open PySem PySem.Spec PyProof.Rows PySem.W
section
variable {X:Cx}{pins:List (Addr×Obj)}{σ:St}{H:Hp}{s:Shared}
theorem sortedK {k:Nat}{f l:Addr}{fd:FuncData}{x:Str}{sp:Sp}{xs:List V}{Q:VK}{E:Value→Shared→Prop} (F:FnOk X.prog X.w X.K X.mg X.base CX0 k f fd [x] sp) (hr:Room (k + 2) X.A) (hb:Binds X.K fd [x] [])
  (I:Inv X pins σ H s) (hl:SqL X.K H l xs) (h64:xs.length < 64)
  (hkey:∀ y∈xs,∀ (H':Hp) (Q:VK),Same H H'→(∀ t a b c H'',Same H' H''→H'' t=some (.tup [.int a,.int b,.str c])→Q (.ref t) H'')→sp [y] H' Q E0)
  (q:∀ D ys H',Same H H'→H D=none→ys.Perm xs→H' D=some (.lst ys)→Q (.ref D) H'):
  wpAny (model X.prog X.w) X.A (call (.builtin "sorted") [.ref l] [(Str.ofString "key",.ref f)]) (EP X pins σ Q) E s:=by
 obtain ⟨its,rv,pl,_⟩:=I.list hl
 have hlen:=rv.length
 have zz:its.length≤sizeLine:=sizeLine_big (by omega)
 refine call_function_entry_kw kind_sorted plain_sorted entry_sorted (ksk_s1 _ _) ?_
 refine wpAny_bind (wpAny_pure ?_)
 refine wpAny_bind (collect_list pl.isList ?_ zz)
 refine wpAny_bind (wpAny_newList ?_ zz)
 have hsz1:((s.heap.push (seqObj "list" #[] 0)).update s.heap.objs.size (Obj.mapSeq fun x=>x ++ its.toArray)).objs.size=s.heap.objs.size + 1:=by
  rw [Heap.size_update,size_push']
 generalize hh1:(s.heap.push (seqObj "list" #[] 0)).update s.heap.objs.size (Obj.mapSeq fun x=>x ++ its.toArray)=h1 at hsz1 ⊢
 have old1:∀ b o,s.heap.get? b=some o→h1.get? b=some o:=fun b o e=>by
  rw [← hh1,Heap.get?_update_ne _ _ _ _ (Nat.ne_of_lt (Heap.lt_size e))]
  exact Heap.get?_push_of_some _ e
 dsimp only
 obtain ⟨D,hD⟩:∃ D,D=h1.objs.size:=⟨_,rfl⟩
 have gD0:(h1.push (seqObj "list" its.toArray 0)).get? D=some (seqObj "list" its.toArray 0):=by
  rw [hD]
  exact Heap.get?_push_size _ rfl
 have old2:∀ b o,s.heap.get? b=some o→(h1.push (seqObj "list" its.toArray 0)).get? b=some o:=fun b o e=>Heap.get?_push_of_some _ (old1 b o e)
 have hsz2:(h1.push (seqObj "list" its.toArray 0)).objs.size=s.heap.objs.size + 2:=by rw [size_push',hsz1]
 change wpAny _ _ (do let _ ← holding [Value.ref h1.objs.size] (call (.builtin "list.sort") [Value.ref h1.objs.size] [(Str.ofString "key",.ref f)]);ret (Value.ref h1.objs.size)) _ _ { s with heap:=h1.push (seqObj "list" its.toArray 0) }
 rw [← hD]
 generalize h1.push (seqObj "list" its.toArray 0)=h2 at gD0 old2 hsz2 ⊢
 have hDs:D=s.heap.objs.size + 1:=by rw [hD,hsz1]
 refine wpAny_bind (wpAny_holding (wpAny_call_entry_kw slot_list_sort ⟨_,gD0,rfl⟩ entry_list_sort ?_ (ksk_l1 _ _)))
 rw [ksk_t1]
 unfold ksk_tree
 refine wpAny_bind (listItems_at gD0 rfl ?_)
 refine wpAny_bind (listUpdate_at gD0 rfl ?_ (by rw [List.size_toArray];exact zz) (Nat.zero_le _))
 have gD1:=get?_update_seq gD0 (fun _=>#[])
 generalize (if ((#[]:Array Value).size == its.toArray.size)=true then 0 else 0 + 1)=e1 at gD1
 have old3:∀ b o,s.heap.get? b=some o→(h2.update D (Obj.mapSeq fun _=>#[])).get? b=some o:=fun b o e=>by
  rw [Heap.get?_update_ne _ _ _ _ (Nat.ne_of_lt (by rw [hDs];exact Nat.lt_succ_of_lt (Heap.lt_size e)))]
  exact old2 b o e
 have hsz3:(h2.update D (Obj.mapSeq fun _=>#[])).objs.size=s.heap.objs.size + 2:=by rw [Heap.size_update,hsz2]
 dsimp only
 generalize h2.update D (Obj.mapSeq fun _=>#[])=h3 at gD1 old3 hsz3 ⊢
 refine wpAny_bind (seqEpoch_at gD1 rfl ?_)
 refine wpAny_bind (wpAny_newTuple ?_ (by simpa using zz))
 refine wpAny_bind (wpAny_newList ?_ (Nat.zero_le _))
 dsimp only
 refine wpAny_holding ?_
 obtain ⟨kS,hkS⟩:∃ kS,kS=(h3.push { cls:=Value.type "tuple",data:=Data.seq its.toArray.toList.toArray }).objs.size:=⟨_,rfl⟩
 have gK4:((h3.push { cls:=Value.type "tuple",data:=Data.seq its.toArray.toList.toArray }).push { cls:=Value.type "list",data:=Data.seq ([]:List Value).toArray }).get? kS=some (seqObj "list" ([]:List Value).toArray 0):=by
  rw [hkS]
  exact Heap.get?_push_size _ rfl
 have gD4:((h3.push { cls:=Value.type "tuple",data:=Data.seq its.toArray.toList.toArray }).push { cls:=Value.type "list",data:=Data.seq ([]:List Value).toArray }).get? D=some (seqObj "list" #[] e1):=Heap.get?_push_of_some _ (Heap.get?_push_of_some _ gD1)
 have old4:∀ b o,s.heap.get? b=some o→((h3.push { cls:=Value.type "tuple",data:=Data.seq its.toArray.toList.toArray }).push { cls:=Value.type "list",data:=Data.seq ([]:List Value).toArray }).get? b=some o:=fun b o e=>Heap.get?_push_of_some _ (Heap.get?_push_of_some _ (old3 b o e))
 have hkSs:kS=s.heap.objs.size + 3:=by rw [hkS,Heap.size_push,hsz3]
 rw [← hkS]
 generalize (h3.push { cls:=Value.type "tuple",data:=Data.seq its.toArray.toList.toArray }).push { cls:=Value.type "list",data:=Data.seq ([]:List Value).toArray }=h4 at gK4 gD4 old4 ⊢
 have hne:D≠kS:=Nat.ne_of_lt (by rw [hDs,hkSs];omega)
 have I4:Inv X pins σ H { s with heap:=h4 }:=I.kept (t':=s.toks) old4
 have lD:s.heap.objs.size≤D:=by rw [hDs];exact Nat.le_succ _
 have lK:s.heap.objs.size≤kS:=by rw [hkSs];exact Nat.le_add_right _ _
 have nD:H D=none:=I.hok.fresh lD
 have nK:H kS=none:=I.hok.fresh lK
 have fD:∀ H',H' D=none→FpOk X pins H' D:=fun H' hn=>I.fpOk lD hn
 have fK:∀ H',H' kS=none→FpOk X pins H' kS:=fun H' hn=>I.fpOk lK hn
 unfold ksk_rest
 refine wpAny_bind (wpAny_rule ?_)
 refine wpAny_bind ?_
 rw [← Array.forIn_toList]
 have hrk:Room k X.A.in1.in1:=(hr.in1).in1
 refine key_loop (X:=X) (pins:=pins) (σ:=σ) (A':=X.A.in1.in1) F hrk I.ok.frames hb (D:=D) (kS:=kS) (H0:=H) (e1:=e1) (xs:=xs) fD fK hne hkey (er:=fun v e=>do
     rule "list.sort.key-raised"
     let made ← Builtin.List.listItems (.ref kS)
     Builtin.List.listUpdate (.ref kS) fun x=>#[]
     letGo made.toList.reverse [e]
     Builtin.List.listUpdate (Value.ref D) fun x=>its.toArray
     throw e
     pure (ForInStep.yield PUnit.unit)) (fun v u=>by congr 1) its xs _ H [] 0 rv (fun y hy=>hy) I4 (Same.refl H) nD nK gD4 gK4 (fun v hv=>by simp at hv) (by simp;omega) ?_
 intro s' H' ks e' I' S hD' hK' gD' gK' hks hkl
 refine wpAny_bind (listItems_at gK' rfl ?_)
 refine endT gD' gK' hne (by simpa using hkl) (by omega) (fun v hv=>(hks v hv).real I') fun out hp=>?_
 refine ⟨_,rfl,wpAny_pure ⟨_,rfl,?_⟩⟩
 obtain ⟨ys,hys,rys⟩:=perm_vals hp rv
 have I6:Inv X pins σ H' { s' with heap:=(s'.heap.update kS (Obj.mapSeq fun _=>#[])).update D (Obj.mapSeq fun _=>out.toArray) }:=I'.turnedL (t':=s'.toks) (fp:=[kS,D]) (fun b o hb e=>by
  rw [Heap.get?_update_ne _ _ _ _ (fun z=>hb (by simp [z])),Heap.get?_update_ne _ _ _ _ (fun z=>hb (by simp [z]))]
  exact e) fun b hb=>by
   simp only [List.mem_cons,List.not_mem_nil,or_false] at hb
   rcases hb with rfl | rfl
   ·exact fK H' hK'
   ·exact fD H' hD'
 have gD6:((s'.heap.update kS (Obj.mapSeq fun _=>#[])).update D (Obj.mapSeq fun _=>out.toArray)).get? D=_:=get?_update_seq (c:="list") (xs:=#[]) (n:=e1) (by
  rw [Heap.get?_update_ne _ _ _ _ hne]
  exact gD') fun _=>out.toArray
 have hyl:ys.length≤sizeLine:=sizeLine_big (by rw [hys.length_eq];omega)
 exact ⟨.ref D,_,I6.track (ob:=.lst ys) (fD H' hD') ⟨hyl,out,_,rys,gD6⟩,rfl,q D ys _ (S.trans (Same.new hD')) nD hys upd_same⟩
end
end L2
namespace L2
open PySem PySem.Spec PyProof.Rows PySem.W
section
variable {X:Cx}{e:Expr}{ta:TA}
def tSK (K:PySem.W.Frag) (sp:Sp) (ta:TA):TE:=fun σ H Q=>ta σ H fun vs H1=>∃ l xs,vs=[V.ref l]∧SqL K H1 l xs∧xs.length < 64∧
 (∀ y∈xs,∀ (H':Hp) (Q:VK),Same H1 H'→(∀ t a b c H'',Same H' H''→H'' t=some (.tup [.int a,.int b,.str c])→Q (.ref t) H'')→sp [y] H' Q E0)∧
 ∀ D ys H',Same H1 H'→H1 D=none→ys.Perm xs→H' D=some (.lst ys)→Q (.ref D) H'
theorem pe_sortedK {k:Nat}{f:Addr}{fd:FuncData}{x g:Str}{sp:Sp}{p pk kp pos:Pos} (F:FnOk X.prog X.w X.K X.mg X.base CX0 k f fd [x] sp) (hr:Room (k + 2) X.A) (hb:Binds X.K fd [x] []) (hg:Gl X "sorted") (hm:X.mg "sorted"=none) (hgk:Gl X g) (hmk:X.mg g=some (.ref f)) (ha:PA X [e] ta)
  (hd:(g == ("__debug__":Str))=false:=by decide) (he:starEach [e] X.env=[(false,eval e X.env)]:=by rfl):
  PE X (.Call (.Name "sorted" p) [e] [⟨some "key",.Name g pk,kp⟩] pos) (tSK X.K sp ta):=by
 constructor
 intro pins s σ H Q I h
 refine wpAny_Call_Name_kw (ld_blt I hg hm boot_sorted ?_ (by decide) (by decide))
 refine callWith_builtin_kwB (by rw [he];rfl) (by rfl) ?_
 have hrun:=ha pos pins s σ H _ I h
 ·rw [he] at hrun ⊢
  refine evalArgs_kwB (by rfl) (thn hrun fun us s1 ⟨vs,H1,I1,r,q1⟩=>?_)
  obtain ⟨l,xs,rfl,hl,h64,hkey,q⟩:=q1
  have hkw:PK X [⟨some "key",.Name g pk,kp⟩] (tCons (tC (.ref f)) tNil):=pk_cons (pe_glob hgk hmk rfl hd) pk_nil
  refine thn (hkw pos pins s1 σ H1 (fun zs H2=>zs=[V.ref f]∧H2=H1) I1 ⟨rfl,rfl⟩) fun ws s2 ⟨zs,H2,I2,rz,ez,eH⟩=>?_
  subst ez eH
  cases rz with
  | cons r1 r2=>
   cases r1
   cases r2
   cases r with
   | cons r3 r4=>
    cases r3
    cases r4
    exact sortedK F hr hb I2 hl h64 hkey q
end
end L2
namespace L2
open PySem PySem.Spec PyProof.Rows
open PySem.SeqAt
open PySem.AutoSeq1 (wpAny_loadPart')
open PySem.MeetsSeq PySem.MeetsSeq2 PySem.MeetsSeq3
end L2
namespace L2
open PySem PySem.Spec PyProof.Rows
def FnV (X:Cx) (k:Nat) (ps:List Str) (f:Addr) (sp:Sp):Prop:=∃ fd:FuncData,FnOk X.prog X.w X.K X.mg X.base CX0 k f fd ps sp∧PySem.W.keepIn X.K (.ref f)=true∧Binds X.K fd ps []
def tCallV (X:Cx) (k:Nat) (ps:List Str) (tv:TE) (t:TA):TE:=fun σ H Q=>tv σ H fun v H1=>∃ (f:Addr) (sp:Sp),v=.ref f∧FnV X k ps f sp∧t σ H1 fun vs H2=>sp vs H2 Q E0
theorem pe_callV {X:Cx}{k:Nat}{ps:List Str}{x:Str}{p pos:Pos}{e:Expr}{es:List Expr}{tv:TE}{t:TA} (hv:PE X (.Name x p) tv) (hr:Room k X.A) (ha:PA X (e :: es) t)
  (he:starEach (e :: es) X.env=(false,eval e X.env) :: starEach es X.env:=by rfl) (hpl:(backTo pos (starEach es X.env)).any (·.1)=false:=by rfl):
  PE X (.Call (.Name x p) (e :: es) [] pos) (tCallV X k ps tv t):=by
 constructor
 intro pins s σ H Q I h
 refine wpAny_Call_Name_kw (thn (hv pins s σ H _ I h) fun u s1 ⟨y,H1,I1,ry,f,sp,ey,⟨fd,F,hk,hb⟩,h2⟩=>?_)
 subst ey
 cases ry
 refine PySem.W.callWith_K (h₀:=X.base) I1.ok.mod.kin hk (thn (ha pos pins s1 σ H1 _ I1 h2) fun us s2 ⟨vs,H2,I2,r,q⟩=>⟨I2.kIn,?_⟩) he hpl
 exact run_fn F hr hb .nil pass0 I2 r (by rw [List.append_nil];exact q)
def tKGet (kvs:List (Key×V)) (ty:TE):TE:=fun σ H Q=>ty σ H fun y H2=>∃ k v,y=kV k∧valV kvs k=some v∧Q v H2
theorem pe_kget {X:Cx}{i:Expr}{x:Str}{ty:TE}{a:Addr}{vs:List (Key×Value)}{kvs:List (Key×V)}{p pos:Pos} (hd:∀ h:Heap,X.K.In h→h.DictOf (mixKind X.prog X.w) a vs) (rel:KV kvs vs) (hg:Gl X x) (hm:X.mg x=some (.ref a)) (hi:PE X i ty) (hs:NoSl i) (hdb:(x == ("__debug__":Str))=false:=by decide):
  PE X (.Subscript (.Name x p) i pos) (tKGet kvs ty):=by
 constructor
 intro pins s σ H Q I h
 have ho:PE X (.Name x p) (tC (.ref a)):=pe_glob hg hm rfl hdb
 refine subD_of PySem.F.slot_dict_getitem.lookup hs (thn (ho pins s σ H (fun v H1=>v=.ref a∧ty σ H1 fun y H2=>∃ k v,y=kV k∧valV kvs k=some v∧Q v H2) I ⟨rfl,h⟩) fun u s1 ⟨x,H1,I1,rx,ex,q1⟩=>thn (hi pins s1 σ H1 _ I1 q1) fun iv s2 ⟨y,H2,I2,ry,k,v,ey,l,q2⟩=>?_)
 subst ex ey
 obtain rfl:u=Value.ref a:=rx
 have dd:=hd s2.heap I2.kIn
 refine ⟨?_,?_⟩
 ·obtain ⟨o,es,ep,e,hx,_⟩:=dd
  exact ⟨o,e,hx.1⟩
 ·obtain ⟨w',hw,rw'⟩:=RelO.some_of (v:=v) (o:=valueAt vs k) (by rw [← l];exact rel.val k)
  exact wpAny_getItem_of (kV_is ry) dd.mapOf hw ⟨v,H2,I2.tok _,rw',q2⟩
end L2
namespace L2
open PySem PySem.Spec PyProof.Rows
section
variable {X:Cx}{pins:List (Addr×Obj)}{σ:St}{H:Hp}{s:Shared}{A:Around}{E:Value→Shared→Prop}{Q:Value→Shared→Prop}{b:Bool}
end
end L2
namespace L2
open PySem PySem.Spec PyProof.Rows
theorem pe_bmK {X:Cx}{K:PySem.W.Frag}{o e:Expr}{es:List Expr}{to:TE}{t:TA}{name:Str}{apos cpos:Pos}{T id:String}{r:V→List V→Hp→VK→Prop} (pa:PlainAttrs T) (slot:Slot T name id) (hty:typeOf (.builtin id)=pure (.type "method_descriptor")) (hm:MtR X id r) (ho:PE X o to) (ha:PA X (e :: es) t) (hK:X.K=K:=by rfl)
  (hbase:attributeBase o name X.env (eval o X.env)=eval o X.env:=by rfl)
  (hfew:((backTo cpos (starEach (e :: es) X.env)).all (fun x=>!x.1) && (backToKw cpos (keywordEach [] X.env)).all (fun x=>x.1.isSome)
   && decide ((e :: es).length + ([]:List Keyword).length + (if ([]:List Keyword).isEmpty then 0 else 1) < 30))=true:=by rfl)
  (hline:(apos.endLine == cpos.line)=true:=by rfl) (hs:starEach (e :: es) X.env=(false,eval e X.env) :: starEach es X.env:=by rfl) (hplain:(backTo cpos (starEach es X.env)).any (·.1)=false:=by rfl):
  PE X (.Call (.Attribute o name apos) (e :: es) [] cpos) (tBM K T r to t):=by
 subst hK
 exact pe_bm pa slot hty hm ho ha hbase hfew hline hs hplain
theorem strsAre_of:∀ {ss:List Str}{us:List Value},Vals (ss.map V.str) us→StrsAre us ss
 | [],_,r=>by rw [List.map_nil] at r;cases r;exact .nil
 | s :: ss,_,r=>by
  rw [List.map_cons] at r
  cases r with
  | cons r1 r2=>
   obtain ⟨t,e⟩:=r1
   subst e
   exact .cons s t (strsAre_of r2)
theorem vals_of_strs:∀ {us:List Value}{ns:List Str},StrsAre us ns→Vals (ns.map V.str) us
 | _,_,.nil=>.nil
 | _,_,.cons i t r=>.cons ⟨t,rfl⟩ (vals_of_strs r)
theorem call_sortedS {X:Cx}:CallR X (.builtin "sorted") (fun xs H Q=>∃ (p:Addr) (ns:List Str),xs=[.ref p]∧SqL X.K H p (ns.map V.str)∧ns.length < 64∧∀ (l:Addr) (ms:List Str),H l=none→ms.Perm ns→sortedS ms=true→Q (.ref l) (upd H l (.lst (ms.map V.str)))):=by
 intro pins s σ H xs us Q I r h
 obtain ⟨p,ns,rfl,hx,h64,q⟩:=h
 obtain ⟨u,rfl,ru⟩:=vals1 r
 cases ru
 obtain ⟨its,rv,pl,_⟩:=I.list hx
 have hi:StrsAre its ns:=strsAre_of rv
 have hlen:=rv.length
 rw [List.length_map] at hlen
 refine sorted_strs pl.isList hi (by omega) fun out ms hI hp hs=>?_
 have hk:∀ b o,s.heap.get? b=some o→(sortedAll s.heap its out).get? b=some o:=fun b o e=>sortedAll_old e
 obtain ⟨e,he⟩:=sortedAll_at s.heap its out
 have hn:H (s.heap.objs.size + 1)=none:=I.hok.fresh (Nat.le_succ _)
 have hms:=hp.length_eq
 have hv:Vals (ms.map V.str) out.toList:=vals_of_strs hI
 refine ⟨.ref (s.heap.objs.size + 1),_,I.laid (t':=s.toks) (o:=.lst (ms.map V.str)) hk (Nat.le_succ _) ⟨sizeLine_big (by rw [List.length_map];omega),out.toList,e,hv,by rw [he] <;> rfl⟩,rfl,q _ ms hn hp hs⟩
end L2
namespace L2
open PySem PyProof.Rows
def SetTab (w:World) (es:Array (Int×Value)) (t:SetTable):Prop:=t.led=!w.params.followText "set-order"∧(es.size=0∨t.plain=false)
def SetP (prog:Program) (w:World) (h:Heap) (a:Addr) (S:Str→Bool) (n:Nat):Prop:=
 ∃ o es ep t,h.get? a=some o∧o.ExactSet∧o.data=.set es ep t∧ElemsOf (PySem.strKind prog w) es.toList∧(∀ k,S k=true↔∃ e∈es.toList,(PySem.strKind prog w).is k e.2=true)
  ∧es.size < scanBound∧t.fits es.size=true∧es.size=n∧SetTab w es t
end L2
namespace L2
open PySem PyProof.Rows
end L2
namespace L2
open PySem PyProof.Rows
section
variable {prog:Program}{w:World}{A:Around}{E:Value→Shared→Prop}{s:Shared}{I S T:Addr}{i m ep:Nat}{o ot:Obj}{es:Array (Int×Value)}{t:SetTable}{places:Array Value}{x:Value}
end
end L2
namespace L2
open PySem PyProof.Rows
section
variable {prog:Program}{w:World}{A:Around}{I S T:Addr}{m ep:Nat}{o ot:Obj}{es:Array (Int×Value)}{t:SetTable}{places:Array Value}
structure ItOk (prog:Program) (w:World) (A:Around) (S:Addr) (el:List Value) (s s2:Shared) (I:Addr):Prop where
 w:∃ (fp:List Addr) (P:Nat→Value→Prop) (St:Nat→Heap→Prop),Walks prog w A I fp [I] el.length P St∧St 0 s2.heap∧I∈fp∧(∀ b∈fp,b < s2.heap.objs.size∧(b=S∨s.heap.objs.size≤b))∧∀ acc,ItemsOf P acc el.length→acc.toList.Perm el
 keep:∀ b u,s.heap.get? b=some u→s2.heap.get? b=some u
 new:s.heap.objs.size≤I
 gens:s2.gens=s.gens
 os:s2.os=s.os
 toks:s2.toks=s.toks
end
end L2
namespace L2
open PySem PyProof.Rows
section
variable {prog:Program}{w:World}{A:Around}{S:Addr}{ep:Nat}{o:Obj}{es:Array (Int×Value)}{t:SetTable}
end
end L2
namespace L2
open PySem PyProof.Rows
section
variable {prog:Program}{w:World}{A:Around}{S:Addr}{ep:Nat}{o:Obj}{es:Array (Int×Value)}{t:SetTable}
end
end L2
namespace L2
open PySem PyProof.Rows
section
variable {prog:Program}{w:World}{A:Around}{S:Addr}{E:Value→Shared→Prop}{s:Shared}
end
end L2
namespace L2
open PySem PySem.Spec PyProof.Rows
section
variable {X:Cx}{pins:List (Addr×Obj)}{σ:St}{H H':Hp}{s:Shared}{h':Heap}
theorem risingS_pair:∀ (p:Str) (l:List Str),risingS p l=true→(∀ x∈l,¬ x.cps.toList < p.cps.toList)∧l.Pairwise fun a b=>¬ b.cps.toList < a.cps.toList
 | p,[],_=>⟨fun x hx=>by simp at hx,List.Pairwise.nil⟩
 | p,x :: r,h=>by
  have h':(!ltCps x.cps.toList p.cps.toList && risingS x r)=true:=h
  rw [Bool.and_eq_true,ltCps_eq] at h'
  have hx:¬ x.cps.toList < p.cps.toList:=by simpa using h'.1
  obtain ⟨i1,i2⟩:=risingS_pair x r h'.2
  refine ⟨fun y hy=>?_,List.pairwise_cons.mpr ⟨i1,i2⟩⟩
  rcases List.mem_cons.mp hy with rfl | hy
  ·exact hx
  ·intro z
   have h1:=i1 y hy
   exact hx (List.lt_of_le_of_lt (List.not_lt.mp h1) z)
theorem sortedS_pair:∀ (l:List Str),sortedS l=true→l.Pairwise fun a b=>¬ b.cps.toList < a.cps.toList
 | [],_=>List.Pairwise.nil
 | x :: r,h=>List.pairwise_cons.mpr (risingS_pair x r h)
theorem cps_inj {a b:Str} (h:a.cps.toList=b.cps.toList):a=b:=by
 cases a;cases b
 congr
 exact Array.toList_inj.mp h
end
end L2
namespace L2
open PySem PySem.Spec PyProof.Rows PySem.W
def krun {α:Type} (o:Nat→Nat→Bool):KasT α→α
 | .ret a=>a
 | .ask i j k=>krun o (k (o i j))
end L2
namespace L2
open PySem PySem.Spec PyProof.Rows PySem.W
abbrev P3:=Str×Str×Int
def PartT (h:Heap) (v:Value) (x:P3):Prop:=∃ t u1 u2 u3,v=.ref t∧IsTup h t #[.str x.1 u1,.str x.2.1 u2,.int x.2.2 u3]
section
variable {prog:Program}{w:World}{A:Around}{E:Value→Shared→Prop}{s:Shared}
end
end L2
namespace L2
open PySem PySem.Spec PyProof.Rows PySem.W
section
variable {prog:Program}{w:World}{A:Around}{E:Value→Shared→Prop}{s:Shared}
end
end L2
namespace L2
open PySem PySem.Spec PyProof.Rows PySem.W
section
variable {prog:Program}{w:World}{A:Around}{E:Value→Shared→Prop}{s:Shared}
end
section
variable {X:Cx}
def PartH (H:Hp) (v:V) (x:P3):Prop:=∃ t,v=.ref t∧H t=some (.tup [.str x.1,.str x.2.1,.int x.2.2])
end
end L2
namespace L2
open PySem PySem.Spec PyProof.Rows PySem.W
def RiseP (R:List P3):Prop:=R.Pairwise fun a b=>a.1.cps.toList < b.1.cps.toList
end L2
namespace L2
open PySem PySem.Spec PyProof.Rows PySem.W
section
variable {n:Nat}{π:Nat→Nat}
variable (hn:0 < n) (hπ:∀ i j,i < n→j < n→π i=π j→i=j)
include hn hπ
omit hn hπ in
omit hn hπ in
end
end L2
namespace L2
open PySem PySem.Spec PyProof.Rows PySem.W
abbrev K3:=Int×Int×Str
abbrev k0:K3:=(0,0,"")
def KeyX (h:Heap) (v:Value) (k:K3):Prop:=∃ t u1 u2 u3,v=.ref t∧IsTup h t #[.int k.1 u1,.int k.2.1 u2,.str k.2.2 u3]
section
variable {prog:Program}{w:World}{A:Around}{E:Value→Shared→Prop}{s:Shared}
end
end L2
namespace L2
open PySem PySem.Spec PyProof.Rows PySem.W
section
variable {prog:Program}{w:World}{A:Around}{E:Value→Shared→Prop}{s:Shared}
end
section
variable {X:Cx}{pins:List (Addr×Obj)}{σ:St}
def KeyHX (H:Hp) (v:Value) (k:K3):Prop:=∃ t,v=.ref t∧H t=some (.tup [.int k.1,.int k.2.1,.str k.2.2])
structure KsX (KR:V→K3→Prop) (H:Hp) (xd:List V) (ks:List Value) (kk:List K3):Prop where
 len:ks.length=xd.length∧kk.length=xd.length
 key:∀ i,i < xd.length→KeyHX H (ks.getD i .none) (kk.getD i k0)
 kr:∀ i,i < xd.length→KR (xd.getD i .non) (kk.getD i k0)
end
section
variable {X:Cx}{pins:List (Addr×Obj)}{σ:St}{H:Hp}{s:Shared}
end
end L2
namespace L2
open PySem PySem.Spec PyProof.Rows PySem.W
section
variable {X:Cx}{pins:List (Addr×Obj)}{σ:St}{H:Hp}{s:Shared}{a:Addr}{kvs:List (Key×V)}{k:Key}{u r:Value}{A:Around}{E:Value→Shared→Prop}
end
section
variable {X:Cx}{o e f:Expr}{apos cpos:Pos}{td ty tx:TE}
end
section
variable {X:Cx}{o:Expr}{apos cpos:Pos}{td:TE}
end
section
variable {prog:Program}{w:World}{A:Around}{v d:Addr}{vs:List (Key×Value)}
end
end L2
namespace L2
open PySem PySem.Spec PyProof.Rows PySem.W
section
variable {X:Cx}{e:Expr}{ta:TA}
end
end L2
namespace L2
open PySem PySem.Spec PyProof.Rows
inductive Fm:V→Str→Prop
 | str (z:Str) (h:z.length≤sizeLine):Fm (.str z) z
 | int (i:Int) (h:i.natAbs.log2 < 1920):Fm (.int i) (toString i)
abbrev TJ:=Str→St→Hp→VK→Prop
structure PJ (X:Cx) (es:List Expr) (t:TJ):Prop where
 run:∀ (pins:List (Addr×Obj)) (s:Shared) (σ:St) (H:Hp) (Q:VK) (acc:Str),Inv X pins σ H s→t acc σ H Q→wpAny (model X.prog X.w) X.A (joinParts acc (evalEach es X.env)) (EP X pins σ Q) X.xe s
inductive J0 (acc:Str) (σ:St) (H:Hp) (Q:VK):Prop
 | mk (h:acc.length≤sizeLine) (q:Q (.str acc) H):J0 acc σ H Q
inductive JC (z:Str) (t:TJ) (acc:Str) (σ:St) (H:Hp) (Q:VK):Prop
 | mk (h:(acc ++ z).length≤sizeLine) (q:t (acc ++ z) σ H Q):JC z t acc σ H Q
inductive JF (t:TJ) (acc:Str) (σ:St) (x:V) (H:Hp) (Q:VK):Prop
 | mk (z:Str) (f:Fm x z) (h:(acc ++ z).length≤sizeLine) (q:t (acc ++ z) σ H Q):JF t acc σ x H Q
section
variable {X:Cx}{es:List Expr}{t:TJ}{te:TE}
end
end L2
namespace L2
open PySem PySem.Spec PyProof.Rows PySem.Builtin PySem.Builtin.Str
inductive rSplitI (x:V) (xs:List V) (H:Hp) (Q:VK):Prop
 | mk (z y:PySem.Str) (h0:x=.str z) (h1:xs=[.str y]) (hy:(y.length == 0)=false) (hz:z.length + 2≤sizeLine) (q:∀ L,H L=none→Q (.ref L) (upd H L (.lst ((Txt.split z y).map V.str)))):rSplitI x xs H Q
end L2
namespace L2
open PySem PySem.Spec PyProof.Rows
end L2
namespace L2
open PySem PySem.Spec PyProof.Rows PySem.NumText
inductive rStrI (xs:List V) (H:Hp) (Q:VK):Prop
 | mk (x:V) (z:Str) (h0:xs=[x]) (f:Fm x z) (q:Q (.str z) H):rStrI xs H Q
inductive rIntI (xs:List V) (H:Hp) (Q:VK):Prop
 | mk (z:Str) (n:Int) (h0:xs=[.str z]) (hn:PySem.intText? z=some n) (hl:z.length≤640) (q:Q (.int n) H):rIntI xs H Q
end L2
namespace L2
open PySem PySem.Spec PyProof.Rows
section
variable {prog:Program}{w:World}{K:Type} [DecidableEq K] {knd:HeapKind prog w K}{A:Around}{E:Value→Shared→Prop}{s:Shared}
end
end L2
namespace L2
open PySem PySem.SetTable
inductive PEnds (t:SetTable):Probe→Nat→Prop
 | here {p:Probe} {n:Nat}:t.slot p.j=.empty→PEnds t p n
 | step {p:Probe} {n:Nat}:PEnds t (t.advance p) n→PEnds t p (n + 1)
def leapP (t:SetTable) (i perturb:Nat):Probe:={ j:=i,more:=runEnd t.mask i - i,i:=i,perturb:=perturb,dummy:=none }
def orb (m:Nat):Nat→Nat→Nat
 | 0,i=>i
 | k + 1,i=>orb m k ((i * 5 + 1) % m)
structure TabOk (t:SetTable) (n:Nat):Prop where
 size:t.place.size=n
 nod:t.dummies=#[]
 mask:(t.mask=7∧n≤4)∨(t.mask=31∧n≤18)
inductive FEnds (owner:Array (Option Nat)):Nat→Nat→Nat→Prop
 | here {i p n:Nat}:(owner.getD i (some 0)).isNone=true→FEnds owner i p (n + 1)
 | step {i p n:Nat}:FEnds owner (SetTable.leap 31 i p).1 (SetTable.leap 31 i p).2 n→FEnds owner i p (n + 1)
structure Laid (owner:Array (Option Nat)) (k:Nat):Prop where
 size:owner.size=32
 perm:((List.range 32).filterMap fun j=>owner.getD j none).Perm (List.range k)
end L2
namespace L2
open PySem PySem.Spec PyProof.Rows
section
variable {prog:Program}{w:World}{A:Around}{E:Value→Shared→Prop}{s:Shared}
def ElT (prog:Program) (w:World) (h:Heap) (ks:List (List Str)) (v:Value):Prop:=∃ b k,v=.ref b∧IsTupleKey (strKind prog w) h k b∧k∈ks
end
end L2
namespace L2
open PySem PySem.Spec PyProof.Rows
section
variable {prog:Program}{w:World}{A:Around}{E:Value→Shared→Prop}{s:Shared}
structure SetT (prog:Program) (w:World) (h:Heap) (a:Addr) (rs:List Addr) (ks:List (List Str)) (o:Obj) (es:Array (Int×Value)) (ep:Nat) (t:SetTable):Prop where
 at_:h.get? a=some o
 ex:o.ExactSet
 data:o.data=.set es ep t
 perm:(es.toList.map (·.2)).Perm (rs.map Value.ref)
 els:∀ e∈es.toList,ElT prog w h ks e.2
 tab:TabOk t es.size
 led:SetTab w es t
end
end L2
namespace L2
open PySem PyProof.Rows
end L2
namespace L2
open PySem PySem.Spec PyProof.Rows PySem.W
abbrev P2:=Str×Str
def lex2 (x y:P2):Bool:=if x.1 == y.1 then (if x.2 == y.2 then false else decide (x.2.cps.toList < y.2.cps.toList)) else decide (x.1.cps.toList < y.1.cps.toList)
def PairT (h:Heap) (v:Value) (x:P2):Prop:=∃ t u1 u2,v=.ref t∧IsTup h t #[.str x.1 u1,.str x.2 u2]
section
variable {prog:Program}{w:World}{A:Around}{E:Value→Shared→Prop}{s:Shared}
end
section
variable {prog:Program}{w:World}{A:Around}{E:Value→Shared→Prop}{s:Shared}
end
def Rise2 (R:List P2):Prop:=R.Pairwise fun a b=>lex2 a b=true
end L2
namespace L2
open PySem PySem.Spec PyProof.Rows PySem.W
def pairAt (H:Hp) (r:Addr):P2:=match H r with
 | some (.tup [.str x,.str y])=>(x,y)
 | _=>("","")
def Pairs (H:Hp) (rs:List Addr):Prop:=∀ r∈rs,H r=some (.tup [.str (pairAt H r).1,.str (pairAt H r).2])
section
variable {P:Program}{w:World}{H:Hp}{h:Heap}{a:Addr}
end
theorem refs_of:∀ {rs:List Addr}{its:List Value},Vals (rs.map V.ref) its→its=rs.map Value.ref
 | [],_,.nil=>rfl
 | r :: rs,_,.cons e q=>by
  rw [refs_of q]
  cases e
  rfl
section
variable {X:Cx}{pins:List (Addr×Obj)}{σ:St}{H:Hp}{s:Shared}
end
end L2
namespace L2
open PySem PySem.Spec PyProof.Rows PySem.W
section
variable {prog:Program}{w:World}{A:Around}{E:Value→Shared→Prop}{s:Shared}{d I:Addr}{od:Obj}{es:Array DictEntry}{ep i:Nat}
end
section
variable {X:Cx}
end
end L2
namespace L2
open PySem PySem.Spec PyProof.Rows
section
variable {X:Cx}{e st:Expr}{te ts:TE}{pos p2:Pos}
end
end L2
namespace L2
open PySem PySem.Spec PyProof.Rows PySem.W
structure Fly (P:Program) (w:World) (outer:List Env) (H H':Hp) (s:Shared) (x:Addr) (C:Value) (s':Shared):Prop where
 os:s'.os=s.os
 bare:AllBare s'.gens
 ex:∃ (B:Heap) (a0:Value),Heap.FlyingW B outer x C a0 s'.heap∧HOk P w H' B∧(∀ b o,s.heap.get? b=some o→H b=none→b ∉ frs outer→B.get? b=some o)∧∀ b o,s.heap.get? b=some o→b ∉ frs outer→∃ o',B.get? b=some o'
 frf:∀ b∈frs outer,H b=none
 slot:∀ b o,s.heap.get? b=some o→H b=none→b∈frs outer→∃ sl,s'.heap.get? b=some { o with slots:=sl }
 free:∀ b o,s.heap.get? b=some o→H b=none→H' b=none
 tups:∀ b xs,H b=some (.tup xs)→H' b=some (.tup xs)
 frzs:∀ b o u,H b=some (.frz o u)→H' b=some (.frz o u)
 tbls:∀ b ps,H b=some (.tbl ps)→∃ more,H' b=some (.tbl (ps ++ more))
def CXr (P:Program) (w:World):CXT:=fun outer H s E e s'=>∃ (x:Addr) (C:Value) (H':Hp),e=.ref x∧Fly P w outer H H' s x C s'∧E C none H'
section
variable {P:Program}{w:World}{K:PySem.W.Frag}{mg:Str→Option Value}{base:Heap}{N:List Str}{qual:Str}{scope:Scope}{f:Addr}{cd:Value}{A:Around}{outer:List Env}{s:Shared}{H:Hp}{E:XK}
end
end L2
namespace L2
open PySem PySem.Spec PyProof.Rows PySem.W
structure ExcAt (h:Heap) (C:Addr) (bmB:List Value) (newId:String) (tl:List Value) (N':Addr) (nm q:Str) (bs:List Value) (hdct:Bool) (sn:List Str) (sub:List Value) (ab:Bool) (col:Option Bool) (dd:Option Addr) (k0 k1 k2 k3 k5:Option Value) (mN:Str→Option Value):Prop where
 ob:h.get? C=some (excClassObj nm q C N' bs tl hdct sn sub ab col dd k0 k1 k2 k3 k5 newId)
 ns:h.Ns N' mN
 ni:mN "__init__"=none
 tl:OwnTail h bmB tl
section
variable {P:Program}{w:World}{K:PySem.W.Frag}{mg:Str→Option Value}{base:Heap}{N:List Str}{qual:Str}{scope:Scope}{f:Addr}{cd:Value}{A:Around}{outer:List Env}{s:Shared}{H:Hp}{E:XK}
end
end L2
namespace L2
open PySem PySem.Spec PyProof.Rows PySem.W
end L2
namespace L2
open PySem PySem.Spec PyProof.Rows PySem.W
def gallop':Bool→Keyed→Array Keyed→Nat→Nat→Nat→StateT SortSt Sem (Option Nat):=sortPriv% PySem.Builtin.gallop
def mergeLo':Array Keyed→Array Keyed→StateT SortSt Sem (Array Keyed):=sortPriv% PySem.Builtin.mergeLo
def mergeHi':Array Keyed→Array Keyed→StateT SortSt Sem (Array Keyed):=sortPriv% PySem.Builtin.mergeHi
section
variable {prog:Program}{w:World}{A:Around}{E:Value→Shared→Prop}{s:Shared}{κ:SortKind}{it:Array Keyed}
def CmpAny (prog:Program) (w:World) (A:Around) (s:Shared) (κ:SortKind) (it:Array Keyed):Prop:=
 ∀ x y,x∈it.toList→y∈it.toList→∀ C:Bool→Shared→Prop,(∀ b,C b s)→wpAny (model prog w) A (keyLt' κ x.1 y.1) C (fun _ _=>False) s
theorem wpS_elem {arr:Array Keyed}{i:Nat}{p:Keyed}{st:SortSt}{Q:Keyed→SortSt→Prop} (hi:arr[i]?=some p) (h:Q p st):wpS (model prog w) A E s (elem' arr i) Q st:=by
 rw [elem'_eq,hi]
 exact wpS_pure h
variable (hc:CmpAny prog w A s κ it)
include hc
theorem wpS_lt {x y:Keyed}{st:SortSt}{Q:Option Bool→SortSt→Prop} (hk:kindOf st=κ) (hx:x∈it.toList) (hy:y∈it.toList) (h:∀ b,Q (some b) st):wpS (model prog w) A E s (lt' x y) Q st:=by
 rw [lt'_eq]
 refine wpS_bind (wpS_get ?_)
 rw [hk]
 refine wpS_bind (wpS_lift (wpAny_attempt (wpAny_mono (hc x y hx hy (fun b s'=>s'=s) fun _=>rfl) (fun b s' e=>⟨e,?_⟩) fun _ _ e=>e.elim)))
 exact wpS_pure (h b)
theorem wpS_gallop {left:Bool}{key:Keyed}{arr:Array Keyed}{base n hint:Nat}{st:SortSt}{Q:Option Nat→SortSt→Prop} (hkey:key∈it.toList) (harr:∀ i,i < n→∃ p,arr[base + i]?=some p∧p∈it.toList) (hh:hint < n) (hk:kindOf st=κ)
  (h:∀ k,k≤n→Q (some k) st):wpS (model prog w) A E s (gallop' left key arr base n hint) Q st:=by
 have bey:∀ (i:Nat) (Q':Option Bool→SortSt→Prop),i < n→(∀ b,Q' (some b) st)→wpS (model prog w) A E s (do
   let x ← elem' arr (base + i)
   if left=true then lt' x key else do
    let r ← lt' key x
    pure (r.map fun b=>!b)) Q' st:=fun i Q' hi q=>by
  obtain ⟨p,e,hp⟩:=harr i hi
  refine wpS_bind (wpS_elem e ?_)
  split
  ·exact wpS_lt hc hk hp hkey q
  ·exact wpS_bind (wpS_lt hc hk hkey hp fun b=>wpS_pure (q _))
 refine wpS_bind (bey hint _ hh fun b=>?_)
 dsimp only
 split <;>
 ·refine wpS_bind (wpS_mono (wpS_forRange (I:=fun _ c st'=>st'=st∧c.1=none) (Q:=fun c st'=>st'=st∧c.1=none) ?_ (fun c st' z=>z) ⟨rfl,rfl⟩) ?_)
  ·rintro x ⟨r,lo,ofs⟩ st' _ _ ⟨rfl,z⟩
   cases z
   dsimp only
   split
   ·exact wpS_pure ⟨rfl,rfl⟩
   ·refine wpS_bind (bey _ _ (by omega) fun b=>?_)
    dsimp only
    split <;> exact wpS_pure ⟨rfl,rfl⟩
  ·rintro ⟨r,lo,ofs⟩ st' ⟨rfl,z⟩
   cases z
   dsimp only
   refine wpS_bind (wpS_mono (wpS_forRange (I:=fun _ c st''=>st''=st'∧c.1=none∧c.2.2≤n) (Q:=fun c st''=>st''=st'∧c.1=none∧c.2.2≤n) ?_ (fun c st' z=>z) ⟨rfl,rfl,?_⟩) ?_)
   ·rintro x ⟨r,lo,hi⟩ st'' _ _ ⟨rfl,z,z2⟩
    cases z
    dsimp only at z2 ⊢
    split
    ·exact wpS_pure ⟨rfl,rfl,z2⟩
    ·refine wpS_bind (bey _ _ (by omega) fun b=>?_)
     dsimp only
     split
     ·exact wpS_pure ⟨rfl,rfl,z2⟩
     ·exact wpS_pure ⟨rfl,rfl,by dsimp only;omega⟩
   ·dsimp only;omega
   ·rintro ⟨r,lo,hi⟩ st'' ⟨rfl,z,z2⟩
    cases z
    exact wpS_pure (h _ z2)
end
end L2
namespace L2
open PySem PySem.Spec PyProof.Rows PySem.W
def Pl (a b out:Array Keyed) (ia ib:Nat):Prop:=(out.toList ++ (a.toList.drop ia ++ b.toList.drop ib)).Perm (a.toList ++ b.toList)
section
variable {a b out:Array Keyed}{ia ib k:Nat}
theorem drop_cons {c:Array Keyed}{i:Nat}{p:Keyed} (e:c[i]?=some p):c.toList.drop i=p :: c.toList.drop (i + 1):=by
 have e':c.toList[i]?=some p:=by rw [Array.getElem?_toList];exact e
 obtain ⟨h1,h2⟩:=List.getElem?_eq_some_iff.mp e'
 rw [← h2]
 exact List.drop_eq_getElem_cons h1
theorem ext_list {c:Array Keyed}{i j:Nat}:(c.extract i j).toList=(c.toList.drop i).take (j - i):=by simp
theorem ext_end {c:Array Keyed}{i:Nat}:(c.extract i c.size).toList=c.toList.drop i:=by
 rw [ext_list,List.take_of_length_le]
 simp
theorem Pl.pushA {p:Keyed} (h:Pl a b out ia ib) (e:a[ia]?=some p):Pl a b (out.push p) (ia + 1) ib:=by
 unfold Pl at h ⊢
 rw [drop_cons e] at h
 rw [Array.toList_push,List.append_assoc]
 exact h
theorem Pl.pushB {p:Keyed} (h:Pl a b out ia ib) (e:b[ib]?=some p):Pl a b (out.push p) ia (ib + 1):=by
 unfold Pl at h ⊢
 rw [drop_cons e] at h
 rw [Array.toList_push,List.append_assoc]
 exact (List.Perm.append_left _ (List.perm_middle (l₁:=a.toList.drop ia) (a:=p)).symm).trans h
theorem Pl.runA (h:Pl a b out ia ib):Pl a b (out ++ a.extract ia (ia + k)) (ia + k) ib:=by
 unfold Pl at h ⊢
 rw [Array.toList_append,ext_list,Nat.add_sub_cancel_left,List.append_assoc,← List.append_assoc (List.take _ _),← List.drop_drop,List.take_append_drop]
 exact h
theorem Pl.runB (h:Pl a b out ia ib):Pl a b (out ++ b.extract ib (ib + k)) ia (ib + k):=by
 unfold Pl at h ⊢
 refine List.Perm.trans ?_ h
 rw [Array.toList_append,ext_list,Nat.add_sub_cancel_left,List.append_assoc]
 refine List.Perm.append_left _ ?_
 refine (List.perm_append_comm_assoc _ _ _).trans (List.Perm.append_left _ ?_)
 rw [← List.drop_drop,List.take_append_drop]
theorem Pl.fin (h:Pl a b out ia ib):(out ++ a.extract ia a.size ++ b.extract ib b.size).Perm (a ++ b):=by
 rw [Array.perm_iff_toList_perm,Array.toList_append,Array.toList_append,Array.toList_append,ext_end,ext_end,List.append_assoc]
 exact h
theorem Pl.fin2 (h:Pl a b out ia ib):(out ++ b.extract ib b.size ++ a.extract ia a.size).Perm (a ++ b):=by
 rw [Array.perm_iff_toList_perm,Array.toList_append,Array.toList_append,Array.toList_append,ext_end,ext_end,List.append_assoc]
 exact (List.Perm.append_left _ List.perm_append_comm).trans h
theorem Pl.start {p:Keyed} (e:b[0]?=some p):Pl a b #[p] 0 1:=by
 have h:Pl a b #[] 0 0:=List.Perm.refl _
 exact h.pushB e
end
theorem wpS_ite {M:Model}{A:Around}{E:Value→Shared→Prop}{s:Shared}{σ α:Type}{c:Prop} [Decidable c] {m1 m2:StateT σ Sem α}{Q:α→σ→Prop}{st:σ} (h1:c→wpS M A E s m1 Q st) (h2:¬ c→wpS M A E s m2 Q st):wpS M A E s (if c then m1 else m2) Q st:=by
 split
 ·exact h1 ‹_›
 ·exact h2 ‹_›
structure Sg (st st':SortSt):Prop where
 kind:kindOf st'=kindOf st
 arr:arrOf st'=arrOf st
 pend:pendingOf st'=pendingOf st
 fail:failedOf st'=failedOf st
theorem Sg.refl (st:SortSt):Sg st st:=⟨rfl,rfl,rfl,rfl⟩
theorem nb_ne {i j:Nat} (h:¬ (i == j)=true):i≠j:=fun z=>h (by rw [z];exact beq_self_eq_true _)
structure GL (a b:Array Keyed) (x:Nat) (out:Array Keyed) (ia ib:Nat):Prop where
 pl:Pl a b out ia ib
 la:ia + 1 < a.size
 lb:ib < b.size
 on:x≤ia + ib
section
variable {prog:Program}{w:World}{A:Around}{E:Value→Shared→Prop}{s:Shared}{κ:SortKind}{it:Array Keyed} (hc:CmpAny prog w A s κ it)
include hc
theorem wpS_mergeLo {a b:Array Keyed}{st:SortSt}{Q:Array Keyed→SortSt→Prop} (ha:1≤a.size) (hb:1≤b.size) (iA:∀ p∈a.toList,p∈it.toList) (iB:∀ p∈b.toList,p∈it.toList) (hk:kindOf st=κ)
  (h:∀ out st',out.Perm (a ++ b)→Sg st st'→Q out st'):wpS (model prog w) A E s (mergeLo' a b) Q st:=by
 have gA:∀ i,i < a.size→∃ p,a[i]?=some p∧p∈it.toList:=fun i hi=>⟨_,Array.getElem?_eq_getElem hi,iA _ (by simp)⟩
 have gB:∀ i,i < b.size→∃ p,b[i]?=some p∧p∈it.toList:=fun i hi=>⟨_,Array.getElem?_eq_getElem hi,iB _ (by simp)⟩
 refine wpS_bind (wpS_lift (wpAny_rule ⟨rfl,?_⟩))
 obtain ⟨p0,e0,_⟩:=gB 0 hb
 refine wpS_bind (wpS_elem e0 ?_)
 refine wpS_ite (fun _=>wpS_pure (h _ _ (Pl.start e0).fin (Sg.refl _))) fun n1=>?_
 have n1':1≠b.size:=fun z=>n1 (by rw [← z];rfl)
 refine wpS_ite (fun _=>wpS_pure (h _ _ (Pl.start e0).fin2 (Sg.refl _))) fun n2=>?_
 have n2':1≠a.size:=fun z=>n2 (by rw [← z];rfl)
 refine wpS_bind (wpS_get ?_)
 dsimp only
 have elA:∀ (i:Nat) (Q':Keyed→SortSt→Prop) (st':SortSt),i < a.size→(∀ p,a[i]?=some p→p∈it.toList→Q' p st')→wpS (model prog w) A E s (elem' a i) Q' st':=fun i Q' st' hi q=>by
  obtain ⟨p,e,hp⟩:=gA i hi
  exact wpS_elem e (q p e hp)
 have elB:∀ (i:Nat) (Q':Keyed→SortSt→Prop) (st':SortSt),i < b.size→(∀ p,b[i]?=some p→p∈it.toList→Q' p st')→wpS (model prog w) A E s (elem' b i) Q' st':=fun i Q' st' hi q=>by
  obtain ⟨p,e,hp⟩:=gB i hi
  exact wpS_elem e (q p e hp)
 refine wpS_bind (wpS_mono (wpS_forRange (I:=fun x c st'=>c.1=none∧GL a b x c.2.1 c.2.2.1 c.2.2.2.1∧Sg st st') (Q:=fun c st'=>∃ r,c.1=some r∧r.Perm (a ++ b)∧Sg st st') ?_ (fun c st' z=>?_) ⟨rfl,⟨Pl.start e0,by dsimp only;omega,by dsimp only;omega,by dsimp only;omega⟩,Sg.refl _⟩) ?_)
 ·rintro x ⟨r,out,ia,ib,mg⟩ st' _ hx ⟨z,g,sg⟩
  cases z
  dsimp only at g ⊢
  refine wpS_bind (wpS_mono (wpS_forRange (I:=fun y c st'=>c.1=none∧GL a b (x + y) c.2.1 c.2.2.1 c.2.2.2.1∧Sg st st') (Q:=fun c st'=>Sg st st'∧((∃ r,c.1=some r∧r.Perm (a ++ b))∨(c.1=none∧GL a b (x + 1) c.2.1 c.2.2.1 c.2.2.2.1))) ?_ (fun c st' z=>?_) ⟨rfl,g,sg⟩) ?_)
  ·rintro y ⟨r,out,ia,ib,ac,bc⟩ st' _ hy ⟨z,g,sg⟩
   cases z
   obtain ⟨hP,h1,h2,h3⟩:=g
   dsimp only at hP h1 h2 h3 ⊢
   refine wpS_bind (elB _ _ _ h2 fun p ep hp=>wpS_bind (elA _ _ _ (by omega) fun q eq hq=>wpS_bind (wpS_lt hc (sg.kind.trans hk) hp hq fun bw=>?_)))
   refine wpS_ite (fun _=>?_) fun _=>?_
   ·refine wpS_bind (elB _ _ _ h2 fun p' ep' _=>?_)
    refine wpS_ite (fun _=>wpS_pure ⟨sg,.inl ⟨_,rfl,(hP.pushB ep').fin⟩⟩) fun n=>?_
    have n':ib + 1≠b.size:=fun z=>n (by rw [z];exact beq_self_eq_true _)
    exact wpS_ite (fun _=>wpS_pure ⟨sg,.inr ⟨rfl,hP.pushB ep',h1,by dsimp only;omega,by dsimp only;omega⟩⟩) fun _=>wpS_pure ⟨rfl,⟨hP.pushB ep',h1,by dsimp only;omega,by dsimp only;omega⟩,sg⟩
   ·refine wpS_bind (elA _ _ _ (by omega) fun p' ep' _=>?_)
    refine wpS_ite (fun _=>wpS_pure ⟨sg,.inl ⟨_,rfl,(hP.pushA ep').fin2⟩⟩) fun n=>?_
    have n':ia + 1 + 1≠a.size:=fun z=>n (by rw [z];exact beq_self_eq_true _)
    exact wpS_ite (fun _=>wpS_pure ⟨sg,.inr ⟨rfl,hP.pushA ep',by dsimp only;omega,h2,by dsimp only;omega⟩⟩) fun _=>wpS_pure ⟨rfl,⟨hP.pushA ep',by dsimp only;omega,h2,by dsimp only;omega⟩,sg⟩
  ·obtain ⟨z1,⟨hP,h1,h2,h3⟩,sg⟩:=z
   exact ⟨sg,.inr ⟨z1,hP,h1,h2,by omega⟩⟩
  ·rintro ⟨r,out,ia,ib,ac,bc⟩ st' ⟨sg,⟨r',z,hr⟩ | ⟨z,g⟩⟩
   ·cases z
    exact wpS_pure ⟨_,rfl,hr,sg⟩
   ·cases z
    dsimp only at g ⊢
    refine wpS_bind (wpS_lift (wpAny_rule ⟨rfl,?_⟩))
    refine wpS_bind (wpS_mono (wpS_forRange (I:=fun y c st'=>c.1=none∧GL a b (x + 1) c.2.1 c.2.2.1 c.2.2.2.1∧Sg st st') (Q:=fun c st'=>Sg st st'∧((∃ r,c.1=some r∧r.Perm (a ++ b))∨(c.1=none∧GL a b (x + 1) c.2.1 c.2.2.1 c.2.2.2.1))) ?_ (fun c st' z=>⟨z.2.2,.inr ⟨z.1,z.2.1⟩⟩) ⟨rfl,g,sg⟩) ?_)
    ·rintro y ⟨r,out,ia,ib,mg,ac,bc⟩ st' _ hy ⟨z,g,sg⟩
     cases z
     obtain ⟨hP,h1,h2,h3⟩:=g
     dsimp only at hP h1 h2 h3 ⊢
     refine wpS_ite (fun _=>wpS_bind (wpS_modify ?_)) fun _=>wpS_bind (wpS_modify ?_)
     all_goals
      refine wpS_bind (elB _ _ _ h2 fun p ep hp=>wpS_bind (wpS_gallop hc hp (fun i hi=>gA _ (by omega)) (by omega) (sg.kind.trans hk) fun k hk1=>?_))
      dsimp only
      refine wpS_ite (fun kp=>wpS_ite (fun _=>wpS_pure ⟨⟨sg.1,sg.2,sg.3,sg.4⟩,.inl ⟨_,rfl,(hP.runA (k:=k)).fin2⟩⟩) fun na=>wpS_ite (fun _=>wpS_pure ⟨⟨sg.1,sg.2,sg.3,sg.4⟩,.inl ⟨_,rfl,(hP.runA (k:=k)).fin⟩⟩) fun nb=>?_) fun _=>?_
      all_goals
       first | (have e1:=nb_ne na;have e2:=nb_ne nb;have hP1:=hP.runA (k:=k);have h1':ia + k + 1 < a.size:=by omega) | (have hP1:=hP;have h1':=h1)
       refine wpS_bind (elB _ _ _ h2 fun p' ep' _=>wpS_ite (fun _=>wpS_pure ⟨⟨sg.1,sg.2,sg.3,sg.4⟩,.inl ⟨_,rfl,(hP1.pushB ep').fin⟩⟩) fun n=>?_)
       have n':=nb_ne n
       have hP2:=hP1.pushB ep'
       refine wpS_bind (elA _ _ _ (by omega) fun q eq hq=>wpS_bind (wpS_gallop hc hq (fun i hi=>gB _ (by omega)) (by omega) (sg.kind.trans hk) fun k2 hk2=>?_))
       dsimp only
       refine wpS_ite (fun kp2=>wpS_ite (fun _=>wpS_pure ⟨⟨sg.1,sg.2,sg.3,sg.4⟩,.inl ⟨_,rfl,(hP2.runB (k:=k2)).fin⟩⟩) fun nc=>?_) fun _=>?_
       all_goals
        first | (have e3:=nb_ne nc;have hP3:=hP2.runB (k:=k2)) | have hP3:=hP2
        refine wpS_bind (elA _ _ _ (by omega) fun q' eq' _=>wpS_ite (fun _=>wpS_pure ⟨⟨sg.1,sg.2,sg.3,sg.4⟩,.inl ⟨_,rfl,(hP3.pushA eq').fin2⟩⟩) fun nd=>?_)
        have e4:=nb_ne nd
        exact wpS_ite (fun _=>wpS_pure ⟨⟨sg.1,sg.2,sg.3,sg.4⟩,.inr ⟨rfl,hP3.pushA eq',by dsimp only;omega,by dsimp only;omega,by dsimp only;omega⟩⟩) fun _=>wpS_pure ⟨rfl,⟨hP3.pushA eq',by dsimp only;omega,by dsimp only;omega,by dsimp only;omega⟩,sg.1,sg.2,sg.3,sg.4⟩
    ·rintro ⟨r,out,ia,ib,mg,ac,bc⟩ st' ⟨sg,⟨r',z,hr⟩ | ⟨z,g⟩⟩
     ·cases z
      exact wpS_pure ⟨_,rfl,hr,sg⟩
     ·cases z
      exact wpS_bind (wpS_modify (wpS_pure ⟨rfl,g,sg.1,sg.2,sg.3,sg.4⟩))
 ·obtain ⟨z1,⟨hP,h1,h2,h3⟩,sg⟩:=z
  exfalso
  omega
 ·rintro ⟨r,out,ia,ib,mg⟩ st' ⟨r',z,hr,sg⟩
  cases z
  exact wpS_pure (h _ _ hr sg)
end
end L2
namespace L2
open PySem PySem.Spec PyProof.Rows PySem.W
def Ph (a b out:Array Keyed) (na nb:Nat):Prop:=(out.toList ++ (a.toList.take na ++ b.toList.take nb)).Perm (a.toList ++ b.toList)
section
variable {a b out:Array Keyed}{na nb k:Nat}
theorem take_snoc {c:Array Keyed}{i:Nat}{p:Keyed} (h:1≤i) (e:c[i - 1]?=some p):c.toList.take i=c.toList.take (i - 1) ++ [p]:=by
 obtain ⟨j,rfl⟩:∃ j,i=j + 1:=⟨i - 1,by omega⟩
 rw [Nat.add_sub_cancel] at e ⊢
 rw [List.take_succ,Array.getElem?_toList,e]
 rfl
theorem take_ext {c:Array Keyed}{i j:Nat} (h:i≤j):c.toList.take j=c.toList.take i ++ (c.extract i j).toList:=by
 rw [ext_list]
 obtain ⟨d,rfl⟩:∃ d,j=i + d:=⟨j - i,by omega⟩
 rw [Nat.add_sub_cancel_left]
 exact List.take_add
theorem Ph.pushA {p:Keyed} (h:Ph a b out na nb) (h1:1≤na) (e:a[na - 1]?=some p):Ph a b (out.push p) (na - 1) nb:=by
 unfold Ph at h ⊢
 refine List.Perm.trans ?_ h
 rw [take_snoc h1 e,Array.toList_push,List.append_assoc,List.append_assoc]
 exact List.Perm.append_left _ (List.perm_append_comm_assoc _ _ _)
theorem Ph.pushB {p:Keyed} (h:Ph a b out na nb) (h1:1≤nb) (e:b[nb - 1]?=some p):Ph a b (out.push p) na (nb - 1):=by
 unfold Ph at h ⊢
 refine List.Perm.trans ?_ h
 rw [take_snoc h1 e,Array.toList_push,List.append_assoc,← List.append_assoc (List.take na _)]
 exact List.Perm.append_left _ List.perm_append_comm
theorem Ph.runA (h:Ph a b out na nb) (h1:k≤na):Ph a b (out ++ (a.extract k na).reverse) k nb:=by
 unfold Ph at h ⊢
 refine List.Perm.trans ?_ h
 rw [take_ext h1,Array.toList_append,Array.toList_reverse,List.append_assoc,List.append_assoc]
 exact List.Perm.append_left _ ((List.Perm.append_right _ (List.reverse_perm _)).trans (List.perm_append_comm_assoc _ _ _))
theorem Ph.runB (h:Ph a b out na nb) (h1:k≤nb):Ph a b (out ++ (b.extract k nb).reverse) na k:=by
 unfold Ph at h ⊢
 refine List.Perm.trans ?_ h
 rw [take_ext h1,Array.toList_append,Array.toList_reverse,List.append_assoc,← List.append_assoc (List.take na _)]
 exact List.Perm.append_left _ ((List.Perm.append_right _ (List.reverse_perm _)).trans List.perm_append_comm)
theorem Ph.fin (h:Ph a b out na nb):(a.extract 0 na ++ b.extract 0 nb ++ out.reverse).Perm (a ++ b):=by
 rw [Array.perm_iff_toList_perm,Array.toList_append,Array.toList_append,Array.toList_append,ext_list,ext_list,Array.toList_reverse]
 exact (List.perm_append_comm.trans (List.Perm.append_right _ (List.reverse_perm _))).trans h
theorem Ph.fin2 (h:Ph a b out na nb):(b.extract 0 nb ++ a.extract 0 na ++ out.reverse).Perm (a ++ b):=by
 rw [Array.perm_iff_toList_perm,Array.toList_append,Array.toList_append,Array.toList_append,ext_list,ext_list,Array.toList_reverse]
 exact ((List.perm_append_comm.trans (List.Perm.append_right _ (List.reverse_perm _))).trans (List.Perm.append_left _ List.perm_append_comm)).trans h
theorem Ph.start {p:Keyed} (h:1≤a.size) (e:a[a.size - 1]?=some p):Ph a b #[p] (a.size - 1) b.size:=by
 have h0:Ph a b #[] a.size b.size:=by
  unfold Ph
  rw [List.take_of_length_le (by simp),List.take_of_length_le (by simp)]
  exact List.Perm.refl _
 exact h0.pushA h e
end
structure GH (a b:Array Keyed) (x:Nat) (out:Array Keyed) (na nb:Nat):Prop where
 pl:Ph a b out na nb
 la:1≤na
 lb:2≤nb
 ua:na≤a.size
 ub:nb≤b.size
 on:x + na + nb≤a.size + b.size
section
variable {prog:Program}{w:World}{A:Around}{E:Value→Shared→Prop}{s:Shared}{κ:SortKind}{it:Array Keyed} (hc:CmpAny prog w A s κ it)
include hc
theorem wpS_mergeHi {a b:Array Keyed}{st:SortSt}{Q:Array Keyed→SortSt→Prop} (ha:1≤a.size) (hb:1≤b.size) (iA:∀ p∈a.toList,p∈it.toList) (iB:∀ p∈b.toList,p∈it.toList) (hk:kindOf st=κ)
  (h:∀ out st',out.Perm (a ++ b)→Sg st st'→Q out st'):wpS (model prog w) A E s (mergeHi' a b) Q st:=by
 have gA:∀ i,i < a.size→∃ p,a[i]?=some p∧p∈it.toList:=fun i hi=>⟨_,Array.getElem?_eq_getElem hi,iA _ (by simp)⟩
 have gB:∀ i,i < b.size→∃ p,b[i]?=some p∧p∈it.toList:=fun i hi=>⟨_,Array.getElem?_eq_getElem hi,iB _ (by simp)⟩
 refine wpS_bind (wpS_lift (wpAny_rule ⟨rfl,?_⟩))
 obtain ⟨p0,e0,_⟩:=gA (a.size - 1) (by omega)
 refine wpS_bind (wpS_elem e0 ?_)
 refine wpS_ite (fun _=>wpS_pure (h _ _ (Ph.start ha e0).fin (Sg.refl _))) fun n1=>?_
 have n1':=nb_ne n1
 refine wpS_ite (fun _=>wpS_pure (h _ _ (Ph.start ha e0).fin2 (Sg.refl _))) fun n2=>?_
 have n2':=nb_ne n2
 refine wpS_bind (wpS_get ?_)
 dsimp only
 have elA:∀ (i:Nat) (Q':Keyed→SortSt→Prop) (st':SortSt),i < a.size→(∀ p,a[i]?=some p→p∈it.toList→Q' p st')→wpS (model prog w) A E s (elem' a i) Q' st':=fun i Q' st' hi q=>by
  obtain ⟨p,e,hp⟩:=gA i hi
  exact wpS_elem e (q p e hp)
 have elB:∀ (i:Nat) (Q':Keyed→SortSt→Prop) (st':SortSt),i < b.size→(∀ p,b[i]?=some p→p∈it.toList→Q' p st')→wpS (model prog w) A E s (elem' b i) Q' st':=fun i Q' st' hi q=>by
  obtain ⟨p,e,hp⟩:=gB i hi
  exact wpS_elem e (q p e hp)
 refine wpS_bind (wpS_mono (wpS_forRange (I:=fun x c st'=>c.1=none∧GH a b x c.2.2.2.1 c.2.1 c.2.2.1∧Sg st st') (Q:=fun c st'=>∃ r,c.1=some r∧r.Perm (a ++ b)∧Sg st st') ?_ (fun c st' z=>?_) ⟨rfl,⟨Ph.start ha e0,by dsimp only;omega,by dsimp only;omega,by dsimp only;omega,by dsimp only;omega,by dsimp only;omega⟩,Sg.refl _⟩) ?_)
 ·rintro x ⟨r,na,nb,out,mg⟩ st' _ hx ⟨z,g,sg⟩
  cases z
  dsimp only at g ⊢
  refine wpS_bind (wpS_mono (wpS_forRange (I:=fun y c st'=>c.1=none∧GH a b (x + y) c.2.2.2.1 c.2.1 c.2.2.1∧Sg st st') (Q:=fun c st'=>Sg st st'∧((∃ r,c.1=some r∧r.Perm (a ++ b))∨(c.1=none∧GH a b (x + 1) c.2.2.2.1 c.2.1 c.2.2.1))) ?_ (fun c st' z=>?_) ⟨rfl,g,sg⟩) ?_)
  ·rintro y ⟨r,na,nb,out,ac,bc⟩ st' _ hy ⟨z,g,sg⟩
   cases z
   obtain ⟨hP,h1,h2,h3,h4,h5⟩:=g
   dsimp only at hP h1 h2 h3 h4 h5 ⊢
   refine wpS_bind (elB _ _ _ (by omega) fun p ep hp=>wpS_bind (elA _ _ _ (by omega) fun q eq hq=>wpS_bind (wpS_lt hc (sg.kind.trans hk) hp hq fun bw=>?_)))
   refine wpS_ite (fun _=>?_) fun _=>?_
   ·refine wpS_bind (elA _ _ _ (by omega) fun p' ep' _=>?_)
    refine wpS_ite (fun _=>wpS_pure ⟨sg,.inl ⟨_,rfl,(hP.pushA h1 ep').fin⟩⟩) fun n=>?_
    have n':=nb_ne n
    exact wpS_ite (fun _=>wpS_pure ⟨sg,.inr ⟨rfl,hP.pushA h1 ep',by dsimp only;omega,h2,by dsimp only;omega,h4,by dsimp only;omega⟩⟩) fun _=>wpS_pure ⟨rfl,⟨hP.pushA h1 ep',by dsimp only;omega,h2,by dsimp only;omega,h4,by dsimp only;omega⟩,sg⟩
   ·refine wpS_bind (elB _ _ _ (by omega) fun p' ep' _=>?_)
    refine wpS_ite (fun _=>wpS_pure ⟨sg,.inl ⟨_,rfl,(hP.pushB (by omega) ep').fin2⟩⟩) fun n=>?_
    have n':=nb_ne n
    exact wpS_ite (fun _=>wpS_pure ⟨sg,.inr ⟨rfl,hP.pushB (by omega) ep',h1,by dsimp only;omega,h3,by dsimp only;omega,by dsimp only;omega⟩⟩) fun _=>wpS_pure ⟨rfl,⟨hP.pushB (by omega) ep',h1,by dsimp only;omega,h3,by dsimp only;omega,by dsimp only;omega⟩,sg⟩
  ·obtain ⟨z1,⟨hP,h1,h2,h3,h4,h5⟩,sg⟩:=z
   exact ⟨sg,.inr ⟨z1,hP,h1,h2,h3,h4,by omega⟩⟩
  ·rintro ⟨r,na,nb,out,ac,bc⟩ st' ⟨sg,⟨r',z,hr⟩ | ⟨z,g⟩⟩
   ·cases z
    exact wpS_pure ⟨_,rfl,hr,sg⟩
   ·cases z
    dsimp only at g ⊢
    refine wpS_bind (wpS_lift (wpAny_rule ⟨rfl,?_⟩))
    refine wpS_bind (wpS_mono (wpS_forRange (I:=fun y c st'=>c.1=none∧GH a b (x + 1) c.2.2.2.1 c.2.1 c.2.2.1∧Sg st st') (Q:=fun c st'=>Sg st st'∧((∃ r,c.1=some r∧r.Perm (a ++ b))∨(c.1=none∧GH a b (x + 1) c.2.2.2.1 c.2.1 c.2.2.1))) ?_ (fun c st' z=>⟨z.2.2,.inr ⟨z.1,z.2.1⟩⟩) ⟨rfl,g,sg⟩) ?_)
    ·rintro y ⟨r,na,nb,out,mg,ac,bc⟩ st' _ hy ⟨z,g,sg⟩
     cases z
     obtain ⟨hP,h1,h2,h3,h4,h5⟩:=g
     dsimp only at hP h1 h2 h3 h4 h5 ⊢
     refine wpS_ite (fun _=>wpS_bind (wpS_modify ?_)) fun _=>wpS_bind (wpS_modify ?_)
     all_goals
      refine wpS_bind (elB _ _ _ (by omega) fun p ep hp=>wpS_bind (wpS_gallop hc hp (fun i hi=>gA _ (by omega)) (by omega) (sg.kind.trans hk) fun k hk1=>?_))
      dsimp only
      refine wpS_ite (fun kp=>wpS_ite (fun _=>wpS_pure ⟨⟨sg.1,sg.2,sg.3,sg.4⟩,.inl ⟨_,rfl,(hP.runA hk1).fin⟩⟩) fun na=>?_) fun kz=>?_
      all_goals
       first | (have e1:=nb_ne na;have hP1:=hP.runA hk1;have h1':1≤k:=by omega) | (have hP1:=hP;have h1':=h1)
       refine wpS_bind (elB _ _ _ (by omega) fun p' ep' _=>wpS_ite (fun _=>wpS_pure ⟨⟨sg.1,sg.2,sg.3,sg.4⟩,.inl ⟨_,rfl,(hP1.pushB (by omega) ep').fin2⟩⟩) fun n=>?_)
       have n':=nb_ne n
       have hP2:=hP1.pushB (by omega) ep'
       refine wpS_bind (elA _ _ _ (by omega) fun q eq hq=>wpS_bind (wpS_gallop hc hq (fun i hi=>gB _ (by omega)) (by omega) (sg.kind.trans hk) fun k2 hk2=>?_))
       dsimp only
       refine wpS_ite (fun kp2=>wpS_ite (fun _=>wpS_pure ⟨⟨sg.1,sg.2,sg.3,sg.4⟩,.inl ⟨_,rfl,(hP2.runB hk2).fin2⟩⟩) fun nc=>wpS_ite (fun _=>wpS_pure ⟨⟨sg.1,sg.2,sg.3,sg.4⟩,.inl ⟨_,rfl,(hP2.runB hk2).fin⟩⟩) fun nd=>?_) fun _=>?_
       all_goals
        first | (have e3:=nb_ne nc;have e3':=nb_ne nd;have hP3:=hP2.runB hk2) | have hP3:=hP2
        refine wpS_bind (elA _ _ _ (by omega) fun q' eq' _=>wpS_ite (fun _=>wpS_pure ⟨⟨sg.1,sg.2,sg.3,sg.4⟩,.inl ⟨_,rfl,(hP3.pushA h1' eq').fin⟩⟩) fun nd=>?_)
        have e4:=nb_ne nd
        exact wpS_ite (fun _=>wpS_pure ⟨⟨sg.1,sg.2,sg.3,sg.4⟩,.inr ⟨rfl,hP3.pushA h1' eq',by dsimp only;omega,by dsimp only;omega,by dsimp only;omega,by dsimp only;omega,by dsimp only;omega⟩⟩) fun _=>wpS_pure ⟨rfl,⟨hP3.pushA h1' eq',by dsimp only;omega,by dsimp only;omega,by dsimp only;omega,by dsimp only;omega,by dsimp only;omega⟩,sg.1,sg.2,sg.3,sg.4⟩
    ·rintro ⟨r,na,nb,out,mg,ac,bc⟩ st' ⟨sg,⟨r',z,hr⟩ | ⟨z,g⟩⟩
     ·cases z
      exact wpS_pure ⟨_,rfl,hr,sg⟩
     ·cases z
      exact wpS_bind (wpS_modify (wpS_pure ⟨rfl,g,sg.1,sg.2,sg.3,sg.4⟩))
 ·obtain ⟨z1,⟨hP,h1,h2,h3,h4,h5⟩,sg⟩:=z
  exfalso
  omega
 ·rintro ⟨r,na,nb,out,mg⟩ st' ⟨r',z,hr,sg⟩
  cases z
  exact wpS_pure (h _ _ hr sg)
end
end L2
namespace L2
open PySem PySem.Spec PyProof.Rows PySem.W
structure Sm (st st':SortSt):Prop where
 kind:kindOf st'=kindOf st
 arr:(arrOf st').Perm (arrOf st)
 pend:pendingOf st'=pendingOf st
 fail:failedOf st'=failedOf st
theorem Sm.refl (st:SortSt):Sm st st:=⟨rfl,Array.Perm.refl _,rfl,rfl⟩
theorem Sm.trans {st st' st'':SortSt} (a:Sm st st') (b:Sm st' st''):Sm st st'':=⟨b.1.trans a.1,b.2.trans a.2,b.3.trans a.3,b.4.trans a.4⟩
theorem Sm.rev (st:SortSt) (i j k:Nat):Sm st (setArr st (mirror (arrOf st) i j k)):=⟨rfl,mirror_perm _ _ _ _,rfl,rfl⟩
theorem Sm.bub (st:SortSt) (i j:Nat):Sm st (setArr st (bubble (arrOf st) i j)):=⟨rfl,bubble_perm _ _ _,rfl,rfl⟩
structure GS (κ:SortKind) (it:Array Keyed) (st:SortSt):Prop where
 kind:kindOf st=κ
 perm:(arrOf st).Perm it
 fail:failedOf st=none
theorem GS.on {κ:SortKind}{it:Array Keyed}{st st':SortSt} (g:GS κ it st) (m:Sm st st'):GS κ it st':=⟨m.1.trans g.1,m.2.trans g.2,m.4.trans g.3⟩
section
variable {prog:Program}{w:World}{A:Around}{E:Value→Shared→Prop}{s:Shared}{κ:SortKind}{it:Array Keyed}
theorem GS.get {st:SortSt} (g:GS κ it st) {i:Nat} (hi:i < it.size):∃ p,(arrOf st)[i]?=some p∧p∈it.toList:=by
 have hi':i < (arrOf st).size:=by rw [g.perm.size_eq];exact hi
 exact ⟨_,Array.getElem?_eq_getElem hi',(Array.perm_iff_toList_perm.mp g.perm).mem_iff.mp (by simp)⟩
theorem wpS_rev {st:SortSt}{i j:Nat}{Q:Unit→SortSt→Prop} (h:∀ st',Sm st st'→Q () st'):wpS (model prog w) A E s (reverseSlice' i j) Q st:=by
 rw [reverseSlice'_eq]
 exact wpS_modify (h _ (Sm.rev _ _ _ _))
theorem wpS_down {st:SortSt}{i j:Nat}{Q:Unit→SortSt→Prop} (h:∀ st',Sm st st'→Q () st'):wpS (model prog w) A E s (moveDown' i j) Q st:=by
 rw [moveDown'_eq]
 exact wpS_modify (h _ (Sm.bub _ _ _))
variable (hc:CmpAny prog w A s κ it)
include hc
theorem wpS_ltAny {st:SortSt}{i j:Nat}{Q:Option Bool→SortSt→Prop} (g:GS κ it st) (hi:i < it.size) (hj:j < it.size) (h:∀ b,Q (some b) st):wpS (model prog w) A E s (ltAt' i j) Q st:=by
 obtain ⟨p,e1,hp⟩:=g.get hi
 obtain ⟨q,e2,hq⟩:=g.get hj
 rw [ltAt'_eq]
 exact wpS_bind (wpS_get (wpS_bind (wpS_elem e1 (wpS_bind (wpS_elem e2 (wpS_lt hc g.kind hp hq h))))))
theorem wpS_count {lo nrem:Nat}{st:SortSt}{Q:Option Nat→SortSt→Prop} (g:GS κ it st) (h1:1≤nrem) (hz:lo + nrem≤it.size) (h:∀ n st',1≤n→n≤nrem→Sm st st'→Q (some n) st'):wpS (model prog w) A E s (countRun' lo nrem) Q st:=by
 have rise:∀ (n0:Nat) (st0:SortSt) (Q':Option (Option Nat)×Nat→SortSt→Prop),GS κ it st0→1≤n0→n0≤nrem→(∀ n,n0≤n→n≤nrem→Q' (none,n) st0)→wpS (model prog w) A E s (forIn [n0:nrem] (none,n0) fun _ c=>do
   let r ← ltAt' (lo + c.2) (lo + c.2 - 1)
   match r with
   | some b=>if b=true then pure (ForInStep.done (none,c.2)) else pure (ForInStep.yield (none,c.2 + 1))
   | _=>pure (ForInStep.done (some none,c.2))) Q' st0:=fun n0 st0 Q' g0 hn0 hn1 q=>by
  refine wpS_mono (wpS_forRange (I:=fun x c st'=>st'=st0∧c=(none,x)) (Q:=fun c st'=>st'=st0∧∃ n,c=(none,n)∧n0≤n∧n≤nrem) ?_ (fun c st' z=>⟨z.1,_,z.2,by omega,by omega⟩) ⟨rfl,rfl⟩) fun c st' z=>?_
  ·rintro x c st' hx1 hx2 ⟨rfl,rfl⟩
   refine wpS_bind (wpS_ltAny hc g0 (by dsimp only;omega) (by dsimp only;omega) fun b=>?_)
   refine wpS_ite (fun _=>wpS_pure ⟨rfl,_,rfl,hx1,by omega⟩) fun _=>wpS_pure ⟨rfl,rfl⟩
  ·obtain ⟨rfl,n,rfl,z1,z2⟩:=z
   exact q n z1 z2
 rw [countRun'_eq]
 refine wpS_bind (rise 1 st _ g (Nat.le_refl _) h1 fun n hn1 hn2=>?_)
 dsimp only
 refine wpS_ite (fun _=>wpS_pure (h n st hn1 hn2 (Sm.refl _))) fun ne=>?_
 have ne':=nb_ne ne
 refine wpS_ite (fun _=>wpS_bind (wpS_ltAny hc g (by omega) (by omega) fun b=>wpS_ite (fun _=>wpS_pure (h n st hn1 hn2 (Sm.refl _))) fun _=>wpS_bind (wpS_rev fun st1 m1=>?_))) fun _=>?_
 all_goals
  first | (have g1:=g.on m1;have m1':=m1) | (have g1:=g;have m1':=Sm.refl st)
  refine wpS_bind (wpS_lift (wpAny_rule ⟨rfl,?_⟩))
  refine wpS_bind (wpS_mono (wpS_forRange (I:=fun x c st'=>c.1=none∧c.2.1=x∧Sm st st') (Q:=fun c st'=>c.1=none∧1≤c.2.1∧c.2.1≤nrem∧Sm st st') ?_ (fun c st' z=>⟨z.1,by have:=z.2.1;omega,by have:=z.2.1;omega,z.2.2⟩) ⟨rfl,rfl,m1'⟩) ?_)
  ·rintro x ⟨r,n',q⟩ st' hx1 hx2 ⟨z1,z2,m2⟩
   dsimp only at z1 z2 ⊢
   subst z1 z2
   refine wpS_bind (wpS_ltAny hc (g.on m2) (by omega) (by omega) fun b=>?_)
   refine wpS_ite (fun _=>wpS_ite (fun _=>wpS_bind (wpS_rev fun st3 m3=>wpS_pure ⟨rfl,rfl,m2.trans m3⟩)) fun _=>wpS_pure ⟨rfl,rfl,m2⟩) fun _=>?_
   refine wpS_bind (wpS_ltAny hc (g.on m2) (by omega) (by omega) fun b=>?_)
   exact wpS_ite (fun _=>wpS_pure ⟨rfl,by dsimp only;omega,by dsimp only;omega,m2⟩) fun _=>wpS_pure ⟨rfl,rfl,m2⟩
  ·rintro ⟨r,n',q⟩ st' ⟨z1,z2,z3,m2⟩
   dsimp only at z1 z2 z3 ⊢
   subst z1
   refine wpS_ite (fun _=>wpS_bind (wpS_rev fun st3 m3=>wpS_bind (wpS_rev fun st4 m4=>?_))) fun _=>wpS_bind (wpS_rev fun st4 m4=>?_)
   ·exact wpS_bind (rise n' st4 _ (g.on ((m2.trans m3).trans m4)) z2 z3 fun n'' a1 a2=>wpS_pure (h n'' st4 (by omega) a2 ((m2.trans m3).trans m4)))
   ·exact wpS_bind (rise n' st4 _ (g.on (m2.trans m4)) z2 z3 fun n'' a1 a2=>wpS_pure (h n'' st4 (by omega) a2 (m2.trans m4)))
theorem wpS_binary {lo n ok:Nat}{st:SortSt}{Q:Bool→SortSt→Prop} (g:GS κ it st) (hz:lo + n≤it.size) (h:∀ st',Sm st st'→Q true st'):wpS (model prog w) A E s (binarySort' lo n ok) Q st:=by
 rw [binarySort'_eq]
 refine wpS_bind (wpS_mono (wpS_forRange (I:=fun x c st'=>c.1=none∧Sm st st') (Q:=fun c st'=>c.1=none∧Sm st st') ?_ (fun c st' z=>z) ⟨rfl,Sm.refl _⟩) ?_)
 ·rintro k ⟨r,u⟩ st' hx1 hx2 ⟨z1,m⟩
  dsimp only at z1 ⊢
  subst z1
  refine wpS_bind (wpS_mono (wpS_forRange (I:=fun x c st''=>c.1=none∧c.2.2≤k∧st''=st') (Q:=fun c st''=>c.1=none∧st''=st') ?_ (fun c st' z=>⟨z.1,z.2.2⟩) ⟨rfl,Nat.le_refl _,rfl⟩) ?_)
  ·rintro x ⟨r,l,q⟩ st'' _ hx ⟨z1,z2,rfl⟩
   dsimp only at z1 z2 ⊢
   subst z1
   refine wpS_ite (fun _=>wpS_pure ⟨rfl,rfl⟩) fun hlr=>?_
   refine wpS_bind (wpS_ltAny hc (g.on m) (by omega) (by omega) fun b=>?_)
   exact wpS_ite (fun _=>wpS_pure ⟨rfl,by dsimp only;omega,rfl⟩) fun _=>wpS_pure ⟨rfl,by dsimp only;omega,rfl⟩
  ·rintro ⟨r,l,q⟩ st'' ⟨z1,rfl⟩
   dsimp only at z1 ⊢
   subst z1
   exact wpS_bind (wpS_down fun st3 m3=>wpS_pure ⟨rfl,m.trans m3⟩)
 ·rintro ⟨r,u⟩ st' ⟨z1,m⟩
  dsimp only at z1 ⊢
  subst z1
  exact wpS_pure (h st' m)
end
end L2
namespace L2
open PySem PySem.Spec PyProof.Rows PySem.W
def Segs:List (Nat×Nat×Nat)→Nat→Nat→Prop
 | [],a,b=>a=b
 | r :: l,a,b=>r.1=a∧1≤r.2.1∧Segs l (a + r.2.1) b
theorem Segs.le:∀ {l:List (Nat×Nat×Nat)}{a b:Nat},Segs l a b→a≤b
 | [],a,b,h=>Nat.le_of_eq h
 | r :: l,a,b,h=>by have:=Segs.le h.2.2;omega
theorem Segs.snoc {n x:Nat} (hn:1≤n):∀ {l:List (Nat×Nat×Nat)}{a b:Nat},Segs l a b→Segs (l ++ [(b,n,x)]) a (b + n)
 | [],a,b,h=>⟨(show a=b from h).symm,hn,by show a + n=b + n;rw [show a=b from h]⟩
 | r :: l,a,b,h=>⟨h.1,h.2.1,Segs.snoc hn h.2.2⟩
theorem Segs.mod {f:Nat×Nat×Nat→Nat×Nat×Nat} (hf:∀ r,(f r).1=r.1∧(f r).2.1=r.2.1):∀ {l:List (Nat×Nat×Nat)}{a b:Nat} (i:Nat),Segs l a b→Segs (l.modify i f) a b
 | [],a,b,i,h=>by rw [List.modify_nil];exact h
 | r :: l,a,b,0,h=>by
  rw [List.modify_zero_cons]
  exact ⟨(hf r).1.trans h.1,by rw [(hf r).2];exact h.2.1,by rw [(hf r).2];exact h.2.2⟩
 | r :: l,a,b,i + 1,h=>by
  rw [List.modify_succ_cons]
  exact ⟨h.1,h.2.1,Segs.mod hf i h.2.2⟩
theorem Segs.two {sa na pw sb nb pv:Nat}:∀ {l:List (Nat×Nat×Nat)}{a b:Nat} (i:Nat),Segs l a b→l[i]?=some (sa,na,pw)→l[i + 1]?=some (sb,nb,pv)→sa + na=sb∧1≤na∧1≤nb∧sb + nb≤b∧Segs ((l.set i (sa,na + nb,pw)).eraseIdx (i + 1)) a b
 | [],a,b,i,h,e1,e2=>by simp at e1
 | [r],a,b,0,h,e1,e2=>by simp at e2
 | r :: r' :: l,a,b,0,h,e1,e2=>by
  simp at e1 e2
  subst e1 e2
  obtain ⟨h1,h2,h3,h4,h5⟩:=h
  dsimp only at h1 h2 h3 h4 h5
  have:=h5.le
  refine ⟨by omega,h2,h4,by omega,h1,by dsimp only;omega,?_⟩
  dsimp only
  rw [← Nat.add_assoc]
  exact h5
 | r :: l,a,b,i + 1,h,e1,e2=>by
  obtain ⟨x1,x2,x3,x4,x5⟩:=Segs.two i h.2.2 (by simpa using e1) (by simpa using e2)
  exact ⟨x1,x2,x3,x4,h.1,h.2.1,x5⟩
theorem lay_run:∀ (l:List Keyed) (j k:Nat) (c:Array Keyed),((l.zipIdx j).foldl (fun a q=>a.setIfInBounds (k + q.2) q.1) c).toList=c.toList.take (k + j) ++ (l ++ c.toList.drop (k + j + l.length))∨c.size < k + j + l.length
 | [],j,k,c=>.inl (by simp)
 | p :: l,j,k,c=>by
  by_cases hz:c.size < k + j + (p :: l).length
  ·exact .inr hz
  ·refine .inl ?_
   rw [List.zipIdx_cons,List.foldl_cons]
   have hl:k + j < c.toList.length:=by simp at hz ⊢;omega
   rcases lay_run l (j + 1) k (c.setIfInBounds (k + j) p) with e | e
   ·rw [e,Array.toList_setIfInBounds]
    have e1:(c.toList.set (k + j) p).take (k + (j + 1))=c.toList.take (k + j) ++ [p]:=by
     rw [← Nat.add_assoc,List.take_succ,List.getElem?_set_self hl,List.take_set_of_le (Nat.le_refl _)]
     rfl
    have e2:(c.toList.set (k + j) p).drop (k + (j + 1) + l.length)=c.toList.drop (k + j + (p :: l).length):=by
     rw [List.drop_set_of_lt (by omega),List.length_cons]
     congr 1
     omega
    rw [e1,e2,List.append_assoc]
    rfl
   ·exfalso
    simp at e hz
    omega
theorem lay_perm {c x:Array Keyed}{sa n:Nat} (hx:x.toList.Perm ((c.toList.drop sa).take n)) (hz:sa + n≤c.size):(x.toList.zipIdx.foldl (fun a q=>a.setIfInBounds (sa + q.2) q.1) c).Perm c:=by
 have hl:x.toList.length=n:=by
  rw [hx.length_eq]
  simp
  omega
 rcases lay_run x.toList 0 sa c with e | e
 ·rw [Array.perm_iff_toList_perm,e]
  rw [Nat.add_zero,hl]
  have e3:c.toList=c.toList.take sa ++ ((c.toList.drop sa).take n ++ c.toList.drop (sa + n)):=by
   rw [← List.drop_drop,List.take_append_drop,List.take_append_drop]
  refine List.Perm.trans (List.Perm.append_left _ (List.Perm.append_right _ hx)) ?_
  rw [← e3]
 ·rw [hl] at e
  omega
section
variable {prog:Program}{w:World}{A:Around}{E:Value→Shared→Prop}{s:Shared}{κ:SortKind}{it:Array Keyed}
theorem wpS_set {M:Model}{σ:Type}{a:σ}{Q:PUnit→σ→Prop}{st:σ} (h:Q ⟨⟩ a):wpS M A E s (set a:StateT σ Sem PUnit) Q st:=by
 unfold wpS;rw [StateT.run_set];exact wpAny_pure ⟨rfl,h⟩
variable (hc:CmpAny prog w A s κ it)
include hc
theorem wpS_mergeAt {i lo:Nat}{st:SortSt}{Q:Bool→SortSt→Prop} (g:GS κ it st) (hs:Segs (pendingOf st).toList 0 lo) (hlo:lo≤it.size) (hi:i + 1 < (pendingOf st).size) (h:∀ st',GS κ it st'→Segs (pendingOf st').toList 0 lo→(pendingOf st').size + 1=(pendingOf st).size→Q true st'):
  wpS (model prog w) A E s (mergeAt' i) Q st:=by
 obtain ⟨⟨sa,na,pw⟩,ea⟩:∃ r,(pendingOf st)[i]?=some r:=⟨_,Array.getElem?_eq_getElem (by omega)⟩
 obtain ⟨⟨sb,nb,pv⟩,eb⟩:∃ r,(pendingOf st)[i + 1]?=some r:=⟨_,Array.getElem?_eq_getElem hi⟩
 have ea':(pendingOf st).toList[i]?=some (sa,na,pw):=by rw [Array.getElem?_toList];exact ea
 have eb':(pendingOf st).toList[i + 1]?=some (sb,nb,pv):=by rw [Array.getElem?_toList];exact eb
 obtain ⟨x1,x2,x3,x4,x5⟩:=Segs.two i hs ea' eb'
 have hps:(((pendingOf st).setIfInBounds i (sa,na + nb,pw)).eraseIdxIfInBounds (i + 1)).toList=((pendingOf st).toList.set i (sa,na + nb,pw)).eraseIdx (i + 1):=by simp
 have hpz:(((pendingOf st).setIfInBounds i (sa,na + nb,pw)).eraseIdxIfInBounds (i + 1)).size + 1=(pendingOf st).size:=by
  rw [← Array.length_toList,hps,List.length_eraseIdx_of_lt (by rw [List.length_set,Array.length_toList];exact hi),List.length_set,Array.length_toList]
  omega
 have hz:(arrOf st).size=it.size:=g.perm.size_eq
 refine wpS_bind (wpS_get ?_)
 rw [ea,eb]
 dsimp only
 refine wpS_bind (wpS_set ?_)
 have gt:∀ j,j < it.size→∃ p,(arrOf st)[j]?=some p∧p∈it.toList:=fun j hj=>g.get hj
 have fin:∀ (st':SortSt),Sg (setPending st (((pendingOf st).setIfInBounds i (sa,na + nb,pw)).eraseIdxIfInBounds (i + 1))) st'→∀ c:Array Keyed,c.Perm (arrOf st)→Q true (setArr st' c):=fun st' sg c hp=>
  h _ ⟨sg.kind.trans g.kind,hp.trans g.perm,sg.fail.trans g.fail⟩ (by show Segs (pendingOf st').toList 0 lo;rw [sg.pend];show Segs (((pendingOf st).setIfInBounds i (sa,na + nb,pw)).eraseIdxIfInBounds (i + 1)).toList 0 lo;rw [hps];exact x5) (by show (pendingOf st').size + 1=_;rw [sg.pend];exact hpz)
 have fin0:Q true (setPending st (((pendingOf st).setIfInBounds i (sa,na + nb,pw)).eraseIdxIfInBounds (i + 1))):=fin _ (Sg.refl _) _ (Array.Perm.refl _)
 obtain ⟨p1,e1,i1⟩:=gt sb (by omega)
 refine wpS_bind (wpS_elem e1 (wpS_bind (wpS_gallop hc i1 (fun j hj=>gt _ (by omega)) (by omega) g.kind fun k hk=>?_)))
 dsimp only
 refine wpS_ite (fun _=>wpS_pure fin0) fun n0=>?_
 have n0':=nb_ne n0
 obtain ⟨p2,e2,i2⟩:=gt (sa + k + (na - k) - 1) (by omega)
 refine wpS_bind (wpS_elem e2 (wpS_bind (wpS_gallop hc i2 (fun j hj=>gt _ (by omega)) (by omega) g.kind fun k2 hk2=>?_)))
 dsimp only
 refine wpS_ite (fun _=>wpS_pure fin0) fun n1=>?_
 have n1':=nb_ne n1
 have inX:∀ q∈((arrOf st).extract (sa + k) sb).toList,q∈it.toList:=fun q hq=>by
  rw [ext_list] at hq
  exact (Array.perm_iff_toList_perm.mp g.perm).mem_iff.mp (List.mem_of_mem_drop (List.mem_of_mem_take hq))
 have inY:∀ q∈((arrOf st).extract sb (sb + k2)).toList,q∈it.toList:=fun q hq=>by
  rw [ext_list] at hq
  exact (Array.perm_iff_toList_perm.mp g.perm).mem_iff.mp (List.mem_of_mem_drop (List.mem_of_mem_take hq))
 have sX:1≤((arrOf st).extract (sa + k) sb).size:=by rw [Array.size_extract];omega
 have sY:1≤((arrOf st).extract sb (sb + k2)).size:=by rw [Array.size_extract];omega
 have fin2:∀ (out:Array Keyed) (st':SortSt),out.Perm ((arrOf st).extract (sa + k) sb ++ (arrOf st).extract sb (sb + k2))→Sg (setPending st (((pendingOf st).setIfInBounds i (sa,na + nb,pw)).eraseIdxIfInBounds (i + 1))) st'→
   Q (failedOf (setArr st' (out.toList.zipIdx.foldl (fun a q=>a.setIfInBounds (sa + k + q.2) q.1) (arrOf st')))).isNone (setArr st' (out.toList.zipIdx.foldl (fun a q=>a.setIfInBounds (sa + k + q.2) q.1) (arrOf st'))):=fun out st' ho sg=>by
  have hf:(failedOf (setArr st' (out.toList.zipIdx.foldl (fun a q=>a.setIfInBounds (sa + k + q.2) q.1) (arrOf st')))).isNone=true:=by
   show (failedOf st').isNone=true
   rw [sg.fail.trans g.fail]
   rfl
  rw [hf]
  refine fin st' sg _ ?_
  rw [sg.arr]
  refine lay_perm (n:=na - k + k2) ?_ (by show _≤(arrOf st).size;omega)
  refine (Array.perm_iff_toList_perm.mp ho).trans ?_
  rw [Array.toList_append,ext_list,ext_list]
  have e3:(arrOf st).toList.drop sb=((arrOf st).toList.drop (sa + k)).drop (na - k):=by
   rw [List.drop_drop]
   congr 1
   omega
  rw [e3,show sb - (sa + k)=na - k by omega,Nat.add_sub_cancel_left,← List.take_add]
 refine wpS_ite (fun _=>wpS_bind (wpS_mergeLo hc sX sY inX inY g.kind fun out st' ho sg=>?_)) fun _=>wpS_bind (wpS_mergeHi hc sX sY inX inY g.kind fun out st' ho sg=>?_)
 ·exact wpS_bind (wpS_modify (wpS_bind (wpS_get (wpS_pure (fin2 out st' ho sg)))))
 ·exact wpS_bind (wpS_modify (wpS_bind (wpS_get (wpS_pure (fin2 out st' ho sg)))))
end
end L2
namespace L2
open PySem PySem.Spec PyProof.Rows PySem.W
section
variable {prog:Program}{w:World}{A:Around}{E:Value→Shared→Prop}{s:Shared}{κ:SortKind}{it:Array Keyed}
structure SR (κ:SortKind) (it:Array Keyed) (lo:Nat) (st:SortSt):Prop where
 gs:GS κ it st
 le:lo≤it.size
 sg:Segs (pendingOf st).toList 0 lo
variable (hc:CmpAny prog w A s κ it)
include hc
theorem wpS_runs {st:SortSt}{Q:Unit→SortSt→Prop} (g:GS κ it st) (hp:pendingOf st=#[]) (h:∀ st',(arrOf st').Perm it→failedOf st'=none→Q () st'):wpS (model prog w) A E s sortRuns' Q st:=by
 rw [sortRuns'_eq]
 refine wpS_bind (wpS_get ?_)
 dsimp only
 have hz:(arrOf st).size=it.size:=g.perm.size_eq
 rw [hz]
 generalize minRun' it.size it.size 0=mr
 refine wpS_bind (wpS_mono (wpS_forRange (I:=fun x c st'=>c.1=none∧SR κ it c.2 st') (Q:=fun c st'=>c.1=none∧∃ lo,SR κ it lo st') ?_ (fun c st' z=>⟨z.1,_,z.2⟩) ⟨rfl,g,Nat.zero_le _,?_⟩) ?_)
 ·rintro x ⟨r,lo⟩ st' _ _ ⟨z1,g',hlo,hs⟩
  dsimp only at z1 hlo hs ⊢
  subst z1
  refine wpS_ite (fun _=>wpS_pure ⟨rfl,lo,g',hlo,hs⟩) fun hl=>?_
  refine wpS_bind (wpS_count hc g' (by omega) (by omega) fun n st1 hn1 hn2 m1=>?_)
  dsimp only
  refine wpS_ite (fun hm=>wpS_bind (wpS_lift (wpAny_rule ⟨rfl,wpS_bind (wpS_binary hc (g'.on m1) (by omega) fun st2 m2=>wpS_ite (fun z=>nomatch z) fun _=>?_)⟩))) fun hm=>?_
  all_goals
   first | (have mm:=m1.trans m2;have ez:1≤min (it.size - lo) mr∧lo + min (it.size - lo) mr≤it.size:=by omega) | (have mm:=m1;have ez:1≤n∧lo + n≤it.size:=by omega)
   have gg:=g'.on mm
   have hs2:=hs
   rw [← mm.pend] at hs2
   refine wpS_bind (wpS_get ?_)
   split
   ·rename_i s1 n1 _ hback
    refine wpS_bind (wpS_mono (wpS_forRange (I:=fun x c st'=>c.1=none∧SR κ it lo st') (Q:=fun c st'=>c.1=none∧SR κ it lo st') ?_ (fun c st' z=>z) ⟨rfl,gg,hlo,hs2⟩) ?_)
    ·rintro x ⟨r,u⟩ st3 _ _ ⟨z1,g3,_,hs3⟩
     dsimp only at z1 ⊢
     subst z1
     refine wpS_bind (wpS_get ?_)
     split
     ·rename_i a1 a2 older hold
      refine wpS_ite (fun _=>wpS_pure ⟨rfl,g3,hlo,hs3⟩) fun _=>?_
      have h2:(pendingOf st3).size > 1:=by
       by_cases h2:(pendingOf st3).size > 1
       ·exact h2
       ·rw [if_neg h2] at hold
        cases hold
      refine wpS_bind (wpS_mergeAt hc g3 hs3 hlo (by omega) fun st4 g4 hs4 _=>?_)
      exact wpS_ite (fun z=>nomatch z) fun _=>wpS_pure ⟨rfl,g4,hlo,hs4⟩
     ·exact wpS_pure ⟨rfl,g3,hlo,hs3⟩
    ·rintro ⟨r,u⟩ st3 ⟨z1,g3,_,hs3⟩
     dsimp only at z1 ⊢
     subst z1
     refine wpS_bind (wpS_modify (wpS_bind (wpS_modify (wpS_pure ⟨rfl,⟨g3.kind,g3.perm,g3.fail⟩,ez.2,?_⟩))))
     show Segs (((pendingOf st3).modify _ _).push _).toList 0 _
     rw [Array.toList_push,Array.toList_modify]
     refine Segs.snoc ez.1 (Segs.mod ?_ _ hs3)
     exact fun _=>⟨rfl,rfl⟩
   ·refine wpS_bind (wpS_modify (wpS_pure ⟨rfl,⟨gg.kind,gg.perm,gg.fail⟩,ez.2,?_⟩))
    show Segs ((pendingOf _).push _).toList 0 _
    rw [Array.toList_push]
    exact hs2.snoc ez.1
 ·show Segs (pendingOf st).toList 0 0
  rw [hp]
  rfl
 ·rintro ⟨r,lo⟩ st' ⟨z1,lo',g',hlo,hs⟩
  dsimp only at z1 ⊢
  subst z1
  refine wpS_bind (wpS_mono (wpS_forRange (I:=fun x c st'=>c.1=none∧SR κ it lo' st') (Q:=fun c st'=>c.1=none∧SR κ it lo' st') ?_ (fun c st' z=>z) ⟨rfl,g',hlo,hs⟩) ?_)
  ·rintro x ⟨r,u⟩ st' _ _ ⟨z1,g',hlo,hs⟩
   dsimp only at z1 ⊢
   subst z1
   refine wpS_bind (wpS_get ?_)
   refine wpS_ite (fun _=>wpS_pure ⟨rfl,g',hlo,hs⟩) fun h2=>?_
   have h2':¬ (pendingOf st').size≤1:=h2
   have hi:∀ b:Bool,(if b=true then (pendingOf st').size - 2 - 1 else (pendingOf st').size - 2) + 1 < (pendingOf st').size:=fun b=>by
    cases b <;> simp <;> omega
   refine wpS_bind (wpS_mergeAt hc g' hs hlo (hi _) fun st2 g2 hs2 _=>?_)
   exact wpS_pure ⟨rfl,g2,hlo,hs2⟩
  ·rintro ⟨r,u⟩ st' ⟨z1,g',hlo,hs⟩
   dsimp only at z1 ⊢
   subst z1
   exact wpS_pure (h _ g'.perm g'.fail)
theorem runs_any {Q:Unit×SortSt→Shared→Prop} (h:∀ st:SortSt,(arrOf st).Perm it→failedOf st=none→Q ((),st) s):wpAny (model prog w) A (sortRuns'.run (SortSt.mk' κ it #[] 7 none)) Q E s:=by
 refine wpAny_mono (wpS_runs (E:=E) hc (st:=SortSt.mk' κ it #[] 7 none) (Q:=fun u st=>Q (u,st) s) ⟨rfl,Array.Perm.refl _,rfl⟩ rfl h) (fun r s' z=>?_) fun _ _ z=>z
 obtain ⟨rfl,q⟩:=z
 exact q
end
end L2
namespace L2
open PySem PySem.Spec PyProof.Rows PySem.W
def codeHO (c:Addr) (qual:Str):HO:=.ext fun h=>h.CodeRec (.ref c) qual
def lamHO (f:Addr) (qual:Str) (params:Arguments) (body:Expr) (scope:Scope) (cl:List (Str×Addr)) (c:Addr):HO:=.ext fun h=>∃ pm ctv,h.get? f=some (kla_obj "<lambda>" qual params body scope cl pm c ctv)
theorem code_ok {P:Program}{w:World}{H:Hp}{h:Heap}{c:Addr}{qual:Str} (e:h.CodeRec (.ref c) qual):ObjOk P w H h c (codeHO c qual):=by
 obtain ⟨c',o,vs,t,e1,e2,e3,e4⟩:=id e
 cases e1
 exact ⟨e,⟨o,e2⟩,fun h1 h2 x k=>by
  obtain ⟨c',o,vs,t,e1,e2,e3,e4⟩:=x
  cases e1
  exact ⟨c,o,vs,t,rfl,k o e2,e3,e4⟩⟩
theorem lam_ok {P:Program}{w:World}{H:Hp}{h:Heap}{f c:Addr}{qual:Str}{params:Arguments}{body:Expr}{scope:Scope}{cl:List (Str×Addr)}{pm ctv:Value} (e:h.get? f=some (kla_obj "<lambda>" qual params body scope cl pm c ctv)):ObjOk P w H h f (lamHO f qual params body scope cl c):=
 ⟨⟨pm,ctv,e⟩,⟨_,e⟩,fun h1 h2 x k=>by
  obtain ⟨pm,ctv,e⟩:=x
  exact ⟨pm,ctv,k _ e⟩⟩
structure GoodT (T:Addr) (pos:Pos) (qual:Str) (H:Hp):Prop where
 ex:∃ ps,H T=some (.tbl ps)∧TriplesOk ps.toList∧(codeAmong pos ps.toList=none∨∃ c,codeAmong pos ps.toList=some (.ref c)∧H c=some (codeHO c qual))
theorem GoodT.same {T:Addr}{pos:Pos}{qual:Str}{H H':Hp} (g:GoodT T pos qual H) (s:Same H H'):GoodT T pos qual H':=by
 obtain ⟨ps,h1,h2,h3⟩:=g.ex
 refine ⟨ps,s _ _ h1,h2,?_⟩
 rcases h3 with h3 | ⟨c,h3,h4⟩
 ·exact .inl h3
 ·exact .inr ⟨c,h3,s _ _ h4⟩
def SameT (T:Addr) (H H':Hp):Prop:=∀ b o,b≠T→H b=some o→H' b=some o
theorem Same.butT {T:Addr}{H H':Hp} (s:Same H H'):SameT T H H':=fun b o _ e=>s b o e
theorem SameT.trans {T:Addr}{H H1 H2:Hp} (a:SameT T H H1) (b:SameT T H1 H2):SameT T H H2:=fun c o n h=>b c o n (a c o n h)
theorem SameT.refl {T:Addr} (H:Hp):SameT T H H:=fun _ _ _ h=>h
section
variable {X:Cx}{pins:List (Addr×Obj)}{σ:St}{H:Hp}{s:Shared}
theorem Inv.table {T:Addr}{ps more:Array Value}{h':Heap}{t':Nat} (I:Inv X pins σ H s) (hT:H T=some (.tbl ps)) (k:∀ b o,b≠T→s.heap.get? b=some o→h'.get? b=some o) (e:h'.get? T=some (tabObj (ps ++ more))):
  Inv X pins σ (upd H T (.tbl (ps ++ more))) { s with heap:=h',toks:=t' }:=by
 have neT:∀ b u,H b=some u→(∀ ps,u≠.tbl ps)→b≠T:=fun b u q n z=>by
  subst z
  rw [hT] at q
  cases q
  exact n _ rfl
 refine I.un ⟨fun b o q n _ _=>?_,fun b o q n _ _=>?_,fun b o q n _=>?_,fun b o q _=>?_,fun b xs q=>?_,fun b o u q=>?_,fun b qs q=>?_⟩ fun b u q=>?_
 ·exact k b o (fun z=>by subst z;rw [hT] at n;cases n) q
 ·exact ⟨o.slots,k b o (fun z=>by subst z;rw [hT] at n;cases n) q⟩
 ·rw [upd_ne (fun z=>by subst z;rw [hT] at n;cases n)]
  exact n
 ·by_cases hb:b=T
  ·subst hb
   exact ⟨_,e⟩
  ·exact ⟨o,k b o hb q⟩
 ·rw [upd_ne (neT b _ q fun _ z=>nomatch z)]
  exact q
 ·rw [upd_ne (neT b _ q fun _ z=>nomatch z)]
  exact q
 ·by_cases hb:b=T
  ·subst hb
   rw [hT] at q
   cases q
   exact ⟨more,upd_same⟩
  ·exact ⟨#[],by rw [upd_ne hb,q];simp⟩
 ·by_cases hb:b=T
  ·subst hb
   rw [upd_same] at q
   cases q
   exact e
  ·rw [upd_ne hb] at q
   refine (I.hok b u q).stay (fun c v hc r=>k c v ?_ r) (fun c r=>?_) fun c xs r=>?_
   ·rcases hc with rfl | hc
    ·exact hb
    ·exact neT c _ hc fun _ z=>nomatch z
   ·rw [upd_ne (neT c _ r fun _ z=>nomatch z)]
    exact r
   ·rw [upd_ne (neT c _ r fun _ z=>nomatch z)]
    exact r
def tLam (T:Addr) (pos:Pos) (qual:Str) (params:Arguments) (body:Expr) (scope:Scope) (cl:List (Str×Addr)):TE:=fun _ H Q=>GoodT T pos qual H∧
 ∀ f c H',SameT T H H'→GoodT T pos qual H'→H' c=some (codeHO c qual)→H' f=some (lamHO f qual params body scope cl c)→Q (.ref f) H'
def BltM (mg:Str→Option Value) (base:Heap):Prop:=∃ bm o,mg "__builtins__"=some (.ref bm)∧bm≠builtinsNs∧bm≠mainGlobals∧base.get? bm=some o∧o.cls=.type "module"∧o.dict=some builtinsNs∧o.data=.plain
theorem pe_lam {c T:Addr}{params:Arguments}{body:Expr}{scope:Scope}{pos:Pos}{cl:List (Str×Addr)} (hcode:X.env.code=.ref c) (hC:codeHdIn X.K c T=true) (hB:BltM X.mg X.base) (hcl:closureFor scope X.env=pure cl:=by rfl) (hdef:defaultsOf params X.env=([],[]):=by rfl):
  PE X (.Lambda params body scope pos) (tLam T pos (X.env.qual ++ "<lambda>") params body scope cl):=by
 constructor
 intro pins s σ H Q I h
 obtain ⟨g,q⟩:=h
 obtain ⟨ps,hT,ht,hor⟩:=g.ex
 have gT:s.heap.get? T=some (tabObj ps):=I.hok T _ hT
 have neB:∀ b o,X.base.get? b=some o→b≠T:=fun b o e z=>by
  have:=(I.bs b o e).2
  rw [z,hT] at this
  cases this
 obtain ⟨bm,ob,b1,b2,b3,b4,b5,b6,b7⟩:=hB
 have hns:s.heap.Ns mainGlobals X.mg:=by
  obtain ⟨o,es,ep,e,r⟩:=I.mod.glob
  exact ⟨o,es,ep,I.bk _ _ e,r⟩
 have hgT:mainGlobals≠T:=by
  obtain ⟨o,es,ep,e,r⟩:=I.mod.glob
  exact neB _ _ e
 have hBA:s.heap.BuiltinsAt X.mg T:=⟨bm,ob,b1,b2,b3,neB _ _ b4,I.bk _ _ b4,b5,b6,b7⟩
 refine kla_eval hdef ?_
 rcases hor with hnf | ⟨c',hf,hc'⟩
 ·refine kla_makeFunction (mg:=X.mg) hcl I.ok.glob hns hcode (codeHd_of_K I.kIn hC) gT ht hnf hgT hBA fun c' ctv h' tk hx hge hlt hrec htb=>?_
  have I1:=I.table (t':=tk) (more:=#[rawInt pos.line,rawInt pos.col,.ref c']) hT (fun b o n e=>hx b o n e) htb
  have nT:∀ b,s.heap.objs.size≤b→b≠T:=fun b hb z=>absurd (Heap.lt_size gT) (Nat.not_lt.mpr (z ▸ hb))
  have hcT:=nT c' hge
  have hcn:upd H T (.tbl (ps ++ #[rawInt pos.line,rawInt pos.col,.ref c'])) c'=none:=by
   rw [upd_ne hcT]
   exact I.hok.fresh hge
  have I2:=I1.track (ob:=codeHO c' (X.env.qual ++ "<lambda>")) (I.fpOk hge hcn) (code_ok hrec)
  have hsz:s.heap.objs.size≤h'.objs.size:=by omega
  have hfT:=nT _ hsz
  have I3:=I2.laid (a:=h'.objs.size) (o:=lamHO h'.objs.size (X.env.qual ++ "<lambda>") params body scope cl c') (t':=tk) (h':=h'.push (kla_obj "<lambda>" (X.env.qual ++ "<lambda>") params body scope cl ((X.mg "__name__").getD .none) c' ctv)) (fun b u e=>Heap.get?_push_of_some _ e) (Nat.le_refl _) (lam_ok (Heap.get?_push_size _ rfl))
  refine ⟨.ref _,_,I3,rfl,q _ c' _ (fun b o n e=>?_) ⟨ps ++ #[rawInt pos.line,rawInt pos.col,.ref c'],?_,?_,.inr ⟨c',?_,?_⟩⟩ ?_ upd_same⟩
  ·rw [upd_ne (Nat.ne_of_lt (Nat.lt_of_lt_of_le (I.hok.lt e) hsz)),upd_ne (Nat.ne_of_lt (Nat.lt_of_lt_of_le (I.hok.lt e) hge)),upd_ne n]
   exact e
  ·rw [upd_ne hfT.symm,upd_ne hcT.symm]
   exact upd_same
  ·rw [Array.toList_append]
   exact TriplesOk_snoc _ _ _ _ ht
  ·rw [Array.toList_append]
   exact codeAmong_snoc _ ht hnf
  ·rw [upd_ne (Nat.ne_of_lt hlt)]
   exact upd_same
  ·rw [upd_ne (Nat.ne_of_lt hlt)]
   exact upd_same
 ·refine kla_makeFunctionHit (mg:=X.mg) hcl I.ok.glob hns hcode (codeHd_of_K I.kIn hC) gT ht hf hBA fun ctv h' tk hk hsz=>?_
  have I1:=I.kept (h':=h') (t':=tk) hk
  have I3:=I1.laid (a:=h'.objs.size) (o:=lamHO h'.objs.size (X.env.qual ++ "<lambda>") params body scope cl c') (t':=tk) (h':=h'.push (kla_obj "<lambda>" (X.env.qual ++ "<lambda>") params body scope cl ((X.mg "__name__").getD .none) c' ctv)) (fun b u e=>Heap.get?_push_of_some _ e) (Nat.le_refl _) (lam_ok (Heap.get?_push_size _ rfl))
  have hs:Same H (upd H h'.objs.size (lamHO h'.objs.size (X.env.qual ++ "<lambda>") params body scope cl c')):=fun b o e=>by
   rw [upd_ne (Nat.ne_of_lt (Nat.lt_of_lt_of_le (I.hok.lt e) hsz))]
   exact e
  exact ⟨.ref _,_,I3,rfl,q _ c' _ hs.butT (g.same hs) (hs _ _ hc') upd_same⟩
end
end L2
namespace L2
open PySem PySem.Spec PyProof.Rows PySem.W
def cxLam (X:Cx) (N:List Str) (qual:Str) (scope:Scope) (f:Addr) (cd:Value) (cl:List (Str×Addr)) (A:Around) (s:Shared) (H:Hp):Cx where
 prog:=X.prog
 w:=X.w
 K:=X.K
 mg:=X.mg
 base:=X.base
 A:=A.deeper (envX qual scope s.heap.objs.size f cd cl)
 N:=N
 s₀:=s
 H₀:=H
 env:=envX qual scope s.heap.objs.size f cd cl
 outer:=X.stack
 stack:=envX qual scope s.heap.objs.size f cd cl :: X.stack
 ex:=[]
 calm:=true
 fn:=fun _=>false
 pn:=[]
 xe:=fun _ _=>False
structure LamScope (ps fs:List Str) (sc:Scope):Prop where
 kind:sc.kind=.function
 co:sc.isCoroutine=false
 gen:sc.isGenerator=false
 nd:ps.Nodup
 par:∀ x∈ps,sc.names.lookup x=some .local
 fr:∀ x∈fs,sc.names.lookup x=some .free
 nocell:∀ y∈sc.names,y.2≠.cell
section
variable {X:Cx}{pins:List (Addr×Obj)}{σ:St}{H:Hp}{s:Shared}
theorem Paired.at {α β:Type}{R:α→β→Prop}:∀ {as:List α}{bs:List β}{i:Nat}{a:α}{b:β},Paired R as bs→as[i]?=some a→bs[i]?=some b→R a b
 | _,_,_,_,_,.nil,e,_=>by simp at e
 | _,_,0,_,_,.cons r _,e1,e2=>by simp at e1 e2;subst e1 e2;exact r
 | _,_,i + 1,_,_,.cons _ t,e1,e2=>Paired.at (i:=i) t (by simpa using e1) (by simpa using e2)
def Taken (X:Cx) (σ:St) (fs:List Str) (zs:List V):Prop:=Paired (fun (x:Str) (v:V)=>∃ i:Nat,X.N[i]?=some x∧σ[i]?=some (some v)∧X.env.kindOf x=some .cell) fs zs
theorem lam_code {ps fs:List Str}{f c:Addr}{qual:Str}{params:Arguments}{body:Expr}{scope:Scope}{cl:List (Str×Addr)}{A:Around}{us:List Value}{vs zs:List V}{Q:VK}{k:Nat}{te:TE}
  (I:Inv X pins σ H s) (hA:A.frames=some X.stack) (hr:Room (k + 1) A) (S:LamScope ps fs scope) (hcl:∀ x b,cl.lookup x=some b→X.env.cells.lookup x=some b) (hhas:∀ x,scope.names.lookup x=some .free→∃ b,cl.lookup x=some b)
  (hf:H f=some (lamHO f qual params body scope cl c)) (hc:H c=some (codeHO c qual)) (hb:∀ (pm cdv ctv:Value),bindArgs (kla_fn "<lambda>" qual params body scope cl pm cdv ctv) ⟨us,[]⟩=pure (ps.zip us)) (r:Vals vs us) (hl:vs.length=ps.length) (ht:Taken X σ fs zs)
  (hbody:PE (cxLam X (ps ++ fs) qual scope f (.ref c) cl A s H) body te) (hq:te (vs.map some ++ zs.map some) H Q):codeAny (model X.prog X.w) A (.call (.ref f) ⟨us,[]⟩) (CR CX0 X.stack X.prog X.w H s Q E0) s:=by
 obtain ⟨⟨pm,ctv,ho⟩,_,_⟩:ObjOk X.prog X.w H s.heap f (lamHO f qual params body scope cl c):=I.hok _ _ hf
 obtain ⟨hrec,_,_⟩:ObjOk X.prog X.w H s.heap c (codeHO c qual):=I.hok _ _ hc
 have lu:us.length=ps.length:=by rw [← r.length];exact hl
 have hloc:∀ y∈ps.zip us,scope.names.lookup y.1=some .local:=fun ⟨n,v⟩ hy=>S.par n (List.of_mem_zip hy).1
 refine kla_callFunE hr.depth ho rfl S.co S.gen rfl hrec ?_
 rw [hb]
 refine wpAny_pure (wpAny_newFunctionEnv S.nocell hloc (fun h₁ hns hsb=>?_) S.kind)
 have hk₁:∀ b o,s.heap.get? b=some o→h₁.get? b=some o:=fun b o e=>hsb.extBut b o (Nat.ne_of_lt (Heap.lt_size e)) (Heap.get?_push_of_some _ e)
 refine ⟨I.nolimit.keeps hk₁,?_⟩
 show codeAny _ _ (.expr body (envX qual scope s.heap.objs.size f (.ref c) cl)) _ _
 have e0:=I.env0
 have noA:∀ b:Addr,b ∉ (cxLam X (ps ++ fs) qual scope f (.ref c) cl A s H).ex:=fun b z=>absurd (show b∈([]:List Addr) from z) (by simp)
 have J:Inv (cxLam X (ps ++ fs) qual scope f (.ref c) cl A s H) [] (vs.map some ++ zs.map some) H { s with heap:=h₁,toks:=s.toks + (ps.zip us).length }:=by
  refine ⟨⟨e0.mod,S.kind,rfl,rfl,Nat.le_refl _,fun y z b h1 h2=>?_,fun y hy=>?_,fun y b z _=>absurd z (by simp [cxLam]),fun _=>hr.hd,Around.frames_deeper hA,.inr ⟨rfl,rfl⟩,fun b z=>absurd z (noA b),e0.bs,e0.bsz,fun b _ _=>noA b,fun b z=>absurd z (noA b),e0.funs,e0.frf⟩,
   rfl,e0.bare,Un.kept hk₁,⟨_,hns,fun i y v h1 h2 h3=>?_⟩,fun y b h=>?_,e0.hok.fresh (Nat.le_refl _),fun y b h=>?_,fun p hp=>absurd (show p∈([]:List (Addr×Obj)) from hp) (by simp),e0.hok.kept hk₁,?_⟩
  ·exact I.ok.inj y z b (hcl y b h1) (hcl z b h2)
  ·rcases hy with hy | hy
   ·exact absurd rfl (S.nocell _ (PySem.mem_of_lookup (show scope.names.lookup y=some .cell from hy)))
   ·exact hhas y hy
  ·have h1':(ps ++ fs)[i]?=some y:=h1
   by_cases hi:i < ps.length
   ·rw [List.getElem?_append_left hi] at h1'
    have hv:vs[i]?=some v:=by
     rw [List.getElem?_append_left (by simpa [hl] using hi),List.getElem?_map] at h2
     cases e:vs[i]? with
     | none=>rw [e] at h2;cases h2
     | some a=>rw [e] at h2;cases h2;rfl
    obtain ⟨u,hu,rv⟩:=r.get hv
    refine ⟨u,rv,.inl ⟨S.par y (List.mem_of_getElem? h1'),?_⟩⟩
    have e1:=bindL_get (kindOf:=fun x=>scope.names.lookup x) (m:=fun _=>none) S.nd h1' hu (S.par y (List.mem_of_getElem? h1'))
    have e2:∀ (l:List (Str×Value)) (m:Str→Option Value) (x:Str),(∀ q∈l,scope.names.lookup q.1=some .local)→bindL (fun x=>scope.names.lookup x) l m x=(l.reverse.lookup x).or (m x):=by
     intro l
     induction l with
     | nil=>intro m x _;rfl
     | cons q l ih=>
      intro m x hl
      obtain ⟨n,v⟩:=q
      unfold bindL
      rw [if_pos (hl (n,v) List.mem_cons_self),ih _ _ fun q hq=>hl q (List.mem_cons_of_mem _ hq),List.reverse_cons,List.lookup_append,Option.or_assoc]
      congr 1
      rw [List.lookup_cons,List.lookup_nil]
      by_cases hx:x=n
      ·subst hx
       simp
      ·have hx':(x == n)=false:=by simpa using hx
       simp [hx,hx']
    rw [e2 _ _ _ hloc,Option.or_none] at e1
    exact e1
   ·rw [List.getElem?_append_right (by omega)] at h1'
    rw [List.getElem?_append_right (by rw [List.length_map,hl];omega),List.length_map,hl,List.getElem?_map] at h2
    have hz:zs[i - ps.length]?=some v:=by
     cases e:zs[i - ps.length]? with
     | none=>rw [e] at h2;cases h2
     | some a=>rw [e] at h2;cases h2;rfl
    obtain ⟨j,a1,a2,a3⟩:=Paired.at ht h1' hz
    obtain ⟨m,_,lk⟩:=I.loc
    obtain ⟨u,ru,lo⟩:=lk j y v a1 a2 (.inr (.inl a3))
    rcases lo with ⟨a4,_⟩ | ⟨_,b,a4,a5⟩
    ·rw [a3] at a4
     cases a4
    ·have hfr:=S.fr y (List.mem_of_getElem? h1')
     obtain ⟨b',hb'⟩:=hhas y hfr
     have:=hcl y b' hb'
     rw [a4] at this
     cases this
     obtain ⟨o,ho',hd⟩:=a5
     exact ⟨u,ru,.inr ⟨.inr hfr,b,hb',o,hk₁ _ _ ho',hd⟩⟩
  ·obtain ⟨v,o,ho',hd⟩:=I.cell y b (hcl y b h)
   exact ⟨v,o,hk₁ _ _ ho',hd⟩
  ·exact I.freeC y b (hcl y b h)
  ·show _=(ps ++ fs).length
   rw [List.length_append,List.length_append,List.length_map,List.length_map,hl,ht.length]
 refine kla_codeExpr (wpAny_mono (hbody [] _ _ H Q J hq) (fun u s' hu=>?_) fun e s' z=>z.elim)
 obtain ⟨v,H',J',rv,q⟩:=hu
 exact ⟨v,H',J'.os,J'.bare,J'.base,J'.hok,rv,q⟩
end
end L2
namespace L2
open PySem PySem.Spec PyProof.Rows PySem.W
section
variable {prog:Program}{w:World}{A:Around}{E:Value→Shared→Prop}{s:Shared}
def KeyT2 (h:Heap) (v:Value):Prop:=∃ t a b u1 u2,v=.ref t∧IsTup h t #[.int a u1,.int b u2]
theorem ltT2 {fb:Bool}{x y:Addr}{a1 a2 b1 b2:Int}{t1 t2 u1 u2:Tok}{C:Bool→Shared→Prop} (hx:IsTup s.heap x #[.int a1 t1,.int b1 t2]) (hy:IsTup s.heap y #[.int a2 u1,.int b2 u2]) (h:∀ b,C b s):
  wpAny (model prog w) A (keyLt' (tuples' fb) (.ref x) (.ref y)) C E s:=by
 show wpAny _ _ (Builtin.List.listItems (.ref x) >>= _) _ _ _
 refine wpAny_bind (items_tup hx ?_)
 refine wpAny_bind (items_tup hy ?_)
 dsimp only [List.zip_cons_cons,List.zipIdx_cons,List.zip_nil_left]
 rw [List.zipIdx_nil]
 have e1:∀ {Q:Bool→Shared→Prop} {a b:Int} {t u:Tok},(∀ z,Q z s)→wpAny (model prog w) A (eqBool (.int a t) (.int b u)) Q E s:=fun {Q a b t u} q=>by
  obtain ⟨z,hz,_⟩:=HT.eqAt_int A s a t b u
  exact hz prog w _ _ (q z)
 refine wpAny_bind ?_
 rw [List.forIn_cons]
 refine wpAny_bind (wpAny_bind (e1 fun z=>?_))
 cases z with
 | false=>
  refine wpAny_ite_true (by decide) ?_
  refine wpAny_bind ?_
  show wpAny _ _ (oneLt' (fb && 0 == 0) (Value.int a1 t1) (Value.int a2 u1)) _ _ _
  cases fb
  ·exact ltF_int fun z=>wpAny_pure (wpAny_pure (wpAny_pure (h z)))
  ·exact oneLt_int (wpAny_pure (wpAny_pure (wpAny_pure (h _))))
 | true=>
  refine wpAny_ite_false (by decide) (wpAny_pure ?_)
  dsimp only
  rw [List.forIn_cons]
  refine wpAny_bind (wpAny_bind (e1 fun z=>?_))
  cases z with
  | false=>
   refine wpAny_ite_true (by decide) ?_
   refine wpAny_bind ?_
   have ez:(fb && ((0 + 1:Nat) == 0))=false:=by cases fb <;> rfl
   show wpAny _ _ (oneLt' (fb && (0 + 1 == 0)) (Value.int b1 t2) (Value.int b2 u2)) _ _ _
   rw [ez]
   exact ltF_int fun z=>wpAny_pure (wpAny_pure (wpAny_pure (h z)))
  | true=>
   refine wpAny_ite_false (by decide) (wpAny_pure ?_)
   dsimp only
   rw [List.forIn_nil]
   exact wpAny_pure (wpAny_pure (h _))
theorem kindT2 {ks:List Value}{Q:SortKind→Shared→Prop} (hk:∀ v∈ks,KeyT2 s.heap v) (h:∀ b,Q (tuples' b) s):wpAny (model prog w) A (keyKind' ks.toArray) Q E s:=by
 rw [keyKind'_eq,Array.mapM_eq_mapM_toList]
 refine wpAny_bind ?_
 rw [← bind_pure_comp]
 refine wpAny_bind (mapM_any (R:=fun _ r=>∃ a u,r=some (Value.int a u)) ks (fun v hv=>?_) fun rs hl hrs=>wpAny_pure ?_)
 ·obtain ⟨t,a,b,u1,u2,rfl,ht⟩:=hk v hv
  refine ⟨some (.int a u1),⟨a,u1,rfl⟩,fun Q' q=>?_⟩
  rw [kas_first_eq]
  refine wpAny_bind (wpAny_typeOf ht.typeIs ?_)
  refine wpAny_ite_false (by decide) ?_
  refine wpAny_bind (items_tup ht ?_)
  exact wpAny_pure q
 ·have hall:(rs.toArray.all fun x=>x.isSome)=true:=by
   rw [List.all_toArray,List.all_eq_true]
   intro r hr
   obtain ⟨v,_,a,u,rfl⟩:=hrs r hr
   rfl
  refine wpAny_ite_true (by rw [hall];rfl) ?_
  refine wpAny_bind (wpAny_rule ?_)
  rw [oneTypeOnly'_eq,Array.mapM_eq_mapM_toList]
  refine wpAny_bind ?_
  refine wpAny_bind ?_
  rw [← bind_pure_comp]
  refine wpAny_bind (mapM_any (R:=fun _ r=>r=Value.type "int") _ (fun v hv=>?_) fun ts htl hts=>wpAny_pure ?_)
  ·have hv':some v∈rs:=by simpa using hv
   obtain ⟨_,_,a,u,e⟩:=hrs _ hv'
   cases e
   exact ⟨_,rfl,fun Q' q=>wpAny_typeOf (typeIs_int s a u) q⟩
  ·cases hts0:ts.toArray[0]? with
   | none=>exact wpAny_pure (wpAny_pure (h _))
   | some t=>exact wpAny_pure (wpAny_pure (h _))
theorem endT2 {a kS:Addr}{ks its:List Value}{e e1:Nat}{P:PySem.Fin→Shared→Prop} (ha:s.heap.get? a=some (seqObj "list" #[] e1)) (hk:s.heap.get? kS=some (seqObj "list" ks.toArray e)) (hne:a≠kS) (hl:ks.length=its.length) (h64:its.length≤sizeLine) (hK:∀ v∈ks,KeyT2 s.heap v)
  (h:∀ out:List Value,out.Perm its→P (Fin.done (Flow.ret Value.none)) { s with heap:=(s.heap.update kS (Obj.mapSeq fun _=>#[])).update a (Obj.mapSeq fun _=>out.toArray) }):wpAny (model prog w) A (ksk_end a false its.toArray e1 (.ref kS) ks.toArray) P E s:=by
 have zip_size:(ks.toArray.zip its.toArray).size=its.length:=by simp [hl]
 have fin:∀ st:SortSt,(arrOf st).Perm (ks.toArray.zip its.toArray)→failedOf st=none→wpAny (model prog w) A (ksk_tail a false e1 (.ref kS) st) P E s:=fun st hp hf=>by
  refine tailT ha hk hne (by rw [List.size_toArray,hl];exact h64) (by rw [hp.size_eq,zip_size];exact h64) hf ?_
  have hp':((arrOf st).map (·.2)).toList.Perm its:=by
   rw [Array.toList_map]
   have:=(Array.perm_iff_toList_perm.mp hp).map (·.2)
   have e2:(ks.toArray.zip its.toArray).toList.map (·.2)=its:=by
    rw [Array.toList_zip]
    exact List.map_snd_zip (by simp [hl])
   rw [e2] at this
   exact this
  have:=h _ hp'
  rw [Array.toArray_toList] at this
  exact this
 unfold ksk_end
 dsimp only
 by_cases h2:its.length < 2
 ·have h2':its.toArray.size < 2:=by simpa using h2
  rw [if_neg Bool.false_ne_true,if_pos h2']
  refine wpAny_bind (wpAny_pure ?_)
  rw [if_pos h2',if_neg Bool.false_ne_true]
  refine wpAny_bind (wpAny_pure ?_)
  exact fin _ (Array.Perm.refl _) rfl
 ·have h2':¬ its.toArray.size < 2:=by simpa using h2
  rw [if_neg Bool.false_ne_true,if_neg h2']
  refine wpAny_bind (kindT2 hK fun b=>?_)
  rw [if_neg h2',if_neg Bool.false_ne_true]
  refine wpAny_bind (runs_any (fun x y hx hy C hC=>?_) fun st hp hf=>fin st hp hf)
  have hin:∀ z:Keyed,z∈(ks.toArray.zip its.toArray).toList→KeyT2 s.heap z.1:=fun z hz=>by
   rw [Array.toList_zip] at hz
   obtain ⟨p,q⟩:=z
   exact hK _ (List.of_mem_zip hz).1
  obtain ⟨t,a1,b1,u1,u2,e1,ht⟩:=hin x hx
  obtain ⟨t',a2,b2,v1,v2,e2,ht'⟩:=hin y hy
  rw [e1,e2]
  exact ltT2 ht ht' hC
end
section
variable {X:Cx}{pins:List (Addr×Obj)}{σ:St}
def KeyH2 (H:Hp) (v:Value):Prop:=∃ t a b,v=.ref t∧H t=some (.tup [.int a,.int b])
theorem KeyH2.same {H H':Hp}{v:Value} (h:KeyH2 H v) (s:Same H H'):KeyH2 H' v:=by
 obtain ⟨t,a,b,e,ht⟩:=h
 exact ⟨t,a,b,e,s _ _ ht⟩
theorem KeyH2.real {H:Hp}{s:Shared}{v:Value} (I:Inv X pins σ H s) (h:KeyH2 H v):KeyT2 s.heap v:=by
 obtain ⟨t,a,b,rfl,ht⟩:=h
 obtain ⟨_,its,rv,hT⟩:ObjOk X.prog X.w H s.heap t (.tup [.int a,.int b]):=I.hok _ _ ht
 cases rv with
 | cons r1 rv=>
  cases rv with
  | cons r2 rv=>
   cases rv
   obtain ⟨u1,e1⟩:=r1
   obtain ⟨u2,e2⟩:=r2
   subst e1 e2
   exact ⟨t,a,b,u1,u2,rfl,hT⟩
theorem key_loop2 {f:Addr}{A':Around}{E:Value→Shared→Prop}
  {D kS:Addr} {H0:Hp} {e1:Nat} {xs:List V} (fD:∀ H',H' D=none→FpOk X pins H' D) (fK:∀ H',H' kS=none→FpOk X pins H' kS) (hne:D≠kS)
  (hkey:∀ y∈xs,∀ (v:Value) (pins':List (Addr×Obj)) (H':Hp) (s':Shared),RelV y v→Inv X pins' σ H' s'→Same H0 H'→codeAny (model X.prog X.w) A' (.call (.ref f) ⟨[v],[]⟩) (CR CX0 X.stack X.prog X.w H' s' (fun u H''=>∃ t a b,u=.ref t∧H'' t=some (.tup [.int a,.int b])∧Same H' H'') E0) s') {er:Value→Value→Sem (ForInStep PUnit)} {Q:Shared→Prop}
  {body:Value→PUnit→Sem (ForInStep PUnit)} (hbody:∀ v u,body v u=(do
   let r ← (call (.ref f) [v]).attempt
   match r with
   | Except.ok k=>do
    Builtin.List.listUpdate (.ref kS) fun x=>x.push k
    pure (ForInStep.yield PUnit.unit)
   | Except.error e=>er v e)):
  ∀ (rest:List Value) (xr:List V) (s:Shared) (H:Hp) (ks:List Value) (e:Nat),Vals xr rest→(∀ y∈xr,y∈xs)→Inv X pins σ H s→Same H0 H→H D=none→H kS=none→s.heap.get? D=some (seqObj "list" #[] e1)→s.heap.get? kS=some (seqObj "list" ks.toArray e)→(∀ v∈ks,KeyH2 H v)→ks.length + rest.length≤sizeLine→
   (∀ (s':Shared) (H':Hp) (ks':List Value) (e':Nat),Inv X pins σ H' s'→Same H0 H'→H' D=none→H' kS=none→s'.heap.get? D=some (seqObj "list" #[] e1)→s'.heap.get? kS=some (seqObj "list" ks'.toArray e')→(∀ v∈ks',KeyH2 H' v)→ks'.length=ks.length + rest.length→Q s')→
   wpAny (model X.prog X.w) A' (forIn rest PUnit.unit body) (fun _ s'=>Q s') E s:=by
 intro rest
 induction rest with
 | nil=>
  intro xr s H ks e r hsub I S hD hK gD gK hk h64 q
  rw [List.forIn_nil]
  exact wpAny_pure (q s H ks e I S hD hK gD gK hk rfl)
 | cons v rest ih=>
  intro xr s H ks e r hsub I S hD hK gD gK hk h64 q
  rw [List.length_cons] at h64
  cases r with
  | @cons y _ xr' _ r1 r2=>
  rw [List.forIn_cons,hbody]
  refine wpAny_bind (wpAny_bind (wpAny_attempt ?_))
  have I3:Inv X ((D,seqObj "list" #[] e1) :: (kS,seqObj "list" ks.toArray e) :: pins) σ H s:=I.pins_of fun p hp=>by
   rcases List.mem_cons.mp hp with z | hp
   ·subst z
    exact ⟨gD,hD,(fD H hD).2.1,(fD H hD).2.2.1,fun v z=>by cases z⟩
   ·rcases List.mem_cons.mp hp with z | hp
    ·subst z
     exact ⟨gK,hK,(fK H hK).2.1,(fK H hK).2.2.1,fun v z=>by cases z⟩
    ·exact I.pin p (List.mem_append_right _ hp)
  refine wpAny_call (codeAny_mono (hkey y (hsub y List.mem_cons_self) v _ H s r1 I3 S) fun r s' hq=>?_)
  cases r with
  | error e=>exact False.elim hq
  | ok fl=>
   cases fl with
   | next=>exact False.elim hq
   | brk=>exact False.elim hq
   | cont=>exact False.elim hq
   | ret u=>
    obtain ⟨vv,H',I',r',t,a,b,rfl,ht,S'⟩:=I3.after hq
    cases r'
    obtain ⟨gD',hD',_⟩:=I'.pin (D,seqObj "list" #[] e1) (List.mem_append_right _ List.mem_cons_self)
    obtain ⟨gK',hK',_⟩:=I'.pin (kS,seqObj "list" ks.toArray e) (List.mem_append_right _ (List.mem_cons_of_mem _ List.mem_cons_self))
    have I4:Inv X pins σ H' s':=I'.pins_of fun p hp=>I'.pin p (List.mem_append_right _ (List.mem_cons_of_mem _ (List.mem_cons_of_mem _ hp)))
    refine wpAny_bind (listUpdate_at gK' rfl ?_ (by rw [List.size_toArray];omega) (by rw [Array.size_push,List.size_toArray];omega))
    refine wpAny_pure ?_
    have gK2:=get?_update_seq gK' (fun x=>x.push (.ref t))
    have ep:(ks.toArray.push (.ref t))=(ks ++ [Value.ref t]).toArray:=by simp
    rw [ep] at gK2
    have I5:Inv X pins σ H' { s' with heap:=s'.heap.update kS (Obj.mapSeq fun x=>x.push (.ref t)) }:=I4.turnedL (t':=s'.toks) (fp:=[kS]) (fun b o hb e=>by
     rw [Heap.get?_update_ne _ _ _ _ (fun z=>hb (by simp [z]))]
     exact e) fun b hb=>by
      rw [List.mem_singleton.mp hb]
      exact fK H' hK'
    refine ih xr' _ H' (ks ++ [Value.ref t]) _ r2 (fun y hy=>hsub y (List.mem_cons_of_mem _ hy)) I5 (S.trans S') hD' hK' ?_ gK2 (fun z hz=>?_) (by rw [List.length_append,List.length_singleton];omega) fun s'' H'' ks'' e'' a1 a2 a3 a4 a5 a6 a7 a8=>?_
    ·show (s'.heap.update kS _).get? D=_
     rw [Heap.get?_update_ne _ _ _ _ hne]
     exact gD'
    ·rcases List.mem_append.mp hz with hz | hz
     ·exact (hk z hz).same S'
     ·rw [List.mem_singleton.mp hz]
      exact ⟨t,a,b,rfl,ht⟩
    ·exact q s'' H'' ks'' e'' a1 a2 a3 a4 a5 a6 a7 (by rw [a8,List.length_append,List.length_singleton,List.length_cons];omega)
end
end L2
namespace L2
open PySem PySem.Spec PyProof.Rows PySem.W
section
variable {X:Cx}{pins:List (Addr×Obj)}{σ:St}{H:Hp}{s:Shared}
theorem sortedK2 {f l:Addr}{xs:List V}{Q:VK}{E:Value→Shared→Prop}
  (I:Inv X pins σ H s) (hl:SqL X.K H l xs) (h64:xs.length≤sizeLine)
  (hkey:∀ y∈xs,∀ (v:Value) (pins':List (Addr×Obj)) (H':Hp) (s':Shared),RelV y v→Inv X pins' σ H' s'→Same H H'→codeAny (model X.prog X.w) X.A.in1.in1 (.call (.ref f) ⟨[v],[]⟩) (CR CX0 X.stack X.prog X.w H' s' (fun u H''=>∃ t a b,u=.ref t∧H'' t=some (.tup [.int a,.int b])∧Same H' H'') E0) s')
  (q:∀ D ys H',Same H H'→H D=none→ys.Perm xs→H' D=some (.lst ys)→Q (.ref D) H'):
  wpAny (model X.prog X.w) X.A (call (.builtin "sorted") [.ref l] [(Str.ofString "key",.ref f)]) (EP X pins σ Q) E s:=by
 obtain ⟨its,rv,pl,_⟩:=I.list hl
 have hlen:=rv.length
 have zz:its.length≤sizeLine:=by omega
 refine call_function_entry_kw kind_sorted plain_sorted entry_sorted (ksk_s1 _ _) ?_
 refine wpAny_bind (wpAny_pure ?_)
 refine wpAny_bind (collect_list pl.isList ?_ zz)
 refine wpAny_bind (wpAny_newList ?_ zz)
 have hsz1:((s.heap.push (seqObj "list" #[] 0)).update s.heap.objs.size (Obj.mapSeq fun x=>x ++ its.toArray)).objs.size=s.heap.objs.size + 1:=by
  rw [Heap.size_update,size_push']
 generalize hh1:(s.heap.push (seqObj "list" #[] 0)).update s.heap.objs.size (Obj.mapSeq fun x=>x ++ its.toArray)=h1 at hsz1 ⊢
 have old1:∀ b o,s.heap.get? b=some o→h1.get? b=some o:=fun b o e=>by
  rw [← hh1,Heap.get?_update_ne _ _ _ _ (Nat.ne_of_lt (Heap.lt_size e))]
  exact Heap.get?_push_of_some _ e
 dsimp only
 obtain ⟨D,hD⟩:∃ D,D=h1.objs.size:=⟨_,rfl⟩
 have gD0:(h1.push (seqObj "list" its.toArray 0)).get? D=some (seqObj "list" its.toArray 0):=by
  rw [hD]
  exact Heap.get?_push_size _ rfl
 have old2:∀ b o,s.heap.get? b=some o→(h1.push (seqObj "list" its.toArray 0)).get? b=some o:=fun b o e=>Heap.get?_push_of_some _ (old1 b o e)
 have hsz2:(h1.push (seqObj "list" its.toArray 0)).objs.size=s.heap.objs.size + 2:=by rw [size_push',hsz1]
 change wpAny _ _ (do let _ ← holding [Value.ref h1.objs.size] (call (.builtin "list.sort") [Value.ref h1.objs.size] [(Str.ofString "key",.ref f)]);ret (Value.ref h1.objs.size)) _ _ { s with heap:=h1.push (seqObj "list" its.toArray 0) }
 rw [← hD]
 generalize h1.push (seqObj "list" its.toArray 0)=h2 at gD0 old2 hsz2 ⊢
 have hDs:D=s.heap.objs.size + 1:=by rw [hD,hsz1]
 refine wpAny_bind (wpAny_holding (wpAny_call_entry_kw slot_list_sort ⟨_,gD0,rfl⟩ entry_list_sort ?_ (ksk_l1 _ _)))
 rw [ksk_t1]
 unfold ksk_tree
 refine wpAny_bind (listItems_at gD0 rfl ?_)
 refine wpAny_bind (listUpdate_at gD0 rfl ?_ (by rw [List.size_toArray];exact zz) (Nat.zero_le _))
 have gD1:=get?_update_seq gD0 (fun _=>#[])
 generalize (if ((#[]:Array Value).size == its.toArray.size)=true then 0 else 0 + 1)=e1 at gD1
 have old3:∀ b o,s.heap.get? b=some o→(h2.update D (Obj.mapSeq fun _=>#[])).get? b=some o:=fun b o e=>by
  rw [Heap.get?_update_ne _ _ _ _ (Nat.ne_of_lt (by rw [hDs];exact Nat.lt_succ_of_lt (Heap.lt_size e)))]
  exact old2 b o e
 have hsz3:(h2.update D (Obj.mapSeq fun _=>#[])).objs.size=s.heap.objs.size + 2:=by rw [Heap.size_update,hsz2]
 dsimp only
 generalize h2.update D (Obj.mapSeq fun _=>#[])=h3 at gD1 old3 hsz3 ⊢
 refine wpAny_bind (seqEpoch_at gD1 rfl ?_)
 refine wpAny_bind (wpAny_newTuple ?_ (by simpa using zz))
 refine wpAny_bind (wpAny_newList ?_ (Nat.zero_le _))
 dsimp only
 refine wpAny_holding ?_
 obtain ⟨kS,hkS⟩:∃ kS,kS=(h3.push { cls:=Value.type "tuple",data:=Data.seq its.toArray.toList.toArray }).objs.size:=⟨_,rfl⟩
 have gK4:((h3.push { cls:=Value.type "tuple",data:=Data.seq its.toArray.toList.toArray }).push { cls:=Value.type "list",data:=Data.seq ([]:List Value).toArray }).get? kS=some (seqObj "list" ([]:List Value).toArray 0):=by
  rw [hkS]
  exact Heap.get?_push_size _ rfl
 have gD4:((h3.push { cls:=Value.type "tuple",data:=Data.seq its.toArray.toList.toArray }).push { cls:=Value.type "list",data:=Data.seq ([]:List Value).toArray }).get? D=some (seqObj "list" #[] e1):=Heap.get?_push_of_some _ (Heap.get?_push_of_some _ gD1)
 have old4:∀ b o,s.heap.get? b=some o→((h3.push { cls:=Value.type "tuple",data:=Data.seq its.toArray.toList.toArray }).push { cls:=Value.type "list",data:=Data.seq ([]:List Value).toArray }).get? b=some o:=fun b o e=>Heap.get?_push_of_some _ (Heap.get?_push_of_some _ (old3 b o e))
 have hkSs:kS=s.heap.objs.size + 3:=by rw [hkS,Heap.size_push,hsz3]
 rw [← hkS]
 generalize (h3.push { cls:=Value.type "tuple",data:=Data.seq its.toArray.toList.toArray }).push { cls:=Value.type "list",data:=Data.seq ([]:List Value).toArray }=h4 at gK4 gD4 old4 ⊢
 have hne:D≠kS:=Nat.ne_of_lt (by rw [hDs,hkSs];omega)
 have I4:Inv X pins σ H { s with heap:=h4 }:=I.kept (t':=s.toks) old4
 have lD:s.heap.objs.size≤D:=by rw [hDs];exact Nat.le_succ _
 have lK:s.heap.objs.size≤kS:=by rw [hkSs];exact Nat.le_add_right _ _
 have nD:H D=none:=I.hok.fresh lD
 have nK:H kS=none:=I.hok.fresh lK
 have fD:∀ H',H' D=none→FpOk X pins H' D:=fun H' hn=>I.fpOk lD hn
 have fK:∀ H',H' kS=none→FpOk X pins H' kS:=fun H' hn=>I.fpOk lK hn
 unfold ksk_rest
 refine wpAny_bind (wpAny_rule ?_)
 refine wpAny_bind ?_
 rw [← Array.forIn_toList]
 refine key_loop2 (X:=X) (pins:=pins) (σ:=σ) (f:=f) (A':=X.A.in1.in1) (D:=D) (kS:=kS) (H0:=H) (e1:=e1) (xs:=xs) fD fK hne hkey (er:=fun v e=>do
     rule "list.sort.key-raised"
     let made ← Builtin.List.listItems (.ref kS)
     Builtin.List.listUpdate (.ref kS) fun x=>#[]
     letGo made.toList.reverse [e]
     Builtin.List.listUpdate (Value.ref D) fun x=>its.toArray
     throw e
     pure (ForInStep.yield PUnit.unit)) (fun v u=>by congr 1) its xs _ H [] 0 rv (fun y hy=>hy) I4 (Same.refl H) nD nK gD4 gK4 (fun v hv=>by simp at hv) (by simp;omega) ?_
 intro s' H' ks e' I' S hD' hK' gD' gK' hks hkl
 refine wpAny_bind (listItems_at gK' rfl ?_)
 refine endT2 gD' gK' hne (by simpa using hkl) (by omega) (fun v hv=>(hks v hv).real I') fun out hp=>?_
 refine ⟨_,rfl,wpAny_pure ⟨_,rfl,?_⟩⟩
 obtain ⟨ys,hys,rys⟩:=perm_vals hp rv
 have I6:Inv X pins σ H' { s' with heap:=(s'.heap.update kS (Obj.mapSeq fun _=>#[])).update D (Obj.mapSeq fun _=>out.toArray) }:=I'.turnedL (t':=s'.toks) (fp:=[kS,D]) (fun b o hb e=>by
  rw [Heap.get?_update_ne _ _ _ _ (fun z=>hb (by simp [z])),Heap.get?_update_ne _ _ _ _ (fun z=>hb (by simp [z]))]
  exact e) fun b hb=>by
   simp only [List.mem_cons,List.not_mem_nil,or_false] at hb
   rcases hb with rfl | rfl
   ·exact fK H' hK'
   ·exact fD H' hD'
 have gD6:((s'.heap.update kS (Obj.mapSeq fun _=>#[])).update D (Obj.mapSeq fun _=>out.toArray)).get? D=_:=get?_update_seq (c:="list") (xs:=#[]) (n:=e1) (by
  rw [Heap.get?_update_ne _ _ _ _ hne]
  exact gD') fun _=>out.toArray
 have hyl:ys.length≤sizeLine:=by rw [hys.length_eq];omega
 exact ⟨.ref D,_,I6.track (ob:=.lst ys) (fD H' hD') ⟨hyl,out,_,rys,gD6⟩,rfl,q D ys _ (S.trans (Same.new hD')) nD hys upd_same⟩
end
end L2
namespace L2
open PySem PySem.Spec PyProof.Rows PySem.W
theorem SameT.seq {K:PySem.W.Frag}{T:Addr}{H H':Hp}{a:Addr}{xs:List V}{ps:Array Value} (e:SameT T H H') (hT:H T=some (.tbl ps)) (h:SqL K H a xs):SqL K H' a xs:=by
 rcases h with (h | ⟨o,h⟩) | h
 ·exact .inl (.inl (e _ _ (fun z=>by rw [z,hT] at h;cases h) h))
 ·exact .inl (.inr ⟨o,e _ _ (fun z=>by rw [z,hT] at h;cases h) h⟩)
 ·exact .inr h
section
variable {X:Cx}{e:Expr}{ta:TA}
def tSL (X:Cx) (T:Addr) (lpos:Pos) (fs:List Str) (te:TE) (ta:TA):TE:=fun σ H Q=>ta σ H fun vs H1=>∃ l xs zs,vs=[V.ref l]∧SqL X.K H1 l xs∧xs.length≤sizeLine∧Taken X σ fs zs∧GoodT T lpos (X.env.qual ++ "<lambda>") H1∧
 (∀ y∈xs,∀ H',SameT T H1 H'→te (some y :: zs.map some) H' fun u H''=>∃ t a b,u=.ref t∧H'' t=some (.tup [.int a,.int b])∧Same H' H'')∧
 ∀ D ys H',SameT T H1 H'→GoodT T lpos (X.env.qual ++ "<lambda>") H'→H1 D=none→ys.Perm xs→H' D=some (.lst ys)→Q (.ref D) H'
theorem pe_sortedL {k:Nat}{c T:Addr}{x:Str}{fs:List Str}{params:Arguments}{body:Expr}{scope:Scope}{cl:List (Str×Addr)}{te:TE}{p lpos kp pos:Pos} (hr:Room (k + 3) X.A) (hcode:X.env.code=.ref c) (hC:codeHdIn X.K c T=true) (hB:BltM X.mg X.base) (hg:Gl X "sorted") (hm:X.mg "sorted"=none) (S:LamScope [x] fs scope)
  (hc:∀ x b,cl.lookup x=some b→X.env.cells.lookup x=some b) (hhas:∀ x,scope.names.lookup x=some .free→∃ b,cl.lookup x=some b) (hb:∀ (pm cdv ctv u:Value),bindArgs (kla_fn "<lambda>" (X.env.qual ++ "<lambda>") params body scope cl pm cdv ctv) ⟨[u],[]⟩=pure [(x,u)])
  (hbody:∀ (f c:Addr) (s:Shared) (H:Hp),PE (cxLam X ([x] ++ fs) (X.env.qual ++ "<lambda>") scope f (.ref c) cl X.A.in1.in1 s H) body te) (ha:PA X [e] ta)
  (hcl:closureFor scope X.env=pure cl:=by rfl) (hdef:defaultsOf params X.env=([],[]):=by rfl) (he:starEach [e] X.env=[(false,eval e X.env)]:=by rfl):
  PE X (.Call (.Name "sorted" p) [e] [⟨some "key",.Lambda params body scope lpos,kp⟩] pos) (tSL X T lpos fs te ta):=by
 constructor
 intro pins s σ H Q I h
 refine wpAny_Call_Name_kw (ld_blt I hg hm boot_sorted ?_ (by decide) (by decide))
 refine callWith_builtin_kwB (by rw [he];rfl) (by rfl) ?_
 have hrun:=ha pos pins s σ H _ I h
 rw [he] at hrun ⊢
 refine evalArgs_kwB (by rfl) (thn hrun fun us s1 ⟨vs,H1,I1,r,q1⟩=>?_)
 obtain ⟨l,xs,zs,rfl,hl,hlen,ht,gt,hkey,q⟩:=q1
 obtain ⟨ps,hT,_⟩:=gt.ex
 have hkw:PK X [⟨some "key",.Lambda params body scope lpos,kp⟩] (tCons (tLam T lpos (X.env.qual ++ "<lambda>") params body scope cl) tNil):=pk_cons (pe_lam hcode hC hB hcl hdef) pk_nil
 refine thn (hkw pos pins s1 σ H1 (fun ws H2=>∃ f c,ws=[V.ref f]∧SameT T H1 H2∧GoodT T lpos (X.env.qual ++ "<lambda>") H2∧H2 c=some (codeHO c (X.env.qual ++ "<lambda>"))∧H2 f=some (lamHO f (X.env.qual ++ "<lambda>") params body scope cl c)) I1 ⟨gt,fun f c H2 a1 a2 a3 a4=>⟨f,c,rfl,a1,a2,a3,a4⟩⟩) fun ws s2 ⟨ws',H2,I2,rz,f,c',ez,a1,a2,a3,a4⟩=>?_
 subst ez
 cases rz with
 | cons r1 r2=>
  cases r1
  cases r2
  cases r with
  | cons r3 r4=>
   cases r3
   cases r4
   refine sortedK2 I2 (a1.seq hT hl) hlen (fun y hy v pins' H' s' rv I' S'=>?_) fun D ys H' s' n1 n2 n3=>q D ys H' (a1.trans s'.butT) (a2.same s') ?_ n2 n3
   ·exact lam_code (k:=k) (ps:=[x]) (fs:=fs) I' I'.ok.frames ((hr.in1).in1) S hc hhas (S' _ _ a4) (S' _ _ a3) (fun pm cdv ctv=>hb pm cdv ctv v) (.cons rv .nil) rfl ht (hbody f c' s' H') (hkey y hy H' (a1.trans S'.butT))
   ·cases qD:H1 D with
    | none=>rfl
    | some o=>
     by_cases hD:D=T
     ·subst hD
      obtain ⟨ps',hT',_⟩:=a2.ex
      rw [hT'] at n1
      cases n1
     ·rw [a1 _ _ hD qD] at n1
      cases n1
end
theorem Fun.okC {P:Program}{w:World}{K:PySem.W.Frag}{mg:Str→Option Value}{base:Heap}{x qual:Str}{st:Stmt}{f:Addr}{fd:FuncData}{N ps:List Str}{k:Nat}{sp:Sp} (F:Fun K x qual st f fd) (S:FnScope N ps (defScope st)) (len:∀ vs H Q E,sp vs H Q E→vs.length=ps.length)
  (hbody:∀ (cdv:Value) (A:Around) (outer:List Env) (s:Shared) (H:Hp) (vs:List V) (Q:VK) (E:XK),fd.code=cdv→Room k (A.deeper (envOfC qual (defScope st) s.heap.objs.size f cdv))→sp vs H Q E→
   ∃ t,PSs (cxOf CX0 P w K mg base N qual (defScope st) f cdv A outer s H E).nox (defBody st) t∧t { nx:=fun _ H'=>Q .non H',rt:=Q } (start N vs) H):FnOk P w K mg base CX0 (k + 1) f fd ps sp:=by
 obtain ⟨oc,od,kV,doc,pm,an,cdv,ct,osl,rfl,lk,hcd⟩:=F.ex
 refine fn_of lk hcd S len fun A outer s H vs Q E hr hsp=>?_
 obtain ⟨t,h,q⟩:=hbody cdv A outer s H vs Q E rfl hr hsp
 exact ⟨t,h.nox,q⟩
end L2
namespace L2
open PySem PySem.Spec PyProof.Rows PySem.W
theorem GoodT.start {T:Addr}{pos:Pos}{qual:Str}{H:Hp} (h:H T=some (.tbl #[])):GoodT T pos qual H:=⟨#[],h,trivial,.inl rfl⟩
theorem law_callT {P:Program}{w:World}{K:PySem.W.Frag}{mg mb:Str→Option Value}{k:Nat}{fa a:Addr}{fd:FuncData}{x:Str}{sp:Sp}{s₁:Shared}{vs:List Value}{ns:List Int}{Ts:List Addr}
  (KX:K.In s₁.heap) (hns:s₁.heap.Ns mainGlobals mg) (hb:s₁.heap.Ns builtinsNs mb) (hbb:∀ x:Str,x≠"__name__"→mb x=bootBuiltins x) (hlim:s₁.heap.NoLimit) (hg:s₁.gens=#[]) (hB:BltM mg s₁.heap)
  (hT:∀ T∈Ts,s₁.heap.get? T=some (tabObj #[])∧K.lookup T=none∧isCodeTable s₁.heap T)
  (ha:s₁.heap.get? a=some { cls:=.type "list",data:=.seq vs.toArray }) (hi:IntsAre vs ns) (hl:ns.length≤sizeLine) (hr:Room k callerA)
  (F:∀ base:Heap,K.In base→base.Ns mainGlobals mg→BltM mg base→FnOk P w K mg base CX0 k fa fd [x] sp) (hbind:∀ (s:Shared) (u:Value),BindsTo s fd ⟨[u],[]⟩ [(x,u)])
  (hsp:∀ H:Hp,(∀ T∈Ts,H T=some (.tbl #[]))→SqL K H a (ns.map V.int)→sp [.ref a] H (fun v _=>v=.bl true) fun _ _ _=>False):
  codeAny (model P w) callerA (.call (.ref fa) ⟨[.ref a],[]⟩) (fun r s'=>r=.ok (.ret (.bool true))∧OldK s₁.heap s'.heap∧s'.os=s₁.os∧AllBare s'.gens) s₁:=by
 have rv:=vals_ints hi
 have lenV:=hi.length
 have aT:∀ T∈Ts,T≠a:=fun T h z=>by
  have:=(hT T h).1
  rw [z,ha] at this
  cases this
 have core:∀ H:Hp,(∀ T∈Ts,H T=some (.tbl #[]))→SqL K H a (ns.map V.int)→HOk P w H s₁.heap→(∀ b,H b≠none→b∈Ts∨(b=a∧K.lookup a=none∧H a=some (.frz { cls:=.type "list",data:=.seq vs.toArray } (.lst (ns.map V.int)))))→
   codeAny (model P w) callerA (.call (.ref fa) ⟨[.ref a],[]⟩) (fun r s'=>r=.ok (.ret (.bool true))∧OldK s₁.heap s'.heap∧s'.os=s₁.os∧AllBare s'.gens) s₁:=by
  intro H hO hS hok hA
  have free:∀ {b:Addr} {o:Obj},s₁.heap.get? b=some o→(∀ xs n,o.data≠.seq xs n)→(∀ vs,o.data≠.fields vs)→H b=none:=fun {b o} e d1 d2=>by
   cases q:H b with
   | none=>rfl
   | some u=>
    rcases hA b (by rw [q];simp) with z | ⟨z,_,_⟩
    ·rw [(hT b z).1] at e
     cases e
     exact absurd rfl (d2 _)
    ·rw [z,ha] at e
     cases e
     exact absurd rfl (d1 _ _)
  have nsK:∀ {b:Addr} {m:Str→Option Value},s₁.heap.Ns b m→(hidT s₁.heap H).Ns b m:=fun {b m} ⟨o,es,ep,e,d,r⟩=>⟨o,es,ep,hidT_get e (free e (fun _ _ z=>by rw [d] at z;cases z) fun _ z=>by rw [d] at z;cases z),d,r⟩
  have hKb:K.In (hidT s₁.heap H):=fun b o e=>hidT_get (KX b o e) (by
   cases q:H b with
   | none=>rfl
   | some u=>
    rcases hA b (by rw [q];simp) with z | ⟨z,z2,_⟩
    ·rw [(hT b z).2.1] at e
     cases e
    ·rw [z,z2] at e
     cases e)
  have hBb:BltM mg (hidT s₁.heap H):=by
   obtain ⟨bm,o,b1,b2,b3,b4,b5,b6,b7⟩:=hB
   exact ⟨bm,o,b1,b2,b3,hidT_get b4 (free b4 (fun _ _ z=>by rw [b7] at z;cases z) fun _ z=>by rw [b7] at z;cases z),b5,b6,b7⟩
  have hM:Mod K mg (hidT s₁.heap H):=⟨hKb,nsK hns,⟨mb,nsK hb,hbb⟩,let ⟨mc,h1,h2⟩:=hlim;⟨mc,nsK h1,h2⟩⟩
  have e0:Env0 P w K mg (hidT s₁.heap H) callerA [] s₁ H:=⟨rfl,hM,fun b o e=>of_hidT e,Nat.le_of_eq (hidT_size _ _),trivial,fun b hb=>absurd (show b∈([]:List Addr) from hb) (by simp),hok,.of_eq hg⟩
  refine codeAny_mono ((F _ hKb (nsK hns) hBb).run callerA [] s₁ H ⟨[.ref a],[]⟩ [.ref a] [.ref a] _ _ hr e0 (hbind s₁ (.ref a)) (.cons rfl .nil) (hsp H hO hS)) fun r s' h=>?_
  cases r with
  | error e=>exact False.elim h
  | ok fl=>
   cases fl with
   | next=>exact False.elim h
   | brk=>exact False.elim h
   | cont=>exact False.elim h
   | ret u=>
    obtain ⟨v,H',os,bare,un,hok',r',q⟩:=h
    have q':v=.bl true:=q
    subst q'
    obtain rfl:u=Value.bool true:=r'
    refine ⟨rfl,⟨fun b o e=>?_,fun b o e=>un.there b o e (by simp)⟩,os,bare⟩
    cases q:H b with
    | none=>exact .inl (un.keep b o e q (by intro z;exact absurd (show b∈([]:List Addr) from z) (by simp)) (by simp))
    | some u=>
     rcases hA b (by rw [q];simp) with z | ⟨z,_,z2⟩
     ·obtain ⟨e1,_,e3⟩:=hT b z
      rw [e1] at e
      cases e
      obtain ⟨more,e4⟩:=un.tbls b _ (hO b z)
      exact .inr (.inl ⟨e3,rfl,#[],more,rfl,hok' b _ e4⟩)
     ·subst z
      have z3:=un.frzs _ _ _ z2
      obtain ⟨e1,_⟩:=hok _ _ z2
      obtain ⟨e2,_⟩:=hok' _ _ z3
      rw [e] at e1;cases e1
      exact .inl e2
 have tabOk:∀ (H:Hp) T,T∈Ts→ObjOk P w H s₁.heap T (.tbl #[]):=fun H T h=>(hT T h).1
 cases hk:K.lookup a with
 | some o=>
  have e:=KX a o hk
  rw [ha] at e
  cases e
  refine core (fun b=>if b∈Ts then some (.tbl #[]) else none) (fun T h=>if_pos h) (.inr ⟨_,vs.toArray,_,hk,rfl,rfl,rfl,by rw [List.size_toArray,lenV];exact hl,by simpa using rv⟩) (fun b u z=>?_) fun b z=>?_
  ·by_cases hb:b∈Ts
   ·have z':=(if_pos hb).symm.trans z
    cases z'
    exact tabOk _ b hb
   ·have z':=(if_neg hb).symm.trans z
    cases z'
  ·by_cases hb:b∈Ts
   ·exact .inl hb
   ·exact absurd (if_neg hb) z
 | none=>
  have hAt:∀ T∈Ts,(if T=a then some (HO.frz { cls:=.type "list",data:=.seq vs.toArray } (.lst (ns.map V.int))) else if T∈Ts then some (.tbl #[]) else none)=some (.tbl #[]):=fun T h=>by
   rw [if_neg (aT T h),if_pos h]
  refine core (fun b=>if b=a then some (.frz { cls:=.type "list",data:=.seq vs.toArray } (.lst (ns.map V.int))) else if b∈Ts then some (.tbl #[]) else none) hAt (.inl (.inr ⟨{ cls:=.type "list",data:=.seq vs.toArray },if_pos rfl⟩)) (fun b u z=>?_) fun b z=>?_
  ·by_cases hb:b=a
   ·have z':=(if_pos hb).symm.trans z
    cases z'
    subst hb
    exact ⟨ha,by rw [List.length_map];exact hl,vs,_,rv,ha⟩
   ·have z1:=(if_neg hb).symm.trans z
    by_cases hb2:b∈Ts
    ·have z':=(if_pos hb2).symm.trans z1
     cases z'
     exact tabOk _ b hb2
    ·have z':=(if_neg hb2).symm.trans z1
     cases z'
  ·by_cases hb:b=a
   ·exact .inr ⟨hb,hk,if_pos rfl⟩
   ·by_cases hb2:b∈Ts
    ·exact .inl hb2
    ·exact absurd ((if_neg hb).trans (if_neg hb2)) z
theorem walk_ofT {l:PySem.W.OpenLaw}{n k:Nat}{q:Program}{loose:List Str}{XP:(Str→Option Value)→Heap→Prop}{YP:World→Heap→Prop}{d:DefRec}{K:Params→PySem.W.Frag}{sp:World→Sp}{x:Str}{cts:List (Addr×Addr)}
  (hn:l.most=some n) (hn2:n≤sizeLine) (hdf:d.params.defaults=[]) (hr:Room k callerA)
  (hY:∀ (w:World) (h:Heap),YP w h→(K w.params).In h∧∀ T∈cts.map (·.2),h.get? T=some (tabObj #[]))
  (hC:∀ (w:World),∀ p∈cts,codeHdIn (K w.params) p.1 p.2=true∧(K w.params).lookup p.2=none)
  (F:∀ (w:World) (mg:Str→Option Value) (fa:Addr) (h:Heap),(K w.params).In h→h.Ns mainGlobals mg→mg d.name=some (.ref fa)→
   ∃ fd:FuncData,(∀ (s:Shared) (u:Value),BindsTo s fd ⟨[u],[]⟩ [(x,u)])∧
    ∀ base:Heap,(K w.params).In base→base.Ns mainGlobals mg→BltM mg base→FnOk l.prog w (K w.params) mg base CX0 k fa fd [x] (sp w))
  (hsp:∀ (w:World) (H:Hp) (a:Addr) (ns:List Int),ns.length≤n→(∀ T∈cts.map (·.2),H T=some (.tbl #[]))→SqL (K w.params) H a (ns.map V.int)→sp w [.ref a] H (fun v _=>v=.bl true) fun _ _ _=>False):
  PySem.W.WalkO q loose XP YP l.row.toRowW d [] (fun f vs=>PySem.call f vs):=by
 refine Att.attach_call hn hdf fun w s₀ s₁ mg mb fa o pm cd doc a vs ns G Y ho hd hcd hmg hobj hints hlen hg=>?_
 obtain ⟨KX,TX⟩:=hY w _ Y
 obtain ⟨fd,hb,hF⟩:=F w mg fa _ KX G.T.g hmg
 have hB:BltM mg s₁.heap:=by
  obtain ⟨bm,ob,b1,b2,b3,b4,b5,b6⟩:=G.T.bmain
  refine ⟨bm,ob,b1,b2,fun z=>?_,b3,b4,b5,b6⟩
  obtain ⟨o',es,ep,e,r⟩:=G.T.g
  rw [z,e] at b3
  cases b3
  rw [r.1] at b6
  cases b6
 refine law_callT KX G.T.g G.T.b G.T.builtins G.T.nolimit hg hB (Ts:=cts.map (·.2)) (fun T h=>?_) hobj hints (Nat.le_trans hlen hn2) hr hF hb fun H hO hS=>hsp w H a ns hlen hO hS
 obtain ⟨p,hp,rfl⟩:=List.mem_map.mp h
 obtain ⟨h1,h2⟩:=hC w p hp
 exact ⟨TX _ h,h2,((codeHd_of_K KX h1).tab (TX _ h)).isCodeTable⟩
end L2
namespace L2
open PySem PySem.Spec PyProof.Rows
section
variable {X:Cx}
def rExtendT:V→List V→Hp→VK→Prop:=fun x vs H Q=>∃ l b xs zs,x=.ref l∧vs=[.ref b]∧H l=some (.lst xs)∧H b=some (.tup zs)∧xs.length + zs.length≤sizeLine∧Q .non (upd H l (.lst (xs ++ zs)))
theorem mt_extendT:MtM X "list.extend" rExtendT:=by
 intro pins s σ H x vs v us Q I rx rv h
 obtain ⟨l,b,xs,zs,rfl,rfl,hH,hB,hz,q⟩:=h
 cases rx
 obtain ⟨u,rfl,ru⟩:=rv.one
 cases ru
 obtain ⟨z,its,n,r,hl,e⟩:=I.lstM hH
 obtain ⟨its2,r2,p,_⟩:=I.tuple (SqT.of (K:=X.K) hB)
 have hl2:=r2.length
 have hsz:its.toArray.size + its2.toArray.size≤sizeLine:=by rw [List.size_toArray,List.size_toArray];omega
 have hlong:¬ (!its.toArray.isEmpty && Builtin.List.listTooLong (its.toArray.size + its2.toArray.size))=true:=by
  rw [notLongL hsz,Bool.and_false]
  exact Bool.false_ne_true
 refine wpAny_call_entry F.slot_list_extend ⟨_,e,rfl⟩ F.entry_list_extend ?_ (F.args_list_extend_2 _ _)
 show wpAny _ _ (Builtin.List.listExtendWith (.ref l) (.ref b) .none) _ _ _
 unfold Builtin.List.listExtendWith
 refine wpAny_bind (wpAny_typeOf p.typeIs ?_)
 rw [if_pos (by
  have ht:(Value.type "tuple" == Value.type "tuple")=true:=by rfl
  rw [ht]
  simp)]
 refine wpAny_bind (items_tup p ?_)
 refine wpAny_bind (listItems_at e rfl ?_)
 rw [if_neg hlong]
 refine wpAny_bind (listUpdate_at e rfl ?_ (by rw [List.size_toArray];omega) (by rw [Array.size_append];omega))
 refine wpAny_pure ⟨_,rfl,?_⟩
 refine ⟨.non,_,I.lset (its':=its ++ its2) (t':=s.toks) hH e (by simp) (r.append r2) ?_,rfl,q⟩
 rw [List.length_append]
 omega
end
end L2
namespace L2
open PySem PySem.Spec PyProof.Rows
section
variable {X:Cx}{tg:Expr}
end
end L2
namespace L2
open PySem PySem.Spec PyProof.Rows
section
variable {X:Cx}
inductive BntE (H:Hp):V→Prop
 | str (z:Str):BntE H (.str z)
 | non:BntE H .non
 | int (i:Int):BntE H (.int i)
 | bl (b:Bool):BntE H (.bl b)
 | lst {a:Addr} {xs:List V} (e:H a=some (.lst xs)):BntE H (.ref a)
 | tup {a:Addr} {xs:List V} (e:H a=some (.tup xs)):BntE H (.ref a)
inductive Thg (H:Hp):V→Option (List V)→Prop
 | lst {a:Addr} {xs:List V} (e:H a=some (.lst xs)) (h:∀ v∈xs,BntE H v):Thg H (.ref a) (some xs)
 | tup {a:Addr} {xs:List V} (e:H a=some (.tup xs)):Thg H (.ref a) none
 | dct {a:Addr} {kvs:List (Key×V)} (e:H a=some (.dK kvs)):Thg H (.ref a) none
 | non:Thg H .non none
 | str (z:Str):Thg H (.str z) none
 | bl (b:Bool):Thg H (.bl b) none
end
end L2
namespace L2
open PySem PySem.Spec PyProof.Rows
section
variable {X:Cx}
inductive RpV (H:Hp):V→Str→Prop
 | non:RpV H .non "None"
 | bl (b:Bool):RpV H (.bl b) (if b then "True" else "False")
 | str (z:Str) (h:(reprText z).length≤sizeLine):RpV H (.str z) (reprText z)
 | ref {a:Addr} {m:Bool} {d:PyData} (r:RdV m H (.ref a) d) (h1:d.showable=true) (h2:d.depth≤20) (h3:d.shown.length≤sizeLine):RpV H (.ref a) d.shown
end
end L2
namespace L2
open PySem PySem.Spec PyProof.Rows
mutual
theorem RdV.uniq {H:Hp}:∀ {x:V}{d d':PyData},RdV false H x d→RdV false H x d'→d=d'
 | _,_,_,.non,h=>by cases h;rfl
 | _,_,_,.bl b,h=>by cases h;rfl
 | _,_,_,.int i,h=>by cases h;rfl
 | _,_,_,.str z _,h=>by cases h;rfl
 | _,_,_,.lst hm _ _ _,_=>nomatch hm
 | _,_,_,.tup e hl r,h=>by
  cases h with
  | lst hm=>cases hm
  | tup e' hl' r'=>
   rw [e] at e'
   cases e'
   rw [RdVs.uniq r r']
  | dct _ e'=>rw [e] at e';cases e'
 | _,_,_,.dct _ e,h=>by
  cases h with
  | lst hm=>cases hm
  | tup e' _ _=>rw [e] at e';cases e'
  | dct _ e'=>rfl
theorem RdVs.uniq {H:Hp}:∀ {xs:List V}{ds ds':List PyData},RdVs false H xs ds→RdVs false H xs ds'→ds=ds'
 | _,_,_,.nil,h=>by cases h;rfl
 | _,_,_,.cons a r,h=>by
  cases h with
  | cons a' r'=>rw [RdV.uniq a a',RdVs.uniq r r']
end
def OkS:Nat→PyData→Prop
 | 0,d=>(∃ z,d=.str z)∨∃ i,d=.int i
 | n + 1,d=>(∃ z,d=.str z)∨(∃ i,d=.int i)∨∃ ds,d=.tuple ds∧∀ e∈ds,OkS n e
theorem OkS.str (z:Str):∀ n,OkS n (.str z)
 | 0=>.inl ⟨z,rfl⟩
 | n + 1=>.inl ⟨z,rfl⟩
theorem OkS.int (i:Int):∀ n,OkS n (.int i)
 | 0=>.inr ⟨i,rfl⟩
 | n + 1=>.inr (.inl ⟨i,rfl⟩)
open Classical in
theorem all_decD:∀ {xs zs:List PyData},(((List.range (min xs.length zs.length)).all fun i=>decide (xs[i]?=zs[i]?)) && xs.length == zs.length)=decide (xs=zs)
 | [],[]=>by simp
 | [],z :: zs=>by simp
 | x :: xs,[]=>by simp
 | x :: xs,z :: zs=>by
  have ih:=all_decD (xs:=xs) (zs:=zs)
  have e:min (x :: xs).length (z :: zs).length=min xs.length zs.length + 1:=by simp only [List.length_cons];omega
  rw [e,List.range_succ_eq_map,List.all_cons,List.all_map]
  have e2:((x :: xs).length == (z :: zs).length)=(xs.length == zs.length):=by simp
  rw [e2]
  show ((decide (some x=some z) && ((List.range (min xs.length zs.length)).all fun i=>decide (xs[i]?=zs[i]?))) && (xs.length == zs.length))=_
  rw [Bool.and_assoc,ih]
  by_cases h1:x=z
  ·by_cases h2:xs=zs <;> simp [h1,h2]
  ·simp [h1]
section
variable {X:Cx}{pins:List (Addr×Obj)}{σ:St}{H:Hp}{s:Shared}
open Classical in
theorem eq_readG (I:Inv X pins σ H s):∀ (n:Nat) {A:Around}{x y:V}{d d':PyData}{u v:Value},OkS n d→OkS n d'→A.units + 4 * n + 4 < cLine→RdV false H x d→RdV false H y d'→RelV x u→RelV y v→SeqAt.EqAt A s u v (decide (d=d')):=by
 intro n
 induction n with
 | zero=>
  intro A x y d d' u v h1 h2 hu r1 r2 ru rv
  rcases h1 with ⟨z,rfl⟩ | ⟨i,rfl⟩ <;> rcases h2 with ⟨z',rfl⟩ | ⟨i',rfl⟩ <;> cases r1 <;> cases r2 <;> obtain ⟨t,rfl⟩:=ru <;> obtain ⟨t',rfl⟩:=rv
  ·have:=SeqAt.EqAt.str_str (A:=A) (s:=s) z t z' t'
   have e:decide (PyData.str z=PyData.str z')=(z == z'):=by rw [Bool.eq_iff_iff];simp
   rw [e]
   exact this
  ·have e:decide (PyData.str z=PyData.int i')=false:=by simp
   rw [e]
   exact SeqAt.EqAt.str_int _ _ _ _
  ·have e:decide (PyData.int i=PyData.str z')=false:=by simp
   rw [e]
   exact SeqAt.EqAt.int_str _ _ _ _
  ·have e:decide (PyData.int i=PyData.int i')=(i == i'):=by rw [Bool.eq_iff_iff];simp
   rw [e]
   exact SeqAt.EqAt.int_int _ _ _ _
 | succ n ih=>
  intro A x y d d' u v h1 h2 hu r1 r2 ru rv
  have hu0:A.units < cLine:=by omega
  rcases h1 with ⟨z,rfl⟩ | ⟨z,rfl⟩ | ⟨ds,rfl,h1⟩
  ·rcases h2 with ⟨z',rfl⟩ | ⟨i',rfl⟩ | ⟨ds',rfl,h2⟩
   ·exact ih (.str _ _) (.str _ _) (by omega) r1 r2 ru rv
   ·exact ih (.str _ _) (.int _ _) (by omega) r1 r2 ru rv
   ·cases r1
    cases r2 with
    | tup e hl r=>
     obtain ⟨t,rfl⟩:=ru
     cases rv
     obtain ⟨its,q1,t1,_⟩:=I.tuple (SqT.of e)
     have e:decide (PyData.str z=PyData.tuple ds')=false:=by simp
     rw [e]
     exact SeqAt.EqAt.str_tuple _ _ t1 hu0
  ·rcases h2 with ⟨z',rfl⟩ | ⟨i',rfl⟩ | ⟨ds',rfl,h2⟩
   ·exact ih (.int _ _) (.str _ _) (by omega) r1 r2 ru rv
   ·exact ih (.int _ _) (.int _ _) (by omega) r1 r2 ru rv
   ·cases r1
    cases r2 with
    | tup e hl r=>
     obtain ⟨t,rfl⟩:=ru
     cases rv
     obtain ⟨its,q1,t1,_⟩:=I.tuple (SqT.of e)
     have e:decide (PyData.int z=PyData.tuple ds')=false:=by simp
     rw [e]
     exact SeqAt.EqAt.int_tuple _ _ t1 hu0
  ·cases r1 with
   | @tup a xs _ ea hxl r1=>
   cases ru
   obtain ⟨its,q1,t1,_⟩:=I.tuple (SqT.of ea)
   rcases h2 with ⟨z',rfl⟩ | ⟨i',rfl⟩ | ⟨ds',rfl,h2⟩
   ·cases r2
    obtain ⟨t,rfl⟩:=rv
    have e:decide (PyData.tuple ds=PyData.str z')=false:=by simp
    rw [e]
    exact SeqAt.EqAt.tuple_str _ _ t1 hu0
   ·cases r2
    obtain ⟨t,rfl⟩:=rv
    have e:decide (PyData.tuple ds=PyData.int i')=false:=by simp
    rw [e]
    exact SeqAt.EqAt.tuple_int _ _ t1 hu0
   ·cases r2 with
    | @tup b ys _ eb hyl r2=>
    cases rv
    by_cases hab:a=b
    ·subst hab
     rw [ea] at eb
     cases eb
     rw [RdVs.uniq r1 r2,decide_eq_true rfl]
     exact SeqAt.EqAt.same _
    ·obtain ⟨its2,q2,t2,_⟩:=I.tuple (SqT.of eb)
     have l1:=q1.length
     have l2:=q2.length
     have m1:=r1.len
     have m2:=r2.len
     have key:=SeqAt.RcAt.tuples (A:=A) (e:=fun j=>decide (ds[j]?=ds'[j]?)) t1 t2 hu0 (fun j h1' h2'=>?_)
     ·have e1:((List.range (min its.toArray.size its2.toArray.size)).all (fun j=>decide (ds[j]?=ds'[j]?)) && its.toArray.size == its2.toArray.size)=decide (PyData.tuple ds=PyData.tuple ds'):=by
       have e2:its.toArray.size=ds.length:=by rw [List.size_toArray];omega
       have e3:its2.toArray.size=ds'.length:=by rw [List.size_toArray];omega
       rw [e2,e3,all_decD]
       simp
      rw [e1] at key
      exact SeqAt.EqAt.of_refs hab key
     ·have j1:j < xs.length:=by simpa [l1] using h1'
      have j2:j < ys.length:=by simpa [l2] using h2'
      obtain ⟨d1,hd1,rd1⟩:=r1.at (List.getElem?_eq_getElem j1)
      obtain ⟨d2,hd2,rd2⟩:=r2.at (List.getElem?_eq_getElem j2)
      obtain ⟨u1,eu1,ru1⟩:=q1.get (List.getElem?_eq_getElem j1)
      obtain ⟨u2,eu2,ru2⟩:=q2.get (List.getElem?_eq_getElem j2)
      have g1:its.toArray[j]=u1:=by
       rw [List.getElem?_eq_getElem (by simpa using h1')] at eu1
       simpa using eu1
      have g2:its2.toArray[j]=u2:=by
       rw [List.getElem?_eq_getElem (by simpa using h2')] at eu2
       simpa using eu2
      rw [g1,g2,hd1,hd2]
      have e5:decide (some d1=some d2)=decide (d1=d2):=by simp
      rw [e5]
      exact ih (h1 d1 (List.mem_of_getElem? hd1)) (h2 d2 (List.mem_of_getElem? hd2)) (by show A.units + 1 + 4 * n + 4 < _;omega) rd1 rd2 ru1 ru2
end
end L2
namespace L2
open PySem PySem.Spec PyProof.Rows
theorem wpAny_forIn_rng {M:Model}{A:Around}{E:Value→Shared→Prop}{s:Shared}{β:Type} (f:Nat→β→Sem (ForInStep β)) (I:List Nat→β→Shared→Prop) (Q:β→Shared→Prop)
  (turn:∀ x rest b s,I (x :: rest) b s→wpAny M A (f x b) (fun r s'=>match r with | .yield b'=>I rest b' s' | .done b'=>Q b' s') E s)
  (fin:∀ b s,I [] b s→Q b s) (r:Std.Legacy.Range) (b:β) (h:I (List.range' r.start r.size r.step) b s):wpAny M A (forIn r b f) Q E s:=by
 rw [Std.Legacy.Range.forIn_eq_forIn_range']
 exact wpAny_forIn_list f I Q turn fin _ b h
theorem tuple_indexAt (l:Addr) (items:Array Value) (n:Nat) (dd:Option Addr) (sl:Array (Option Value)) (x:Value) (e:Nat→Bool) (j:Nat) (hj:j < items.size) (hit:e j=true) (hno:∀ m,m < j→e m=false):
  Meets (Builtin.«tuple.index» ⟨[.ref l,x],[]⟩)
   (fun A R s=>s.heap.get? l=some { cls:=.type "tuple",dict:=dd,data:=.seq items n,slots:=sl }∧(∀ i (hi:i < items.size),SeqAt.EqAt A.in1 s items[i] x (e i))∧R (.ok (.ret (.int j s.toks))) { s with toks:=s.toks + 1 }):=
 .of_wp fun prog w A R s h=>by
  obtain ⟨hp,g,d,tk,os⟩:=s
  obtain ⟨hl,he,h⟩:=h
  wp_walk using wpAny_loadPart' hl,wpAny_forIn_rng _ (fun rest b s'=>b.1=none∧s'=⟨hp,g,d,tk,os⟩∧∃ i,i≤j∧rest=List.range' i (items.size - i)) _
  case turn=>
   rintro y rest b s' ⟨hb,rfl,i,hi,hr⟩
   have hlt:i < items.size:=by omega
   have e1:items.size - i=(items.size - (i + 1)) + 1:=by omega
   rw [e1,List.range'_succ] at hr
   injection hr with hy hr
   subst hy
   have hi1:items[y]?=some items[y]:=by simp [hlt]
   rw [hi1]
   refine wpAny_bind (he y hlt prog w _ _ ?_)
   by_cases hyj:y=j
   ·subst hyj
    rw [hit]
    wp_walk
    exact ⟨_,rfl,h⟩
   ·rw [hno y (by omega)]
    wp_walk
    exact ⟨rfl,rfl,y + 1,by omega,hr⟩
  case fin=>
   rintro b s' ⟨hb,rfl,i,hi,hr⟩
   have e1:items.size - i=(items.size - (i + 1)) + 1:=by omega
   rw [e1,List.range'_succ] at hr
   cases hr
  case h=>
   refine ⟨rfl,rfl,0,Nat.zero_le _,?_⟩
   simp [Std.Legacy.Range.size]
section
variable {X:Cx}
open Classical in
theorem mt_tupIndex {n:Nat} (hu:X.A.units + 4 * n + 8 < cLine):MtR X "tuple.index" (fun x xs H Q=>∃ (a:Addr) (ys:List V) (ds:List PyData) (y:V) (d:PyData) (j:Nat),x=.ref a∧xs=[y]∧H a=some (.tup ys)∧RdVs false H ys ds∧RdV false H y d∧(∀ e∈ds,OkS n e)∧OkS n d∧ds[j]?=some d∧(∀ i,i < j→ds[i]?≠some d)∧Q (.int j) H):=by
 intro pins s σ H x xs v us Q I rx r h
 obtain ⟨a,ys,ds,y,d,j,rfl,rfl,ha,rds,rd,ok1,ok2,hj,hno,q⟩:=h
 cases rx
 obtain ⟨u,rfl,ru⟩:=vals1 r
 obtain ⟨its,rv,p,_⟩:=I.tuple (SqT.of ha)
 have l1:=rv.length
 have l2:=rds.len
 have hjl:=(List.getElem?_eq_some_iff.mp hj).1
 obtain ⟨⟨cls,dd,data,sl⟩,ho,hc,n',hd⟩:=id p
 simp only at hc hd
 subst hc hd
 refine call_meets F.slot_tuple_index ⟨_,ho,rfl⟩ F.entry_tuple_index (F.args_tuple_index_2 _ _) (tuple_indexAt a its.toArray n' dd sl u (fun i=>decide (ds[i]?=some d)) j (by rw [List.size_toArray];omega) (decide_eq_true hj) (fun m hm=>decide_eq_false (hno m hm))) ⟨ho,fun i hi=>?_,⟨.int j,H,I.tok _,⟨_,rfl⟩,q⟩⟩
 have i1:i < ys.length:=by simpa [l1] using hi
 obtain ⟨di,hdi,rdi⟩:=rds.at (List.getElem?_eq_getElem i1)
 obtain ⟨ui,eui,rui⟩:=rv.get (List.getElem?_eq_getElem i1)
 have g1:its.toArray[i]=ui:=by
  rw [List.getElem?_eq_getElem (by simpa using hi)] at eui
  simpa using eui
 rw [g1,hdi]
 have e5:decide (some di=some d)=decide (di=d):=by simp
 rw [e5]
 exact eq_readG I n (ok1 di (List.mem_of_getElem? hdi)) ok2 (by show X.A.units + 1 + 4 * n + 4 < _;omega) rdi rd rui ru
def isStrV (z:Str):Value→Bool
 | .str z' _=>z' == z
 | _=>false
theorem mt_lstIndexS:MtR X "list.index" (fun x xs H Q=>∃ (a:Addr) (zs:List Str) (z:Str) (j:Nat),x=.ref a∧xs=[.str z]∧H a=some (.lst (zs.map V.str))∧zs.length≤1000∧zs[j]?=some z∧(∀ i,i < j→zs[i]?≠some z)∧Q (.int j) H):=by
 intro pins s σ H x xs v us Q I rx r h
 obtain ⟨a,zs,z,j,rfl,rfl,ha,hz,hj,hno,q⟩:=h
 cases rx
 obtain ⟨u,rfl,ru⟩:=vals1 r
 obtain ⟨t,rfl⟩:=ru
 obtain ⟨its,rv,p,_⟩:=I.list (SqL.of ha)
 have l1:=rv.length
 rw [List.length_map] at l1
 have hjl:=(List.getElem?_eq_some_iff.mp hj).1
 obtain ⟨⟨cls,dd,data,sl⟩,ho,hc,n',hd⟩:=id p.isList
 simp only at hc hd
 subst hc hd
 have at':∀ (i:Nat) (hi:i < its.toArray.size),∃ (y:Str) (t':Tok),zs[i]?=some y∧its.toArray[i]=.str y t':=fun i hi=>by
  have hi':i < zs.length:=by rw [List.size_toArray] at hi;omega
  obtain ⟨ui,eui,rui⟩:=rv.get (i:=i) (x:=V.str zs[i]) (by rw [List.getElem?_map,List.getElem?_eq_getElem hi'];rfl)
  obtain ⟨t',rfl⟩:=rui
  rw [List.getElem?_eq_getElem (by simpa using hi)] at eui
  exact ⟨zs[i],t',List.getElem?_eq_getElem hi',by simpa using eui⟩
 refine call_meets F.slot_list_index ⟨_,ho,rfl⟩ F.entry_list_index (F.args_list_index_2 _ _) (SeqAt.list_indexAt a its.toArray n' dd sl (.str z t) (isStrV z) j (by rw [List.size_toArray];omega) (by omega) ?_ (fun m hm hmj=>?_)) ⟨ho,fun y hy=>?_,⟨.int j,H,I.tok _,⟨_,rfl⟩,q⟩⟩
 ·obtain ⟨y,t',h1,h2⟩:=at' j (by rw [List.size_toArray];omega)
  rw [h2]
  rw [hj] at h1
  cases h1
  exact beq_self_eq_true z
 ·obtain ⟨y,t',h1,h2⟩:=at' m hm
  rw [h2]
  have hne:y≠z:=fun q=>hno m hmj (by rw [h1,q])
  show (y == z)=false
  simpa using hne
 ·obtain ⟨i,hi,rfl⟩:=Array.getElem_of_mem hy
  obtain ⟨y,t',h1,h2⟩:=at' i hi
  rw [h2]
  exact SeqAt.EqAt.str_str _ _ _ _
end
end L2
namespace L2
open PySem PySem.Spec PyProof.Rows
section
variable {X:Cx}
theorem op_eqLL (hu:X.A.units + 8 < cLine):OpR X (compareOp .Eq) (fun x y H Q=>∃ (p q:Addr) (as bs:List Addr),x=.ref p∧y=.ref q∧H p=some (.lst (as.map V.ref))∧H q=some (.lst (bs.map V.ref))∧as.length=bs.length∧(∀ (j:Nat) (a b:Addr),as[j]?=some a→bs[j]?=some b→∃ ls:List Str,H a=some (.lst (ls.map V.str))∧H b=some (.lst (ls.map V.str)))∧Q (.bl true) H):=by
 intro pins s σ H x y v u Q I rx ry h
 obtain ⟨p,q,as,bs,rfl,rfl,h1,h2,hl,hj,hq⟩:=h
 cases rx
 cases ry
 obtain ⟨us,r1,p1,_⟩:=I.list (SqL.of h1)
 obtain ⟨ws,r2,p2,_⟩:=I.list (SqL.of h2)
 obtain rfl:=refs_of r1
 obtain rfl:=refs_of r2
 refine SeqAt.eq_listAt (e:=fun _=>true) p1.isList p2.isList (by simp;omega) (by omega) (fun j j1 j2=>?_) ?_
 ·have k1:j < as.length:=by simpa using j1
  have k2:j < bs.length:=by simpa using j2
  obtain ⟨ls,e1,e2⟩:=hj j _ _ (List.getElem?_eq_getElem k1) (List.getElem?_eq_getElem k2)
  have g1:(as.map Value.ref).toArray[j]=.ref as[j]:=by simp
  have g2:(bs.map Value.ref).toArray[j]=.ref bs[j]:=by simp
  rw [g1,g2]
  by_cases hab:as[j]=bs[j]
  ·rw [hab]
   exact SeqAt.EqAt.same _
  ·obtain ⟨us,q1,t1,_⟩:=I.list (SqL.of e1)
   obtain ⟨ws,q2,t2,_⟩:=I.list (SqL.of e2)
   have l1:=q1.length
   have l2:=q2.length
   have key:=SeqAt.RcAt.lists (A:=X.A.in1) t1.isList t2.isList (by simp;omega) (by show X.A.units + 1 < _;omega) (eq_items q1 q2 (by simp [flatV]) (by simp [flatV]))
   have e:((List.range us.toArray.size).all fun i=>eqV ((ls.map V.str)[i]?.getD .non) ((ls.map V.str)[i]?.getD .non))=true:=by
    rw [List.all_eq_true]
    intro i hi
    rw [List.mem_range,List.size_toArray,← l1,List.length_map] at hi
    rw [List.getElem?_map,List.getElem?_eq_getElem hi]
    simp [eqV]
   rw [e] at key
   exact SeqAt.EqAt.of_refs hab key
 ·rw [show ((List.range (as.map Value.ref).toArray.size).all fun _=>true)=true by simp]
  exact ⟨.bl _,H,I,rfl,hq⟩
end
end L2
namespace K37
open PySem L2
abbrev Mnd:=List (Key×V)
def nxt (m:Mnd) (h:Str):Option Str:=match valV m (Sum.inr h) with
 | some (.str o)=>some o
 | _=>none
inductive Ends (m:Mnd):Str→List Str→Prop
 | stop {h:Str} (e:nxt m h=none):Ends m h [h]
 | on {h o:Str} {l:List Str} (e:nxt m h=some o) (r:Ends m o l):Ends m h (h :: l)
theorem Ends.uniq {m:Mnd}{h:Str}{l l':List Str} (a:Ends m h l) (b:Ends m h l'):l=l':=by
 induction a generalizing l' with
 | stop e=>
  cases b with
  | stop _=>rfl
  | on e' _=>rw [e] at e';cases e'
 | on e _ ih=>
  cases b with
  | stop e'=>rw [e] at e';cases e'
  | on e' r'=>
   rw [e] at e'
   cases e'
   rw [ih r']
theorem Ends.from {m:Mnd}{h x:Str}{l:List Str} (a:Ends m h l) (hx:x∈l):∃ p r,l=p ++ r∧Ends m x r:=by
 induction a with
 | @stop h e=>
  rw [List.mem_singleton.mp hx]
  exact ⟨[],[h],rfl,.stop e⟩
 | @on h o l e r ih=>
  rcases List.mem_cons.mp hx with rfl | hx
  ·exact ⟨[],x :: l,rfl,.on e r⟩
  ·obtain ⟨p,q,rfl,z⟩:=ih hx
   exact ⟨h :: p,q,rfl,z⟩
theorem Ends.nodup {m:Mnd}{h:Str}{l:List Str} (a:Ends m h l):l.Nodup:=by
 induction a with
 | stop _=>exact List.nodup_cons.mpr ⟨by simp,List.nodup_nil⟩
 | @on h o l e r ih=>
  refine List.nodup_cons.mpr ⟨fun hx=>?_,ih⟩
  obtain ⟨p,q,rfl,z⟩:=r.from hx
  have:=congrArg List.length (z.uniq (.on e r))
  simp at this
  omega
theorem len_le:∀ {l k:List Str},l.Nodup→(∀ x∈l,x∈k)→l.length≤k.length
 | [],k,_,_=>Nat.zero_le _
 | a :: l,k,hn,hs=>by
  obtain ⟨h1,h2⟩:=List.nodup_cons.mp hn
  have ha:=hs a List.mem_cons_self
  have:=len_le (k:=k.erase a) h2 fun x hx=>(List.mem_erase_of_ne (fun e=>h1 (by rw [← e];exact hx))).mpr (hs x (List.mem_cons_of_mem _ hx))
  rw [List.length_erase_of_mem ha] at this
  have:0 < k.length:=List.length_pos_of_mem ha
  rw [List.length_cons]
  omega
theorem Ends.keys {m:Mnd}{h:Str}{l:List Str} (a:Ends m h l):∃ r x,l=r ++ [x]∧∀ y∈r,y∈m.filterMap fun p=>match p.1 with | .inr z=>some z | _=>none:=by
 induction a with
 | @stop h e=>exact ⟨[],h,rfl,fun y hy=>by simp at hy⟩
 | @on h o l e r ih=>
  obtain ⟨q,x,rfl,hq⟩:=ih
  refine ⟨h :: q,x,rfl,fun y hy=>?_⟩
  rcases List.mem_cons.mp hy with rfl | hy
  ·unfold nxt at e
   cases hv:valV m (Sum.inr y) with
   | none=>rw [hv] at e;cases e
   | some v=>
    obtain ⟨p,hp,e2⟩:=List.mem_map.mp (valV_in hv)
    exact List.mem_filterMap.mpr ⟨p,hp,by rw [e2]⟩
  ·exact hq y hy
theorem Ends.len {m:Mnd}{h:Str}{l:List Str} (a:Ends m h l):l.length≤m.length + 1:=by
 obtain ⟨r,x,rfl,hr⟩:=a.keys
 have h1:=len_le (List.nodup_append.mp a.nodup).1 hr
 have h2:=List.length_filterMap_le (fun p:Key×V=>match p.1 with | .inr z=>some z | _=>none) m
 simp
 omega
theorem nxt_put (m:Mnd) (h o x:Str):nxt (putK m (Sum.inr h) (.str o)) x=if x=h then some o else nxt m x:=by
 unfold nxt
 rw [valV_put]
 by_cases e:x=h
 ·subst e
  rw [if_pos rfl,if_pos rfl]
 ·rw [if_neg e,if_neg fun z=>e (Sum.inr.inj z)]
theorem valV_drop (m:Mnd) (k j:Key):valV (dropK m k) j=if j=k then none else valV m j:=by
 induction m with
 | nil=>split <;> rfl
 | cons p m ih=>
  by_cases e:p.1=k
  ·rw [dropK_pos e,ih]
   by_cases e2:j=k
   ·rw [if_pos e2,if_pos e2]
   ·rw [if_neg e2,if_neg e2,valV_neg fun z=>e2 (z.symm.trans e)]
  ·rw [dropK_neg e]
   by_cases e2:p.1=j
   ·rw [valV_pos e2,valV_pos e2,if_neg fun z=>e (e2.trans z)]
   ·rw [valV_neg e2,valV_neg e2,ih]
theorem nxt_drop (m:Mnd) (h x:Str):nxt (dropK m (Sum.inr h)) x=if x=h then none else nxt m x:=by
 unfold nxt
 rw [valV_drop]
 by_cases e:x=h
 ·subst e
  rw [if_pos rfl,if_pos rfl]
 ·rw [if_neg e,if_neg fun z=>e (Sum.inr.inj z)]
theorem Ends.keep {m m':Mnd}{h x:Str}{l:List Str} (a:Ends m x l) (hn:h ∉ l) (e:∀ y,y≠h→nxt m' y=nxt m y):Ends m' x l:=by
 induction a with
 | @stop y e1=>exact .stop ((e y fun z=>hn (by rw [z];exact List.mem_cons_self)).trans e1)
 | @on y o l e1 r ih=>exact .on ((e y fun z=>hn (by rw [z];exact List.mem_cons_self)).trans e1) (ih fun z=>hn (List.mem_cons_of_mem _ z))
theorem Ends.bend {m m':Mnd}{h x:Str}{l lh:List Str} (a:Ends m x l) (hh:Ends m' h lh) (e:∀ y,y≠h→nxt m' y=nxt m y):∃ l',Ends m' x l':=by
 induction a with
 | @stop y e1=>
  by_cases z:y=h
  ·rw [z];exact ⟨lh,hh⟩
  ·exact ⟨_,.stop ((e y z).trans e1)⟩
 | @on y o l e1 r ih=>
  by_cases z:y=h
  ·rw [z];exact ⟨lh,hh⟩
  ·obtain ⟨l',ih⟩:=ih
   exact ⟨_,.on ((e y z).trans e1) ih⟩
structure Acyc (m:Mnd):Prop where
 tx:∀ p∈m,∃ o,p.2=.str o
 ends : ∀ h, ∃ l, Ends m h l
theorem Acyc.nil:Acyc []:=⟨fun p hp=>by simp at hp,fun h=>⟨[h],.stop rfl⟩⟩
theorem mem_putK {m:Mnd}{k:Key}{v:V}{p:Key×V} (hp:p∈putK m k v):p∈m∨p.2=v:=by
 unfold putK at hp
 split at hp
 ·obtain ⟨q,hq,e⟩:=List.mem_map.mp hp
  split at e
  ·exact .inr (by rw [← e])
  ·exact .inl (by rw [← e];exact hq)
 ·rcases List.mem_append.mp hp with hp | hp
  ·exact .inl hp
  ·exact .inr (by rw [List.mem_singleton.mp hp])
theorem Acyc.put {m:Mnd}{h o:Str}{l:List Str} (a:Acyc m) (e:Ends m o l) (hn:h ∉ l):Acyc (putK m (Sum.inr h) (.str o)):=by
 have e1:∀ y,y≠h→nxt (putK m (Sum.inr h) (.str o)) y=nxt m y:=fun y z=>by rw [nxt_put,if_neg z]
 have e2:Ends (putK m (Sum.inr h) (.str o)) h (h :: l):=.on (by rw [nxt_put,if_pos rfl]) (e.keep hn e1)
 refine ⟨fun p hp=>?_,fun x=>?_⟩
 ·rcases mem_putK hp with z | z
  ·exact a.tx p z
  ·exact ⟨o,z⟩
 ·obtain ⟨lx,hx⟩:=a.ends x
  exact hx.bend e2 e1
theorem Acyc.drop {m:Mnd}{h:Str} (a:Acyc m):Acyc (dropK m (Sum.inr h)):=by
 have e1:∀ y,y≠h→nxt (dropK m (Sum.inr h)) y=nxt m y:=fun y z=>by rw [nxt_drop,if_neg z]
 refine ⟨fun p hp=>a.tx p (dropK_mem hp),fun x=>?_⟩
 obtain ⟨lx,hx⟩:=a.ends x
 exact hx.bend (h:=h) (.stop (by rw [nxt_drop,if_pos rfl])) e1
open Classical in
noncomputable def rd (m:Mnd) (h:Str):List Str:=if e:∃ l,Ends m h l then e.choose else [h]
theorem Acyc.rd {m:Mnd} (a:Acyc m) (h:Str):Ends m h (rd m h):=by
 unfold K37.rd
 rw [dif_pos (a.ends h)]
 exact (a.ends h).choose_spec
theorem Ends.rd {m:Mnd}{h:Str}{l:List Str} (e:Ends m h l):rd m h=l:=by
 have:∃ l,Ends m h l:=⟨l,e⟩
 unfold K37.rd
 rw [dif_pos this]
 exact this.choose_spec.uniq e
theorem Acyc.val {m:Mnd} (a:Acyc m) (h:Str):valV m (Sum.inr h)=(nxt m h).map V.str:=by
 unfold nxt
 cases e:valV m (Sum.inr h) with
 | none=>rfl
 | some v=>
  have:∃ p∈m,p.2=v:=by
   unfold valV at e
   obtain ⟨p,hp,e2⟩:=Option.map_eq_some_iff.mp e
   exact ⟨p,List.mem_of_find?_eq_some hp,e2⟩
  obtain ⟨p,hp,e2⟩:=this
  obtain ⟨o,e3⟩:=a.tx p hp
  rw [e2] at e3
  subst e3
  rfl
noncomputable def mendM (m:Mnd) (h o:Str):Mnd:=if h∈rd m o then m else putK m (Sum.inr h) (.str o)
def aloneM (m:Mnd) (h:Str):Mnd:=if (valV m (Sum.inr h)).isSome=true then dropK m (Sum.inr h) else m
theorem Acyc.mend {m:Mnd} (a:Acyc m) (h o:Str):Acyc (mendM m h o):=by
 unfold mendM
 split
 ·exact a
 ·exact a.put (a.rd o) ‹_›
theorem mendM_len (m:Mnd) (h o:Str):(mendM m h o).length≤m.length + 1:=by
 unfold mendM
 split
 ·omega
 ·exact length_putK _ _ _
end K37
namespace K37
open PySem L2
def top (i:Nat):Stmt:=PySem.Challenge.pw_dykelengths_k37_whole_never_a_ring.main.body.getD i (.Pass ⟨0,0,0,0⟩)
abbrev sMoment:Stmt:=top 5
abbrev sAcres:Stmt:=top 6
abbrev sCut:Stmt:=top 7
abbrev sInOne:Stmt:=top 8
abbrev sRoadFrom:Stmt:=top 9
abbrev sDoPart:Stmt:=top 10
abbrev sDoJoin:Stmt:=top 11
abbrev sDoForfeit:Stmt:=top 12
abbrev sDoMeasure:Stmt:=top 13
abbrev sDoMend:Stmt:=top 14
abbrev sDoAlone:Stmt:=top 15
abbrev sDoLook:Stmt:=top 16
abbrev sCarry:Stmt:=top 18
abbrev sBehind:Stmt:=top 19
abbrev sRoad:Stmt:=top 23
abbrev sMends:Stmt:=top 24
abbrev sPen:Stmt:=top 29
abbrev sTake:Stmt:=top 30
abbrev sNames:Stmt:=top 31
abbrev sSorts:Stmt:=top 32
abbrev sDays:Stmt:=top 33
abbrev sNumber:Stmt:=top 34
abbrev sLayOf:Stmt:=top 35
abbrev sSome:Stmt:=top 36
abbrev sRowOf:Stmt:=top 37
abbrev sRow:Stmt:=top 38
abbrev sPlace:Stmt:=top 39
abbrev sMendRow:Stmt:=top 40
abbrev sSomeRows:Stmt:=top 41
abbrev sWorld:Stmt:=top 42
abbrev sRowCalled:Stmt:=top 21
abbrev sRing:Stmt:=top 25
abbrev sWords:Stmt:=top 27
abbrev sRoadsRight:Stmt:=top 43
abbrev sStepRight:Stmt:=top 44
abbrev sLaw:Stmt:=top 45
def nameB (z:Str):Bool:=decide (1≤z.length∧z.length≤8) && z.cps.toList.all fun c=>decide (97≤c∧c≤122)
def isL (c:Nat):Bool:=decide (97≤c∧c≤122)
def lt26 (i:Nat):Nat:=97 + i % 26
theorem isL_lt (i:Nat):isL (lt26 i)=true:=by
 unfold isL lt26
 exact decide_eq_true (by omega)
abbrev abc:Str:=Str.ofString "abcdefghijklmnopqrstuvwxyz"
theorem abc_list:abc.cps.toList=List.range' 97 26:=by decide
theorem abc_at {i:Int} (h0:0≤i) (h1:i < 26):atI abc.cps.toList i=some (lt26 i.toNat):=by
 obtain ⟨j,rfl⟩:∃ j:Nat,i=j:=⟨i.toNat,by omega⟩
 unfold atI ixN
 rw [abc_list,if_pos h0,if_pos (by simpa using h1)]
 simp only [Int.toNat_natCast,Option.bind_some]
 rw [List.getElem?_range' (by omega)]
 unfold lt26
 congr 1
 omega
theorem abc_len:abc.length=26:=by decide
def mk (l:List Nat):Str:=⟨l.toArray⟩
theorem mk_inj {a b:List Nat} (h:mk a=mk b):a=b:=by
 have:=congrArg (fun z:Str=>z.cps.toList) h
 simpa [mk] using this
theorem mk_len (l:List Nat):(mk l).length=l.length:=by
 show l.toArray.size=_
 simp
theorem mk_app (a b:List Nat):mk a ++ mk b=mk (a ++ b):=by
 show (⟨a.toArray ++ b.toArray⟩:Str)=_
 simp [mk]
def pair (t k:Nat):List Nat:=[lt26 (t + 7 * k),lt26 (t + k / 26)]
def bij:Nat→Nat→List Nat
 | 0,_=>[]
 | f + 1,n=>if n=0 then [] else bij f ((n - 1) / 2) ++ [n % 2]
def bin (t n:Nat):List Nat:=(bij 6 n).map fun d=>lt26 (t + 9 * d)
theorem pair_nd:∀ t < 26,((List.range 44).map (pair t)).Nodup:=by decide
theorem bin_nd:∀ t < 26,((List.range 44).map fun k=>bin t (k + 1)).Nodup:=by decide
theorem bin_len:∀ k < 44,1≤(bij 6 (k + 1)).length∧(bij 6 (k + 1)).length≤8:=by decide
def word (one:Bool) (b:List Nat) (sp t k:Nat):List Nat:=if one then bin t (k + 1) else b.take sp ++ pair t k ++ b.drop sp
theorem nd_sub {α:Type}{f:Nat→α}{n m:Nat} (h:((List.range n).map f).Nodup) (hm:m≤n):((List.range m).map f).Nodup:=by
 obtain ⟨d,rfl⟩:∃ d,n=m + d:=⟨n - m,by omega⟩
 rw [List.range_add,List.map_append] at h
 exact (List.nodup_append.mp h).1
theorem nd_inj {α β:Type}{f:α→β} (hf:∀ a b,f a=f b→a=b) {l:List α} (h:l.Nodup):(l.map f).Nodup:=by
 rw [List.nodup_iff_pairwise_ne] at h ⊢
 exact List.pairwise_map.mpr (h.imp fun hne e=>hne (hf _ _ e))
theorem word_nd {one:Bool}{b:List Nat}{sp t m:Nat} (ht:t < 26) (hm:m≤44):((List.range m).map fun k=>mk (word one b sp t k)).Nodup:=by
 refine nd_sub (n:=44) ?_ hm
 have e:((List.range 44).map fun k=>mk (word one b sp t k))=((List.range 44).map (word one b sp t)).map mk:=by rw [List.map_map];rfl
 rw [e]
 refine nd_inj (fun _ _ h=>mk_inj h) ?_
 cases one with
 | true=>exact bin_nd t ht
 | false=>
  have e2:(List.range 44).map (word false b sp t)=((List.range 44).map (pair t)).map fun q=>b.take sp ++ q ++ b.drop sp:=by rw [List.map_map];rfl
  rw [e2]
  refine nd_inj (fun x y h=>?_) (pair_nd t ht)
  exact List.append_cancel_left (List.append_cancel_right h)
theorem nameB_mk {l:List Nat} (h1:1≤l.length) (h8:l.length≤8) (ha:∀ c∈l,isL c=true):nameB (mk l)=true:=by
 unfold nameB
 rw [mk_len,decide_eq_true ⟨h1,h8⟩,Bool.true_and]
 have e:(mk l).cps.toList=l:=by simp [mk]
 rw [e,List.all_eq_true]
 exact ha
theorem nameB_len {z:Str} (h:nameB z=true):1≤z.length∧z.length≤8:=by
 unfold nameB at h
 rw [Bool.and_eq_true] at h
 exact of_decide_eq_true h.1
theorem word_name {one:Bool}{b:List Nat}{sp t k:Nat} (hk:k < 44) (hb:b.length≤6) (ha:∀ c∈b,isL c=true):nameB (mk (word one b sp t k))=true:=by
 cases one with
 | true=>
  have h:=bin_len k hk
  refine nameB_mk (by show 1≤(bin t (k + 1)).length;unfold bin;rw [List.length_map];omega) (by show (bin t (k + 1)).length≤8;unfold bin;rw [List.length_map];omega) (fun c hc=>?_)
  have hc':c∈bin t (k + 1):=hc
  unfold bin at hc'
  obtain ⟨d,_,rfl⟩:=List.mem_map.mp hc'
  exact isL_lt _
 | false=>
  have hl:(word false b sp t k).length=b.length + 2:=by
   show (b.take sp ++ pair t k ++ b.drop sp).length=_
   rw [List.length_append,List.length_append,List.length_take,List.length_drop]
   show min sp b.length + 2 + (b.length - sp)=_
   omega
  refine nameB_mk (by omega) (by omega) (fun c hc=>?_)
  have hc':c∈b.take sp ++ pair t k ++ b.drop sp:=hc
  rcases List.mem_append.mp hc' with h | h
  ·rcases List.mem_append.mp h with h | h
   ·exact ha c (List.mem_of_mem_take h)
   ·unfold pair at h
    simp only [List.mem_cons,List.not_mem_nil,or_false] at h
    rcases h with rfl | rfl
    ·exact isL_lt _
    ·exact isL_lt _
  ·exact ha c (List.mem_of_mem_drop h)
theorem nd_set {α:Type}{x:α}:∀ {l:List α}{j:Nat},l.Nodup→x ∉ l→(l.set j x).Nodup
 | [],_,_,_=>by simp
 | y :: r,0,h,hx=>by
  rw [List.set_cons_zero,List.nodup_cons] at *
  exact ⟨fun z=>hx (List.mem_cons_of_mem _ z),h.2⟩
 | y :: r,j + 1,h,hx=>by
  rw [List.set_cons_succ]
  rw [List.nodup_cons] at *
  refine ⟨fun z=>?_,nd_set h.2 fun z=>hx (List.mem_cons_of_mem _ z)⟩
  rcases List.mem_or_eq_of_mem_set z with z | z
  ·exact h.1 z
  ·exact hx (z ▸ List.mem_cons_self)
def terms:List Str:=["as","with","part","field","none","done","write","back","join"]
theorem terms_name:∀ z∈terms,nameB z=true:=by decide
theorem flat_strs:∀ ns:List Str,(ns.map V.str).all flatV=true
 | []=>rfl
 | _ :: r=>by simpa [flatV] using flat_strs r
theorem in_strs (z:Str):∀ ns:List Str,inV (.str z) (ns.map V.str)=decide (z∈ns):=by
 intro ns
 unfold inV
 rw [List.any_map]
 rw [Bool.eq_iff_iff,List.any_eq_true,decide_eq_true_iff]
 constructor
 ·rintro ⟨y,hy,e⟩
  have:y=z:=by simpa [eqV] using e
  exact this ▸ hy
 ·intro h
  exact ⟨z,h,by simp [eqV]⟩
end K37
namespace K37
open PySem L2
abbrev kCells:Key:=Sum.inr ("cells":Str)
abbrev kAt:Key:=Sum.inr ("at":Str)
abbrev kLeft:Key:=Sum.inr ("left":Str)
def penD (c:Addr) (a l:Int):List (Key×V):=[(kCells,.ref c),(kAt,.int a),(kLeft,.int l)]
theorem k_ca:¬ (kCells=kAt):=by decide
theorem k_cl:¬ (kCells=kLeft):=by decide
theorem k_al:¬ (kAt=kLeft):=by decide
theorem k_la:¬ (kLeft=kAt):=fun e=>k_al e.symm
theorem val_cells (c:Addr) (a l:Int):valV (penD c a l) kCells=some (.ref c):=by
 unfold penD
 rw [valV_pos rfl]
theorem val_at (c:Addr) (a l:Int):valV (penD c a l) kAt=some (.int a):=by
 unfold penD
 rw [valV_neg k_ca,valV_pos rfl]
theorem val_left (c:Addr) (a l:Int):valV (penD c a l) kLeft=some (.int l):=by
 unfold penD
 rw [valV_neg k_cl,valV_neg k_al,valV_pos rfl]
theorem put_at (c:Addr) (a l a':Int):putK (penD c a l) kAt (.int a')=penD c a' l:=by
 unfold putK penD
 rw [if_pos (by rw [List.any_eq_true];exact ⟨(kAt,.int a),by simp,decide_eq_true rfl⟩)]
 simp only [List.map_cons,List.map_nil,if_neg k_ca,if_neg k_la,if_pos]
theorem put_left (c:Addr) (a l l':Int):putK (penD c a l) kLeft (.int l')=penD c a l':=by
 unfold putK penD
 rw [if_pos (by rw [List.any_eq_true];exact ⟨(kLeft,.int l),by simp,decide_eq_true rfl⟩)]
 simp only [List.map_cons,List.map_nil,if_neg k_cl,if_neg k_al,if_pos]
theorem getL {H:Hp}{p c:Addr}{a l:Int} (h:H p=some (.dK (penD c a l))):DGet H p (.str "left") (some (.int l)):=by
 have:=DGet.k (k:=kLeft) h
 rw [val_left] at this
 exact this
theorem getA {H:Hp}{p c:Addr}{a l:Int} (h:H p=some (.dK (penD c a l))):DGet H p (.str "at") (some (.int a)):=by
 have:=DGet.k (k:=kAt) h
 rw [val_at] at this
 exact this
theorem getC {H:Hp}{p c:Addr}{a l:Int} (h:H p=some (.dK (penD c a l))):DGet H p (.str "cells") (some (.ref c)):=by
 have:=DGet.k (k:=kCells) h
 rw [val_cells] at this
 exact this
theorem putL {H:Hp}{p c:Addr}{a l:Int} (l':Int) (h:H p=some (.dK (penD c a l))):DPut H p (.str "left") (.int l') (upd H p (.dK (penD c a l'))):=by
 have:=DPut.k (k:=kLeft) (v:=.int l') h (small1000 (by show 3≤1000;decide))
 rw [put_left] at this
 exact this
theorem putA {H:Hp}{p c:Addr}{a l:Int} (a':Int) (h:H p=some (.dK (penD c a l))):DPut H p (.str "at") (.int a') (upd H p (.dK (penD c a' l))):=by
 have:=DPut.k (k:=kAt) (v:=.int a') h (small1000 (by show 3≤1000;decide))
 rw [put_at] at this
 exact this
structure PenAt (H:Hp) (p c:Addr) (ns:List Int) (a:Int):Prop where
 ob:∃ l,0≤l∧H p=some (.dK (penD c a l))
 ce:H c=some (.lst (ns.map V.int))
 ge:0≤a
 sm:ns.length≤63
theorem PenAt.same {H H':Hp}{p c:Addr}{ns:List Int}{a:Int} (x:PenAt H p c ns a) (h:Same H H'):PenAt H' p c ns a:=by
 obtain ⟨⟨l,hl,e⟩,ce,ge,sm⟩:=x
 exact ⟨⟨l,hl,h _ _ e⟩,h _ _ ce,ge,sm⟩
theorem PenAt.ne {H:Hp}{p c:Addr}{ns:List Int}{a:Int} (x:PenAt H p c ns a):c≠p:=by
 obtain ⟨⟨l,hl,e⟩,ce,_,_⟩:=x
 exact ne_of ce e (by intro z;cases z)
def spPen (K:PySem.W.Frag):Sp:=fun vs H Q _=>∃ (a:Addr) (ns:List Int),vs=[.ref a]∧SqL K H a (ns.map V.int)∧ns.length≤63∧∀ p c H',PenAt H' p c ns 0→Same H H'→H p=none→Q (.ref p) H'
def spTake:Sp:=fun vs H Q _=>∃ (p c:Addr) (ns:List Int) (a m:Int),vs=[.ref p,.int m]∧PenAt H p c ns a∧a≤1000000∧0 < m∧m < 2 ^ 512∧
 ∀ r a' H',0≤r→r < m→a≤a'→a'≤a + 1→PenAt H' p c ns a'→KeepBut p H H'→Q (.int r) H'
section
variable {P:Program}{w:World}{K:PySem.W.Frag}{mg:Str→Option Value}{base:Heap}
theorem scPen:FnScope ["_law_script"] ["_law_script"] (defScope sPen):=⟨rfl,rfl,rfl,by decide,rfl,by decide,by decide⟩
theorem cut63 (ns:List Int) (h:ns.length≤63):cutV (ns.map V.int) none (some 63)=ns.map V.int:=by
 have e:HT.sIx (ns.map V.int).length (ns.map V.int).length (some 63)=(ns.map V.int).length:=by
  have:=HT.sIx_nat (ns.map V.int).length (ns.map V.int).length 63
  rw [List.length_map] at this ⊢
  refine Eq.trans this ?_
  omega
 unfold cutV
 rw [e,HT.sIx_none,List.drop_zero,Nat.sub_zero,List.take_length]
theorem ok_pen {f:Addr}{fd:FuncData} (F:Fun K "_law_pen" "_law_pen" sPen f fd) (hlist:mg "list"=none):FnOk P w K mg base CX0 1 f fd ["_law_script"] (spPen K):=by
 refine F.ok scPen (fun vs H Q E h=>?_) (fun cdv A outer s H vs Q E hr h=>?_)
 ·obtain ⟨a,ns,rfl,_⟩:=h
  rfl
 ·obtain ⟨a,ns,rfl,hS,hn,k⟩:=h
  refine ⟨_,pss_one (ps_ret (pe_disp (pps_cons pe_str (pe_callTy call_list_of (by rfl) hlist (by kernel_rfl) (pa_cons (pe_slice sl_list (pv 0) po_none (po_some pe_int)) pa_nil)) (pps_cons pe_str pe_int (pps_cons pe_str pe_int pps_nil))) rfl rfl (by simp) (by decide))),?_⟩
  intro p hp
  refine ⟨_,rfl,_,rfl,_,_,rfl,(Same.new hp).seq hS,fun q hq=>?_⟩
  rw [cut63 ns hn]
  refine ⟨q,_,rfl,.inl (SqL.of upd_same),fun c hc=>?_⟩
  have nqp:q≠p:=(ne_of_none upd_same hq).symm
  have ncp:c≠p:=(ne_of_none (show upd (upd H p (HO.dK [])) q (.lst (ns.map V.int)) p=some (HO.dK []) by rw [upd_ne nqp.symm,upd_same]) hc).symm
  refine ⟨by rw [upd_ne ncp.symm,upd_ne nqp.symm,upd_same],[(kCells,.ref c),(kAt,.int 0),(kLeft,.int 0)],rfl,by show 3≤15;decide,?_⟩
  have em:mergeK [] [(kCells,V.ref c),(kAt,.int 0),(kLeft,.int 0)]=penD c 0 0:=by
   have e1:putK ([]:List (Key×V)) kCells (.ref c)=[(kCells,.ref c)]:=by rw [putK_new _ valV_nil];rfl
   have e2:putK [(kCells,V.ref c)] kAt (.int 0)=[(kCells,.ref c),(kAt,.int 0)]:=by rw [putK_new _ (by rw [valV_neg k_ca,valV_nil])];rfl
   have e3:putK [(kCells,V.ref c),(kAt,.int 0)] kLeft (.int 0)=[(kCells,.ref c),(kAt,.int 0),(kLeft,.int 0)]:=by rw [putK_new _ (by rw [valV_neg k_cl,valV_neg k_al,valV_nil])];rfl
   show putK (putK (putK [] kCells (.ref c)) kAt (.int 0)) kLeft (.int 0)=_
   rw [e1,e2,e3]
   rfl
  rw [em]
  refine k p c _ ⟨⟨0,Int.le_refl _,upd_same⟩,by rw [upd_ne ncp,upd_same],Int.le_refl _,hn⟩ (fun b o e=>?_) hp
  have nbp:b≠p:=ne_of_none e hp
  have nbq:b≠q:=ne_of_none (show upd H p (HO.dK []) b=some o by rw [upd_ne nbp];exact e) hq
  have nbc:b≠c:=ne_of_none (show upd (upd H p (HO.dK [])) q (.lst (ns.map V.int)) b=some o by rw [upd_ne nbq,upd_ne nbp];exact e) hc
  rw [upd_ne nbp,upd_ne nbc,upd_ne nbq,upd_ne nbp]
  exact e
theorem scTake:FnScope ["_law_pen_here","_law_many","_law_found","_law_at","_law_cells","_law_cell","_law_one","_law_two"] ["_law_pen_here","_law_many"] (defScope sTake):=⟨rfl,rfl,rfl,by decide,rfl,by decide,by decide⟩
theorem sq_le {c a b:Int} (hc:0≤c) (h:0≤a) (h2:a≤b):0≤c * a * a∧c * a * a≤c * b * b:=by
 have h1:0≤c * a:=Int.mul_nonneg hc h
 have h3:c * a≤c * b:=Int.mul_le_mul_of_nonneg_left h2 hc
 exact ⟨Int.mul_nonneg h1 h,Int.mul_le_mul h3 h2 h (Int.mul_nonneg hc (Int.le_trans h h2))⟩
theorem bnd2 (x:Int) {a:Int} (h:0≤a) (h2:a≤1000000):Int.natAbs (x % (2147483629:Int) + (1213:Int) * a * a + (3:Int)) < 2 ^ 64:=by
 obtain ⟨b1,b2⟩:=sq_le (c:=(1213:Int)) (a:=a) (b:=1000000) (by decide) h h2
 have e1:=Int.emod_nonneg x (show (2147483629:Int)≠0 by decide)
 have e2:=Int.emod_lt_of_pos x (show 0 < (2147483629:Int) by decide)
 omega
theorem bnd3 {x:Int}:-(2 ^ 64) < x % (2147483543:Int)∧x % (2147483543:Int) < 2 ^ 64:=by
 have e1:=Int.emod_nonneg x (show (2147483543:Int)≠0 by decide)
 have e2:=Int.emod_lt_of_pos x (show 0 < (2147483543:Int) by decide)
 omega
theorem ok_take {f:Addr}{fd:FuncData} (F:Fun K "_law_take" "_law_take" sTake f fd) (hlen:mg "len"=none) (habs:mg "abs"=none):FnOk P w K mg base CX0 1 f fd ["_law_pen_here","_law_many"] spTake:=by
 refine F.ok scTake (fun vs H Q E h=>?_) (fun cdv A outer s H vs Q E hr h=>?_)
 ·obtain ⟨p,c,ns,a,m,rfl,_⟩:=h
  rfl
 ·obtain ⟨p,c,ns,a,m,rfl,hp,ha,hm,hm2,k⟩:=h
  have hu:=hu_of hr
  have hu':(A.deeper (PyProof.Rows.envOfC "_law_take" (defScope sTake) s.heap.objs.size f cdv)).units < cLine:=by omega
  refine ⟨_,pss_cons (ps_if (pt_cmpR op_gt (pe_dget hu (pv 0) pe_str (fun _ _=>rfl)) pe_int (nomark _))
    (pss_cons (ps_set (i:=2) scTake.nd rfl (Or.inl rfl) (pe_op op_mod (pe_dget hu (pv 0) pe_str (fun _ _=>rfl)) (pv 1)))
    (pss_cons (ps_dput hu (pv 0) pe_str (pe_op op_fdivL (pe_dget hu (pv 0) pe_str (fun _ _=>rfl)) (pv 1)) rfl)
    (pss_one (ps_ret (pv 2))))) pss_nil)
   (pss_cons (ps_set (i:=3) scTake.nd rfl (Or.inl rfl) (pe_dget hu (pv 0) pe_str (fun _ _=>rfl)))
   (pss_cons (ps_dput hu (pv 0) pe_str (pe_op op_add (pv 3) pe_int) rfl)
   (pss_cons (ps_set (i:=4) scTake.nd rfl (Or.inl rfl) (pe_dget hu (pv 0) pe_str (fun _ _=>rfl)))
   (pss_cons (ps_set (i:=5) scTake.nd rfl (Or.inl rfl) (pe_op op_add (pe_op op_add (pe_op op_mul (pe_op op_mul pe_int (pv 3)) (pv 3)) (pe_op op_mul pe_int (pv 3))) pe_int))
   (pss_cons (ps_mid <| ps_if (pt_cmpR (op_neL hu') (pv 4) (pe_lst pa_nil) (nomark _))
    (pss_one (ps_set (i:=5) scTake.nd rfl (Or.inl rfl) (pe_ix ix_list (pv 4) (pe_op op_mod (pv 3) (pe_callB call_len_seq (by rfl) hlen PySem.boot_len (pa_cons (pv 4) pa_nil))) (fun _ _=>rfl)))) pss_nil)
   (pss_cons (ps_mid <| ps_if (pw_and (pt_cmpR op_lt (pv 3) (pe_callB call_len_seq (by rfl) hlen PySem.boot_len (pa_cons (pv 4) pa_nil)) (nomark _))
     (pw_and1 (pt_cmpR op_ge (pe_callB call_abs (by rfl) habs (by kernel_rfl) (pa_cons (pv 5) pa_nil)) (pe_op op_pow pe_int pe_int) (nomark _)))).pt
    (pss_cons (ps_dput hu (pv 0) pe_str (pe_op op_fdivL (pe_callB call_abs (by rfl) habs (by kernel_rfl) (pa_cons (pv 5) pa_nil)) (pv 1)) rfl)
    (pss_one (ps_ret (pe_op op_mod (pe_callB call_abs (by rfl) habs (by kernel_rfl) (pa_cons (pv 5) pa_nil)) (pv 1))))) pss_nil)
   (pss_cons (ps_set (i:=6) scTake.nd rfl (Or.inl rfl) (pe_op op_mod (pe_op op_pow (pe_op op_add (pe_op op_add (pe_op op_mod (pv 5) pe_int) (pe_op op_mul pe_int (pv 3))) pe_int) pe_int) pe_int))
   (pss_cons (ps_set (i:=7) scTake.nd rfl (Or.inl rfl) (pe_op op_mod (pe_op op_pow (pe_op op_add (pe_op op_add (pv 6) (pe_op op_mul (pe_op op_mul pe_int (pv 3)) (pv 3))) pe_int) pe_int) pe_int))
   (pss_one (ps_ret (pe_op op_mod (pe_op op_fdivL (pe_op op_mod (pe_op op_mul (pv 7) (pe_op op_add (pe_op op_mod (pv 6) pe_int) pe_int)) pe_int) pe_int) (pv 1)))))))))))),?_⟩
  obtain ⟨⟨l,hl0,hob⟩,hce,hge,hsm⟩:=id hp
  have ncp:=hp.ne
  refine ⟨_,rfl,p,_,rfl,getL hob,_,_,rfl,rfl,_,rfl,?_⟩
  refine ite2 (fun h0=>?_) (fun h0=>?_)
  ·refine ⟨_,rfl,p,_,rfl,getL hob,_,rfl,_,_,rfl,rfl,hm,?_⟩
   refine ⟨_,rfl,p,_,rfl,getL hob,_,rfl,_,_,rfl,rfl,CDivL.of hm hm2,_,rfl,p,_,rfl,putL _ hob,?_⟩
   refine ⟨_,rfl,?_⟩
   exact k (l % m) a _ (Int.emod_nonneg _ (by omega)) (Int.emod_lt_of_pos _ hm) (Int.le_refl _) (by omega) ⟨⟨l / m,Int.ediv_nonneg hl0 (by omega),upd_same⟩,by rw [upd_ne ncp];exact hce,hge,hsm⟩ (KeepBut.refl p H).upd
  ·refine ⟨_,rfl,p,_,rfl,getA hob,?_⟩
   refine ⟨_,rfl,_,_,rfl,rfl,_,rfl,p,_,rfl,putA _ hob,?_⟩
   refine ⟨_,rfl,p,_,rfl,getC upd_same,?_⟩
   refine ⟨_,rfl,_,_,rfl,rfl,.inl (by decide),_,rfl,_,_,rfl,rfl,.inr (by omega),_,rfl,_,_,rfl,rfl,.inl (by decide),_,_,rfl,rfl,_,_,rfl,rfl,?_⟩
   have keep1:KeepBut p H (upd H p (.dK (penD c (a + 1) l))):=(KeepBut.refl p H).upd
   have hc1:(upd H p (.dK (penD c (a + 1) l))) c=some (.lst (ns.map V.int)):=by rw [upd_ne ncp];exact hce
   refine ⟨fun σ' H'=>∃ cv:Int,σ'=[some (.ref p),some (.int m),none,some (.int a),some (.ref c),some (.int cv),none,none]∧KeepBut p H H'∧H' p=some (.dK (penD c (a + 1) l))∧H' c=some (.lst (ns.map V.int)),?_,?_⟩
   ·refine ⟨_,rfl,Nat.zero_le _,fun q hq=>?_⟩
    have s2:=Same.new (o:=.lst []) hq
    refine ⟨c,q,ns.map V.int,[],rfl,rfl,SqL.of (s2 _ _ hc1),SqL.of upd_same,flat_ints ns,rfl,_,rfl,?_⟩
    refine ite2 (fun hne=>?_) (fun hne=>?_)
    ·have hpos:0 < ns.length:=by
      cases ns with
      | nil=>exact absurd hne (by simp [eqVs])
      | cons x r=>simp
     have hlt:(a % (ns.length:Int)).toNat < ns.length:=by
      have h1:=Int.emod_lt_of_pos a (show (0:Int) < ns.length by omega)
      have h2:=Int.emod_nonneg a (show (ns.length:Int)≠0 by omega)
      omega
     have hat:atI (ns.map V.int) (a % (ns.length:Int))=some (.int (ns[(a % (ns.length:Int)).toNat])):=by
      have h2:=Int.emod_nonneg a (show (ns.length:Int)≠0 by omega)
      have e:=atI_nat (xs:=ns.map V.int) (j:=(a % (ns.length:Int)).toNat) (v:=.int (ns[(a % (ns.length:Int)).toNat])) (by rw [List.getElem?_map,List.getElem?_eq_getElem hlt];rfl)
      rw [Int.toNat_of_nonneg h2] at e
      exact e
     have hat':atI (ns.map V.int) (a % ((ns.map V.int).length:Int))=some (.int (ns[(a % (ns.length:Int)).toNat])):=by
      rw [List.length_map];exact hat
     refine ⟨_,rfl,_,rfl,_,rfl,c,_,rfl,.inl (SqL.of (s2 _ _ hc1)),_,_,rfl,rfl,(by rw [List.length_map];omega),c,_,_,_,rfl,rfl,SqL.of (s2 _ _ hc1),hat',?_⟩
     exact ⟨_,rfl,keep1.same s2,s2 _ _ upd_same,s2 _ _ hc1⟩
    ·exact ⟨_,rfl,keep1.same s2,s2 _ _ upd_same,s2 _ _ hc1⟩
   ·rintro σ' H' ⟨cv,rfl,kp,hpp,hcc⟩
    refine ⟨fun σ' H'=>∃ cv:Int,σ'=[some (.ref p),some (.int m),none,some (.int a),some (.ref c),some (.int cv),none,none]∧KeepBut p H H'∧H' p=some (.dK (penD c (a + 1) l))∧H' c=some (.lst (ns.map V.int)),?_,?_⟩
    ·refine ⟨_,rfl,_,rfl,c,_,rfl,.inl (SqL.of hcc),_,_,rfl,rfl,_,rfl,?_⟩
     refine ite2 (fun h1=>?_) (fun h1=>?_)
     ·refine ⟨_,rfl,_,rfl,_,_,rfl,rfl,⟨by decide,by decide,by decide⟩,_,_,rfl,rfl,_,rfl,?_⟩
      refine ite2 (fun h2=>?_) (fun h2=>?_)
      ·refine ⟨_,rfl,_,rfl,_,rfl,_,_,rfl,rfl,CDivL.of hm hm2,_,rfl,p,_,rfl,putL _ hpp,?_⟩
       refine ⟨_,rfl,_,rfl,_,rfl,_,_,rfl,rfl,hm,?_⟩
       have habs0:0≤(if cv < 0 then -cv else cv):=by split <;> omega
       exact k _ (a + 1) _ (Int.emod_nonneg _ (by omega)) (Int.emod_lt_of_pos _ hm) (by omega) (Int.le_refl _) ⟨⟨_,Int.ediv_nonneg habs0 (by omega),upd_same⟩,by rw [upd_ne ncp];exact hcc,by omega,hsm⟩ kp.upd
      ·exact ⟨cv,rfl,kp,hpp,hcc⟩
     ·exact iteF ⟨cv,rfl,kp,hpp,hcc⟩
    ·rintro σ' H' ⟨cv,rfl,kp,hpp,hcc⟩
     refine ⟨_,rfl,_,_,rfl,rfl,(by show (0:Int) < _;decide),_,rfl,_,_,rfl,rfl,.inl (by decide),_,_,rfl,rfl,_,_,rfl,rfl,_,_,rfl,rfl,⟨by decide,by decide,?_⟩,_,_,rfl,rfl,(by show (0:Int) < _;decide),?_⟩
     ·have e1:=Int.emod_nonneg cv (show (2147483587:Int)≠0 by decide)
      have e2:=Int.emod_lt_of_pos cv (show 0 < (2147483587:Int) by decide)
      show Int.natAbs (cv % (2147483587:Int) + (45007:Int) * a + (11:Int)) < 2 ^ 64
      omega
     ·refine ⟨_,rfl,_,rfl,_,_,rfl,rfl,.inl (by decide),_,rfl,_,_,rfl,rfl,.inr (by omega),_,_,rfl,rfl,_,_,rfl,rfl,_,_,rfl,rfl,⟨by decide,by decide,bnd2 _ hge ha⟩,_,_,rfl,rfl,(by show (0:Int) < _;decide),?_⟩
      refine ⟨_,rfl,_,rfl,_,_,rfl,rfl,(by show (0:Int) < _;decide),_,_,rfl,rfl,_,_,rfl,rfl,.inl bnd3,_,_,rfl,rfl,(by show (0:Int) < _;decide),_,_,rfl,rfl,CDivL.of (by decide) (by decide),_,rfl,_,_,rfl,rfl,hm,?_⟩
      exact k _ (a + 1) _ (Int.emod_nonneg _ (by omega)) (Int.emod_lt_of_pos _ hm) (by omega) (Int.le_refl _) ⟨⟨l,hl0,hpp⟩,hcc,by omega,hsm⟩ kp
end
end K37
namespace K37
open PySem L2
structure Nms (ws:List Str):Prop where
 nd:ws.Nodup
 ok:∀ w∈ws,nameB w=true
theorem Nms.take {ws:List Str} (h:Nms ws) (n:Nat):Nms (ws.take n):=⟨h.nd.sublist (List.take_sublist n ws),fun w hw=>h.ok w (List.mem_of_mem_take hw)⟩
def spNames:Sp:=fun vs H Q _=>∃ (p c:Addr) (ns:List Int) (a:Int) (m:Nat),vs=[.ref p,.int m]∧PenAt H p c ns a∧a≤900000∧m≤44∧
 ∀ l ws a' H',H l=none→H' l=some (.lst (ws.map V.str))→ws.length=m→Nms ws→a≤a'→a'≤a + 30→PenAt H' p c ns a'→KeepBut p H H'→Q (.ref l) H'
theorem pick_range (l:List Nat):∀ (m s:Nat),(List.range' s m).filterMap (fun j=>l.toArray[j]?)=(l.drop s).take m
 | 0,s=>by simp
 | m + 1,s=>by
  rw [List.range'_succ,List.filterMap_cons]
  have ih:=pick_range l m (s + 1)
  by_cases h:s < l.length
  ·have e:l.toArray[s]?=some l[s]:=by simp [h]
   rw [e]
   dsimp only
   rw [ih,List.drop_eq_getElem_cons h,List.take_succ_cons]
  ·have e:l.toArray[s]?=none:=by simp;omega
   rw [e]
   dsimp only
   rw [ih,List.drop_eq_nil_of_le (by omega),List.drop_eq_nil_of_le (by omega)]
   simp
theorem idx_to':∀ n:Nat,n < 7→∀ s:Nat,s < 7→s≤n→Builtin.Str.strSliceIndices none (some (s:Int)) 1 n=List.range' 0 s:=by decide
theorem idx_from':∀ n:Nat,n < 7→∀ s:Nat,s < 7→s≤n→Builtin.Str.strSliceIndices (some (s:Int)) none 1 n=List.range' s (n - s):=by decide
theorem sl_to {b:List Nat}{s:Nat} (hb:b.length≤6) (hs:s≤b.length):Txt.slice (mk b) none (some (s:Int))=mk (b.take s):=by
 unfold Txt.slice
 rw [mk_len,idx_to' _ (by omega) _ (by omega) hs]
 split
 ·next h=>
  simp at h
  rw [h,List.take_length]
 ·have e:=pick_range b s 0
  rw [List.drop_zero] at e
  exact congrArg mk e
theorem sl_from {b:List Nat}{s:Nat} (hb:b.length≤6) (hs:s≤b.length):Txt.slice (mk b) (some (s:Int)) none=mk (b.drop s):=by
 unfold Txt.slice
 rw [mk_len,idx_from' _ (by omega) _ (by omega) hs]
 split
 ·next h=>
  simp at h
  have:s=0∨b.length=0:=by omega
  rcases this with rfl | h0
  ·rfl
  ·rw [List.length_eq_zero_iff.mp h0];simp
 ·have e:=pick_range b (b.length - s) s
  rw [show (b.drop s).take (b.length - s)=b.drop s from List.take_of_length_le (by rw [List.length_drop];exact Nat.le_refl _)] at e
  exact congrArg mk e
theorem glue_fold (bs:List Nat):∀ acc:Array Nat,(bs.map fun c=>mk [c]).foldl (fun (acc:Array Nat) (p:Str)=>acc ++ (Str.ofString "").cps ++ p.cps) acc=acc ++ bs.toArray:=by
 have e0:(Str.ofString "").cps=#[]:=by decide
 induction bs with
 | nil=>intro acc;simp
 | cons x r ih=>
  intro acc
  rw [List.map_cons,List.foldl_cons,ih,e0]
  simp [mk]
theorem join_mk (bs:List Nat):Txt.join "" (bs.map fun c=>mk [c])=mk bs:=by
 show Builtin.Str.glued _ _=_
 unfold Builtin.Str.glued
 cases bs with
 | nil=>rfl
 | cons x r=>
  have:=glue_fold r #[x]
  simp only [List.map_cons,List.headD_cons,List.drop_succ_cons,List.drop_zero]
  show (⟨List.foldl _ _ _⟩:Str)=_
  rw [show (mk [x]).cps=#[x] from rfl]
  rw [this]
  simp [mk]
theorem abc_atM (x:Nat) {j:Int} (hj:j=(x:Int) % 26):atI abc.cps.toList j=some (lt26 x):=by
 have h0:0≤j:=by omega
 have h1:j < 26:=by omega
 rw [abc_at h0 h1]
 unfold lt26
 congr 1
 omega
theorem bij_step (f n:Nat) (h:n≠0):bij (f + 1) n=bij f ((n - 1) / 2) ++ [n % 2]:=by
 show (if n=0 then [] else _)=_
 rw [if_neg h]
section
variable {P:Program}{w:World}{K:PySem.W.Frag}{mg:Str→Option Value}{base:Heap}
theorem scNames:FnScope ["_law_pen_here","_law_many","_law_letters","_law_way","_law_turn","_law_k","_law_base","_law_spot","_law_found","_law_word","_law_rest","_law_terms"] ["_law_pen_here","_law_many"] (defScope sNames):=⟨rfl,rfl,rfl,by decide,rfl,by decide,by decide⟩
theorem sum_len {ws:List Str} (h:∀ w∈ws,w.length=1):(ws.map (·.length)).sum=ws.length:=by
 induction ws with
 | nil=>rfl
 | cons x r ih=>
  rw [List.map_cons,List.sum_cons,ih fun w hw=>h w (List.mem_cons_of_mem _ hw),h x List.mem_cons_self,List.length_cons]
  omega
theorem ok_names {f fT:Addr}{fd fdT:FuncData} (F:Fun K "_law_names" "_law_names" sNames f fd) (hlen:mg "len"=none) (hrng:mg "range"=none) (hmin:mg "min"=none)
  (GT:FnOk P w K mg base CX0 1 fT fdT ["_law_pen_here","_law_many"] spTake) (mT:mg "_law_take"=some (.ref fT)) (kT:PySem.W.keepIn K (.ref fT)=true) (bT:Binds K fdT ["_law_pen_here","_law_many"] []):
  FnOk P w K mg base CX0 2 f fd ["_law_pen_here","_law_many"] spNames:=by
 refine F.ok scNames (fun vs H Q E h=>?_) (fun cdv A outer s H vs Q E hr h=>?_)
 ·obtain ⟨p,c,ns,a,m,rfl,_⟩:=h
  rfl
 ·obtain ⟨p,c,ns,a,m,rfl,hp,ha,hm,k⟩:=h
  refine ⟨_,pss_cons (ps_set (i:=2) scNames.nd rfl (Or.inr rfl) pe_str)
   (pss_cons (ps_set (i:=3) scNames.nd rfl (Or.inl rfl) (pe_call GT hr rfl mT kT bT .nil pass0 (pa_c (pv 0) (pa_c pe_int pa_nil))))
   (pss_cons (ps_set (i:=4) scNames.nd rfl (Or.inl rfl) (pe_call GT hr rfl mT kT bT .nil pass0 (pa_c (pv 0) (pa_c pe_int pa_nil))))
   (pss_cons (ps_set (i:=6) scNames.nd rfl (Or.inl rfl) (pe_bm PySem.F.plainAttrs_str PySem.F.slot_str_join PySem.F.type_str_join mt_join pe_str (pa_c (pe_comp (N:=["_law_k","_law_letters","_law_pen_here"]) (src:=[none,some 2,some 0]) (osc:=defScope sNames) (oN:=["_law_pen_here","_law_many","_law_letters","_law_way","_law_turn","_law_k","_law_base","_law_spot","_law_found","_law_word","_law_rest","_law_terms"]) ⟨by rfl,by decide,by decide,by decide,rfl,by rfl⟩
      (pi_range1 rfl hrng (pa_c (pe_ix ix_list (pe_lst (pa_c (pe_call GT hr rfl mT kT bT .nil pass0 (pa_c (pv 0) (pa_c pe_int pa_nil))) (pa_c pe_int (pa_c pe_int pa_nil)))) (pv 3) (fun _ _=>rfl)) pa_nil))
      fun cl s H fp pins C=>⟨pg_name (i:=0) (show (["_law_k","_law_letters","_law_pen_here"]:List Str).Nodup by decide) rfl (Or.inl rfl),pts_nil,pe_ix ix_str (pv 1) (pe_call GT hr rfl mT kT bT .nil pass0 (pa_c (pv 2) (pa_c pe_int pa_nil))) (fun _ _=>rfl)⟩) pa_nil)))
   (pss_cons (ps_set (i:=7) scNames.nd rfl (Or.inl rfl) (pe_call GT hr rfl mT kT bT .nil pass0 (pa_c (pv 0) (pa_c (pe_op op_add (pe_callB call_len_str (by rfl) hlen PySem.boot_len (pa_c (pv 6) pa_nil)) pe_int) pa_nil))))
   (pss_cons (ps_set (i:=8) scNames.nd rfl (Or.inl rfl) (pe_lst pa_nil))
   (pss_cons (ps_for PassesOwn.never rfl (pi_range1 rfl hrng (pa_c (pv 1) pa_nil)) (pg_name (i:=5) scNames.nd rfl (Or.inl rfl))
    (pss_cons (ps_set (i:=9) scNames.nd rfl (Or.inl rfl) (pe_op op_add_str (pe_ix ix_str (pv 2) (pe_op op_mod (pe_op op_add (pv 4) (pe_op op_mul pe_int (pv 5))) pe_int) (fun _ _=>rfl)) (pe_ix ix_str (pv 2) (pe_op op_mod (pe_op op_add (pv 4) (pe_op op_fdiv (pv 5) pe_int)) pe_int) (fun _ _=>rfl))))
    (pss_cons (ps_set (i:=9) scNames.nd rfl (Or.inl rfl) (pe_op op_add_str (pe_op op_add_str (pe_slice sl_str (pv 6) po_none (po_some (pv 7))) (pv 9)) (pe_slice sl_str (pv 6) (po_some (pv 7)) po_none)))
    (pss_cons (ps_mid <| ps_if (pt_cmpR op_eq (pv 3) pe_int (nomark _))
     (pss_cons (ps_set (i:=9) scNames.nd rfl (Or.inl rfl) pe_str)
     (pss_cons (ps_set (i:=10) scNames.nd rfl (Or.inl rfl) (pe_op op_add (pv 5) pe_int))
     (pss_one (ps_while PassesOwn.never (pt_cmpR op_gt (pv 10) pe_int (nomark _))
      (pss_cons (ps_set (i:=9) scNames.nd rfl (Or.inl rfl) (pe_op op_add_str (pe_ix ix_str (pv 2) (pe_op op_mod (pe_op op_add (pv 4) (pe_op op_mul pe_int (pe_op op_mod (pv 10) pe_int))) pe_int) (fun _ _=>rfl)) (pv 9)))
      (pss_one (ps_set (i:=10) scNames.nd rfl (Or.inl rfl) (pe_op op_fdiv (pe_op op_sub (pv 10) pe_int) pe_int)))))))) pss_nil)
    (pss_one (ps_expr (pe_bm PySem.F.plainAttrs_list PySem.F.slot_list_append PySem.F.type_list_append mt_append (pv 8) (pa_c (pv 9) pa_nil))))))))
   (pss_cons (ps_set (i:=11) scNames.nd rfl (Or.inl rfl) (pe_lst (pa_c pe_str (pa_c pe_str (pa_c pe_str (pa_c pe_str (pa_c pe_str (pa_c pe_str (pa_c pe_str (pa_c pe_str (pa_c pe_str pa_nil)))))))))))
   (pss_cons (ps_mid <| ps_if (pt_cmpR op_eq (pe_call GT hr rfl mT kT bT .nil pass0 (pa_c (pv 0) (pa_c pe_int pa_nil))) pe_int (nomark _))
    (pss_one (ps_for PassesOwn.never rfl (pi_range1 rfl hrng (pa_c (pe_callB (call_min2 rfl) (by rfl) hmin (by kernel_rfl) (pa_c (pv 1) (pa_c pe_int pa_nil))) pa_nil)) (pg_name (i:=5) scNames.nd rfl (Or.inl rfl))
     (pss_one (ps_if (PW.pt (pw_and (pt_cmpR op_eq (pe_call GT hr rfl mT kT bT .nil pass0 (pa_c (pv 0) (pa_c pe_int pa_nil))) pe_int (nomark _)) (pw_and1 (pt_cmpR op_notIn_seq (pe_ix ix_list (pv 11) (pv 5) (fun _ _=>rfl)) (pv 8) (by with_unfolding_all rfl)))))
      (pss_one (ps_asg (pe_ix ix_list (pv 11) (pv 5) (fun _ _=>rfl)) (pg_sub (pv 8) (pv 5) set_list))) pss_nil)))) pss_nil)
   (pss_one (ps_ret (pv 8))))))))))),?_⟩
  have e0:(Str.ofString "").length=0:=by decide
  have zA:abc.length≤sizeLine:=sizeLine_big (by rw [abc_len];decide)
  refine ⟨_,rfl,p,c,ns,a,_,rfl,hp,by omega,by decide,by decide,fun wy a1 H1 w0 w1 l1 u1 hp1 kp1=>?_⟩
  refine ⟨_,rfl,p,c,ns,a1,_,rfl,hp1,by omega,by decide,by decide,fun tt a2 H2 t0 t1 l2 u2 hp2 kp2=>?_⟩
  obtain ⟨t,rfl⟩:∃ t:Nat,tt=t:=⟨tt.toNat,by omega⟩
  refine ⟨rfl,_,rfl,p,c,ns,a2,_,rfl,hp2,by omega,by decide,by decide,fun r3 a3 H3 r30 r31 l3 u3 hp3 kp3=>?_⟩
  refine ⟨sizeLine_big (by show 3≤1000000;decide),fun q hq=>?_⟩
  have sq:=Same.new (o:=.lst [V.int r3,.int 0,.int 6]) hq
  obtain ⟨v,hv,hat⟩:=atI_in (xs:=[V.int r3,.int 0,.int 6]) (i:=wy) w0 (by show wy < 3;omega)
  obtain ⟨n,rfl,hn0,hn6⟩:∃ n:Int,v=.int n∧0≤n∧n≤6:=by
   simp only [List.mem_cons,List.not_mem_nil,or_false] at hv
   rcases hv with rfl | rfl | rfl
   ·exact ⟨_,rfl,by omega,by omega⟩
   ·exact ⟨_,rfl,by omega,by omega⟩
   ·exact ⟨_,rfl,by omega,by omega⟩
  refine ⟨_,rfl,q,_,wy,_,rfl,rfl,SqL.of upd_same,hat,?_⟩
  refine ⟨n,rfl,by omega,by omega,?_⟩
  have kq:KeepBut p H (upd H3 q (.lst [V.int r3,.int 0,.int 6])):=((kp1.trans kp2).trans kp3).same sq
  have hpq:=hp3.same sq
  generalize upd H3 q (.lst [V.int r3,.int 0,.int 6])=H4 at kq hpq ⊢
  refine comp_range (fun i ys σ' H'=>∃ (a':Int) (bs:List Nat) (o:Option V),σ'=[o,some (.str abc),some (.ref p)]∧PenAt H' p c ns a'∧KeepBut p H H'∧a3≤a'∧a'≤a3 + i∧ys=(bs.map fun c=>mk [c]).map V.str∧bs.length=i∧(∀ c∈bs,isL c=true))
   ⟨a3,[],none,rfl,hpq,kq,by omega,by omega,rfl,rfl,fun w hw=>by simp at hw⟩ (sizeLine_big (by omega)) (fun i ys σ H p=>by obtain ⟨_,bs,_,_,_,_,_,_,rfl,e,_⟩:=p;rw [List.length_map,List.length_map,e];exact Nat.le_refl _) ?_ ?_
  ·rintro i' ys σ' H5 hi' ⟨a',bs,o,rfl,hp5,kp5,la',ha',rfl,hl,hb⟩
   dsimp only [gName]
   refine iteT ?_
   refine ⟨_,rfl,_,rfl,p,c,ns,a',_,rfl,hp5,by omega,by decide,by decide,fun r6 a6 H6 r60 r61 l6 u6 hp6 kp6=>?_⟩
   refine ⟨_,r6,lt26 r6.toNat,rfl,rfl,zA,abc_at r60 r61,?_⟩
   refine ⟨a6,bs ++ [lt26 r6.toNat],_,rfl,hp6,kp5.trans kp6,by omega,by omega,by rw [List.map_append,List.map_append];rfl,by rw [List.length_append,hl];rfl,fun c hc=>?_⟩
   rcases List.mem_append.mp hc with z | z
   ·exact hb c z
   ·rw [List.mem_singleton.mp z];exact isL_lt _
  ·rintro ys σ' H5 ⟨a4,b,o,rfl,hp5,kp5,l4,u4,rfl,hbl,hb⟩ D hD
   have hb6:b.length≤6:=by omega
   refine ⟨_,D,b.map (fun c=>mk [c]),rfl,rfl,SqL.of upd_same,by
    rw [sum_len (fun w hw=>by obtain ⟨x,_,rfl⟩:=List.mem_map.mp hw;rfl),List.length_map,e0];omega,?_⟩
   rw [join_mk]
   have hp6:=hp5.same (Same.new (o:=.lst ((b.map fun c=>mk [c]).map V.str)) hD)
   have kp6:KeepBut p H _:=kp5.same (Same.new (o:=.lst ((b.map fun c=>mk [c]).map V.str)) hD)
   generalize upd H5 D (.lst ((b.map fun c=>mk [c]).map V.str))=H6 at hp6 kp6 ⊢
   refine ⟨_,rfl,_,rfl,mk b,rfl,sizeLine_big (by rw [mk_len];omega),_,_,rfl,rfl,p,c,ns,a4,_,rfl,hp6,by omega,by omega,by rw [mk_len];omega,fun ss a5 H7 s0 s1 l5 u5 hp7 kp7=>?_⟩
   rw [mk_len] at s1
   obtain ⟨sp,rfl⟩:∃ sp:Nat,ss=sp:=⟨ss.toNat,by omega⟩
   refine ⟨Nat.zero_le _,fun L hL=>?_⟩
   have kp8:=kp6.trans kp7
   have nLp:L≠p:=by
    obtain ⟨l,_,z⟩:=hp7.ob
    exact (ne_of_none z hL).symm
   have nLc:L≠c:=(ne_of_none hp7.ce hL).symm
   have hHL:H L=none:=by
    cases e:H L with
    | none=>rfl
    | some x=>exact absurd (kp8 L x e nLp) (by rw [hL];simp)
   refine ⟨_,rfl,m,rfl,by omega,by omega,for_range (n:=(m:Int).toNat) (fun i σ H'=>∃ o5 o9 o10,σ=[some (.ref p),some (.int m),some (.str abc),some (.int wy),some (.int t),o5,some (.str (mk b)),some (.int sp),some (.ref L),o9,o10,none]∧H'=upd H7 L (.lst (((List.range i).map fun k=>mk (word (decide (wy=1)) b sp t k)).map V.str))) ⟨_,_,_,rfl,rfl⟩ ?_ ?_⟩
   ·rintro i σ H' hi ⟨o5,o9,o10,rfl,rfl⟩
    dsimp only [gName]
    have hi44:i < 44:=by omega
    refine ⟨_,rfl,_,rfl,_,rfl,_,_,rfl,rfl,.inl ⟨by decide,by decide⟩,_,_,rfl,rfl,_,_,rfl,rfl,(by show (0:Int) < 26;decide),_,_,lt26 (t + 7 * i),rfl,rfl,zA,abc_atM _ (by omega),?_⟩
    refine ⟨_,rfl,_,rfl,_,rfl,_,_,rfl,rfl,⟨by decide,by decide⟩,_,_,rfl,rfl,_,_,rfl,rfl,(by show (0:Int) < 26;decide),_,_,lt26 (t + i / 26),rfl,rfl,zA,abc_atM _ (by omega),?_⟩
    refine ⟨_,_,rfl,rfl,sizeLine_big (by show 1 + 1≤1000000;decide),?_⟩
    have zB:(mk b).length≤sizeLine:=sizeLine_big (by rw [mk_len];omega)
    have hs6:∀ {x y},(Txt.slice (mk b) x y).length≤6:=fun {x y}=>Nat.le_trans (Txt.slice_le _ x y) (by rw [mk_len];omega)
    have h2:((⟨#[lt26 (t + 7 * i)]⟩:Str) ++ ⟨#[lt26 (t + i / 26)]⟩).length=2:=rfl
    refine ⟨_,rfl,_,rfl,_,rfl,mk b,rfl,zB,_,rfl,_,_,rfl,rfl,sizeLine_big (by have:=hs6 (x:=none) (y:=some (sp:Int));omega),_,rfl,_,rfl,_,rfl,mk b,rfl,zB,_,_,rfl,rfl,sizeLine_big (by have:=hs6 (x:=none) (y:=some (sp:Int));have:=hs6 (x:=some (sp:Int)) (y:=none);rw [Str.length_append];omega),?_⟩
    have ew:(Txt.slice (mk b) none (some (sp:Int)) ++ ((⟨#[lt26 (t + 7 * i)]⟩:Str) ++ ⟨#[lt26 (t + i / 26)]⟩)) ++ Txt.slice (mk b) (some (sp:Int)) none=mk (b.take sp ++ pair t i ++ b.drop sp):=by
     rw [sl_to hb6 (by omega),sl_from hb6 (by omega)]
     rw [show ((⟨#[lt26 (t + 7 * i)]⟩:Str) ++ ⟨#[lt26 (t + i / 26)]⟩)=mk (pair t i) from rfl,mk_app,mk_app]
    rw [ew]
    refine ⟨fun σ' H'=>∃ o10,σ'=[some (.ref p),some (.int m),some (.str abc),some (.int wy),some (.int t),some (.int (0 + i)),some (.str (mk b)),some (.int sp),some (.ref L),some (.str (mk (word (decide (wy=1)) b sp t i))),o10,none]∧H'=upd H7 L (.lst (((List.range i).map fun k=>mk (word (decide (wy=1)) b sp t k)).map V.str)),?_,?_⟩
    ·refine ⟨_,rfl,rfl,_,rfl,?_⟩
     refine ite2 (fun g=>?_) (fun g=>?_)
     ·have g':wy=1:=V.int.inj (of_decide_eq_true g)
      subst g'
      refine ⟨_,rfl,_,_,rfl,rfl,?_⟩
      refine ⟨fun mm σ' H'=>∃ (r f:Nat) (suf:List Nat) (rv:Int) (wv:Str),mm=r∧rv=(r:Int)∧wv=mk (suf.map fun d=>lt26 (t + 9 * d))∧σ'=[some (.ref p),some (.int m),some (.str abc),some (.int 1),some (.int t),some (.int (0 + i)),some (.str (mk b)),some (.int sp),some (.ref L),some (.str wv),some (.int rv),none]∧H'=upd H7 L (.lst (((List.range i).map fun k=>mk (word (decide ((1:Int)=1)) b sp t k)).map V.str))∧bij f r ++ suf=bij 6 (i + 1)∧r < 2 ^ f∧suf.length + f≤6,⟨i + 1,i + 1,6,[],_,_,rfl,(by show 0 + (i:Int) + 1=((i + 1:Nat):Int);omega),(by show Str.ofString ""=mk [];decide),rfl,rfl,by simp,by omega,by simp⟩,?_⟩
      rintro mm σ' H' ⟨r,f,suf,rv,wv,rfl,rfl,rfl,rfl,rfl,hbij,hrf,hsl⟩
      refine ⟨_,rfl,_,_,rfl,rfl,_,rfl,?_⟩
      refine ite2 (fun g2=>?_) (fun g2=>?_)
      ·have g2':(0:Int) < mm:=of_decide_eq_true g2
       refine ⟨_,fun σ'' H'' h=>h,?_⟩
       obtain ⟨f',rfl⟩:∃ f',f=f' + 1:=by
        cases f with
        | zero=>exact absurd hrf (by omega)
        | succ x=>exact ⟨x,rfl⟩
       have e2:mk [lt26 (t + 9 * (mm % 2))] ++ mk (suf.map fun d=>lt26 (t + 9 * d))=mk (((mm % 2) :: suf).map fun d=>lt26 (t + 9 * d)):=by rw [mk_app];rfl
       refine ⟨_,rfl,_,rfl,_,rfl,_,_,rfl,rfl,(by show (0:Int) < 2;decide),_,_,rfl,rfl,.inl ⟨by decide,by decide⟩,_,_,rfl,rfl,_,_,rfl,rfl,(by show (0:Int) < 26;decide),_,_,lt26 (t + 9 * (mm % 2)),rfl,rfl,zA,abc_atM _ (by omega),?_⟩
       refine ⟨_,rfl,_,_,rfl,rfl,sizeLine_big (by rw [mk_len,List.length_map];show 1 + _≤_;omega),?_⟩
       refine ⟨_,rfl,_,_,rfl,rfl,_,_,rfl,rfl,⟨by decide,by decide⟩,?_⟩
       refine ⟨(mm - 1) / 2,by omega,(mm - 1) / 2,f',(mm % 2) :: suf,_,_,rfl,?_,e2,rfl,rfl,?_,?_,?_⟩
       ·show ((mm:Int) - 1) / 2=_
        omega
       ·rw [← hbij,bij_step f' mm (by omega)]
        simp
       ·rw [Nat.pow_succ] at hrf
        omega
       ·rw [List.length_cons];omega
      ·have g2':¬ (0:Int) < mm:=fun z=>g2 (decide_eq_true z)
       have hz:mm=0:=by omega
       subst hz
       have e3:bij f 0=[]:=by cases f <;> rfl
       rw [e3,List.nil_append] at hbij
       have e4:word (decide ((1:Int)=1)) b sp t i=suf.map fun d=>lt26 (t + 9 * d):=by
        rw [hbij];rfl
       exact ⟨some (V.int ((0:Nat):Int)),by rw [e4],rfl⟩
     ·have g':¬ wy=1:=fun z=>g (decide_eq_true (by rw [z]))
      rw [decide_eq_false g']
      exact ⟨_,rfl,rfl⟩
    ·rintro σ' H' ⟨o10,rfl,rfl⟩
     refine ⟨_,rfl,.inl ⟨rfl,_,SqL.of upd_same⟩,_,rfl,L,_,_,rfl,rfl,upd_same,by rw [List.length_map,List.length_map,List.length_range];exact small1000 (by omega),?_⟩
     refine ⟨_,_,_,rfl,?_⟩
     rw [upd_upd,List.range_succ,List.map_append,List.map_append]
     rfl
   ·rintro σ H' ⟨o5,o9,o10,rfl,rfl⟩
    have S8:=Same.new (o:=.lst (((List.range (m:Int).toNat).map fun k=>mk (word (decide (wy=1)) b sp t k)).map V.str)) hL
    have hp8:=hp7.same S8
    have kp9:=kp8.same S8
    have hL8:upd H7 L (.lst (((List.range (m:Int).toNat).map fun k=>mk (word (decide (wy=1)) b sp t k)).map V.str)) L=_:=upd_same
    have hN:Nms ((List.range (m:Int).toNat).map fun k=>mk (word (decide (wy=1)) b sp t k)):=by
     refine ⟨word_nd (by omega) (by omega),fun w hw=>?_⟩
     obtain ⟨k',hk',rfl⟩:=List.mem_map.mp hw
     have:=List.mem_range.mp hk'
     exact word_name (by omega) hb6 hb
    have hwl:((List.range (m:Int).toNat).map fun k=>mk (word (decide (wy=1)) b sp t k)).length=m:=by rw [List.length_map,List.length_range];omega
    generalize ((List.range (m:Int).toNat).map fun k=>mk (word (decide (wy=1)) b sp t k))=ws at hp8 kp9 hL8 hN hwl ⊢
    generalize upd H7 L (.lst (ws.map V.str))=H8 at hp8 kp9 hL8 ⊢
    refine ⟨sizeLine_big (by show 9≤1000000;decide),fun T hT=>?_⟩
    have S9:=Same.new (o:=.lst (terms.map V.str)) hT
    have hT9:upd H8 T (.lst (terms.map V.str)) T=some (.lst (terms.map V.str)):=upd_same
    have hp9:=hp8.same S9
    have kp10:=kp9.same S9
    have hL9:=S9 _ _ hL8
    have nTL:T≠L:=(ne_of_none hL8 hT).symm
    have nTp:T≠p:=by
     obtain ⟨l,_,z⟩:=hp8.ob
     exact (ne_of_none z hT).symm
    have eT:upd H8 T (.lst [V.str "as",.str "with",.str "part",.str "field",.str "none",.str "done",.str "write",.str "back",.str "join"])=upd H8 T (.lst (terms.map V.str)):=rfl
    rw [eT]
    generalize upd H8 T (.lst (terms.map V.str))=H9 at hp9 kp10 hL9 hT9 ⊢
    refine ⟨fun σ' H'=>∃ (o5:Option V) (vs:List Str) (a6:Int),σ'=[some (.ref p),some (.int m),some (.str abc),some (.int wy),some (.int t),o5,some (.str (mk b)),some (.int sp),some (.ref L),o9,o10,some (.ref T)]∧H' L=some (.lst (vs.map V.str))∧vs.length=m∧Nms vs∧PenAt H' p c ns a6∧a≤a6∧a6≤a + 30∧KeepBut p H H',?_,?_⟩
    ·refine ⟨_,rfl,p,c,ns,a5,_,rfl,hp9,by omega,by decide,by decide,fun r6 a6 H10 r60 r61 l6 u6 hp10 kp11=>?_⟩
     have hL10:=kp11 _ _ hL9 nLp
     have hT10:=kp11 _ _ hT9 nTp
     have kp12:=kp10.trans kp11
     refine ⟨rfl,_,rfl,?_⟩
     refine ite2 (fun g=>?_) (fun g=>?_)
     ·refine ⟨_,rfl,_,_,rfl,?_⟩
      obtain ⟨n9,hn9,n90,n91,n92⟩:∃ n9:Int,(if (9:Int) < m then (9:Int) else m)=n9∧0≤n9∧n9≤9∧n9≤m:=by
       refine ⟨_,rfl,?_⟩
       split <;> omega
      rw [hn9]
      refine ⟨n9,rfl,by omega,by omega,for_range (n:=n9.toNat) (fun i σ H'=>∃ (o5:Option V) (vs:List Str) (a7:Int),σ=[some (.ref p),some (.int m),some (.str abc),some (.int wy),some (.int t),o5,some (.str (mk b)),some (.int sp),some (.ref L),o9,o10,some (.ref T)]∧H' L=some (.lst (vs.map V.str))∧H' T=some (.lst (terms.map V.str))∧vs.length=m∧Nms vs∧PenAt H' p c ns a7∧a6≤a7∧a7≤a6 + i∧KeepBut p H H') ⟨_,ws,a6,rfl,hL10,hT10,hwl,hN,hp10,by omega,by simp,kp12⟩ ?_ ?_⟩
      ·rintro i σ H' hi ⟨o5',vs,a7,rfl,hLv,hTv,hvl,hvN,hpv,la7,ua7,kv⟩
       dsimp only [gName]
       refine ⟨_,rfl,p,c,ns,a7,_,rfl,hpv,by omega,by decide,by decide,fun r8 a8 H11 r80 r81 l8 u8 hp11 kp13=>?_⟩
       have hL11:=kp13 _ _ hLv nLp
       have hT11:=kp13 _ _ hTv nTp
       have k11:=kv.trans kp13
       refine ⟨rfl,_,rfl,?_⟩
       refine ite2 (fun g2=>?_) (fun g2=>?_)
       ·obtain ⟨term,hterm⟩:∃ x,terms[i]?=some x:=⟨_,List.getElem?_eq_getElem (show i < 9 by omega)⟩
        have hix:ixN (terms.map V.str).length (0 + (i:Int))=some i:=by
         unfold ixN
         rw [List.length_map,if_pos (by omega),if_pos (by show 0 + (i:Int) < 9;omega)]
         congr 1
         omega
        have hat:atI (terms.map V.str) (0 + (i:Int))=some (V.str term):=by
         unfold atI
         rw [hix]
         simp [hterm]
        have hix2:ixN (vs.map V.str).length (0 + (i:Int))=some i:=by
         unfold ixN
         rw [List.length_map,if_pos (by omega),if_pos (by omega)]
         congr 1
         omega
        refine ⟨_,rfl,_,rfl,T,_,_,_,rfl,rfl,SqL.of hT11,hat,_,rfl,L,_,rfl,.inl (SqL.of hL11),rfl,flat_strs vs,_,rfl,?_⟩
        rw [if_pos rfl,in_strs]
        refine ite2 (fun g3=>?_) (fun g3=>?_)
        ·have g3':term ∉ vs:=by simpa using g3
         refine ⟨_,rfl,_,rfl,T,_,_,_,rfl,rfl,SqL.of hT11,hat,?_⟩
         refine ⟨_,rfl,_,rfl,L,_,_,i,rfl,rfl,hL11,hix2,?_⟩
         refine ⟨_,vs.set i term,a8,rfl,by rw [upd_same,← List.map_set],by rw [upd_ne nTL];exact hT11,by rw [List.length_set,hvl],⟨nd_set hvN.nd g3',fun w hw=>?_⟩,?_,by omega,by omega,?_⟩
         ·rcases List.mem_or_eq_of_mem_set hw with z | z
          ·exact hvN.ok w z
          ·rw [z];exact terms_name term (List.mem_of_getElem? hterm)
         ·obtain ⟨⟨l,hl,e⟩,ce,ge,sm⟩:=hp11
          exact ⟨⟨l,hl,by rw [upd_ne nLp.symm];exact e⟩,by rw [upd_ne nLc.symm];exact ce,ge,sm⟩
         ·intro x o e ne
          have nx:x≠L:=ne_of_none e hHL
          rw [upd_ne nx]
          exact k11 x o e ne
        ·exact ⟨_,vs,a8,rfl,hL11,hT11,hvl,hvN,hp11,by omega,by omega,k11⟩
       ·exact ⟨_,vs,a8,rfl,hL11,hT11,hvl,hvN,hp11,by omega,by omega,k11⟩
      ·rintro σ H' ⟨o5',vs,a7,rfl,hLv,hTv,hvl,hvN,hpv,la7,ua7,kv⟩
       exact ⟨_,vs,a7,rfl,hLv,hvl,hvN,hpv,by omega,by omega,kv⟩
     ·exact ⟨_,ws,a6,rfl,hL10,hwl,hN,hp10,by omega,by omega,kp12⟩
    ·rintro σ' H' ⟨o5',vs,a6,rfl,hLv,hvl,hvN,hpv,la6,ua6,kv⟩
     exact ⟨_,rfl,k L vs a6 H' hHL hLv hvl hvN la6 ua6 hpv kv⟩
end
end K37
namespace K37
open PySem L2
section
variable {P:Program}{w:World}{K:PySem.W.Frag}{mg:Str→Option Value}{base:Heap}
structure OkD (b k:Nat) (d:PyData):Prop where
 sh:d.showable=true
 dp:d.depth≤k
 len:d.shown.length≤b
theorem OkD.mono {b b' k k':Nat}{d:PyData} (h:OkD b k d) (hb:b≤b') (hk:k≤k'):OkD b' k' d:=⟨h.sh,Nat.le_trans h.dp hk,Nat.le_trans h.len hb⟩
theorem okAll {b k:Nat}:∀ {ds:List PyData},(∀ d∈ds,OkD b k d)→PyData.showableAll ds=true∧PyData.depthAll ds≤k∧((ds.map PyData.shown).map (·.length)).sum≤ds.length * b
 | [],_=>⟨rfl,Nat.zero_le _,by simp⟩
 | d :: r,h=>by
  obtain ⟨h1,h2,h3⟩:=okAll (ds:=r) fun x hx=>h x (List.mem_cons_of_mem _ hx)
  obtain ⟨g1,g2,g3⟩:=h d List.mem_cons_self
  refine ⟨?_,?_,?_⟩
  ·unfold PyData.showableAll
   rw [g1,h1]
   rfl
  ·unfold PyData.depthAll
   exact Nat.max_le.mpr ⟨g2,h2⟩
  ·rw [List.map_cons,List.map_cons,List.sum_cons,List.length_cons,Nat.succ_mul]
   omega
theorem OkD.tuple {b k n:Nat}{ds:List PyData} (h:∀ d∈ds,OkD b k d) (hn:ds.length≤n):OkD (n * (b + 2) + 3) (k + 1) (.tuple ds):=by
 obtain ⟨h1,h2,h3⟩:=okAll h
 refine ⟨?_,?_,?_⟩
 ·unfold PyData.showable;exact h1
 ·unfold PyData.depth;omega
 ·unfold PyData.shown
  rw [PyProof.Rows.shownAll_eq_map]
  unfold tupleText
  have hj:=StrLaws.join_length_le (Str.ofString ", ") (ds.map PyData.shown)
  have e1:(Str.ofString ", ").length=2:=by decide
  have e2:(Str.ofString "(").length=1:=by decide
  have e3:∀ c:Bool,(Str.ofString (if c=true then ",)" else ")")).length≤2:=by decide
  have e4:=e3 ((ds.map PyData.shown).length == 1)
  rw [e1,List.length_map] at hj
  rw [Str.length_append,Str.length_append,e2]
  have:ds.length * b + ds.length * 2≤n * (b + 2):=by
   rw [← Nat.mul_add]
   exact Nat.mul_le_mul_right _ hn
  omega
theorem OkD.str {z:Str} (h:PyData.strOk z=true) (hl:z.length≤10):OkD 102 0 (.str z):=by
 refine ⟨by unfold PyData.showable;rfl,by unfold PyData.depth;exact Nat.le_refl _,?_⟩
 have hz:z.cps.size≤10:=hl
 have hlay:(PyData.str z).layable0=true:=by
  unfold PyData.layable0 PyData.canLay0 PyData.depth PyData.weight
  rw [h,decide_eq_true (show (0:Nat)≤64 by decide),decide_eq_true (show z.cps.size≤2 ^ 20 by omega)]
  rfl
 have:=PyProof.Rows.len_repr_of_layable hlay
 unfold PyData.shown
 omega
theorem int_len {i:Int} (h0:0≤i) (h1:i < 10 ^ 60):(Str.ofString (toString i)).length≤60:=by
 obtain ⟨n,rfl⟩:∃ n:Nat,i=n:=⟨i.toNat,by omega⟩
 rw [PySem.ofString_length]
 show (Int.repr (n:Int)).length≤60
 have e:Int.repr (n:Int)=Nat.repr n:=rfl
 rw [e]
 exact (Nat.length_repr_le_iff (by decide)).mpr (by omega)
theorem OkD.int {i:Int} (h0:0≤i) (h1:i < 10 ^ 60):OkD 102 0 (.int i):=by
 refine ⟨?_,by unfold PyData.depth;exact Nat.le_refl _,?_⟩
 ·unfold PyData.showable
  refine decide_eq_true ?_
  have h2:i.natAbs < 2 ^ 200:=by
   have:(10:Int) ^ 60 < ((2 ^ 200:Nat):Int):=by decide
   omega
  by_cases hz:i.natAbs=0
  ·rw [hz];decide
  ·have:=(Nat.log2_lt hz).mpr h2
   omega
 ·unfold PyData.shown
  have:=int_len h0 h1
  omega
theorem strOk_mk {z:Str} (h:nameB z=true):PyData.strOk z=true:=by
 unfold nameB at h
 rw [Bool.and_eq_true,List.all_eq_true] at h
 unfold PyData.strOk
 rw [Array.all_eq_true_iff_forall_mem]
 intro c hc
 have:=of_decide_eq_true (h.2 c (by simpa using hc))
 exact decide_eq_true (by omega)
theorem OkD.name {z:Str} (h:nameB z=true):OkD 102 0 (.str z):=OkD.str (strOk_mk h) (by have:=nameB_len h;omega)
def nameD:PyData→Bool | .str z=>nameB z | _=>false
def wholeD (lo hi:Int):PyData→Bool | .int i=>decide (lo≤i∧i≤hi) | _=>false
def partD:PyData→Bool
 | .tuple [l,h,a]=>nameD l && nameD h && wholeD 1 10000000 a
 | _=>false
def risingB (ss:List Str):Bool:=decide (ss.Pairwise fun a b=>a.cps.toList < b.cps.toList)
def headS:PyData→Str
 | .tuple (.str z :: _)=>z
 | _=>Str.ofString ""
def words8:List Str:=["part","join","forfeit","measure","mend","alone","breach","view"]
theorem pen_ne {H:Hp}{p c a:Addr}{ns:List Int}{t:Int}{o:HO} (hp:PenAt H p c ns t) (e:H a=some o) (h:∀ kv r,o≠.dK (kv :: r)):a≠p:=by
 obtain ⟨l,_,e2⟩:=hp.ob
 exact ne_of e e2 (h _ _)
theorem rds_but {m:Bool}{H H':Hp}{p c:Addr}{ns:List Int}{t:Int}{x:List V}{d:List PyData} (r:RdVs m H x d) (hp:PenAt H p c ns t) (k:KeepBut p H H'):RdVs m H' x d:=r.keep fun a o e h=>k a o e (pen_ne hp e h)
theorem lst_but {H H':Hp}{p c a:Addr}{ns:List Int}{t:Int}{xs:List V} (e:H a=some (.lst xs)) (hp:PenAt H p c ns t) (k:KeepBut p H H'):H' a=some (.lst xs):=k a _ e (pen_ne hp e (fun _ _ z=>nomatch z))
theorem tup_but {H H':Hp}{p c a:Addr}{ns:List Int}{t:Int}{xs:List V} (e:H a=some (.tup xs)) (hp:PenAt H p c ns t) (k:KeepBut p H H'):H' a=some (.tup xs):=k a _ e (pen_ne hp e (fun _ _ z=>nomatch z))
def spNum:Sp:=fun vs H Q _=>∃ (p c:Addr) (ns:List Int) (a lo hi:Int),vs=[.ref p,.int lo,.int hi]∧PenAt H p c ns a∧a≤900000∧0≤lo∧lo≤hi∧hi≤10 ^ 9∧
 ∀ n a' H',lo≤n→n≤hi→a≤a'→a'≤a + 3→PenAt H' p c ns a'→KeepBut p H H'→Q (.int n) H'
theorem scNum:FnScope ["_law_pen_here","_law_bottom","_law_most","_law_way","_law_near"] ["_law_pen_here","_law_bottom","_law_most"] (defScope sNumber):=⟨rfl,rfl,rfl,by decide,rfl,by decide,by decide⟩
theorem ok_num {f fT:Addr}{fd fdT:FuncData} (F:Fun K "_law_number" "_law_number" sNumber f fd) (hmin:mg "min"=none) (GT:FnOk P w K mg base CX0 1 fT fdT ["_law_pen_here","_law_many"] spTake) (mT:mg "_law_take"=some (.ref fT)) (kT:PySem.W.keepIn K (.ref fT)=true) (bT:Binds K fdT ["_law_pen_here","_law_many"] []):
  FnOk P w K mg base CX0 2 f fd ["_law_pen_here","_law_bottom","_law_most"] spNum:=by
 refine F.ok scNum (fun vs H Q E h=>?_) (fun cdv A outer s H vs Q E hr h=>?_)
 ·obtain ⟨p,c,ns,a,lo,hi,rfl,_⟩:=h
  rfl
 ·obtain ⟨p,c,ns,a,lo,hi,rfl,hp,ha,h0,h1,h2,k⟩:=h
  refine ⟨_,pss_cons (ps_set (i:=3) scNum.nd rfl (Or.inl rfl) (pe_call GT hr rfl mT kT bT .nil pass0 (pa_c (pv 0) (pa_c pe_int pa_nil))))
   (pss_cons (ps_set (i:=4) scNum.nd rfl (Or.inl rfl) (pe_op op_add (pv 1) (pe_call GT hr rfl mT kT bT .nil pass0 (pa_c (pv 0) (pa_c (pe_callB (call_min2 rfl) (by rfl) hmin (by kernel_rfl) (pa_c pe_int (pa_c (pe_op op_add (pe_op op_sub (pv 2) (pv 1)) pe_int) pa_nil))) pa_nil)))))
   (pss_one (ps_ret (pe_ix ix_list (pe_lst (pa_c (pv 1) (pa_c (pv 2) (pa_c (pv 4) (pa_c (pe_op op_add (pv 1) (pe_call GT hr rfl mT kT bT .nil pass0 (pa_c (pv 0) (pa_c (pe_op op_add (pe_op op_sub (pv 2) (pv 1)) pe_int) pa_nil)))) pa_nil))))) (pv 3) (fun _ _=>rfl))))),?_⟩
  have b9:(10:Int) ^ 9 + 1 < 2 ^ 512:=by decide
  have e9:(10:Int) ^ 9=1000000000:=by decide
  refine ⟨_,rfl,p,c,ns,a,_,rfl,hp,by omega,by decide,by decide,fun r1 a1 H1 r10 r11 l1 u1 hp1 kp1=>?_⟩
  refine ⟨_,rfl,_,rfl,_,rfl,_,rfl,_,_,rfl,rfl,_,_,rfl,rfl,_,_,rfl,?_⟩
  obtain ⟨mm,hmm,m0,m1⟩:∃ mm:Int,(if hi - lo + 1 < 12 then hi - lo + 1 else 12)=mm∧0 < mm∧mm≤hi - lo + 1:=by
   refine ⟨_,rfl,?_⟩
   split <;> omega
  rw [hmm]
  refine ⟨p,c,ns,a1,_,rfl,hp1,by omega,m0,by omega,fun r2 a2 H2 r20 r21 l2 u2 hp2 kp2=>?_⟩
  refine ⟨_,_,rfl,rfl,?_⟩
  refine ⟨_,rfl,_,rfl,_,rfl,_,rfl,_,rfl,_,rfl,_,rfl,_,_,rfl,rfl,_,_,rfl,rfl,p,c,ns,a2,_,rfl,hp2,by omega,by omega,by omega,fun r3 a3 H3 r30 r31 l3 u3 hp3 kp3=>?_⟩
  refine ⟨_,_,rfl,rfl,sizeLine_big (by show 4≤1000000;decide),fun q hq=>?_⟩
  have sq:=Same.new (o:=.lst [V.int lo,.int hi,.int (lo + r2),.int (lo + r3)]) hq
  obtain ⟨v,hv,hat⟩:=atI_in (xs:=[V.int lo,.int hi,.int (lo + r2),.int (lo + r3)]) (i:=r1) r10 (by show r1 < 4;omega)
  obtain ⟨n,rfl,hn0,hn1⟩:∃ n:Int,v=.int n∧lo≤n∧n≤hi:=by
   simp only [List.mem_cons,List.not_mem_nil,or_false] at hv
   rcases hv with rfl | rfl | rfl | rfl
   ·exact ⟨_,rfl,by omega,by omega⟩
   ·exact ⟨_,rfl,by omega,by omega⟩
   ·exact ⟨_,rfl,by omega,by omega⟩
   ·exact ⟨_,rfl,by omega,by omega⟩
  refine ⟨_,rfl,q,_,r1,_,rfl,rfl,SqL.of upd_same,hat,?_⟩
  exact k n a3 _ hn0 hn1 (by omega) (by omega) (hp3.same sq) (((kp1.trans kp2).trans kp3).same sq)
theorem erase_perm {α:Type}:∀ (l:List α) (j:Nat) (y:α),l[j]?=some y→(y :: l.eraseIdx j).Perm l
 | [],j,y,h=>by simp at h
 | x :: r,0,y,h=>by
  simp at h
  subst h
  simp
 | x :: r,j + 1,y,h=>by
  simp at h
  have ih:=erase_perm r j y h
  rw [List.eraseIdx_cons_succ]
  exact (List.Perm.swap x y _).trans (ih.cons x)
theorem erase_map {α β:Type} (f:α→β):∀ (l:List α) (j:Nat),(l.map f).eraseIdx j=(l.eraseIdx j).map f
 | [],j=>by simp
 | x :: r,0=>by simp
 | x :: r,j + 1=>by simp [erase_map f r j]
def spSorts:Sp:=fun vs H Q _=>∃ (p c:Addr) (ns:List Int) (a:Int) (nf nr:Nat),vs=[.ref p,.int nf,.int nr]∧PenAt H p c ns a∧a≤800000∧nf≤44∧nr≤44∧
 ∀ (t l1 l2 l3 l4:Addr) (ws ps hs rs:List Str) (a':Int) (H':Hp),H' t=some (.tup [.ref l1,.ref l2,.ref l3,.ref l4])→H' l1=some (.lst (ws.map V.str))→ws.length=nf→Nms ws→H' l2=some (.lst (ps.map V.str))→ps.length=10→Nms ps→H' l3=some (.lst (hs.map V.str))→hs.length=5→Nms hs→H' l4=some (.lst (rs.map V.str))→rs.length=nr→Nms rs→a≤a'→a'≤a + 200→PenAt H' p c ns a'→KeepBut p H H'→Q (.ref t) H'
def spDays:Sp:=fun vs H Q _=>∃ (p c:Addr) (ns:List Int) (a:Int) (m:Nat),vs=[.ref p,.int m]∧PenAt H p c ns a∧a≤800000∧m≤44∧
 ∀ (l:Addr) (ds:List Int) (a':Int) (H':Hp),H' l=some (.lst (ds.map V.int))→ds.length=m→(∀ d∈ds,0≤d∧d≤9999)→a≤a'→a'≤a + 200→PenAt H' p c ns a'→KeepBut p H H'→Q (.ref l) H'
def spSome:Sp:=fun vs H Q _=>∃ (p c:Addr) (ns:List Int) (a:Int) (l:Addr) (ws:List Str) (m:Nat),vs=[.ref p,.ref l,.int m]∧PenAt H p c ns a∧a≤800000∧H l=some (.lst (ws.map V.str))∧ws.length=10∧m≤6∧
 ∀ (q:Addr) (ms:List Str) (a':Int) (H':Hp),H' q=some (.lst (ms.map V.str))→ms.length=m→PyProof.Rows.sortedS ms=true→(∃ us vs:List Str,ms.Perm us∧(us ++ vs).Perm ws)→a≤a'→a'≤a + 10→PenAt H' p c ns a'→KeepBut p H H'→Q (.ref q) H'
theorem scSorts:FnScope ["_law_pen_here","_law_fields","_law_rows","_law_some_here","_law_plots","_law_houses"] ["_law_pen_here","_law_fields","_law_rows"] (defScope sSorts):=⟨rfl,rfl,rfl,by decide,rfl,by decide,by decide⟩
theorem ok_sorts {f fT fN:Addr}{fd fdT fdN:FuncData} (F:Fun K "_law_sorts" "_law_sorts" sSorts f fd)
  (GT:FnOk P w K mg base CX0 1 fT fdT ["_law_pen_here","_law_many"] spTake) (mT:mg "_law_take"=some (.ref fT)) (kT:PySem.W.keepIn K (.ref fT)=true) (bT:Binds K fdT ["_law_pen_here","_law_many"] [])
  (GN:FnOk P w K mg base CX0 2 fN fdN ["_law_pen_here","_law_many"] spNames) (mN:mg "_law_names"=some (.ref fN)) (kN:PySem.W.keepIn K (.ref fN)=true) (bN:Binds K fdN ["_law_pen_here","_law_many"] []):
  FnOk P w K mg base CX0 3 f fd ["_law_pen_here","_law_fields","_law_rows"] spSorts:=by
 refine F.ok scSorts (fun vs H Q E h=>?_) (fun cdv A outer s H vs Q E hr h=>?_)
 ·obtain ⟨p,c,ns,a,nf,nr,rfl,_⟩:=h
  rfl
 ·obtain ⟨p,c,ns,a,nf,nr,rfl,hp,ha,hf,hrr,k⟩:=h
  have hr1:Room 1 _:=hr.mono (by decide)
  refine ⟨_,pss_cons (ps_if (pt_cmpR op_eq (pe_call GT hr1 rfl mT kT bT .nil pass0 (pa_c (pv 0) (pa_c pe_int pa_nil))) pe_int (nomark _))
    (pss_cons (ps_set (i:=3) scSorts.nd rfl (Or.inl rfl) (pe_call GN hr rfl mN kN bN .nil pass0 (pa_c (pv 0) (pa_c pe_int pa_nil))))
    (pss_one (ps_ret (pe_tup (pa_c (pe_slice sl_list (pv 3) po_none (po_some (pv 1))) (pa_c (pe_slice sl_list (pv 3) po_none (po_some pe_int)) (pa_c (pe_slice sl_list (pv 3) po_none (po_some pe_int)) (pa_c (pe_slice sl_list (pv 3) po_none (po_some (pv 2))) pa_nil)))))))) pss_nil)
   (pss_cons (ps_set (i:=4) scSorts.nd rfl (Or.inl rfl) (pe_call GN hr rfl mN kN bN .nil pass0 (pa_c (pv 0) (pa_c pe_int pa_nil))))
   (pss_cons (ps_set (i:=5) scSorts.nd rfl (Or.inl rfl) (pe_call GN hr rfl mN kN bN .nil pass0 (pa_c (pv 0) (pa_c pe_int pa_nil))))
   (pss_one (ps_ret (pe_tup (pa_c (pe_call GN hr rfl mN kN bN .nil pass0 (pa_c (pv 0) (pa_c (pv 1) pa_nil))) (pa_c (pv 4) (pa_c (pv 5) (pa_c (pe_call GN hr rfl mN kN bN .nil pass0 (pa_c (pv 0) (pa_c (pv 2) pa_nil))) pa_nil))))))))),?_⟩
  refine ⟨_,rfl,p,c,ns,a,_,rfl,hp,by omega,by decide,by decide,fun r1 a1 H1 r10 r11 l1 u1 hp1 kp1=>?_⟩
  refine ⟨rfl,_,rfl,?_⟩
  have z4:(4:Nat)≤sizeLine:=sizeLine_big (by decide)
  refine ite2 (fun g=>?_) (fun g=>?_)
  ·refine ⟨_,rfl,p,c,ns,a1,44,rfl,hp1,by omega,by omega,fun L ws a2 H2 nL hL hwl hN l2 u2 hp2 kp2=>?_⟩
   have ec:∀ n:Nat,cutV (ws.map V.str) none (some (n:Int))=(ws.take n).map V.str:=fun n=>by rw [cut_to (α:=Nat),List.map_take]
   have ec10:cutV (ws.map V.str) none (some 10)=(ws.take 10).map V.str:=ec 10
   have ec5:cutV (ws.map V.str) none (some 5)=(ws.take 5).map V.str:=ec 5
   refine ⟨_,rfl,_,rfl,_,rfl,L,_,rfl,SqL.of hL,fun q1 hq1=>?_⟩
   rw [ec nf]
   have s1:=Same.new (o:=.lst ((ws.take nf).map V.str)) hq1
   refine ⟨_,rfl,_,rfl,L,_,rfl,SqL.of (s1 _ _ hL),fun q2 hq2=>?_⟩
   rw [ec10]
   have s2n:=Same.new (o:=.lst ((ws.take 10).map V.str)) hq2
   have s2:=s1.trans s2n
   refine ⟨_,rfl,_,rfl,L,_,rfl,SqL.of (s2 _ _ hL),fun q3 hq3=>?_⟩
   rw [ec5]
   have s3n:=Same.new (o:=.lst ((ws.take 5).map V.str)) hq3
   have s3:=s2.trans s3n
   refine ⟨_,rfl,_,rfl,_,rfl,L,_,rfl,SqL.of (s3 _ _ hL),fun q4 hq4=>?_⟩
   rw [ec nr]
   have s4n:=Same.new (o:=.lst ((ws.take nr).map V.str)) hq4
   have s4:=s3.trans s4n
   refine ⟨z4,fun t ht=>?_⟩
   have s5n:=Same.new (o:=.tup [V.ref q1,.ref q2,.ref q3,.ref q4]) ht
   have s5:=s4.trans s5n
   refine k t q1 q2 q3 q4 (ws.take nf) (ws.take 10) (ws.take 5) (ws.take nr) a2 _ upd_same (s5n _ _ (s4n _ _ (s3n _ _ (s2n _ _ upd_same)))) (by rw [List.length_take];omega) (hN.take nf) (s5n _ _ (s4n _ _ (s3n _ _ upd_same))) (by rw [List.length_take];omega) (hN.take 10) (s5n _ _ (s4n _ _ upd_same)) (by rw [List.length_take];omega) (hN.take 5) (s5n _ _ upd_same) (by rw [List.length_take];omega) (hN.take nr) (by omega) (by omega) (hp2.same s5) ((kp1.trans kp2).same s5)
  ·refine ⟨_,rfl,p,c,ns,a1,10,rfl,hp1,by omega,by omega,fun L1 ws1 a2 H2 nL1 hL1 hwl1 hN1 l2 u2 hp2 kp2=>?_⟩
   refine ⟨_,rfl,p,c,ns,a2,5,rfl,hp2,by omega,by omega,fun L2 ws2 a3 H3 nL2 hL2 hwl2 hN2 l3 u3 hp3 kp3=>?_⟩
   refine ⟨_,rfl,_,rfl,p,c,ns,a3,nf,rfl,hp3,by omega,by omega,fun L3 ws3 a4 H4 nL3 hL3 hwl3 hN3 l4 u4 hp4 kp4=>?_⟩
   refine ⟨_,rfl,_,rfl,_,rfl,_,rfl,p,c,ns,a4,nr,rfl,hp4,by omega,by omega,fun L4 ws4 a5 H5 nL4 hL4 hwl4 hN4 l5 u5 hp5 kp5=>?_⟩
   refine ⟨z4,fun t ht=>?_⟩
   have s5n:=Same.new (o:=.tup [V.ref L3,.ref L1,.ref L2,.ref L4]) ht
   exact k t L3 L1 L2 L4 ws3 ws1 ws2 ws4 a5 _ upd_same (s5n _ _ (lst_but hL3 hp4 kp5)) hwl3 hN3 (s5n _ _ (lst_but (lst_but (lst_but hL1 hp2 kp3) hp3 kp4) hp4 kp5)) hwl1 hN1 (s5n _ _ (lst_but (lst_but hL2 hp3 kp4) hp4 kp5)) hwl2 hN2 (s5n _ _ hL4) hwl4 hN4 (by omega) (by omega) (hp5.same s5n) (((((kp1.trans kp2).trans kp3).trans kp4).trans kp5).same s5n)
theorem scSome:FnScope ["_law_pen_here","_law_names_here","_law_many","_law_left","_law_found"] ["_law_pen_here","_law_names_here","_law_many"] (defScope sSome):=⟨rfl,rfl,rfl,by decide,rfl,by decide,by decide⟩
theorem ok_some {f fT:Addr}{fd fdT:FuncData} (F:Fun K "_law_some" "_law_some" sSome f fd) (hlist:mg "list"=none) (hrng:mg "range"=none) (hsor:mg "sorted"=none) (hlen:mg "len"=none)
  (GT:FnOk P w K mg base CX0 1 fT fdT ["_law_pen_here","_law_many"] spTake) (mT:mg "_law_take"=some (.ref fT)) (kT:PySem.W.keepIn K (.ref fT)=true) (bT:Binds K fdT ["_law_pen_here","_law_many"] []):
  FnOk P w K mg base CX0 2 f fd ["_law_pen_here","_law_names_here","_law_many"] spSome:=by
 refine F.ok scSome (fun vs H Q E h=>?_) (fun cdv A outer s H vs Q E hr h=>?_)
 ·obtain ⟨p,c,ns,a,l,ws,m,rfl,_⟩:=h
  rfl
 ·obtain ⟨p,c,ns,a,l,ws,m,rfl,hp,ha,hl,hwl,hm,k⟩:=h
  refine ⟨_,pss_cons (ps_set (i:=3) scSome.nd rfl (Or.inr rfl) (pe_callTy call_list_of (by rfl) hlist (by kernel_rfl) (pa_c (pv 1) pa_nil)))
   (pss_cons (ps_setComp (i:=4) (N:=["_law_k","_law_left","_law_pen_here"]) (src:=[none,some 3,some 0]) (osc:=defScope sSome) (oN:=["_law_pen_here","_law_names_here","_law_many","_law_left","_law_found"]) ⟨by rfl,by decide,by decide,by decide,rfl,by rfl⟩ scSome.nd rfl
     (pi_range1 rfl hrng (pa_c (pv 2) pa_nil))
     fun cl s H fp pins C=>⟨pg_name (i:=0) (show (["_law_k","_law_left","_law_pen_here"]:List Str).Nodup by decide) rfl (Or.inl rfl),pts_nil,pe_bmK (K:=K) PySem.F.plainAttrs_list PySem.F.slot_list_pop PySem.F.type_list_pop mt_popAt (pv 1) (pa_c (pe_call GT hr rfl mT kT bT .nil pass0 (pa_c (pv 2) (pa_c (pe_callB (r:=fun xs H Q=>∃ p ys,xs=[V.ref p]∧(SqL K H p ys∨SqT K H p ys)∧Q (.int ys.length) H) call_len_seq (by rfl) hlen PySem.boot_len (pa_c (pv 1) pa_nil)) pa_nil))) pa_nil)⟩)
   (pss_one (ps_ret (pe_callB call_sortedS (by rfl) hsor (by kernel_rfl) (pa_c (pv 4) pa_nil))))),?_⟩
  refine ⟨_,rfl,l,_,rfl,.inl (SqL.of hl),fun L hL=>?_⟩
  have s0:=Same.new (o:=.lst (ws.map V.str)) hL
  have nLp:L≠p:=by
   obtain ⟨z,_,e⟩:=hp.ob
   exact (ne_of_none e hL).symm
  have nLc:L≠c:=(ne_of_none hp.ce hL).symm
  refine ⟨_,rfl,m,rfl,by omega,by omega,?_⟩
  refine comp_range (fun i ys σ' H'=>∃ (a':Int) (us vs:List Str) (o:Option V),σ'=[o,some (.ref L),some (.ref p)]∧PenAt H' p c ns a'∧KeepBut p H H'∧a≤a'∧a'≤a + i∧ys=us.map V.str∧us.length=i∧H' L=some (.lst (vs.map V.str))∧vs.length + i=10∧(us ++ vs).Perm ws)
   ⟨a,[],ws,none,rfl,hp.same s0,Same.but s0,by omega,by omega,rfl,rfl,upd_same,by omega,List.Perm.refl _⟩ (sizeLine_big (by omega)) (fun i ys σ H p=>by obtain ⟨_,us,_,_,_,_,_,_,_,rfl,e,_⟩:=p;rw [List.length_map,e];exact Nat.le_refl _) ?_ ?_
  ·rintro i ys σ' H1 hi ⟨a1,us,vs,o,rfl,hp1,kp1,la1,ua1,rfl,hul,hL1,hvl,hpe⟩
   dsimp only [gName]
   refine iteT ?_
   refine ⟨_,rfl,.inl ⟨rfl,_,SqL.of hL1⟩,_,rfl,_,rfl,L,_,rfl,.inl (SqL.of hL1),p,c,ns,a1,_,rfl,hp1,by omega,by rw [List.length_map];omega,by rw [List.length_map];omega,fun r1 a2 H2 r10 r11 la2 ua2 hp2 kp2=>?_⟩
   rw [List.length_map] at r11
   obtain ⟨j,rfl⟩:∃ j:Nat,r1=j:=⟨r1.toNat,by omega⟩
   have hL2:=lst_but hL1 hp1 kp2
   obtain ⟨y,hy⟩:∃ y,vs[j]?=some y:=⟨_,List.getElem?_eq_getElem (by omega)⟩
   have hsx:seqIndex? (j:Int) (vs.map V.str).length=some j:=by
    rw [List.length_map]
    unfold seqIndex?
    simp
    omega
   refine ⟨L,_,_,j,V.str y,rfl,rfl,hL2,by omega,by omega,hsx,by rw [List.getElem?_map,hy];rfl,?_⟩
   refine ⟨a2,us ++ [y],vs.eraseIdx j,_,rfl,?_,?_,by omega,by omega,by rw [List.map_append];rfl,by rw [List.length_append,hul];rfl,?_,?_,?_⟩
   ·obtain ⟨⟨z,hz,e⟩,ce,ge,sm⟩:=hp2
    exact ⟨⟨z,hz,by rw [upd_ne nLp.symm];exact e⟩,by rw [upd_ne nLc.symm];exact ce,ge,sm⟩
   ·intro b o e ne
    rw [upd_ne (ne_of_none e hL)]
    exact (kp1.trans kp2) b o e ne
   ·rw [upd_same]
    congr 2
    exact erase_map V.str vs j
   ·rw [List.length_eraseIdx_of_lt (by omega)]
    omega
   ·rw [List.append_assoc]
    exact (List.Perm.append_left us (erase_perm vs j y hy)).trans hpe
  ·rintro ys σ' H1 ⟨a1,us,vs,o,rfl,hp1,kp1,la1,ua1,rfl,hul,hL1,hvl,hpe⟩ D hD
   have sD:=Same.new (o:=.lst (us.map V.str)) hD
   refine ⟨_,rfl,D,us,rfl,SqL.of upd_same,by omega,fun q ms hq hpm hsm=>?_⟩
   have s2:=Same.new (o:=.lst (ms.map V.str)) hq
   exact k q ms a1 _ upd_same (by rw [hpm.length_eq,hul];omega) hsm ⟨us,vs,hpm,hpe⟩ (by omega) (by omega) ((hp1.same sD).same s2) ((kp1.same sD).same s2)
theorem scDays:FnScope ["_law_pen_here","_law_many","_law_way","_law_some_here","_law_k","_law_few","_law_found"] ["_law_pen_here","_law_many"] (defScope sDays):=⟨rfl,rfl,rfl,by decide,rfl,by decide,by decide⟩
theorem ok_days {f fT:Addr}{fd fdT:FuncData} (F:Fun K "_law_days" "_law_days" sDays f fd) (hrng:mg "range"=none) (hlen:mg "len"=none) (hint:mg "int"=none)
  (GT:FnOk P w K mg base CX0 1 fT fdT ["_law_pen_here","_law_many"] spTake) (mT:mg "_law_take"=some (.ref fT)) (kT:PySem.W.keepIn K (.ref fT)=true) (bT:Binds K fdT ["_law_pen_here","_law_many"] []):
  FnOk P w K mg base CX0 2 f fd ["_law_pen_here","_law_many"] spDays:=by
 refine F.ok scDays (fun vs H Q E h=>?_) (fun cdv A outer s H vs Q E hr h=>?_)
 ·obtain ⟨p,c,ns,a,m,rfl,_⟩:=h
  rfl
 ·obtain ⟨p,c,ns,a,m,rfl,hp,ha,hm,k⟩:=h
  refine ⟨_,pss_cons (ps_set (i:=2) scDays.nd rfl (Or.inl rfl) (pe_call GT hr rfl mT kT bT .nil pass0 (pa_c (pv 0) (pa_c pe_int pa_nil))))
   (pss_cons (ps_set (i:=3) scDays.nd rfl (Or.inr rfl) (pe_lst (pa_c pe_int (pa_c pe_int (pa_c pe_int (pa_c pe_int (pa_c (pe_call GT hr rfl mT kT bT .nil pass0 (pa_c (pv 0) (pa_c pe_int pa_nil))) (pa_c (pe_call GT hr rfl mT kT bT .nil pass0 (pa_c (pv 0) (pa_c pe_int pa_nil))) pa_nil))))))))
   (pss_cons (ps_setComp (i:=5) (N:=["_law_k","_law_some_here","_law_pen_here"]) (src:=[none,some 3,some 0]) (osc:=defScope sDays) (oN:=["_law_pen_here","_law_many","_law_way","_law_some_here","_law_k","_law_few","_law_found"]) ⟨by rfl,by decide,by decide,by decide,rfl,by rfl⟩ scDays.nd rfl
     (pi_range1 rfl hrng (pa_c (pe_op op_add pe_int (pe_call GT hr rfl mT kT bT .nil pass0 (pa_c (pv 0) (pa_c pe_int pa_nil)))) pa_nil))
     fun cl s H fp pins C=>⟨pg_name (i:=0) (show (["_law_k","_law_some_here","_law_pen_here"]:List Str).Nodup by decide) rfl (Or.inl rfl),pts_nil,pe_ix (r:=rIxL K) ix_list (pv 1) (pe_call GT hr rfl mT kT bT .nil pass0 (pa_c (pv 2) (pa_c pe_int pa_nil))) (fun _ _=>rfl)⟩)
   (pss_cons (ps_set (i:=6) scDays.nd rfl (Or.inl rfl) (pe_lst pa_nil))
   (pss_cons (ps_for PassesOwn.never rfl (pi_range1 rfl hrng (pa_c (pv 1) pa_nil)) (pg_name (i:=4) scDays.nd rfl (Or.inl rfl))
    (pss_one (ps_expr (pe_bm PySem.F.plainAttrs_list PySem.F.slot_list_append PySem.F.type_list_append mt_append (pv 6) (pa_c (pe_ix ix_list (pe_lst (pa_c (pe_ix ix_list (pv 5) (pe_call GT hr rfl mT kT bT .nil pass0 (pa_c (pv 0) (pa_c (pe_callB call_len_seq (by rfl) hlen PySem.boot_len (pa_c (pv 5) pa_nil)) pa_nil))) (fun _ _=>rfl)) (pa_c (pe_call GT hr rfl mT kT bT .nil pass0 (pa_c (pv 0) (pa_c pe_int pa_nil))) pa_nil)))
      (pe_callTy call_int1 (by rfl) hint (by kernel_rfl) (pa_c (pe_cmpR op_eq (pv 2) pe_int (nomark _)) pa_nil)) (fun _ _=>rfl)) pa_nil)))))
   (pss_one (ps_ret (pv 6))))))),?_⟩
  refine ⟨_,rfl,p,c,ns,a,_,rfl,hp,by omega,by decide,by decide,fun wy a1 H1 w0 w1 la1 ua1 hp1 kp1=>?_⟩
  refine ⟨_,rfl,p,c,ns,a1,_,rfl,hp1,by omega,by decide,by decide,fun x1 a2 H2 x10 x11 la2 ua2 hp2 kp2=>?_⟩
  refine ⟨_,rfl,p,c,ns,a2,_,rfl,hp2,by omega,by decide,by decide,fun x2 a3 H3 x20 x21 la3 ua3 hp3 kp3=>?_⟩
  refine ⟨sizeLine_big (by show 6≤1000000;decide),fun L hL=>?_⟩
  have sL:=Same.new (o:=.lst [V.int 0,.int 1,.int 9,.int 9999,.int x1,.int x2]) hL
  have hin:∀ v∈[V.int 0,.int 1,.int 9,.int 9999,.int x1,.int x2],∃ d:Int,v=.int d∧0≤d∧d≤9999:=by
   intro v hv
   simp only [List.mem_cons,List.not_mem_nil,or_false] at hv
   rcases hv with rfl | rfl | rfl | rfl | rfl | rfl
   ·exact ⟨_,rfl,by omega,by omega⟩
   ·exact ⟨_,rfl,by omega,by omega⟩
   ·exact ⟨_,rfl,by omega,by omega⟩
   ·exact ⟨_,rfl,by omega,by omega⟩
   ·exact ⟨_,rfl,by omega,by omega⟩
   ·exact ⟨_,rfl,by omega,by omega⟩
  have hp4:=hp3.same sL
  have k4:KeepBut p H _:=((kp1.trans kp2).trans kp3).same sL
  have hL4:upd H3 L (.lst [V.int 0,.int 1,.int 9,.int 9999,.int x1,.int x2]) L=_:=upd_same
  generalize upd H3 L (.lst [V.int 0,.int 1,.int 9,.int 9999,.int x1,.int x2])=H4 at hp4 k4 hL4 ⊢
  refine ⟨_,rfl,p,c,ns,a3,_,rfl,hp4,by omega,by decide,by decide,fun r1 a5 H5 r10 r11 la5 ua5 hp5 kp5=>?_⟩
  refine ⟨_,_,rfl,rfl,_,rfl,by omega,by omega,?_⟩
  have hL5:=lst_but hL4 hp4 kp5
  refine comp_range (fun i ys σ' H'=>∃ (a':Int) (ds:List Int) (o:Option V),σ'=[o,some (.ref L),some (.ref p)]∧PenAt H' p c ns a'∧KeepBut p H H'∧a5≤a'∧a'≤a5 + i∧ys=ds.map V.int∧ds.length=i∧(∀ d∈ds,0≤d∧d≤9999)∧H' L=some (.lst [V.int 0,.int 1,.int 9,.int 9999,.int x1,.int x2]))
   ⟨a5,[],none,rfl,hp5,k4.trans kp5,by omega,by omega,rfl,rfl,(fun d hd=>by simp at hd),hL5⟩ (sizeLine_big (by omega)) (fun i ys σ H p=>by obtain ⟨_,ds,_,_,_,_,_,_,rfl,e,_⟩:=p;rw [List.length_map,e];exact Nat.le_refl _) ?_ ?_
  ·rintro i ys σ' H6 hi ⟨a6,ds,o,rfl,hp6,k6,la6,ua6,rfl,hdl,hds,hL6⟩
   dsimp only [gName]
   refine iteT ?_
   refine ⟨_,rfl,_,rfl,p,c,ns,a6,_,rfl,hp6,by omega,by decide,by decide,fun r2 a7 H7 r20 r21 la7 ua7 hp7 kp7=>?_⟩
   have hL7:=lst_but hL6 hp6 kp7
   obtain ⟨v,hv,hat⟩:=atI_in (xs:=[V.int 0,.int 1,.int 9,.int 9999,.int x1,.int x2]) (i:=r2) r20 (by show r2 < 6;omega)
   obtain ⟨d,rfl,hd0,hd1⟩:=hin v hv
   refine ⟨L,_,r2,_,rfl,rfl,SqL.of hL7,hat,?_⟩
   refine ⟨a7,ds ++ [d],_,rfl,hp7,k6.trans kp7,by omega,by omega,by rw [List.map_append];rfl,by rw [List.length_append,hdl];rfl,fun z hz=>?_,hL7⟩
   rcases List.mem_append.mp hz with y | y
   ·exact hds z y
   ·rw [List.mem_singleton.mp y];exact ⟨hd0,hd1⟩
  ·rintro ys σ' H6 ⟨a6,ds,o,rfl,hp6,k6,la6,ua6,rfl,hdl,hds,hL6⟩ D hD
   have sD:=Same.new (o:=.lst (ds.map V.int)) hD
   have hp7:=hp6.same sD
   have k7:=k6.same sD
   have hD7:upd H6 D (.lst (ds.map V.int)) D=_:=upd_same
   generalize upd H6 D (.lst (ds.map V.int))=H7 at hp7 k7 hD7 ⊢
   refine ⟨Nat.zero_le _,fun R hR=>?_⟩
   have sR:=Same.new (o:=.lst []) hR
   have nRp:R≠p:=by
    obtain ⟨z,_,e⟩:=hp7.ob
    exact (ne_of_none e hR).symm
   have nRc:R≠c:=(ne_of_none hp7.ce hR).symm
   have nDR:D≠R:=ne_of_none hD7 hR
   have hHR:H R=none:=by
    cases e:H R with
    | none=>rfl
    | some x=>exact absurd (k7 R x e nRp) (by rw [hR];simp)
   refine ⟨_,rfl,m,rfl,by omega,by omega,for_range (n:=(m:Int).toNat) (fun i σ H'=>∃ (o4:Option V) (a':Int) (es:List Int),σ=[some (.ref p),some (.int m),some (.int wy),some (.ref L),o4,some (.ref D),some (.ref R)]∧PenAt H' p c ns a'∧a6≤a'∧a'≤a6 + 2 * i∧KeepBut p H H'∧H' D=some (.lst (ds.map V.int))∧H' R=some (.lst (es.map V.int))∧es.length=i∧∀ d∈es,0≤d∧d≤9999)
    ⟨_,a6,[],rfl,hp7.same sR,by omega,by simp,k7.same sR,sR _ _ hD7,upd_same,rfl,fun d hd=>by simp at hd⟩ ?_ ?_⟩
   ·rintro i σ H8 hi ⟨o4,a8,es,rfl,hp8,la8,ua8,k8,hD8,hR8,hel,hes⟩
    dsimp only [gName]
    refine ⟨_,rfl,.inl ⟨rfl,_,SqL.of hR8⟩,_,rfl,_,rfl,_,rfl,D,_,rfl,.inl (SqL.of hD8),p,c,ns,a8,_,rfl,hp8,by omega,by rw [List.length_map];omega,by rw [List.length_map];omega,fun r3 a9 H9 r30 r31 la9 ua9 hp9 kp9=>?_⟩
    have hD9:=lst_but hD8 hp8 kp9
    have hR9:=lst_but hR8 hp8 kp9
    obtain ⟨v,hv,hat⟩:=atI_in (xs:=ds.map V.int) (i:=r3) r30 r31
    obtain ⟨d,hd,rfl⟩:=List.mem_map.mp hv
    refine ⟨D,_,r3,_,rfl,rfl,SqL.of hD9,hat,?_⟩
    refine ⟨_,rfl,p,c,ns,a9,_,rfl,hp9,by omega,by decide,by decide,fun r4 b1 G1 r40 r41 lb1 ub1 hpb kpb=>?_⟩
    refine ⟨sizeLine_big (by show 2≤1000000;decide),fun q hq=>?_⟩
    have sq:=Same.new (o:=.lst [V.int d,.int r4]) hq
    refine ⟨_,rfl,rfl,.inr ⟨_,rfl,?_⟩⟩
    obtain ⟨z,hz,z0,z1⟩:∃ z:Int,(if decide (V.int wy=V.int 0)=true then (1:Int) else 0)=z∧0≤z∧z≤1:=by
     refine ⟨_,rfl,?_⟩
     split <;> omega
    rw [hz]
    obtain ⟨v,hv,hat⟩:=atI_in (xs:=[V.int d,.int r4]) (i:=z) z0 (by show z < 2;omega)
    obtain ⟨dd,rfl,hdd⟩:∃ dd:Int,v=.int dd∧0≤dd∧dd≤9999:=by
     simp only [List.mem_cons,List.not_mem_nil,or_false] at hv
     rcases hv with rfl | rfl
     ·exact ⟨_,rfl,hds d hd⟩
     ·exact ⟨_,rfl,by omega,by omega⟩
    refine ⟨q,_,z,_,rfl,rfl,SqL.of upd_same,hat,?_⟩
    have hRq:=sq _ _ (lst_but hR9 hp9 kpb)
    have hDq:=sq _ _ (lst_but hD9 hp9 kpb)
    have hpq:=hpb.same sq
    have kq:=((k8.trans kp9).trans kpb).same sq
    refine ⟨R,_,_,rfl,rfl,hRq,by rw [List.length_map];exact small1000 (by omega),?_⟩
    refine ⟨_,b1,es ++ [dd],rfl,?_,by omega,by omega,?_,by rw [upd_ne nDR];exact hDq,by rw [upd_same,List.map_append];rfl,by rw [List.length_append,hel];rfl,fun z hz=>?_⟩
    ·obtain ⟨⟨z,hz,e⟩,ce,ge,sm⟩:=hpq
     exact ⟨⟨z,hz,by rw [upd_ne nRp.symm];exact e⟩,by rw [upd_ne nRc.symm];exact ce,ge,sm⟩
    ·intro b o e ne
     rw [upd_ne (ne_of_none e hHR)]
     exact kq b o e ne
    ·rcases List.mem_append.mp hz with y | y
     ·exact hes z y
     ·rw [List.mem_singleton.mp y];exact hdd
   ·rintro σ H8 ⟨o4,a8,es,rfl,hp8,la8,ua8,k8,hD8,hR8,hel,hes⟩
    exact ⟨_,rfl,k R es a8 H8 hR8 (by omega) hes (by omega) (by omega) hp8 k8⟩
def pD (x:P3):PyData:=.tuple [.str x.1,.str x.2.1,.int x.2.2]
theorem read_strs {m:Bool}{H:Hp}:∀ {T:List Str},(∀ z∈T,z.length≤1000)→RdVs m H (T.map V.str) (T.map PyData.str)
 | [],_=>.nil
 | t :: T,h=>.cons (.str t (h t (by simp))) (read_strs fun z hz=>h z (by simp [hz]))
end
end K37
namespace K37
open PySem L2
section
variable {P:Program}{w:World}{K:PySem.W.Frag}{mg:Str→Option Value}{base:Heap}
theorem mod_other {n j:Nat}{r:Int} (hj:j < n) (h0:0≤r) (h1:r < (n:Int) - 1):∃ j4:Nat,((j:Int) + 1 + r) % (n:Int)=j4∧j4 < n∧j4≠j:=by
 by_cases h:(j:Int) + 1 + r < n
 ·exact ⟨((j:Int) + 1 + r).toNat,by rw [Int.emod_eq_of_lt (by omega) h];omega,by omega,by omega⟩
 ·refine ⟨((j:Int) + 1 + r - n).toNat,?_,by omega,by omega⟩
  rw [← Int.sub_emod_right,Int.emod_eq_of_lt (by omega) (by omega)]
  omega
structure S3 (H:Hp) (lf lp lh:Addr) (fs ps hs:List Str):Prop where
 f:H lf=some (.lst (fs.map V.str))
 p:H lp=some (.lst (ps.map V.str))
 h:H lh=some (.lst (hs.map V.str))
 f1:1≤fs.length
 f2:fs.length≤44
 p1:ps.length=10
 h1:2≤hs.length∧hs.length≤44
 nf:Nms fs
 np:Nms ps
 nh:Nms hs
theorem S3.but {H H':Hp}{lf lp lh:Addr}{fs ps hs:List Str}{p c:Addr}{ns:List Int}{t:Int} (x:S3 H lf lp lh fs ps hs) (hp:PenAt H p c ns t) (k:KeepBut p H H'):S3 H' lf lp lh fs ps hs:=⟨lst_but x.f hp k,lst_but x.p hp k,lst_but x.h hp k,x.f1,x.f2,x.p1,x.h1,x.nf,x.np,x.nh⟩
theorem S3.same {H H':Hp}{lf lp lh:Addr}{fs ps hs:List Str} (x:S3 H lf lp lh fs ps hs) (k:Same H H'):S3 H' lf lp lh fs ps hs:=⟨k _ _ x.f,k _ _ x.p,k _ _ x.h,x.f1,x.f2,x.p1,x.h1,x.nf,x.np,x.nh⟩
inductive RowS:Str→List PyData→Prop
 | part {land:Str} {R:List P3} (hl:nameB land=true) (hr:RiseP R) (h2:2≤R.length) (h6:R.length≤6) (ha:(R.map pD).all partD=true):RowS "part" [.str land,.tuple (R.map pD)]
 | join {land:Str} {R:List Str} (hl:nameB land=true) (hr:risingB R=true) (h2:2≤R.length) (h6:R.length≤6) (ha:(R.map PyData.str).all nameD=true):RowS "join" [.tuple (R.map PyData.str),.str land]
 | forfeit {land house:Str} (hl:nameB land=true) (hh:nameB house=true):RowS "forfeit" [.str land,.str house]
 | measure {field:Str} {n:Int} (hf:nameB field=true) (h0:0≤n) (h1:n≤10000000):RowS "measure" [.str field,.int n]
 | mend {house other:Str} (hh:nameB house=true) (ho:nameB other=true) (hne:house≠other):RowS "mend" [.str house,.str other]
 | alone {house:Str} (hh:nameB house=true):RowS "alone" [.str house]
 | breach {field:Str} {n1 n2 n3:Int} (hf:nameB field=true) (h10:0≤n1) (h11:n1≤9999999) (h20:0≤n2) (h21:n2≤1000000000) (h30:0≤n3) (h31:n3≤1000000):RowS "breach" [.str field,.int n1,.int n2,.int n3]
 | view {field house:Str} {n1:Int} (hf:nameB field=true) (h10:0≤n1) (h11:n1≤9999999) (hh:nameB house=true):RowS "view" [.str field,.int n1,.str house]
def rowDat (word name:Str) (day:Int) (ds:List PyData):PyData:=.tuple (.str word :: .str name :: .int day :: ds)
theorem nm_rd {m:Bool}{H:Hp}{z:Str} (h:nameB z=true):RdV m H (.str z) (.str z):=.str z (by have:=(nameB_len h).2;omega)
theorem word_len {w:Str} (h:w∈words8):w.length≤1000:=by
 have:∀ w∈words8,w.length≤1000:=by decide
 exact this w h
theorem some_rises {ms us vs ws:List Str} (hs:PyProof.Rows.sortedS ms=true) (hp:ms.Perm us) (hq:(us ++ vs).Perm ws) (hn:Nms ws):risingB ms=true∧∀ z∈ms,nameB z=true:=by
 have hnu:us.Nodup:=(List.nodup_append.mp (hq.nodup_iff.mpr hn.nd)).1
 have hnm:ms.Nodup:=hp.nodup_iff.mpr hnu
 refine ⟨decide_eq_true (((sortedS_pair ms hs).and hnm).imp fun {a b} h=>?_),fun z hz=>hn.ok z (hq.mem_iff.mp (List.mem_append_left _ (hp.mem_iff.mp hz)))⟩
 rcases Decidable.em (a.cps.toList < b.cps.toList) with z | z
 ·exact z
 ·exact absurd (cps_inj (List.le_antisymm (List.not_lt.mp h.1) (List.not_lt.mp z))) h.2
def FIn (word:Str) (ds:List PyData) (fs:List Str):Prop:=inV (.str word) [V.str "measure",.str "breach",.str "view"]=true→∀ z rest,ds=.str z :: rest→z∈fs
def spRowOf:Sp:=fun vs H Q _=>∃ (p c:Addr) (ns:List Int) (a:Int) (word name:Str) (day:Int) (tS lf lp lh:Addr) (fs ps hs:List Str),vs=[.ref p,.str word,.str name,.int day,.ref tS]∧PenAt H p c ns a∧a≤700000∧H tS=some (.tup [.ref lf,.ref lp,.ref lh])∧S3 H lf lp lh fs ps hs∧word∈words8∧nameB name=true∧
 ∀ (t:Addr) (ds:List PyData) (rest:List V) (a':Int) (H':Hp),H' t=some (.tup (.str word :: .str name :: .int day :: rest))→RdVs false H' rest ds→RowS word ds→FIn word ds fs→a≤a'→a'≤a + 80→PenAt H' p c ns a'→KeepBut p H H'→Q (.ref t) H'
theorem scRowOf:FnScope ["_law_pen_here","_law_word","_law_name","_law_day","_law_sorts_here","_law_fields","_law_plots","_law_houses","_law_land","_law_at","_law_house","_law_field","_law_some_here","_law_parts","_law_inch"] ["_law_pen_here","_law_word","_law_name","_law_day","_law_sorts_here"] (defScope sRowOf):=⟨rfl,rfl,rfl,by decide,rfl,by decide,by decide⟩
theorem ok_rowOf {f fT fN fS:Addr}{fd fdT fdN fdS:FuncData} (F:Fun K "_law_row_of" "_law_row_of" sRowOf f fd) (hlen:mg "len"=none) (htup:mg "tuple"=none)
  (GT:FnOk P w K mg base CX0 1 fT fdT ["_law_pen_here","_law_many"] spTake) (mT:mg "_law_take"=some (.ref fT)) (kT:PySem.W.keepIn K (.ref fT)=true) (bT:Binds K fdT ["_law_pen_here","_law_many"] [])
  (GN:FnOk P w K mg base CX0 2 fN fdN ["_law_pen_here","_law_bottom","_law_most"] spNum) (mN:mg "_law_number"=some (.ref fN)) (kN:PySem.W.keepIn K (.ref fN)=true) (bN:Binds K fdN ["_law_pen_here","_law_bottom","_law_most"] [])
  (GS:FnOk P w K mg base CX0 2 fS fdS ["_law_pen_here","_law_names_here","_law_many"] spSome) (mS:mg "_law_some"=some (.ref fS)) (kS:PySem.W.keepIn K (.ref fS)=true) (bS:Binds K fdS ["_law_pen_here","_law_names_here","_law_many"] []):
  FnOk P w K mg base CX0 3 f fd ["_law_pen_here","_law_word","_law_name","_law_day","_law_sorts_here"] spRowOf:=by
 refine F.ok scRowOf (fun vs H Q E h=>?_) (fun cdv A outer s H vs Q E hr h=>?_)
 ·obtain ⟨p,c,ns,a,word,name,day,tS,lf,lp,lh,fs,ps,hs,rfl,_⟩:=h
  rfl
 ·obtain ⟨p,c,ns,a,word,name,day,tS,lf,lp,lh,fs,ps,hs,rfl,hp,ha,htS,h3,hwd,hnm,k⟩:=h
  have hr1:Room 1 _:=hr.mono (by decide)
  refine ⟨_,pss_cons (ps_asg (pv 4) (pg_tup rfl (pgs_cons (pg_name (i:=5) scRowOf.nd rfl (Or.inl rfl)) (pgs_cons (pg_name (i:=6) scRowOf.nd rfl (Or.inl rfl)) (pgs_cons (pg_name (i:=7) scRowOf.nd rfl (Or.inr rfl)) pgs_nil)))))
   (pss_cons (ps_set (i:=8) scRowOf.nd rfl (Or.inl rfl) (pe_ix ix_list (pv 6) (pe_call GT hr1 rfl mT kT bT .nil pass0 (pa_c (pv 0) (pa_c (pe_callB call_len_seq (by rfl) hlen PySem.boot_len (pa_c (pv 6) pa_nil)) pa_nil))) (fun _ _=>rfl)))
   (pss_cons (ps_set (i:=9) scRowOf.nd rfl (Or.inl rfl) (pe_call GT hr1 rfl mT kT bT .nil pass0 (pa_c (pv 0) (pa_c (pe_callB call_len_seq (by rfl) hlen PySem.boot_len (pa_c (pv 7) pa_nil)) pa_nil))))
   (pss_cons (ps_set (i:=10) scRowOf.nd rfl (Or.inl rfl) (pe_ix ix_list (pv 7) (pv 9) (fun _ _=>rfl)))
   (pss_cons (ps_set (i:=11) scRowOf.nd rfl (Or.inl rfl) (pe_ix ix_list (pv 5) (pe_call GT hr1 rfl mT kT bT .nil pass0 (pa_c (pv 0) (pa_c (pe_callB call_len_seq (by rfl) hlen PySem.boot_len (pa_c (pv 5) pa_nil)) pa_nil))) (fun _ _=>rfl)))
   (pss_cons (ps_if (pt_cmpR op_in_seq (pv 1) (pe_tup (pa_c pe_str (pa_c pe_str pa_nil))) (by with_unfolding_all rfl))
    (pss_cons (ps_set (i:=12) scRowOf.nd rfl (Or.inl rfl) (pe_call GS hr rfl mS kS bS .nil pass0 (pa_c (pv 0) (pa_c (pv 6) (pa_c (pe_ix ix_list (pe_lst (pa_c pe_int (pa_c pe_int (pa_c (pe_op op_add pe_int (pe_call GT hr1 rfl mT kT bT .nil pass0 (pa_c (pv 0) (pa_c pe_int pa_nil)))) pa_nil)))) (pe_call GT hr1 rfl mT kT bT .nil pass0 (pa_c (pv 0) (pa_c pe_int pa_nil))) (fun _ _=>rfl)) pa_nil)))))
    (pss_cons (ps_if (pt_cmpR op_eq (pv 1) pe_str (nomark _)) (pss_one (ps_ret (pe_tup (pa_c (pv 1) (pa_c (pv 2) (pa_c (pv 3) (pa_c (pe_callTy call_tuple_of (by rfl) htup (by kernel_rfl) (pa_c (pv 12) pa_nil)) (pa_c (pv 8) pa_nil)))))))) pss_nil)
    (pss_cons (ps_setComp (i:=13) (N:=["_law_one","_law_houses","_law_pen_here"]) (src:=[none,some 7,some 0]) (osc:=defScope sRowOf) (oN:=["_law_pen_here","_law_word","_law_name","_law_day","_law_sorts_here","_law_fields","_law_plots","_law_houses","_law_land","_law_at","_law_house","_law_field","_law_some_here","_law_parts","_law_inch"]) ⟨by rfl,by decide,by decide,by decide,rfl,by rfl⟩ scRowOf.nd rfl
      (pi_list (pv 12))
      fun cl s H fp pins C=>⟨pg_name (i:=0) (show (["_law_one","_law_houses","_law_pen_here"]:List Str).Nodup by decide) rfl (Or.inl rfl),pts_nil,pe_tup (pa_c (pv 0) (pa_c (pe_ix (r:=rIxL K) ix_list (pv 1) (pe_call GT hr1 rfl mT kT bT .nil pass0 (pa_c (pv 2) (pa_c (pe_callB (r:=fun xs H Q=>∃ p ys,xs=[V.ref p]∧(SqL K H p ys∨SqT K H p ys)∧Q (.int ys.length) H) call_len_seq (by rfl) hlen PySem.boot_len (pa_c (pv 1) pa_nil)) pa_nil))) (fun _ _=>rfl)) (pa_c (pe_call GN hr rfl mN kN bN .nil pass0 (pa_c (pv 2) (pa_c pe_int (pa_c (pe_op op_pow pe_int pe_int) pa_nil)))) pa_nil)))⟩)
    (pss_one (ps_ret (pe_tup (pa_c (pv 1) (pa_c (pv 2) (pa_c (pv 3) (pa_c (pv 8) (pa_c (pe_callTy call_tuple_of (by rfl) htup (by kernel_rfl) (pa_c (pv 13) pa_nil)) pa_nil)))))))))))
    pss_nil)
   (pss_cons (ps_if (pt_cmpR op_eq (pv 1) pe_str (nomark _)) (pss_one (ps_ret (pe_tup (pa_c (pv 1) (pa_c (pv 2) (pa_c (pv 3) (pa_c (pv 8) (pa_c (pv 10) pa_nil)))))))) pss_nil)
   (pss_cons (ps_if (pt_cmpR op_eq (pv 1) pe_str (nomark _)) (pss_one (ps_ret (pe_tup (pa_c (pv 1) (pa_c (pv 2) (pa_c (pv 3) (pa_c (pv 11) (pa_c (pe_call GN hr rfl mN kN bN .nil pass0 (pa_c (pv 0) (pa_c pe_int (pa_c (pe_op op_pow pe_int pe_int) pa_nil)))) pa_nil)))))))) pss_nil)
   (pss_cons (ps_if (pt_cmpR op_eq (pv 1) pe_str (nomark _)) (pss_one (ps_ret (pe_tup (pa_c (pv 1) (pa_c (pv 2) (pa_c (pv 3) (pa_c (pv 10) (pa_c (pe_ix ix_list (pv 7) (pe_op op_mod (pe_op op_add (pe_op op_add (pv 9) pe_int) (pe_call GT hr1 rfl mT kT bT .nil pass0 (pa_c (pv 0) (pa_c (pe_op op_sub (pe_callB call_len_seq (by rfl) hlen PySem.boot_len (pa_c (pv 7) pa_nil)) pe_int) pa_nil)))) (pe_callB call_len_seq (by rfl) hlen PySem.boot_len (pa_c (pv 7) pa_nil))) (fun _ _=>rfl)) pa_nil)))))))) pss_nil)
   (pss_cons (ps_if (pt_cmpR op_eq (pv 1) pe_str (nomark _)) (pss_one (ps_ret (pe_tup (pa_c (pv 1) (pa_c (pv 2) (pa_c (pv 3) (pa_c (pv 10) pa_nil))))))) pss_nil)
   (pss_cons (ps_set (i:=14) scRowOf.nd rfl (Or.inl rfl) (pe_call GN hr rfl mN kN bN .nil pass0 (pa_c (pv 0) (pa_c pe_int (pa_c (pe_op op_sub (pe_op op_pow pe_int pe_int) pe_int) pa_nil)))))
   (pss_cons (ps_if (pt_cmpR op_eq (pv 1) pe_str (nomark _)) (pss_one (ps_ret (pe_tup (pa_c (pv 1) (pa_c (pv 2) (pa_c (pv 3) (pa_c (pv 11) (pa_c (pv 14) (pa_c (pv 10) pa_nil))))))))) pss_nil)
   (pss_one (ps_ret (pe_tup (pa_c (pv 1) (pa_c (pv 2) (pa_c (pv 3) (pa_c (pv 11) (pa_c (pv 14) (pa_c (pe_call GN hr rfl mN kN bN .nil pass0 (pa_c (pv 0) (pa_c pe_int (pa_c (pe_op op_pow pe_int pe_int) pa_nil)))) (pa_c (pe_call GN hr rfl mN kN bN .nil pass0 (pa_c (pv 0) (pa_c pe_int (pa_c (pe_op op_pow pe_int pe_int) pa_nil)))) pa_nil))))))))))))))))))))),?_⟩
  have fin:∀ (rest:List V) (ds:List PyData) (H':Hp) (a':Int),RdVs false H' rest ds→RowS word ds→FIn word ds fs→PenAt H' p c ns a'→KeepBut p H H'→a≤a'→a'≤a + 80→∀ t,H' t=none→Q (.ref t) (upd H' t (.tup (.str word :: .str name :: .int day :: rest))):=fun rest ds H' a' hR hS hFI h1 h2 h4 h5 t ht=>k t ds rest a' _ upd_same (hR.same (Same.new ht)) hS hFI h4 h5 (h1.same (Same.new ht)) (h2.same (Same.new ht))
  have cp:∀ j:Int,0≤j→j≤1000000→CPow 10 j:=fun j h1 h2=>⟨h1,h2,by decide⟩
  have p6:((10:Int) ^ Int.toNat 6)=1000000:=by decide
  have p7:((10:Int) ^ Int.toNat 7)=10000000:=by decide
  have p9:((10:Int) ^ Int.toNat 9)=1000000000:=by decide
  have e9:(10:Int) ^ 9=1000000000:=by decide
  have z2:(2:Nat)≤sizeLine:=sizeLine_big (by decide)
  have z3:(3:Nat)≤sizeLine:=sizeLine_big (by decide)
  have z4:(4:Nat)≤sizeLine:=sizeLine_big (by decide)
  have z5:(5:Nat)≤sizeLine:=sizeLine_big (by decide)
  have z6:(6:Nat)≤sizeLine:=sizeLine_big (by decide)
  have z7:(7:Nat)≤sizeLine:=sizeLine_big (by decide)
  have b10:=h3.p1
  have b5:=h3.h1
  have bf1:=h3.f1
  have bf2:=h3.f2
  refine ⟨_,rfl,tS,_,rfl,SqT.of htS,rfl,_,_,rfl,_,_,rfl,_,_,rfl,rfl,?_⟩
  refine ⟨_,rfl,_,rfl,_,rfl,lp,_,rfl,.inl (SqL.of h3.p),p,c,ns,a,_,rfl,hp,by omega,by rw [List.length_map];omega,by rw [List.length_map];omega,fun r1 a1 H1 r10 r11 la1 ua1 hp1 kp1=>?_⟩
  have h31:=h3.but hp kp1
  obtain ⟨v,hv,hat⟩:=atI_in (xs:=ps.map V.str) (i:=r1) r10 r11
  obtain ⟨land,hland,rfl⟩:=List.mem_map.mp hv
  have nland:=h3.np.ok land hland
  refine ⟨lp,_,r1,_,rfl,rfl,SqL.of h31.p,hat,?_⟩
  refine ⟨_,rfl,_,rfl,lh,_,rfl,.inl (SqL.of h31.h),p,c,ns,a1,_,rfl,hp1,by omega,by rw [List.length_map];omega,by rw [List.length_map];omega,fun r2 a2 H2 r20 r21 la2 ua2 hp2 kp2=>?_⟩
  have h32:=h31.but hp1 kp2
  rw [List.length_map] at r21
  obtain ⟨j2,rfl⟩:∃ j2:Nat,r2=j2:=⟨r2.toNat,by omega⟩
  obtain ⟨house,hj2⟩:∃ y,hs[j2]?=some y:=⟨_,List.getElem?_eq_getElem (by omega)⟩
  have nhouse:=h3.nh.ok house (List.mem_of_getElem? hj2)
  have hat:atI (hs.map V.str) ((j2:Nat):Int)=some (V.str house):=atI_nat (by rw [List.getElem?_map,hj2];rfl)
  refine ⟨_,rfl,_,rfl,lh,_,(j2:Int),_,rfl,rfl,SqL.of h32.h,hat,?_⟩
  refine ⟨_,rfl,_,rfl,_,rfl,lf,_,rfl,.inl (SqL.of h32.f),p,c,ns,a2,_,rfl,hp2,by omega,by rw [List.length_map];omega,by rw [List.length_map];omega,fun r3 a3 H3 r30 r31 la3 ua3 hp3 kp3=>?_⟩
  have h33:=h32.but hp2 kp3
  obtain ⟨v,hv,hat⟩:=atI_in (xs:=fs.map V.str) (i:=r3) r30 r31
  obtain ⟨field,hfield,rfl⟩:=List.mem_map.mp hv
  have nfield:=h3.nf.ok field hfield
  refine ⟨lf,_,r3,_,rfl,rfl,SqL.of h33.f,hat,?_⟩
  have k3:=(kp1.trans kp2).trans kp3
  refine ⟨_,rfl,z2,fun q hq=>?_⟩
  have sq:=Same.new (o:=.tup [V.str "part",.str "join"]) hq
  have hp4:=hp3.same sq
  have h34:=h33.same sq
  have k4:=k3.same sq
  have hq4:upd H3 q (.tup [V.str "part",.str "join"]) q=_:=upd_same
  refine ⟨q,_,rfl,.inr (SqT.of hq4),rfl,rfl,_,rfl,?_⟩
  generalize upd H3 q (.tup [V.str "part",.str "join"])=H4 at hp4 h34 k4 hq4 ⊢
  refine ite2 (fun g1=>?_) (fun g1=>?_)
  ·refine ⟨_,rfl,_,rfl,_,rfl,p,c,ns,a3,_,rfl,hp4,by omega,by decide,by decide,fun x1 a5 H5 x10 x11 la5 ua5 hp5 kp5=>?_⟩
   refine ⟨_,_,rfl,rfl,z3,fun u hu=>?_⟩
   have su:=Same.new (o:=.lst [V.int 2,.int 6,.int (2 + x1)]) hu
   refine ⟨_,rfl,p,c,ns,a5,_,rfl,hp5.same su,by omega,by decide,by decide,fun x2 a6 H6 x20 x21 la6 ua6 hp6 kp6=>?_⟩
   obtain ⟨v,hv,hat⟩:=atI_in (xs:=[V.int 2,.int 6,.int (2 + x1)]) (i:=x2) x20 (by show x2 < 3;omega)
   obtain ⟨n,rfl,hn,hn2⟩:∃ n:Nat,v=.int n∧n≤6∧2≤n:=by
    simp only [List.mem_cons,List.not_mem_nil,or_false] at hv
    rcases hv with rfl | rfl | rfl
    ·exact ⟨2,rfl,by omega,by omega⟩
    ·exact ⟨6,rfl,by omega,by omega⟩
    ·exact ⟨(2 + x1).toNat,by congr 1;omega,by omega,by omega⟩
   have k46:KeepBut p H4 H6:=(kp5.same su).trans kp6
   refine ⟨u,_,x2,_,rfl,rfl,SqL.of (lst_but upd_same (hp5.same su) kp6),hat,?_⟩
   have h36:=h34.but hp4 k46
   refine ⟨p,c,ns,a6,lp,ps,n,rfl,hp6,by omega,h36.p,b10,hn,fun L ms a7 H7 hL hml hsm hper la7 ua7 hp7 kp7=>?_⟩
   obtain ⟨us,vv,hpu,hpw⟩:=hper
   obtain ⟨hris,hnms⟩:=some_rises hsm hpu hpw h3.np
   have h37:=h36.but hp6 kp7
   have k7:=(k4.trans k46).trans kp7
   refine ⟨_,rfl,rfl,_,rfl,?_⟩
   refine ite2 (fun g2=>?_) (fun g2=>?_)
   ·refine ⟨_,rfl,_,rfl,_,rfl,_,rfl,L,_,rfl,.inl ⟨SqL.of hL,fun tt htt=>?_⟩⟩
    have st:=Same.new (o:=.tup (ms.map V.str)) htt
    have ew:word="join":=by
     have:=of_decide_eq_true g2
     injection this
    have hallN:(ms.map PyData.str).all nameD=true:=by
     rw [List.all_map,List.all_eq_true]
     exact fun z hz=>hnms z hz
    exact ⟨_,rfl,z5,fun t ht=>fin _ [.tuple (ms.map PyData.str),.str land] _ a7 (.cons (.tup upd_same (by rw [List.length_map];omega) (read_strs fun z hz=>by have:=(nameB_len (hnms z hz)).2;omega)) (.cons (nm_rd nland) .nil)) (by rw [ew];exact .join nland hris (by omega) (by omega) hallN) (by rw [ew];exact fun z=>absurd z (by decide)) (hp7.same st) (k7.same st) (by omega) (by omega) t ht⟩
   ·refine ⟨_,rfl,L,rfl,⟨_,SqL.of hL⟩,?_⟩
    refine comp_list (K:=K) (xs:=ms.map V.str) (fun i ys σ' H'=>∃ (a':Int) (o:Option V),σ'=[o,some (.ref lh),some (.ref p)]∧PenAt H' p c ns a'∧KeepBut p H7 H'∧a7≤a'∧a'≤a7 + 4 * i∧ys.length=i∧∃ R:List P3,RdVs false H' ys (R.map pD)∧R.map (·.1)=ms.take i∧(R.map pD).all partD=true)
     ⟨a7,none,rfl,hp7,KeepBut.refl p H7,by omega,by omega,rfl,[],.nil,by simp,rfl⟩ (sizeLine_big (by rw [List.length_map];omega)) (fun i ys σ H p=>by obtain ⟨_,_,_,_,_,_,_,e,_⟩:=p;omega) (fun i ys σ H p=>by obtain ⟨_,_,_,_,kk,_⟩:=p;exact SqL.of (lst_but hL hp7 kk)) ?_ ?_
    ·rintro i x ys σ' H8 hx ⟨a8,o,rfl,hp8,k8,la8,ua8,hyl,R,rR,eR,aR⟩
     have hi:i < ms.length:=by
      have:=(List.getElem?_eq_some_iff.mp hx).1
      simpa using this
     have ex:x=V.str ms[i]:=by
      rw [List.getElem?_map,List.getElem?_eq_getElem hi] at hx
      cases hx
      rfl
     subst ex
     have nmi:=hnms _ (List.getElem_mem hi)
     dsimp only [gName]
     have hh8:=lst_but h37.h hp7 k8
     refine iteT ?_
     refine ⟨_,rfl,_,rfl,_,rfl,_,rfl,lh,_,rfl,.inl (SqL.of hh8),p,c,ns,a8,_,rfl,hp8,by omega,by rw [List.length_map];omega,by rw [List.length_map];omega,fun r4 a9 H9 r40 r41 la9 ua9 hp9 kp9=>?_⟩
     obtain ⟨v,hv,hat⟩:=atI_in (xs:=hs.map V.str) (i:=r4) r40 r41
     obtain ⟨hse,hhse,rfl⟩:=List.mem_map.mp hv
     have nhse:=h3.nh.ok hse hhse
     refine ⟨lh,_,r4,_,rfl,rfl,SqL.of (lst_but hh8 hp8 kp9),hat,?_⟩
     refine ⟨_,rfl,_,_,rfl,rfl,cp _ (by decide) (by decide),p,c,ns,a9,1,10000000,(by show [V.ref p,V.int 1,V.int ((10:Int) ^ Int.toNat 7)] ++ []=_;rw [p7];rfl),hp9,by omega,by decide,by decide,by omega,fun n1 b1 G1 n10 n11 lb1 ub1 hpb kpb=>?_⟩
     refine ⟨z3,fun q1 hq1=>?_⟩
     have sq1:=Same.new (o:=.tup [V.str ms[i],.str hse,.int n1]) hq1
     refine ⟨b1,_,rfl,hpb.same sq1,((k8.trans kp9).trans kpb).same sq1,by omega,by omega,by rw [List.length_append,hyl];rfl,R ++ [(ms[i],hse,n1)],?_,?_,?_⟩
     ·rw [List.map_append]
      exact RdVs.app ((rds_but (rds_but rR hp8 kp9) hp9 kpb).same sq1) (.cons (.tup upd_same (by show 3≤1000;decide) (.cons (nm_rd nmi) (.cons (nm_rd nhse) (.cons (.int n1) .nil)))) .nil)
     ·rw [List.map_append,eR,List.take_add_one,List.getElem?_eq_getElem hi]
      rfl
     ·rw [List.map_append,List.all_append,aR]
      show (true && ((nameB ms[i] && nameB hse && decide (1≤n1∧n1≤10000000)) && true))=true
      rw [nmi,nhse,decide_eq_true (show 1≤n1∧n1≤10000000 from ⟨n10,n11⟩)]
      rfl
    ·rintro ys σ' H8 ⟨a8,o,rfl,hp8,k8,la8,ua8,hyl,R,rR,eR,aR⟩ D hD
     rw [List.length_map] at ua8
     have sD:=Same.new (o:=.lst ys) hD
     refine ⟨_,rfl,_,rfl,_,rfl,_,rfl,_,rfl,D,_,rfl,.inl ⟨SqL.of upd_same,fun tt htt=>?_⟩⟩
     have st:=Same.new (o:=.tup ys) htt
     have ew:word="part":=by
      have h0:"part"=word∨"join"=word:=by simpa [inV,eqV] using g1
      have h1:word="part"∨word="join":=h0.imp Eq.symm Eq.symm
      rcases h1 with h1 | h1
      ·exact h1
      ·exact absurd (decide_eq_true (by rw [h1])) g2
     rw [List.length_map,List.take_length] at eR
     have hRl:R.length=ms.length:=by rw [← eR,List.length_map]
     have hRr:RiseP R:=by
      have:=of_decide_eq_true hris
      rw [← eR] at this
      exact (List.pairwise_map (f:=fun x:P3=>x.1) (R:=fun a b:Str=>a.cps.toList < b.cps.toList)).mp this
     exact ⟨z5,fun t ht=>fin _ [.str land,.tuple (R.map pD)] _ a8 (.cons (nm_rd nland) (.cons (.tup upd_same (by rw [hyl,List.length_map];omega) ((rR.same sD).same st)) .nil)) (by rw [ew];exact .part nland hRr (by omega) (by omega) aR) (by rw [ew];exact fun z=>absurd z (by decide)) ((hp8.same sD).same st) (((k7.trans k8).same sD).same st) (by omega) (by omega) t ht⟩
  ·refine ⟨_,rfl,rfl,_,rfl,?_⟩
   refine ite2 (fun g2=>?_) (fun g2=>?_)
   ·have ew:word="forfeit":=by
     have:=of_decide_eq_true g2
     injection this
    exact ⟨_,rfl,_,rfl,_,rfl,_,rfl,_,rfl,z5,fun t ht=>fin _ [.str land,.str house] _ a3 (.cons (nm_rd nland) (.cons (nm_rd nhouse) .nil)) (by rw [ew];exact .forfeit nland nhouse) (by rw [ew];exact fun z=>absurd z (by decide)) hp4 k4 (by omega) (by omega) t ht⟩
   ·refine ⟨_,rfl,rfl,_,rfl,?_⟩
    refine ite2 (fun g3=>?_) (fun g3=>?_)
    ·refine ⟨_,rfl,_,rfl,_,rfl,_,rfl,_,rfl,_,_,rfl,rfl,cp _ (by decide) (by decide),p,c,ns,a3,0,10000000,(by show [V.ref p,V.int 0,V.int ((10:Int) ^ Int.toNat 7)] ++ []=_;rw [p7];rfl),hp4,by omega,by decide,by decide,by omega,fun n1 b1 G1 n10 n11 lb1 ub1 hpb kpb=>?_⟩
     have ew:word="measure":=by
      have:=of_decide_eq_true g3
      injection this
     exact ⟨z5,fun t ht=>fin _ [.str field,.int n1] _ b1 (.cons (nm_rd nfield) (.cons (.int n1) .nil)) (by rw [ew];exact .measure nfield n10 n11) (fun _ z rest e=>by cases e;exact hfield) hpb (k4.trans kpb) (by omega) (by omega) t ht⟩
    ·refine ⟨_,rfl,rfl,_,rfl,?_⟩
     refine ite2 (fun g4=>?_) (fun g4=>?_)
     ·refine ⟨_,rfl,_,rfl,_,rfl,_,rfl,_,rfl,_,rfl,_,_,rfl,rfl,_,rfl,_,rfl,lh,_,rfl,.inl (SqL.of h34.h),_,_,rfl,rfl,p,c,ns,a3,_,rfl,hp4,by omega,by rw [List.length_map];omega,by rw [List.length_map];omega,fun r4 b1 G1 r40 r41 lb1 ub1 hpb kpb=>?_⟩
      have hh:=lst_but h34.h hp4 kpb
      refine ⟨_,_,rfl,rfl,_,rfl,lh,_,rfl,.inl (SqL.of hh),_,_,rfl,rfl,by rw [List.length_map];omega,?_⟩
      rw [List.length_map] at r41
      obtain ⟨j4,ej4,hj4⟩:=mod_other (n:=hs.length) (j:=j2) (r:=r4) (by omega) r40 (by omega)
      rw [← List.length_map (f:=V.str)] at ej4
      obtain ⟨other,hot⟩:∃ y,hs[j4]?=some y:=⟨_,List.getElem?_eq_getElem (by omega)⟩
      have nother:=h3.nh.ok other (List.mem_of_getElem? hot)
      have hne:house≠other:=fun z=>by
       have hl2:j2 < hs.length:=by omega
       have hl4:j4 < hs.length:=by omega
       rw [List.getElem?_eq_getElem hl2] at hj2
       rw [List.getElem?_eq_getElem hl4] at hot
       injection hj2 with hj2
       injection hot with hot
       rw [← hj2,← hot] at z
       exact hj4.2 ((List.getElem_inj h3.nh.nd).mp z).symm
      have hat4:atI (hs.map V.str) ((j4:Nat):Int)=some (V.str other):=atI_nat (by rw [List.getElem?_map,hot];rfl)
      rw [← ej4] at hat4
      have ew:word="mend":=by
       have:=of_decide_eq_true g4
       injection this
      refine ⟨lh,_,_,_,rfl,rfl,SqL.of hh,hat4,?_⟩
      exact ⟨z5,fun t ht=>fin _ [.str house,.str other] _ b1 (.cons (nm_rd nhouse) (.cons (nm_rd nother) .nil)) (by rw [ew];exact .mend nhouse nother hne) (by rw [ew];exact fun z=>absurd z (by decide)) hpb (k4.trans kpb) (by omega) (by omega) t ht⟩
     ·refine ⟨_,rfl,rfl,_,rfl,?_⟩
      refine ite2 (fun g5=>?_) (fun g5=>?_)
      ·have ew:word="alone":=by
        have:=of_decide_eq_true g5
        injection this
       exact ⟨_,rfl,_,rfl,_,rfl,_,rfl,z4,fun t ht=>fin _ [.str house] _ a3 (.cons (nm_rd nhouse) .nil) (by rw [ew];exact .alone nhouse) (by rw [ew];exact fun z=>absurd z (by decide)) hp4 k4 (by omega) (by omega) t ht⟩
      ·refine ⟨_,rfl,_,_,rfl,rfl,cp _ (by decide) (by decide),_,_,rfl,rfl,p,c,ns,a3,0,9999999,(by show [V.ref p,V.int 0,V.int ((10:Int) ^ Int.toNat 7 - 1)] ++ []=_;rw [p7];rfl),hp4,by omega,by decide,by decide,by omega,fun n1 b1 G1 n10 n11 lb1 ub1 hpb kpb=>?_⟩
       refine ⟨_,rfl,rfl,_,rfl,?_⟩
       refine ite2 (fun g6=>?_) (fun g6=>?_)
       ·have ew:word="view":=by
         have:=of_decide_eq_true g6
         injection this
        exact ⟨_,rfl,_,rfl,_,rfl,_,rfl,_,rfl,_,rfl,z6,fun t ht=>fin _ [.str field,.int n1,.str house] _ b1 (.cons (nm_rd nfield) (.cons (.int n1) (.cons (nm_rd nhouse) .nil))) (by rw [ew];exact .view nfield n10 n11 nhouse) (fun _ z rest e=>by cases e;exact hfield) hpb (k4.trans kpb) (by omega) (by omega) t ht⟩
       ·refine ⟨_,rfl,_,rfl,_,rfl,_,rfl,_,rfl,_,rfl,_,_,rfl,rfl,cp _ (by decide) (by decide),p,c,ns,b1,0,1000000000,(by show [V.ref p,V.int 0,V.int ((10:Int) ^ Int.toNat 9)] ++ []=_;rw [p9];rfl),hpb,by omega,by decide,by decide,by omega,fun n2 b2 G2 n20 n21 lb2 ub2 hpb2 kpb2=>?_⟩
        refine ⟨_,rfl,_,_,rfl,rfl,cp _ (by decide) (by decide),p,c,ns,b2,0,1000000,(by show [V.ref p,V.int 0,V.int ((10:Int) ^ Int.toNat 6)] ++ []=_;rw [p6];rfl),hpb2,by omega,by decide,by decide,by omega,fun n3 b3 G3 n30 n31 lb3 ub3 hpb3 kpb3=>?_⟩
        have ew:word="breach":=by
         have ng:∀ z:Str,¬ decide (V.str word=V.str z)=true→word≠z:=fun z hz e=>hz (decide_eq_true (by rw [e]))
         have hg1:word≠"part"∧word≠"join":=by
          constructor
          ·intro z;exact g1 (by rw [z];rfl)
          ·intro z;exact g1 (by rw [z];rfl)
         have hm:=hwd
         simp only [words8,List.mem_cons,List.not_mem_nil,or_false] at hm
         rcases hm with z | z | z | z | z | z | z | z
         ·exact absurd z hg1.1
         ·exact absurd z hg1.2
         ·exact absurd z (ng _ g2)
         ·exact absurd z (ng _ g3)
         ·exact absurd z (ng _ g4)
         ·exact absurd z (ng _ g5)
         ·exact z
         ·exact absurd z (ng _ g6)
        exact ⟨z7,fun t ht=>fin _ [.str field,.int n1,.int n2,.int n3] _ b3 (.cons (nm_rd nfield) (.cons (.int n1) (.cons (.int n2) (.cons (.int n3) .nil)))) (by rw [ew];exact .breach nfield n10 n11 n20 n21 n30 n31) (fun _ z rest e=>by cases e;exact hfield) hpb3 (((k4.trans kpb).trans kpb2).trans kpb3) (by omega) (by omega) t ht⟩
theorem RowS.word {word:Str}{ds:List PyData} (h:RowS word ds):word∈words8:=by
 cases h <;> decide
theorem RowS.len {word:Str}{ds:List PyData} (h:RowS word ds):ds.length≤4:=by
 cases h <;> simp
theorem nodict_parts:∀ R:List P3,PyData.hasDictAll (R.map pD)=false
 | []=>rfl
 | x :: R=>by
  show ((pD x).hasDict || PyData.hasDictAll (R.map pD))=false
  rw [nodict_parts R]
  rfl
theorem nodict_strs:∀ R:List Str,PyData.hasDictAll (R.map PyData.str)=false
 | []=>rfl
 | x :: R=>by
  show ((PyData.str x).hasDict || PyData.hasDictAll (R.map PyData.str))=false
  rw [nodict_strs R]
  rfl
theorem RowS.nodict {word:Str}{ds:List PyData} (h:RowS word ds):PyData.hasDictAll ds=false:=by
 cases h with
 | @part land R _ _ _ _ _=>
  show (false || (PyData.hasDictAll (R.map pD) || false))=false
  rw [nodict_parts]
  rfl
 | @join land R _ _ _ _ _=>
  show (PyData.hasDictAll (R.map PyData.str) || (false || false))=false
  rw [nodict_strs]
  rfl
 | _=>rfl
def fieldD:PyData→Bool
 | .tuple [f,h,a,i]=>nameD f && nameD h && wholeD 1 1000000 a && wholeD 0 10000000 i
 | _=>false
theorem field_form {d:PyData} (h:fieldD d=true):∃ (f:Str) (g a i:PyData),d=.tuple [.str f,g,a,i]∧nameB f=true∧nameD g=true∧wholeD 1 1000000 a=true∧wholeD 0 10000000 i=true:=by
 match d,h with
 | .tuple [.str f,g,a,i],h=>
  simp only [fieldD,nameD,Bool.and_eq_true] at h
  exact ⟨f,g,a,i,rfl,h.1.1.1,h.1.1.2,h.1.2,h.2⟩
 | .tuple [.none,g,a,i],h=>simp [fieldD,nameD] at h
 | .tuple [.bool _,g,a,i],h=>simp [fieldD,nameD] at h
 | .tuple [.int _,g,a,i],h=>simp [fieldD,nameD] at h
 | .tuple [.list _,g,a,i],h=>simp [fieldD,nameD] at h
 | .tuple [.tuple _,g,a,i],h=>simp [fieldD,nameD] at h
 | .tuple [.dict _,g,a,i],h=>simp [fieldD,nameD] at h
def fmV (g0 g1 g2 g3 g4 g5 g6 g7:Addr):List (Key×V):=[(Sum.inr "part",.ref g0),(Sum.inr "join",.ref g1),(Sum.inr "forfeit",.ref g2),(Sum.inr "measure",.ref g3),(Sum.inr "mend",.ref g4),(Sum.inr "alone",.ref g5),(Sum.inr "breach",.ref g6),(Sum.inr "view",.ref g7)]
def fmR (g0 g1 g2 g3 g4 g5 g6 g7:Addr):List (Key×Value):=[(Sum.inr "part",.ref g0),(Sum.inr "join",.ref g1),(Sum.inr "forfeit",.ref g2),(Sum.inr "measure",.ref g3),(Sum.inr "mend",.ref g4),(Sum.inr "alone",.ref g5),(Sum.inr "breach",.ref g6),(Sum.inr "view",.ref g7)]
theorem fm_rel (g0 g1 g2 g3 g4 g5 g6 g7:Addr):KV (fmV g0 g1 g2 g3 g4 g5 g6 g7) (fmR g0 g1 g2 g3 g4 g5 g6 g7):=.cons ⟨rfl,rfl⟩ (.cons ⟨rfl,rfl⟩ (.cons ⟨rfl,rfl⟩ (.cons ⟨rfl,rfl⟩ (.cons ⟨rfl,rfl⟩ (.cons ⟨rfl,rfl⟩ (.cons ⟨rfl,rfl⟩ (.cons ⟨rfl,rfl⟩ (.nil))))))))
theorem keyH_str (w:World) (s:Str):PyData.keyHash w.params s=keyH w (Sum.inr s):=by
 first | rfl | (unfold keyH hashStr PyData.keyHash;rfl)
theorem isS (s:Str) (t:Tok):keyIs (Sum.inr s) (.str s t)=true:=by
 show Value.isStrOf s (.str s t)=true
 simp [Value.isStrOf]
theorem fm_dict {P:Program}{w:World}{K:PySem.W.Frag}{a:Addr}{e:Nat}{x0 x1 x2 x3 x4 x5 x6 x7:Tok}{g0 g1 g2 g3 g4 g5 g6 g7:Addr} (l:K.lookup a=some { cls:=.type "dict",data:=.dict #[⟨PyData.keyHash w.params "part",.str "part" x0,.ref g0⟩,⟨PyData.keyHash w.params "join",.str "join" x1,.ref g1⟩,⟨PyData.keyHash w.params "forfeit",.str "forfeit" x2,.ref g2⟩,⟨PyData.keyHash w.params "measure",.str "measure" x3,.ref g3⟩,⟨PyData.keyHash w.params "mend",.str "mend" x4,.ref g4⟩,⟨PyData.keyHash w.params "alone",.str "alone" x5,.ref g5⟩,⟨PyData.keyHash w.params "breach",.str "breach" x6,.ref g6⟩,⟨PyData.keyHash w.params "view",.str "view" x7,.ref g7⟩] e }):∀ h:Heap,K.In h→h.DictOf (mixKind P w) a (fmR g0 g1 g2 g3 g4 g5 g6 g7):=by
 intro h hK
 refine ⟨_,_,_,hK _ _ l,⟨rfl,rfl,rfl⟩,rfl,?_,?_,?_⟩
 ·intro en he
  simp only [List.mem_toArray,List.mem_cons,List.not_mem_nil,or_false] at he
  rcases he with rfl | rfl | rfl | rfl | rfl | rfl | rfl | rfl
  ·exact ⟨Sum.inr "part",isS "part" x0,keyH_str w "part"⟩
  ·exact ⟨Sum.inr "join",isS "join" x1,keyH_str w "join"⟩
  ·exact ⟨Sum.inr "forfeit",isS "forfeit" x2,keyH_str w "forfeit"⟩
  ·exact ⟨Sum.inr "measure",isS "measure" x3,keyH_str w "measure"⟩
  ·exact ⟨Sum.inr "mend",isS "mend" x4,keyH_str w "mend"⟩
  ·exact ⟨Sum.inr "alone",isS "alone" x5,keyH_str w "alone"⟩
  ·exact ⟨Sum.inr "breach",isS "breach" x6,keyH_str w "breach"⟩
  ·exact ⟨Sum.inr "view",isS "view" x7,keyH_str w "view"⟩
 ·exact .cons (isS "part" x0) rfl (.cons (isS "join" x1) rfl (.cons (isS "forfeit" x2) rfl (.cons (isS "measure" x3) rfl (.cons (isS "mend" x4) rfl (.cons (isS "alone" x5) rfl (.cons (isS "breach" x6) rfl (.cons (isS "view" x7) rfl (.nil))))))))
 ·show ([Sum.inr "part",Sum.inr "join",Sum.inr "forfeit",Sum.inr "measure",Sum.inr "mend",Sum.inr "alone",Sum.inr "breach",Sum.inr "view"]:List Key).Nodup
  decide
def rkD:List (Key×V):=[(Sum.inr "measure",.int 0),(Sum.inr "mend",.int 2),(Sum.inr "alone",.int 2),(Sum.inr "breach",.int 3),(Sum.inr "view",.int 3)]
def rk (w:Str):Int:=if w="measure" then 0 else if w="mend"∨w="alone" then 2 else if w="breach"∨w="view" then 3 else 1
theorem rk_get:∀ w∈words8,(valV rkD (Sum.inr w)).getD (.int 1)=.int (rk w):=by decide
def RowAt (H:Hp) (x:V) (word name:Str) (day:Int):Prop:=∃ t rest,x=.ref t∧H t=some (.tup (.str word :: .str name :: .int day :: rest))∧word∈words8
theorem row_at {word name:Str}{day:Int}{rest:List V}:atI (V.str word :: .str name :: .int day :: rest) 0=some (.str word)∧atI (V.str word :: .str name :: .int day :: rest) 1=some (.str name)∧atI (V.str word :: .str name :: .int day :: rest) 2=some (.int day):=by
 have hl:(V.str word :: V.str name :: V.int day :: rest).length=rest.length + 3:=rfl
 unfold atI ixN
 rw [hl,if_pos (by decide),if_pos (by omega),if_pos (by decide),if_pos (by omega),if_pos (by decide),if_pos (by omega)]
 exact ⟨rfl,rfl,rfl⟩
def spPlace:Sp:=fun vs H Q _=>∃ (x:V) (word name:Str) (day:Int),vs=[x]∧RowAt H x word name day∧∀ (q:Addr) (H':Hp),Same H H'→H' q=some (.tup [.int day,.int (rk word),.str name])→Q (.ref q) H'
theorem scPlace:FnScope ["_law_row_here","_law_ranks"] ["_law_row_here"] (defScope sPlace):=⟨rfl,rfl,rfl,by decide,rfl,by decide,by decide⟩
theorem ok_place {f:Addr}{fd:FuncData} (F:Fun K "_law_place" "_law_place" sPlace f fd):FnOk P w K mg base CX0 1 f fd ["_law_row_here"] spPlace:=by
 refine F.ok scPlace (fun vs H Q E h=>?_) (fun cdv A outer s H vs Q E hr h=>?_)
 ·obtain ⟨x,word,name,day,rfl,_⟩:=h
  rfl
 ·obtain ⟨x,word,name,day,rfl,⟨t,rest,rfl,ht,hw⟩,k⟩:=h
  have hu:=hu_of hr
  refine ⟨_,pss_cons (ps_set (i:=1) scPlace.nd rfl (Or.inl rfl) (pe_disp (pps_cons pe_str pe_int (pps_cons pe_str pe_int (pps_cons pe_str pe_int (pps_cons pe_str pe_int (pps_cons pe_str pe_int pps_nil))))) rfl rfl (by simp) (by decide)))
   (pss_one (ps_ret (pe_tup (pa_c (pe_ix ix_tup (pv 0) pe_int (fun _ _=>rfl)) (pa_c (pe_dget2 hu (pv 1) (pe_ix ix_tup (pv 0) pe_int (fun _ _=>rfl)) pe_int ⟨rfl,rfl,rfl,rfl⟩) (pa_c (pe_ix ix_tup (pv 0) pe_int (fun _ _=>rfl)) pa_nil)))))),?_⟩
  obtain ⟨r0,r1,r2⟩:=row_at (word:=word) (name:=name) (day:=day) (rest:=rest)
  refine fun d hd=>?_
  refine ⟨upd_same,rkD,rfl,(by show 5≤15;decide),?_⟩
  rw [show mergeK [] rkD=rkD by first | rfl | decide]
  have sd:Same H (upd (upd H d (.dK [])) d (.dK rkD)):=fun b o e=>by rw [upd_upd,upd_ne (ne_of_none e hd)];exact e
  have hd2:upd (upd H d (.dK [])) d (.dK rkD) d=some (.dK rkD):=upd_same
  generalize upd (upd H d (.dK [])) d (.dK rkD)=H2 at sd hd2 ⊢
  have ht2:=sd _ _ ht
  refine ⟨_,rfl,t,_,2,_,rfl,rfl,SqT.of ht2,r2,?_⟩
  refine ⟨_,rfl,d,rfl,.inl ⟨rkD,.inl hd2⟩,_,rfl,t,_,0,_,rfl,rfl,SqT.of ht2,r0,_,.inl ⟨rkD,Sum.inr word,.inl hd2,rfl,rfl⟩,?_⟩
  rw [rk_get word hw]
  refine ⟨_,rfl,t,_,1,_,rfl,rfl,SqT.of ht2,r1,?_⟩
  refine ⟨sizeLine_big (by show 3≤1000000;decide),fun q hq=>?_⟩
  exact k q _ (sd.trans (Same.new hq)) upd_same
def Flds (ds:List PyData):Prop:=∀ d∈ds,fieldD d=true∧OkD 5000 1 d∧d.hasDict=false
def fieldOf (f h:Str) (a i:Int):PyData:=.tuple [.str f,.str h,.int a,.int i]
theorem fieldOf_ok {f h:Str}{a i:Int} (hf:nameB f=true) (hh:nameB h=true) (a1:1≤a) (a2:a≤1000000) (i1:0≤i) (i2:i≤10000000):fieldD (fieldOf f h a i)=true∧OkD 5000 1 (fieldOf f h a i)∧(fieldOf f h a i).hasDict=false:=by
 refine ⟨?_,?_,rfl⟩
 ·show (nameB f && nameB h && decide (1≤a∧a≤1000000) && decide (0≤i∧i≤10000000))=true
  rw [hf,hh,decide_eq_true ⟨a1,a2⟩,decide_eq_true ⟨i1,i2⟩]
  rfl
 ·have b:(10000000:Int) < 10 ^ 60:=by decide
  refine (OkD.tuple (n:=4) (b:=102) (k:=0) (fun d hd=>?_) (by show 4≤4;decide)).mono (by decide) (by decide)
  simp only [List.mem_cons,List.not_mem_nil,or_false] at hd
  rcases hd with rfl | rfl | rfl | rfl
  ·exact OkD.name hf
  ·exact OkD.name hh
  ·exact OkD.int (by omega) (by omega)
  ·exact OkD.int (by omega) (by omega)
def spLayOf:Sp:=fun vs H Q _=>∃ (p c:Addr) (ns:List Int) (a:Int) (lf lh:Addr) (ws hs:List Str),vs=[.ref p,.ref lf,.ref lh]∧PenAt H p c ns a∧a≤800000∧H lf=some (.lst (ws.map V.str))∧(∀ w∈ws,nameB w=true)∧ws.length≤44∧H lh=some (.lst (hs.map V.str))∧(∀ w∈hs,nameB w=true)∧1≤hs.length∧hs.length≤44∧
 ∀ t xs ds a' H',H' t=some (.tup xs)→RdVs false H' xs ds→Flds ds→ds.map headS=ws→a≤a'→a'≤a + 400→PenAt H' p c ns a'→KeepBut p H H'→Q (.ref t) H'
theorem scLayOf:FnScope ["_law_pen_here","_law_fields","_law_houses","_law_found","_law_field","_law_house"] ["_law_pen_here","_law_fields","_law_houses"] (defScope sLayOf):=⟨rfl,rfl,rfl,by decide,rfl,by decide,by decide⟩
theorem ok_layOf {f fT fN:Addr}{fd fdT fdN:FuncData} (F:Fun K "_law_laying" "_law_laying" sLayOf f fd) (hlen:mg "len"=none) (htup:mg "tuple"=none)
  (GT:FnOk P w K mg base CX0 1 fT fdT ["_law_pen_here","_law_many"] spTake) (mT:mg "_law_take"=some (.ref fT)) (kT:PySem.W.keepIn K (.ref fT)=true) (bT:Binds K fdT ["_law_pen_here","_law_many"] [])
  (GN:FnOk P w K mg base CX0 2 fN fdN ["_law_pen_here","_law_bottom","_law_most"] spNum) (mN:mg "_law_number"=some (.ref fN)) (kN:PySem.W.keepIn K (.ref fN)=true) (bN:Binds K fdN ["_law_pen_here","_law_bottom","_law_most"] []):
  FnOk P w K mg base CX0 3 f fd ["_law_pen_here","_law_fields","_law_houses"] spLayOf:=by
 refine F.ok scLayOf (fun vs H Q E h=>?_) (fun cdv A outer s H vs Q E hr h=>?_)
 ·obtain ⟨p,c,ns,a,lf,lh,ws,hs,rfl,_⟩:=h
  rfl
 ·obtain ⟨p,c,ns,a,lf,lh,ws,hs,rfl,hp,ha,hlf,hw,hwl,hlh,hh,hl1,hl2,k⟩:=h
  have hr1:Room 1 _:=hr.mono (by decide)
  refine ⟨_,pss_cons (ps_set (i:=3) scLayOf.nd rfl (Or.inl rfl) (pe_lst pa_nil))
   (pss_cons (ps_for PassesOwn.never rfl (pi_list (pv 1)) (pg_name (i:=4) scLayOf.nd rfl (Or.inl rfl))
    (pss_cons (ps_set (i:=5) scLayOf.nd rfl (Or.inl rfl) (pe_ix ix_list (pv 2) (pe_call GT hr1 rfl mT kT bT .nil pass0 (pa_c (pv 0) (pa_c (pe_callB call_len_seq (by rfl) hlen PySem.boot_len (pa_c (pv 2) pa_nil)) pa_nil))) (fun _ _=>rfl)))
    (pss_one (ps_expr (pe_bm PySem.F.plainAttrs_list PySem.F.slot_list_append PySem.F.type_list_append mt_append (pv 3) (pa_c (pe_tup (pa_c (pv 4) (pa_c (pv 5) (pa_c (pe_call GN hr rfl mN kN bN .nil pass0 (pa_c (pv 0) (pa_c pe_int (pa_c (pe_op op_pow pe_int pe_int) pa_nil)))) (pa_c (pe_call GN hr rfl mN kN bN .nil pass0 (pa_c (pv 0) (pa_c pe_int (pa_c (pe_op op_pow pe_int pe_int) pa_nil)))) pa_nil))))) pa_nil))))))
   (pss_one (ps_ret (pe_callTy call_tuple_of (by rfl) htup (by kernel_rfl) (pa_c (pv 3) pa_nil))))),?_⟩
  have cp:∀ j:Int,0≤j→j≤1000000→CPow 10 j:=fun j h1 h2=>⟨h1,h2,by decide⟩
  have p6:((10:Int) ^ Int.toNat 6)=1000000:=by decide
  have p7:((10:Int) ^ Int.toNat 7)=10000000:=by decide
  have e9:(10:Int) ^ 9=1000000000:=by decide
  refine ⟨Nat.zero_le _,fun L hL=>?_⟩
  have S0:=Same.new (o:=.lst []) hL
  have nLp:L≠p:=by
   obtain ⟨l,_,z⟩:=hp.ob
   exact (ne_of_none z hL).symm
  have nLc:L≠c:=(ne_of_none hp.ce hL).symm
  have nfL:lf≠L:=ne_of_none hlf hL
  have nhL:lh≠L:=ne_of_none hlh hL
  refine ⟨_,rfl,lf,rfl,⟨_,SqL.of (S0 _ _ hlf)⟩,for_list (K:=K) (xs:=ws.map V.str) (fun i σ H'=>∃ (o4 o5:Option V) (a':Int) (xs:List V) (ds:List PyData),σ=[some (.ref p),some (.ref lf),some (.ref lh),some (.ref L),o4,o5]∧H' L=some (.lst xs)∧RdVs false H' xs ds∧Flds ds∧ds.map headS=ws.take i∧PenAt H' p c ns a'∧a≤a'∧a'≤a + 8 * i∧KeepBut p H H'∧H' lf=some (.lst (ws.map V.str))∧H' lh=some (.lst (hs.map V.str)))
   ⟨none,none,a,[],[],rfl,upd_same,.nil,(fun d hd=>by simp at hd),by simp,hp.same S0,by omega,by simp,Same.but S0,S0 _ _ hlf,S0 _ _ hlh⟩ (fun i σ H' _ h=>?_) ?_ ?_⟩
  ·obtain ⟨_,_,_,_,_,_,_,_,_,_,_,_,_,_,h,_⟩:=h
   exact SqL.of h
  ·rintro i x σ H1 hx ⟨o4,o5,a1,xs,ds,rfl,hLx,hrd,hfl,hhd,hp1,la1,ua1,kp1,hlf1,hlh1⟩
   have hi:i < ws.length:=by
    have:=(List.getElem?_eq_some_iff.mp hx).1
    simpa using this
   obtain ⟨fn,hfn,rfl⟩:∃ fn,ws[i]?=some fn∧x=V.str fn:=by
    rw [List.getElem?_map] at hx
    cases e:ws[i]? with
    | none=>rw [e] at hx;cases hx
    | some z=>rw [e] at hx;exact ⟨z,rfl,(Option.some.inj hx).symm⟩
   dsimp only [gName]
   refine ⟨_,rfl,_,rfl,_,rfl,lh,_,rfl,.inl (SqL.of hlh1),p,c,ns,a1,_,rfl,hp1,by omega,by rw [List.length_map];omega,by rw [List.length_map];omega,fun r1 a2 H2 r10 r11 l2 u2 hp2 kp2=>?_⟩
   have hlh2:=lst_but hlh1 hp1 kp2
   obtain ⟨v,hv,hat⟩:=atI_in (xs:=hs.map V.str) (i:=r1) r10 r11
   obtain ⟨hn,hhn,rfl⟩:=List.mem_map.mp hv
   refine ⟨lh,_,r1,_,rfl,rfl,SqL.of hlh2,hat,?_⟩
   have hL2:=lst_but hLx hp1 kp2
   refine ⟨_,rfl,.inl ⟨rfl,_,SqL.of hL2⟩,_,rfl,_,rfl,_,rfl,_,_,rfl,rfl,cp _ (by decide) (by decide),p,c,ns,a2,1,1000000,(by show [V.ref p,V.int 1,V.int ((10:Int) ^ Int.toNat 6)] ++ []=_;rw [p6];rfl),hp2,by omega,by decide,by decide,by omega,fun n1 a3 H3 n10 n11 l3 u3 hp3 kp3=>?_⟩
   refine ⟨_,rfl,_,_,rfl,rfl,cp _ (by decide) (by decide),p,c,ns,a3,0,10000000,(by show [V.ref p,V.int 0,V.int ((10:Int) ^ Int.toNat 7)] ++ []=_;rw [p7];rfl),hp3,by omega,by decide,by decide,by omega,fun n2 a4 H4 n20 n21 l4 u4 hp4 kp4=>?_⟩
   refine ⟨sizeLine_big (by show 4≤1000000;decide),fun q hq=>?_⟩
   have sq:=Same.new (o:=.tup [V.str fn,.str hn,.int n1,.int n2]) hq
   have kall:=((kp2.trans kp3).trans kp4).same sq
   have hL5:=lst_but hLx hp1 kall
   have nqL:q≠L:=(ne_of_none (lst_but hLx hp1 ((kp2.trans kp3).trans kp4)) hq).symm
   have hfk:=fieldOf_ok (hw fn (List.mem_of_getElem? hfn)) (hh hn hhn) n10 n11 n20 n21
   have hfl':xs.length≤44:=by
    have e1:=hrd.len
    have e2:=congrArg List.length hhd
    rw [List.length_map,List.length_take] at e2
    omega
   refine ⟨L,xs,_,rfl,rfl,hL5,small1000 (by omega),?_⟩
   have hrd5:=rds_but hrd hp1 kall
   have kL:∀ (b:Addr) (o:HO),upd H4 q (.tup [V.str fn,.str hn,.int n1,.int n2]) b=some o→b≠L→upd (upd H4 q (.tup [V.str fn,.str hn,.int n1,.int n2])) L (.lst (xs ++ [V.ref q])) b=some o:=fun b o e ne=>by rw [upd_ne ne];exact e
   refine ⟨_,_,a4,xs ++ [V.ref q],ds ++ [fieldOf fn hn n1 n2],rfl,upd_same,?_,?_,?_,?_,by omega,by omega,?_,?_,?_⟩
   ·refine RdVs.app (hrd5.keepF fun b o e _ hnl=>kL b o e fun z=>?_) (.cons (.tup (kL _ _ upd_same nqL) (by show 4≤1000;decide) (.cons (.str _ (by have:=nameB_len (hw fn (List.mem_of_getElem? hfn));omega)) (.cons (.str _ (by have:=nameB_len (hh hn hhn);omega)) (.cons (.int _) (.cons (.int _) .nil))))) .nil)
    rw [z,hL5] at e
    exact hnl _ (Option.some.inj e).symm
   ·intro d hd
    rcases List.mem_append.mp hd with z | z
    ·exact hfl d z
    ·rw [List.mem_singleton.mp z];exact hfk
   ·rw [List.map_append,hhd,List.take_add_one,hfn]
    rfl
   ·obtain ⟨⟨l,hl,e⟩,ce,ge,sm⟩:=hp4.same sq
    exact ⟨⟨l,hl,kL _ _ e nLp.symm⟩,kL _ _ ce nLc.symm,ge,sm⟩
   ·intro b o e ne
    exact kL b o ((kp1.trans kall) b o e ne) (ne_of_none e hL)
   ·exact kL _ _ (lst_but hlf1 hp1 kall) nfL
   ·exact kL _ _ (lst_but hlh1 hp1 kall) nhL
  ·rintro σ H1 ⟨o4,o5,a1,xs,ds,rfl,hLx,hrd,hfl,hhd,hp1,la1,ua1,kp1,hlf1,hlh1⟩
   rw [List.length_map] at ua1 hhd
   rw [List.take_length] at hhd
   refine ⟨_,rfl,L,xs,rfl,.inl ⟨SqL.of hLx,fun t ht=>?_⟩⟩
   have S1:=Same.new (o:=.tup xs) ht
   exact k t xs ds a1 _ upd_same (hrd.same S1) hfl hhd la1 (by omega) (hp1.same S1) (kp1.same S1)
structure RowI where
 word:Str
 name:Str
 day:Int
 ds:List PyData
def RowI.d (r:RowI):PyData:=rowDat r.word r.name r.day r.ds
structure RowI.Ok (r:RowI) (fs:List Str):Prop where
 rs:RowS r.word r.ds
 nm:nameB r.name=true
 d0:0≤r.day
 d1:r.day≤9999
 fi:FIn r.word r.ds fs
theorem RowI.Ok.at {r:RowI}{fs:List Str} (h:r.Ok fs) {m:Bool}{H:Hp}{x:V} (rd:RdV m H x r.d):RowAt H x r.word r.name r.day:=by
 unfold RowI.d rowDat at rd
 cases rd with
 | @tup a xs _ e hl q=>
  cases q with
  | cons q1 q=>
   cases q with
   | cons q2 q=>
    cases q with
    | cons q3 q=>
     cases q1
     cases q2
     cases q3
     exact ⟨a,_,rfl,e,h.rs.word⟩
structure RowsAt (H:Hp) (xs:List V) (us:List RowI) (fs:List Str):Prop where
 len:xs.length=us.length
 at':∀ (i:Nat) (x:V),xs[i]?=some x→∃ u,us[i]?=some u∧RdV false H x u.d∧u.Ok fs
def KeyAt (H:Hp) (y:V) (k:L2.K3):Prop:=∃ t rest w n d,y=.ref t∧H t=some (.tup (.str w :: .str n :: .int d :: rest))∧k=(d,rk w,n)
theorem keyCall {H1:Hp}{xs:List V}{us:List RowI}{fs:List Str} (hR:RowsAt H1 xs us fs):∀ y∈xs,∀ (H':Hp) (Q:VK),Same H1 H'→(∀ t a b c H'',Same H' H''→H'' t=some (.tup [.int a,.int b,.str c])→KeyAt H1 y (a,b,c)→Q (.ref t) H'')→spPlace [y] H' Q E0:=fun y hy H' Q S h=>by
 obtain ⟨i,hi⟩:=List.getElem?_of_mem hy
 obtain ⟨u,_,r,ok⟩:=hR.at' i y hi
 have hat:=ok.at r
 obtain ⟨t,rest,rfl,e,hw⟩:=hat
 exact ⟨_,u.word,u.name,u.day,rfl,⟨t,rest,rfl,S _ _ e,hw⟩,fun q H2 S2 e2=>h q _ _ _ H2 S2 e2 ⟨t,rest,_,_,_,rfl,e,rfl⟩⟩
def spRow:Sp:=fun vs H Q _=>∃ (p c:Addr) (ns:List Int) (a:Int) (name:Str) (day:Int) (tS lf lp lh:Addr) (fs ps hs:List Str),vs=[.ref p,.str name,.int day,.ref tS]∧PenAt H p c ns a∧a≤600000∧H tS=some (.tup [.ref lf,.ref lp,.ref lh])∧S3 H lf lp lh fs ps hs∧nameB name=true∧0≤day∧day≤9999∧
 ∀ (x:V) (r:RowI) (a':Int) (H':Hp),RdV false H' x r.d→r.name=name→r.Ok fs→a≤a'→a'≤a + 90→PenAt H' p c ns a'→KeepBut p H H'→Q x H'
theorem scRow:FnScope ["_law_pen_here","_law_name","_law_day","_law_sorts_here","_law_terms"] ["_law_pen_here","_law_name","_law_day","_law_sorts_here"] (defScope sRow):=⟨rfl,rfl,rfl,by decide,rfl,by decide,by decide⟩
theorem ok_row {f fT fR:Addr}{fd fdT fdR:FuncData} (F:Fun K "_law_row" "_law_row" sRow f fd)
  (GT:FnOk P w K mg base CX0 1 fT fdT ["_law_pen_here","_law_many"] spTake) (mT:mg "_law_take"=some (.ref fT)) (kT:PySem.W.keepIn K (.ref fT)=true) (bT:Binds K fdT ["_law_pen_here","_law_many"] [])
  (GR:FnOk P w K mg base CX0 3 fR fdR ["_law_pen_here","_law_word","_law_name","_law_day","_law_sorts_here"] spRowOf) (mR:mg "_law_row_of"=some (.ref fR)) (kR:PySem.W.keepIn K (.ref fR)=true) (bR:Binds K fdR ["_law_pen_here","_law_word","_law_name","_law_day","_law_sorts_here"] []):
  FnOk P w K mg base CX0 4 f fd ["_law_pen_here","_law_name","_law_day","_law_sorts_here"] spRow:=by
 refine F.ok scRow (fun vs H Q E h=>?_) (fun cdv A outer s H vs Q E hr h=>?_)
 ·obtain ⟨p,c,ns,a,name,day,tS,lf,lp,lh,fs,ps,hs,rfl,_⟩:=h
  rfl
 ·obtain ⟨p,c,ns,a,name,day,tS,lf,lp,lh,fs,ps,hs,rfl,hp,ha,htS,h3,hnm,d0,d1,k⟩:=h
  have hr1:Room 1 _:=hr.mono (by decide)
  refine ⟨_,pss_cons (ps_set (i:=4) scRow.nd rfl (Or.inl rfl) (pe_lst (pa_c pe_str (pa_c pe_str (pa_c pe_str (pa_c pe_str (pa_c pe_str (pa_c pe_str (pa_c pe_str (pa_c pe_str (pa_c pe_str (pa_c pe_str pa_nil))))))))))))
   (pss_one (ps_ret (pe_call GR hr rfl mR kR bR .nil pass0 (pa_c (pv 0) (pa_c (pe_ix ix_list (pv 4) (pe_call GT hr1 rfl mT kT bT .nil pass0 (pa_c (pv 0) (pa_c pe_int pa_nil))) (fun _ _=>rfl)) (pa_c (pv 1) (pa_c (pv 2) (pa_c (pv 3) pa_nil)))))))),?_⟩
  refine ⟨sizeLine_big (by show 10≤1000000;decide),fun L hL=>?_⟩
  have sL:=Same.new (o:=.lst [V.str "part",.str "join",.str "forfeit",.str "measure",.str "mend",.str "alone",.str "breach",.str "view",.str "part",.str "join"]) hL
  refine ⟨_,rfl,_,rfl,_,rfl,p,c,ns,a,_,rfl,hp.same sL,by omega,by decide,by decide,fun r1 a1 H1 r10 r11 la1 ua1 hp1 kp1=>?_⟩
  obtain ⟨v,hv,hat⟩:=atI_in (xs:=[V.str "part",.str "join",.str "forfeit",.str "measure",.str "mend",.str "alone",.str "breach",.str "view",.str "part",.str "join"]) (i:=r1) r10 (by show r1 < 10;omega)
  obtain ⟨word,rfl,hw⟩:∃ word:Str,v=.str word∧word∈words8:=by
   simp only [List.mem_cons,List.not_mem_nil,or_false] at hv
   rcases hv with rfl | rfl | rfl | rfl | rfl | rfl | rfl | rfl | rfl | rfl <;> exact ⟨_,rfl,by decide⟩
  have k1:KeepBut p H H1:=(Same.but sL).trans kp1
  refine ⟨L,_,r1,_,rfl,rfl,SqL.of (lst_but upd_same (hp.same sL) kp1),hat,?_⟩
  refine ⟨_,rfl,_,rfl,_,rfl,p,c,ns,a1,word,name,day,tS,lf,lp,lh,fs,ps,hs,rfl,hp1,by omega,tup_but htS hp k1,h3.but hp k1,hw,hnm,fun t ds rest a2 H2 ht hrest hRS hFI la2 ua2 hp2 kp2=>?_⟩
  have hl4:=hrest.len
  have hd4:=hRS.len
  exact k (.ref t) ⟨word,name,day,ds⟩ a2 H2 (.tup ht (by simp only [List.length_cons];omega) (.cons (.str word (word_len hw)) (.cons (nm_rd hnm) (.cons (.int day) hrest)))) rfl ⟨hRS,hnm,d0,d1,hFI⟩ (by omega) (by omega) hp2 (k1.trans kp2)
end
end K37
namespace K37
open PySem L2
abbrev Pc:=Str×Int×Int
def pcT (p:Pc):HO:=.tup [.str p.1,.int p.2.1,.int p.2.2]
def PcsAt (H:Hp) (xs:List V) (ps:List Pc):Prop:=Paired (fun (x:V) (p:Pc)=>∃ q,x=.ref q∧H q=some (pcT p)) xs ps
def Tups (H H':Hp):Prop:=∀ q xs,H q=some (.tup xs)→H' q=some (.tup xs)
theorem same_tups {H H':Hp} (s:Same H H'):Tups H H':=fun q xs e=>s _ _ e
theorem PcsAt.on {H H':Hp}{xs:List V}{ps:List Pc} (h:PcsAt H xs ps) (t:Tups H H'):PcsAt H' xs ps:=Paired.mapP h fun x p ⟨q,e,hq⟩=>⟨q,e,t _ _ hq⟩
theorem PcsAt.same {H H':Hp}{xs:List V}{ps:List Pc} (h:PcsAt H xs ps) (s:Same H H'):PcsAt H' xs ps:=h.on fun q xs e=>s _ _ e
theorem Paired.snoc {α β:Type}{R:α→β→Prop}{a:α}{b:β} (r:R a b):∀ {as:List α}{bs:List β},Paired R as bs→Paired R (as ++ [a]) (bs ++ [b])
 | _,_,.nil=>.cons r .nil
 | _,_,.cons q t=>.cons q (Paired.snoc r t)
theorem Paired.app {α β:Type}{R:α→β→Prop}:∀ {as as':List α}{bs bs':List β},Paired R as bs→Paired R as' bs'→Paired R (as ++ as') (bs ++ bs')
 | _,_,_,_,.nil,s=>s
 | _,_,_,_,.cons q t,s=>.cons q (Paired.app t s)
theorem PcsAt.at {H:Hp}{xs:List V}{ps:List Pc} (h:PcsAt H xs ps) {i:Nat}{x:V} (e:xs[i]?=some x):∃ p q,ps[i]?=some p∧x=.ref q∧H q=some (pcT p):=by
 have hl:=Paired.length h
 obtain ⟨hi,_⟩:=List.getElem?_eq_some_iff.mp e
 obtain ⟨q,e1,e2⟩:=Paired.at h e (List.getElem?_eq_getElem (show i < ps.length by omega))
 exact ⟨_,q,List.getElem?_eq_getElem (by omega),e1,e2⟩
def plen (p:Pc):Int:=p.2.2 - p.2.1
def acr (ps:List Pc):Int:=(ps.map plen).sum
theorem acr_cons (p:Pc) (ps:List Pc):acr (p :: ps)=plen p + acr ps:=by simp [acr]
theorem acr_app (ps qs:List Pc):acr (ps ++ qs)=acr ps + acr qs:=by simp [acr]
structure PGood (ws:List Str) (ps:List Pc):Prop where
 ok:∀ p∈ps,p.1∈ws∧p.2.1 < p.2.2
theorem PGood.app {ws:List Str}{ps qs:List Pc} (a:PGood ws ps) (b:PGood ws qs):PGood ws (ps ++ qs):=⟨fun p hp=>(List.mem_append.mp hp).elim (a.ok p) (b.ok p)⟩
theorem PGood.len {ws:List Str}:∀ {ps:List Pc},PGood ws ps→(ps.length:Int)≤acr ps
 | [],_=>by simp [acr]
 | p :: ps,h=>by
  have h1:=PGood.len (ps:=ps) ⟨fun q hq=>h.ok q (List.mem_cons_of_mem _ hq)⟩
  have h2:=(h.ok p List.mem_cons_self).2
  rw [acr_cons,List.length_cons]
  unfold plen
  omega
def cutSE (f:Str) (s e:Int):List Pc:=if s < e then [(f,s,e)] else []
def cutOne (p:Pc) (lo hi:Int):List Pc:=cutSE p.1 (if p.2.1 + lo > p.2.1 then p.2.1 + lo else p.2.1) (if p.2.1 + hi < p.2.2 then p.2.1 + hi else p.2.2)
def cutP:List Pc→Int→Int→List Pc
 | [],_,_=>[]
 | p :: r,lo,hi=>cutOne p lo hi ++ cutP r (lo - plen p) (hi - plen p)
theorem cutP_snoc (p:Pc):∀ (ps:List Pc) (lo hi:Int),cutP (ps ++ [p]) lo hi=cutP ps lo hi ++ cutOne p (lo - acr ps) (hi - acr ps)
 | [],lo,hi=>by simp [cutP,acr]
 | q :: ps,lo,hi=>by
  show cutOne q lo hi ++ cutP (ps ++ [p]) (lo - plen q) (hi - plen q)=(cutOne q lo hi ++ cutP ps (lo - plen q) (hi - plen q)) ++ _
  rw [cutP_snoc p ps,List.append_assoc,acr_cons,Int.sub_sub,Int.sub_sub]
def bef:List Pc→Int→Int
 | [],_=>0
 | p :: r,x=>(if x≤0 then 0 else if x≤plen p then x else plen p) + bef r (x - plen p)
theorem acr_cut {ws:List Str}:∀ {ps:List Pc}{lo hi:Int},PGood ws ps→lo≤hi→acr (cutP ps lo hi)=bef ps hi - bef ps lo
 | [],lo,hi,_,_=>by simp [cutP,acr,bef]
 | p :: r,lo,hi,h,hl=>by
  have ih:=acr_cut (ps:=r) (lo:=lo - plen p) (hi:=hi - plen p) ⟨fun q hq=>h.ok q (List.mem_cons_of_mem _ hq)⟩ (by omega)
  have h2:=(h.ok p List.mem_cons_self).2
  show acr (cutOne p lo hi ++ cutP r (lo - plen p) (hi - plen p))=((if hi≤0 then 0 else if hi≤plen p then hi else plen p) + bef r (hi - plen p)) - ((if lo≤0 then 0 else if lo≤plen p then lo else plen p) + bef r (lo - plen p))
  rw [acr_app,ih]
  have:acr (cutOne p lo hi)=(if hi≤0 then 0 else if hi≤plen p then hi else plen p) - (if lo≤0 then 0 else if lo≤plen p then lo else plen p):=by
   unfold cutOne cutSE plen at *
   repeat' split
   all_goals simp only [acr,List.map_cons,List.map_nil,List.sum_cons,List.sum_nil,plen]
   all_goals omega
  omega
theorem cutSE_good {ws:List Str}{f:Str}{s e:Int} (hf:f∈ws):∀ q∈cutSE f s e,q.1∈ws∧q.2.1 < q.2.2:=fun q hq=>by
 unfold cutSE at hq
 split at hq
 ·rw [List.mem_singleton.mp hq]
  exact ⟨hf,by assumption⟩
 ·simp at hq
theorem cutSE_len (f:Str) (s e:Int):(cutSE f s e).length≤1:=by
 unfold cutSE
 split <;> simp
theorem cutOne_eq (p:Pc) (lo hi a:Int):cutOne p (lo - a) (hi - a)=cutSE p.1 (if p.2.1 + lo - a > p.2.1 then p.2.1 + lo - a else p.2.1) (if p.2.1 + hi - a < p.2.2 then p.2.1 + hi - a else p.2.2):=by
 unfold cutOne
 rw [Int.add_sub_assoc,Int.add_sub_assoc]
theorem cut_good {ws:List Str}:∀ {ps:List Pc}{lo hi:Int},PGood ws ps→PGood ws (cutP ps lo hi)
 | [],_,_,_=>⟨fun p hp=>by simp [cutP] at hp⟩
 | p :: r,lo,hi,h=>by
  refine PGood.app ⟨fun q hq=>?_⟩ (cut_good ⟨fun q hq=>h.ok q (List.mem_cons_of_mem _ hq)⟩)
  unfold cutOne at hq
  exact cutSE_good (h.ok p List.mem_cons_self).1 q hq
theorem bef_0:∀ (ps:List Pc) (x:Int),(∀ p∈ps,p.2.1 < p.2.2)→x≤0→bef ps x=0
 | [],_,_,_=>rfl
 | p :: r,x,h,hx=>by
  have h2:=h p List.mem_cons_self
  have ih:=bef_0 r (x - plen p) (fun q hq=>h q (List.mem_cons_of_mem _ hq)) (by unfold plen;omega)
  show (if x≤0 then 0 else _) + bef r (x - plen p)=0
  rw [ih,if_pos hx]
  rfl
theorem bef_le:∀ (ps:List Pc) (x:Int),(∀ p∈ps,p.2.1 < p.2.2)→bef ps x≤acr ps
 | [],_,_=>by simp [bef,acr]
 | p :: r,x,h=>by
  have h2:=h p List.mem_cons_self
  have ih:=bef_le r (x - plen p) fun q hq=>h q (List.mem_cons_of_mem _ hq)
  rw [acr_cons]
  show (if x≤0 then 0 else if x≤plen p then x else plen p) + bef r (x - plen p)≤_
  have:(if x≤0 then 0 else if x≤plen p then x else plen p)≤plen p:=by
   unfold plen
   repeat' split
   all_goals omega
  omega
theorem cutP_len:∀ (ps:List Pc) (lo hi:Int),(cutP ps lo hi).length≤ps.length
 | [],_,_=>Nat.le_refl _
 | p :: r,lo,hi=>by
  have:=cutP_len r (lo - plen p) (hi - plen p)
  have h2:(cutOne p lo hi).length≤1:=cutSE_len _ _ _
  show (cutOne p lo hi ++ cutP r (lo - plen p) (hi - plen p)).length≤_
  rw [List.length_append,List.length_cons]
  omega
def spAcres:Sp:=fun vs H Q _=>∃ (t:Addr) (xs:List V) (ps:List Pc),vs=[.ref t]∧H t=some (.tup xs)∧PcsAt H xs ps∧xs.length≤sizeLine∧∀ H',Same H H'→Q (.int (acr ps)) H'
def spCut:Sp:=fun vs H Q _=>∃ (t:Addr) (xs:List V) (ps:List Pc) (lo hi:Int),vs=[.ref t,.int lo,.int hi]∧H t=some (.tup xs)∧PcsAt H xs ps∧xs.length≤sizeLine∧
 ∀ (t':Addr) (ys:List V) (H':Hp),Same H H'→H' t'=some (.tup ys)→PcsAt H' ys (cutP ps lo hi)→Q (.ref t') H'
section
variable {P:Program}{w:World}{K:PySem.W.Frag}{mg:Str→Option Value}{base:Heap}
theorem scAcres:FnScope ["pieces"] ["pieces"] (defScope sAcres):=⟨rfl,rfl,rfl,by decide,rfl,by decide,by decide⟩
theorem ok_acres {f:Addr}{fd:FuncData} (F:Fun K "acres_in" "acres_in" sAcres f fd) (hsum:mg "sum"=none):FnOk P w K mg base CX0 1 f fd ["pieces"] spAcres:=by
 refine F.ok scAcres (fun vs H Q E h=>?_) (fun cdv A outer s H vs Q E hr h=>?_)
 ·obtain ⟨t,xs,ps,rfl,_⟩:=h
  rfl
 ·obtain ⟨t,xs,ps,rfl,ht,hps,hz,k⟩:=h
  have nd:(["field","low","high"]:List Str).Nodup:=by decide
  refine ⟨_,pss_one (ps_ret (pe_callB (call_sum rfl) (by rfl) hsum PyProof.Rows.boot_sum (pa_c (pe_comp (N:=["field","low","high"]) (src:=[none,none,none]) (osc:=defScope sAcres) (oN:=["pieces"]) (g:=gTup K 3 (gCons (gName 0) (gCons (gName 1) (gCons (gName 2) gNil)))) ⟨by rfl,by decide,by decide,by decide,rfl,by rfl⟩ (pi_tup (pv 0))
   fun cl s H fp pins C=>⟨pg_tup rfl (pgs_cons (pg_name (i:=0) nd rfl (Or.inl rfl)) (pgs_cons (pg_name (i:=1) nd rfl (Or.inl rfl)) (pgs_cons (pg_name (i:=2) nd rfl (Or.inl rfl)) pgs_nil))),pts_nil,pe_op op_sub (pv 2) (pv 1)⟩) pa_nil))),?_⟩
  have hl:=Paired.length hps
  refine ⟨_,rfl,t,rfl,⟨_,SqT.of ht⟩,?_⟩
  refine comp_tup (K:=K) (xs:=xs) (fun i ys σ' H'=>∃ (o1 o2 o3:Option V),σ'=[o1,o2,o3]∧Same H H'∧ys=((ps.take i).map plen).map V.int) ⟨none,none,none,rfl,Same.refl H,by simp⟩
   hz (fun i ys σ H' p=>by obtain ⟨_,_,_,_,_,rfl⟩:=p;simp;omega) (fun i ys σ H' p=>by obtain ⟨_,_,_,_,S,_⟩:=p;exact SqT.of (S _ _ ht)) ?_ ?_
  ·rintro i v ys σ' H1 hv ⟨o1,o2,o3,rfl,S,rfl⟩
   obtain ⟨p,q,hp,rfl,hq⟩:=hps.at hv
   refine ⟨q,_,rfl,SqT.of (S _ _ hq),rfl,_,_,rfl,_,_,rfl,_,_,rfl,rfl,?_⟩
   refine iteT ?_
   refine ⟨_,rfl,_,rfl,_,_,rfl,rfl,_,_,_,rfl,S,?_⟩
   rw [List.take_add_one,hp]
   simp [plen]
  ·rintro ys σ' H1 ⟨o1,o2,o3,rfl,S,rfl⟩ D hD
   rw [hl,List.take_length]
   refine ⟨D,ps.map plen,rfl,SqL.of upd_same,?_⟩
   exact k _ (S.trans (Same.new hD))
theorem scCut:FnScope ["pieces","low","high","told","ahead","field","first","last","start","end"] ["pieces","low","high"] (defScope sCut):=⟨rfl,rfl,rfl,by decide,rfl,by decide,by decide⟩
theorem ok_cut {f:Addr}{fd:FuncData} (F:Fun K "cut" "cut" sCut f fd) (hmax:mg "max"=none) (hmin:mg "min"=none) (htup:mg "tuple"=none):FnOk P w K mg base CX0 1 f fd ["pieces","low","high"] spCut:=by
 refine F.ok scCut (fun vs H Q E h=>?_) (fun cdv A outer s H vs Q E hr h=>?_)
 ·obtain ⟨t,xs,ps,lo,hi,rfl,_⟩:=h
  rfl
 ·obtain ⟨t,xs,ps,lo,hi,rfl,ht,hps,hz,k⟩:=h
  refine ⟨_,pss_cons (ps_set (i:=3) scCut.nd rfl (Or.inl rfl) (pe_lst pa_nil))
   (pss_cons (ps_set (i:=4) scCut.nd rfl (Or.inl rfl) pe_int)
   (pss_cons (ps_for PassesOwn.never rfl (pi_tup (pv 0)) (g:=gTup K 3 (gCons (gName 5) (gCons (gName 6) (gCons (gName 7) gNil)))) (pg_tup rfl (pgs_cons (pg_name (i:=5) scCut.nd rfl (Or.inl rfl)) (pgs_cons (pg_name (i:=6) scCut.nd rfl (Or.inl rfl)) (pgs_cons (pg_name (i:=7) scCut.nd rfl (Or.inl rfl)) pgs_nil))))
    (pss_cons (ps_set (i:=8) scCut.nd rfl (Or.inl rfl) (pe_callB (call_max2 rfl) (by rfl) hmax (by kernel_rfl) (pa_c (pv 6) (pa_c (pe_op op_sub (pe_op op_add (pv 6) (pv 1)) (pv 4)) pa_nil))))
    (pss_cons (ps_set (i:=9) scCut.nd rfl (Or.inl rfl) (pe_callB (call_min2 rfl) (by rfl) hmin (by kernel_rfl) (pa_c (pv 7) (pa_c (pe_op op_sub (pe_op op_add (pv 6) (pv 2)) (pv 4)) pa_nil))))
    (pss_cons (ps_if (pt_cmpR op_lt (pv 8) (pv 9) (nomark _)) (pss_one (ps_expr (pe_bm PySem.F.plainAttrs_list PySem.F.slot_list_append PySem.F.type_list_append mt_append (pv 3) (pa_c (pe_tup (pa_c (pv 5) (pa_c (pv 8) (pa_c (pv 9) pa_nil)))) pa_nil)))) pss_nil)
    (pss_one (ps_aug (i:=4) scCut.nd rfl (Or.inl rfl) (pe_op op_sub (pv 7) (pv 6)) ip_add))))))
   (pss_one (ps_ret (pe_callTy call_tuple_of (by rfl) htup (by kernel_rfl) (pa_c (pv 3) pa_nil)))))),?_⟩
  have hl:=Paired.length hps
  refine ⟨Nat.zero_le _,fun L hL=>?_⟩
  have sL:=Same.new (o:=.lst []) hL
  refine ⟨_,rfl,t,rfl,⟨_,SqT.of (sL _ _ ht)⟩,?_⟩
  refine for_tup (K:=K) (xs:=xs) (fun i σ H'=>∃ (o5 o6 o7 o8 o9:Option V) (ys:List V),σ=[some (.ref t),some (.int lo),some (.int hi),some (.ref L),some (.int (acr (ps.take i))),o5,o6,o7,o8,o9]∧Same H H'∧H' L=some (.lst ys)∧PcsAt H' ys (cutP (ps.take i) lo hi))
   ⟨none,none,none,none,none,[],rfl,sL,upd_same,.nil⟩ (fun i σ H' _ p=>by obtain ⟨_,_,_,_,_,_,_,S,_⟩:=p;exact SqT.of (S _ _ ht)) ?_ ?_
  ·rintro i v σ H1 hv ⟨o5,o6,o7,o8,o9,ys,rfl,S,hL1,hY⟩
   obtain ⟨p,q,hp,rfl,hq⟩:=hps.at hv
   refine ⟨q,_,rfl,SqT.of (S _ _ hq),rfl,_,_,rfl,_,_,rfl,_,_,rfl,rfl,?_⟩
   refine ⟨_,rfl,_,rfl,_,rfl,_,_,rfl,rfl,_,rfl,_,_,rfl,rfl,_,_,rfl,?_⟩
   refine ⟨_,rfl,_,rfl,_,rfl,_,_,rfl,rfl,_,rfl,_,_,rfl,rfl,_,_,rfl,?_⟩
   refine ⟨_,rfl,_,rfl,_,_,rfl,rfl,_,rfl,?_⟩
   have ea:acr (ps.take (i + 1))=acr (ps.take i) + (p.2.2 - p.2.1):=by
    rw [List.take_add_one,hp,acr_app]
    simp [acr,plen]
   have ec:=cutP_snoc p (ps.take i) lo hi
   rw [cutOne_eq] at ec
   have et:ps.take (i + 1)=ps.take i ++ [p]:=by rw [List.take_add_one,hp];rfl
   rw [← et] at ec
   have hyl:=Paired.length hY
   have hcl:=cutP_len (ps.take i) lo hi
   have htl:=List.length_take_le i ps
   refine ite2 (fun g=>?_) fun g=>?_
   ·have g':=of_decide_eq_true g
    unfold cutSE at ec
    rw [if_pos g'] at ec
    refine ⟨_,rfl,.inl ⟨rfl,_,SqL.of hL1⟩,_,rfl,_,rfl,_,rfl,sizeLine_big (by show 3≤1000000;decide),fun q2 hq2=>?_⟩
    have s2:=Same.new (o:=pcT (p.1,(if p.2.1 + lo - acr (ps.take i) > p.2.1 then p.2.1 + lo - acr (ps.take i) else p.2.1),(if p.2.1 + hi - acr (ps.take i) < p.2.2 then p.2.1 + hi - acr (ps.take i) else p.2.2))) hq2
    have hLn:L≠q2:=ne_of_none hL1 hq2
    refine ⟨L,ys,_,rfl,rfl,s2 _ _ hL1,?_,?_⟩
    ·obtain ⟨hi',_⟩:=List.getElem?_eq_some_iff.mp hp
     rw [List.length_take] at htl hcl
     omega
    ·refine ⟨_,rfl,_,rfl,_,rfl,_,_,rfl,rfl,_,_,rfl,rfl,?_⟩
     refine ⟨_,_,_,_,_,ys ++ [.ref q2],by rw [ea];rfl,fun b o e=>?_,upd_same,?_⟩
     ·rw [upd_ne (ne_of_none e hL)]
      exact s2 _ _ (S _ _ e)
     ·rw [ec]
      have hY2:=hY.on (H':=upd (upd H1 q2 _) L (.lst (ys ++ [.ref q2]))) fun b us e=>by
       rw [upd_ne (fun z=>by rw [z,hL1] at e;cases e)]
       exact s2 _ _ e
      exact Paired.snoc ⟨q2,rfl,by rw [upd_ne hLn.symm];exact upd_same⟩ hY2
   ·have g':¬ _:=fun z=>g (decide_eq_true z)
    unfold cutSE at ec
    rw [if_neg g',List.append_nil] at ec
    refine ⟨_,rfl,_,rfl,_,rfl,_,_,rfl,rfl,_,_,rfl,rfl,?_⟩
    exact ⟨_,_,_,_,_,ys,by rw [ea];rfl,S,hL1,by rw [ec];exact hY⟩
  ·rintro σ H1 ⟨o5,o6,o7,o8,o9,ys,rfl,S,hL1,hY⟩
   rw [hl,List.take_length] at hY
   refine ⟨_,rfl,L,ys,rfl,.inl ⟨SqL.of hL1,fun t' ht'=>?_⟩⟩
   have s2:=Same.new (o:=.tup ys) ht'
   exact k t' ys _ (S.trans s2) upd_same (hY.same s2)
end
end K37
namespace K37
open PySem L2
def lpos:Pos:=⟨36,47,36,88⟩
def lqual:Str:=(("in_one":Str) ++ ".<locals>.") ++ "<lambda>"
abbrev Tb (T:Addr) (H:Hp):Prop:=GoodT T lpos lqual H
theorem sameT_tups {T:Addr}{H H':Hp} (s:SameT T H H') (g:Tb T H):Tups H H':=fun q xs e=>s _ _ (fun z=>by
 obtain ⟨ps,hT,_⟩:=g.ex
 rw [z,hT] at e
 cases e) e
theorem pcs_perm {H:Hp}{xs ys:List V} (hp:ys.Perm xs):∀ {ps:List Pc},PcsAt H xs ps→∃ qs,qs.Perm ps∧PcsAt H ys qs:=by
 induction hp with
 | nil=>intro ps h;exact ⟨ps,.refl _,h⟩
 | cons a _ ih=>
  intro ps h
  cases h with
  | cons r t=>
   obtain ⟨qs,h1,h2⟩:=ih t
   exact ⟨_ :: qs,h1.cons _,.cons r h2⟩
 | swap a b l=>
  intro ps h
  cases h with
  | cons r t=>
   cases t with
   | cons r2 t2=>exact ⟨_ :: _ :: _,.swap _ _ _,.cons r2 (.cons r t2)⟩
 | trans _ _ ih1 ih2=>
  intro ps h
  obtain ⟨qs,h1,h2⟩:=ih2 h
  obtain ⟨rs,h3,h4⟩:=ih1 h2
  exact ⟨rs,h3.trans h1,h4⟩
theorem acr_perm {ps qs:List Pc} (h:qs.Perm ps):acr qs=acr ps:=by
 unfold acr
 induction h with
 | nil=>rfl
 | cons a _ ih=>simp [ih]
 | swap a b l=>simp;omega
 | trans _ _ h1 h2=>exact h1.trans h2
theorem PGood.perm {ws:List Str}{ps qs:List Pc} (g:PGood ws ps) (h:qs.Perm ps):PGood ws qs:=⟨fun p hp=>g.ok p (h.mem_iff.mp hp)⟩
theorem paired_last {α β:Type}{R:α→β→Prop}{a:α}:∀ {as:List α}{bs:List β},Paired R (as ++ [a]) bs→∃ bs' b,bs=bs' ++ [b]∧Paired R as bs'∧R a b
 | [],_,h=>by
  cases h with
  | cons r t=>
   cases t
   exact ⟨[],_,rfl,.nil,r⟩
 | x :: as,_,h=>by
  cases h with
  | cons r t=>
   obtain ⟨bs',b,rfl,h1,h2⟩:=paired_last t
   exact ⟨_ :: bs',b,rfl,.cons r h1,h2⟩
theorem nil_or_snoc {α:Type} (l:List α):l=[]∨∃ r x,l=r ++ [x]:=by
 rcases List.eq_nil_or_concat l with h | ⟨r,x,h⟩
 ·exact .inl h
 ·exact .inr ⟨r,x,by rw [h,List.concat_eq_append]⟩
theorem tb_on {T:Addr}{H H':Hp} (g:Tb T H) (k:∀ b o,H b=some o→¬ (∃ xs,H b=some (.lst xs))→H' b=some o):Tb T H':=by
 obtain ⟨ps,h1,h2,h3⟩:=g.ex
 refine ⟨ps,k _ _ h1 (fun ⟨xs,z⟩=>by rw [h1] at z;cases z),h2,?_⟩
 rcases h3 with h3 | ⟨c,h3,h4⟩
 ·exact .inl h3
 ·exact .inr ⟨c,h3,k _ _ h4 fun ⟨xs,z⟩=>by rw [h4] at z;cases z⟩
def RksOk (rks:List (Key×V)) (ws:List Str):Prop:=∀ w∈ws,∃ n:Int,valV rks (Sum.inr w)=some (.int n)
def spInOne (T:Addr):Sp:=fun vs H Q _=>∃ (r l:Addr) (rks:List (Key×V)) (xs:List V) (ps:List Pc) (ws:List Str),vs=[.ref r,.ref l]∧H r=some (.dK rks)∧RksOk rks ws∧H l=some (.lst xs)∧PcsAt H xs ps∧PGood ws ps∧xs.length < sizeLine∧Tb T H∧
 ∀ (t:Addr) (ys:List V) (qs:List Pc) (H':Hp),SameT T H H'→Tb T H'→H' t=some (.tup ys)→PcsAt H' ys qs→PGood ws qs→acr qs=acr ps→Q (.ref t) H'
section
variable {P:Program}{w:World}{K:PySem.W.Frag}{mg:Str→Option Value}{base:Heap}
theorem scInOne:FnScope ["ranks","pieces","told","field","low","high"] ["ranks","pieces"] (defScope sInOne):=⟨rfl,rfl,rfl,by decide,rfl,by decide,by decide⟩
theorem ok_inOne {f c T:Addr}{fd:FuncData} (F:Fun K "in_one" "in_one" sInOne f fd) (hfc:fd.code=.ref c) (hC:PySem.W.codeHdIn K c T=true) (hB:BltM mg base) (hsor:mg "sorted"=none) (htup:mg "tuple"=none):FnOk P w K mg base CX0 4 f fd ["ranks","pieces"] (spInOne T):=by
 refine F.okC scInOne (fun vs H Q E h=>?_) (fun cdv A outer s H vs Q E hcd hr h=>?_)
 ·obtain ⟨r,l,rks,xs,ps,ws,rfl,_⟩:=h
  rfl
 ·obtain ⟨r,l,rks,xs,ps,ws,rfl,hR,hok,hl,hps,hg,hz,hT,k⟩:=h
  rw [hfc] at hcd
  subst hcd
  have nd:=scInOne.nd
  refine ⟨_,pss_cons (ps_set (i:=2) nd rfl (Or.inl rfl) (pe_lst pa_nil))
   (pss_cons (ps_for PassesOwn.never rfl (pi_list (pe_sortedL (k:=0) (x:="piece") (fs:=["ranks"]) (cl:=[("ranks",s.heap.objs.size + 1)]) (T:=T) hr rfl hC hB (by rfl) hsor ⟨rfl,rfl,rfl,by decide,by decide,by decide,by decide⟩ ?hc ?hhas (fun _ _ _ _=>rfl)
     (fun f c s H=>pe_tup (pa_c (pe_dget ?hu (pv 1) (pe_ix (r:=rIxT K) ix_tup (pv 0) pe_int (fun _ _=>rfl)) (fun _ _=>rfl)) (pa_c (pe_ix (r:=rIxT K) ix_tup (pv 0) pe_int (fun _ _=>rfl)) pa_nil))) (pa_c (pv 1) pa_nil)))
    (g:=gTup K 3 (gCons (gName 3) (gCons (gName 4) (gCons (gName 5) gNil)))) (pg_tup rfl (pgs_cons (pg_name (i:=3) nd rfl (Or.inl rfl)) (pgs_cons (pg_name (i:=4) nd rfl (Or.inl rfl)) (pgs_cons (pg_name (i:=5) nd rfl (Or.inl rfl)) pgs_nil))))
    (pss_one (ps_if (pt_mid (PW.pt (pw_and (pt_truth (pv 2) (fun _=>rfl)) (pw_and (pt_cmpR op_eq (pe_ix ix_tup (pe_ix ix_list (pv 2) (pe_un un_neg pe_int) (fun _ _=>rfl)) pe_int (fun _ _=>rfl)) (pv 3) (nomark _)) (pw_and1 (pt_cmpR op_eq (pe_ix ix_tup (pe_ix ix_list (pv 2) (pe_un un_neg pe_int) (fun _ _=>rfl)) pe_int (fun _ _=>rfl)) (pv 4) (nomark _)))))))
     (pss_one (ps_asg (pe_tup (pa_c (pv 3) (pa_c (pe_ix ix_tup (pe_ix ix_list (pv 2) (pe_un un_neg pe_int) (fun _ _=>rfl)) pe_int (fun _ _=>rfl)) (pa_c (pv 5) pa_nil)))) (pg_sub (pv 2) (pe_un un_neg pe_int) set_list)))
     (pss_one (ps_expr (pe_bm PySem.F.plainAttrs_list PySem.F.slot_list_append PySem.F.type_list_append mt_append (pv 2) (pa_c (pe_tup (pa_c (pv 3) (pa_c (pv 4) (pa_c (pv 5) pa_nil)))) pa_nil)))))))
   (pss_one (ps_ret (pe_callTy call_tuple_of (by rfl) htup (by kernel_rfl) (pa_c (pv 2) pa_nil))))),?_⟩
  case hc=>exact fun x b h=>h
  case hhas=>
   intro x h
   have hm:=PySem.mem_of_lookup h
   obtain rfl:x="ranks":=(show ∀ y∈_,y.2=NameKind.free→y.1=("ranks":Str) from by decide) (x,NameKind.free) hm rfl
   exact ⟨_,rfl⟩
  case hu=>exact hu_of ((hr.in1).in1.deeper _)
  refine ⟨Nat.zero_le _,fun L hL=>?_⟩
  have sL:=Same.new (o:=.lst []) hL
  have hl0:=sL _ _ hl
  have hps0:=hps.same sL
  have hT0:Tb T _:=hT.same sL
  have hR0:=sL _ _ hR
  obtain ⟨tps,hTt,_⟩:=hT0.ex
  refine ⟨_,rfl,l,xs,[.ref r],rfl,SqL.of hl0,Nat.le_of_lt hz,.cons ⟨0,rfl,rfl,rfl⟩ .nil,hT0,fun y hy H' sT=>?_,fun D ys H1 sT gT nD hp hD=>?_⟩
  ·obtain ⟨i,hi⟩:=List.getElem?_of_mem hy
   obtain ⟨p,q,hp,rfl,hq⟩:=hps0.at hi
   have hq':=sameT_tups sT hT0 _ _ hq
   obtain ⟨n,hn⟩:=hok p.1 (hg.ok p (List.mem_of_getElem? hp)).1
   have hR':H' r=some (.dK rks):=sT _ _ (fun z=>by rw [z,hTt] at hR0;cases hR0) hR0
   refine ⟨_,rfl,_,rfl,q,_,0,_,rfl,rfl,SqT.of hq',rfl,r,.int n,rfl,.inl ⟨rks,Sum.inr p.1,.inl hR',rfl,hn.symm⟩,_,rfl,q,_,1,_,rfl,rfl,SqT.of hq',rfl,sizeLine_big (by show 2≤1000000;decide),fun t2 ht2=>?_⟩
   exact ⟨t2,n,p.2.1,rfl,upd_same,Same.new ht2⟩
  ·obtain ⟨ps',hpp,hY⟩:=pcs_perm hp hps0
   have hY1:=hY.on (sameT_tups sT hT0)
   have hg':=hg.perm hpp
   have hDL:D≠L:=fun z=>by rw [z,upd_same] at nD;cases nD
   have hLT:L≠T:=fun z=>by rw [← z,upd_same] at hTt;cases hTt
   have hl':=Paired.length hY
   have hyx:=hp.length_eq
   refine ⟨D,rfl,⟨_,SqL.of hD⟩,?_⟩
   refine for_list (K:=K) (xs:=ys) (fun i σ H'=>∃ (o3 o4 o5:Option V) (zs:List V) (qs:List Pc),σ=[some (.ref r),some (.ref l),some (.ref L),o3,o4,o5]∧SameT T H H'∧Tb T H'∧H' D=some (.lst ys)∧H' L=some (.lst zs)∧PcsAt H' ys ps'∧PcsAt H' zs qs∧PGood ws qs∧acr qs=acr (ps'.take i)∧qs.length≤i)
    ⟨none,none,none,[],[],rfl,sL.butT.trans sT,gT,hD,sT _ _ hLT upd_same,hY1,.nil,⟨fun p hp=>by simp at hp⟩,by simp [acr],Nat.le_refl _⟩ (fun i σ H' _ p=>by obtain ⟨_,_,_,_,_,_,_,_,e,_⟩:=p;exact SqL.of e) ?_ ?_
   ·rintro i v σ H2 hv ⟨o3,o4,o5,zs,qs,rfl,S2,T2,hD2,hL2,hY2,hZ2,hG2,hA2,hn2⟩
    obtain ⟨p,q,hp,rfl,hq⟩:=hY2.at hv
    have hpg:=hg'.ok p (List.mem_of_getElem? hp)
    have hzl:=Paired.length hZ2
    have ea:acr (ps'.take (i + 1))=acr (ps'.take i) + plen p:=by
     rw [List.take_add_one,hp,acr_app]
     simp [acr]
    have hi':i < ys.length:=(List.getElem?_eq_some_iff.mp hv).1
    refine ⟨q,_,rfl,SqT.of hq,rfl,_,_,rfl,_,_,rfl,_,_,rfl,rfl,?_⟩
    refine ⟨fun b H3=>H3=H2∧(b=true→∃ zs' q2 qs' p2,zs=zs' ++ [.ref q2]∧qs=qs' ++ [p2]∧PcsAt H2 zs' qs'∧H2 q2=some (pcT p2)∧p2.1=p.1∧p2.2.2=p.2.1),?_,fun b H3 hb=>?_⟩
    ·refine ⟨_,rfl,!zs.isEmpty,.inl ⟨zs,SqL.of hL2,rfl⟩,?_⟩
     rcases nil_or_snoc zs with rfl | ⟨zs',z,rfl⟩
     ·exact iteF ⟨rfl,fun z=>nomatch z⟩
     ·obtain ⟨qs',p2,rfl,hZ',q2,rfl,hq2⟩:∃ qs' p2,qs=qs' ++ [p2]∧PcsAt H2 zs' qs'∧∃ q2,z=.ref q2∧H2 q2=some (pcT p2):=paired_last hZ2
      rw [show (!(zs' ++ [V.ref q2]).isEmpty)=true by cases zs' <;> rfl]
      refine iteT ?_
      refine ⟨_,rfl,_,rfl,L,_,-1,_,rfl,rfl,SqL.of hL2,atI_last _ _,q2,_,0,_,rfl,rfl,SqT.of hq2,rfl,_,rfl,rfl,_,rfl,?_⟩
      refine ite2 (fun g1=>?_) fun g1=>⟨rfl,fun z=>nomatch z⟩
      refine ⟨_,rfl,_,rfl,L,_,-1,_,rfl,rfl,SqL.of hL2,atI_last _ _,q2,_,2,_,rfl,rfl,SqT.of hq2,rfl,_,rfl,rfl,_,rfl,rfl,fun g2=>?_⟩
      have e1:=of_decide_eq_true g1
      have e2:=of_decide_eq_true g2
      injection e1 with e1
      injection e2 with e2
      exact ⟨zs',q2,qs',p2,rfl,rfl,hZ',hq2,e1,e2⟩
    ·obtain ⟨rfl,hb⟩:=hb
     have hLH:H L=none:=hL
     cases b with
     | true=>
      obtain ⟨zs',q2,qs',p2,rfl,rfl,hZ',hq2,e1,e2⟩:=hb rfl
      refine iteT ?_
      refine ⟨_,rfl,_,rfl,_,rfl,L,_,-1,_,rfl,rfl,SqL.of hL2,atI_last _ _,q2,_,1,_,rfl,rfl,SqT.of hq2,rfl,_,rfl,sizeLine_big (by show 3≤1000000;decide),fun q3 hq3=>?_⟩
      have s3:=Same.new (o:=pcT (p.1,p2.2.1,p.2.2)) hq3
      have hLq:L≠q3:=ne_of_none hL2 hq3
      refine ⟨_,rfl,_,rfl,L,_,-1,zs'.length,rfl,rfl,s3 _ _ hL2,?_,?_⟩
      ·unfold ixN
       rw [List.length_append,List.length_singleton,if_neg (by decide),if_pos (by omega)]
       congr 1
       omega
      ·have es:(zs' ++ [V.ref q2]).set zs'.length (.ref q3)=zs' ++ [.ref q3]:=by simp
       rw [es]
       have keep:∀ b o,b≠L→H3 b=some o→upd (upd H3 q3 (pcT (p.1,p2.2.1,p.2.2))) L (.lst (zs' ++ [.ref q3])) b=some o:=fun b o n e=>by
        rw [upd_ne n]
        exact s3 _ _ e
       have kt:Tups H3 (upd (upd H3 q3 (pcT (p.1,p2.2.1,p.2.2))) L (.lst (zs' ++ [.ref q3]))):=fun b us e=>keep b _ (fun z=>by rw [z,hL2] at e;cases e) e
       refine ⟨_,_,_,zs' ++ [.ref q3],qs' ++ [(p.1,p2.2.1,p.2.2)],rfl,fun b o n e=>keep b o (ne_of_none e hL) (S2 b o n e),?_,keep _ _ hDL hD2,upd_same,hY2.on kt,?_,?_,?_,by rw [List.length_append,List.length_singleton] at hn2 ⊢;omega⟩
       ·exact tb_on T2 fun b o e n=>keep b o (fun z=>n ⟨_,z ▸ hL2⟩) e
       ·exact Paired.snoc ⟨q3,rfl,by rw [upd_ne hLq.symm];exact upd_same⟩ (hZ'.on kt)
       ·have h2:=hG2.ok p2 (List.mem_append_right _ List.mem_cons_self)
        exact PGood.app ⟨fun x hx=>hG2.ok x (List.mem_append_left _ hx)⟩ ⟨fun x hx=>by rw [List.mem_singleton.mp hx];exact ⟨hpg.1,by dsimp only;omega⟩⟩
       ·rw [ea,← hA2,acr_app,acr_app]
        simp only [acr,plen,List.map_cons,List.map_nil,List.sum_cons,List.sum_nil]
        omega
     | false=>
      refine iteF ?_
      refine ⟨_,rfl,.inl ⟨rfl,_,SqL.of hL2⟩,_,rfl,_,rfl,_,rfl,sizeLine_big (by show 3≤1000000;decide),fun q3 hq3=>?_⟩
      have s3:=Same.new (o:=pcT p) hq3
      have hLq:L≠q3:=ne_of_none hL2 hq3
      refine ⟨L,zs,_,rfl,rfl,s3 _ _ hL2,by omega,?_⟩
      have keep:∀ b o,b≠L→H3 b=some o→upd (upd H3 q3 (pcT p)) L (.lst (zs ++ [.ref q3])) b=some o:=fun b o n e=>by
       rw [upd_ne n]
       exact s3 _ _ e
      have kt:Tups H3 (upd (upd H3 q3 (pcT p)) L (.lst (zs ++ [.ref q3]))):=fun b us e=>keep b _ (fun z=>by rw [z,hL2] at e;cases e) e
      refine ⟨_,_,_,zs ++ [.ref q3],qs ++ [p],rfl,fun b o n e=>keep b o (ne_of_none e hL) (S2 b o n e),?_,keep _ _ hDL hD2,upd_same,hY2.on kt,?_,?_,?_,by rw [List.length_append,List.length_singleton];omega⟩
      ·exact tb_on T2 fun b o e n=>keep b o (fun z=>n ⟨_,z ▸ hL2⟩) e
      ·exact Paired.snoc ⟨q3,rfl,by rw [upd_ne hLq.symm];exact upd_same⟩ (hZ2.on kt)
      ·exact hG2.app ⟨fun x hx=>by rw [List.mem_singleton.mp hx];exact hpg⟩
      ·rw [ea,← hA2,acr_app]
       simp [acr]
   ·rintro σ H2 ⟨o3,o4,o5,zs,qs,rfl,S2,T2,hD2,hL2,hY2,hZ2,hG2,hA2,hn2⟩
    rw [hl',List.take_length] at hA2
    refine ⟨_,rfl,L,zs,rfl,.inl ⟨SqL.of hL2,fun t' ht'=>?_⟩⟩
    have s2:=Same.new (o:=.tup zs) ht'
    exact k t' zs qs _ (S2.trans s2.butT) (T2.same s2) upd_same (hZ2.same s2) hG2 (hA2.trans (acr_perm hpp))
end
end K37
namespace K37
open PySem L2
def spRoad:Sp:=fun vs H Q _=>∃ (me:Addr) (h:Str) (m:Mnd),vs=[.ref me,.str h]∧H me=some (.dK m)∧Acyc m∧m.length≤100000∧
 ∀ (L:Addr) (H':Hp),H L=none→Same H H'→H' L=some (.lst ((rd m h).map V.str))→Q (.ref L) H'
section
variable {P:Program}{w:World}{K:PySem.W.Frag}{mg:Str→Option Value}{base:Heap}
theorem scRoadFrom:FnScope ["menders","house","road"] ["menders","house"] (defScope sRoadFrom):=⟨rfl,rfl,rfl,by decide,rfl,by decide,by decide⟩
theorem ok_roadFrom {f:Addr}{fd:FuncData} (F:Fun K "road_from" "road_from" sRoadFrom f fd):FnOk P w K mg base CX0 1 f fd ["menders","house"] spRoad:=by
 refine F.ok scRoadFrom (fun vs H Q E h=>?_) (fun cdv A outer s H vs Q E hr h=>?_)
 ·obtain ⟨me,h,m,rfl,_⟩:=h
  rfl
 ·obtain ⟨me,h,m,rfl,hm,ha,hlen,k⟩:=h
  have hu:=hu_of hr
  refine ⟨_,pss_cons (ps_set (i:=2) scRoadFrom.nd rfl (Or.inl rfl) (pe_lst (pa_c (pv 1) pa_nil)))
   (pss_cons (ps_while PassesOwn.never (pt_cmp (pc_din hu (pe_ix ix_list (pv 2) (pe_un un_neg pe_int) (fun _ _=>rfl)) (pv 0)))
    (pss_one (ps_expr (pe_bm PySem.F.plainAttrs_list PySem.F.slot_list_append PySem.F.type_list_append mt_append (pv 2) (pa_c (pe_dget hu (pv 0) (pe_ix ix_list (pv 2) (pe_un un_neg pe_int) (fun _ _=>rfl)) (fun _ _=>rfl)) pa_nil)))))
   (pss_one (ps_ret (pv 2)))),?_⟩
  refine ⟨_,rfl,sizeLine_big (by show 1≤1000000;decide),fun L hL=>?_⟩
  have sL:=Same.new (o:=.lst [V.str h]) hL
  have hrd:=ha.rd h
  have hll:=hrd.len
  refine ⟨fun n σ H'=>∃ (pre l:List Str) (x:Str),σ=[some (.ref me),some (.str h),some (.ref L)]∧Same H H'∧H' L=some (.lst ((pre ++ [x]).map V.str))∧rd m h=pre ++ l∧Ends m x l∧n=l.length,⟨_,[],rd m h,h,rfl,sL,upd_same,rfl,hrd,rfl⟩,?_⟩
  rintro n σ H1 ⟨pre,l,x,rfl,S,hL1,er,hx,rfl⟩
  have hat:atI ((pre ++ [x]).map V.str) (-1)=some (.str x):=by
   rw [List.map_append]
   exact atI_last _ _
  refine ⟨_,rfl,_,rfl,L,_,-1,_,rfl,rfl,SqL.of hL1,hat,_,rfl,me,_,rfl,.inl ⟨m,Sum.inr x,.inl (S _ _ hm),rfl,rfl⟩,_,rfl,?_⟩
  rw [ha.val x]
  cases hx with
  | stop e=>
   rw [e]
   refine iteF ?_
   refine ⟨_,rfl,k L H1 hL S ?_⟩
   rw [er]
   exact hL1
  | @on _ y l e r=>
   rw [e]
   refine iteT ?_
   refine ⟨fun σ' H'=>∃ (pre l':List Str) (x:Str),σ'=[some (.ref me),some (.str h),some (.ref L)]∧Same H H'∧H' L=some (.lst ((pre ++ [x]).map V.str))∧rd m h=pre ++ l'∧Ends m x l'∧l.length=l'.length,fun σ' H' z=>⟨l.length,by simp,z⟩,?_⟩
   have hev:some (V.str y)=valV m (Sum.inr x):=by rw [ha.val x,e];rfl
   refine ⟨_,rfl,.inl ⟨rfl,_,SqL.of hL1⟩,_,rfl,_,rfl,_,rfl,L,_,-1,_,rfl,rfl,SqL.of hL1,hat,me,_,rfl,.inl ⟨m,Sum.inr x,.inl (S _ _ hm),rfl,hev⟩,L,_,_,rfl,rfl,hL1,?_,?_⟩
   ·have:=congrArg List.length er
    simp at this ⊢
    exact Nat.lt_of_le_of_lt (show pre.length + 1≤1000000 by omega) (by decide)
   ·refine ⟨pre ++ [x],l,y,rfl,fun b o z=>?_,?_,by rw [er];simp,r,rfl⟩
    ·rw [upd_ne (ne_of_none z hL)]
     exact S _ _ z
    ·rw [upd_same]
     simp
end
end K37
namespace L2
open PySem PySem.Spec PyProof.Rows
mutual
theorem RdV.onT {H H':Hp} (t:∀ q xs,H q=some (.tup xs)→H' q=some (.tup xs)):∀ {x:V}{d:PyData},RdV false H x d→d.hasDict=false→RdV false H' x d
 | _,_,.non,_=>.non
 | _,_,.bl b,_=>.bl b
 | _,_,.int i,_=>.int i
 | _,_,.str z h,_=>.str z h
 | _,_,.lst hm _ _ _,_=>nomatch hm
 | _,_,.tup e hl r,h=>.tup (t _ _ e) hl (RdVs.onT t r (by unfold PyData.hasDict at h;exact h))
 | _,_,.dct _ _,h=>by unfold PyData.hasDict at h;cases h
theorem RdVs.onT {H H':Hp} (t:∀ q xs,H q=some (.tup xs)→H' q=some (.tup xs)):∀ {xs:List V}{ds:List PyData},RdVs false H xs ds→PyData.hasDictAll ds=false→RdVs false H' xs ds
 | _,_,.nil,_=>.nil
 | _,_,.cons a r,h=>by
  unfold PyData.hasDictAll at h
  rw [Bool.or_eq_false_iff] at h
  exact .cons (RdV.onT t a h.1) (RdVs.onT t r h.2)
end
end L2
namespace K37
open PySem L2
theorem RowI.Ok.nd {r:RowI}{fs:List Str} (h:r.Ok fs):r.d.hasDict=false:=by
 unfold RowI.d rowDat
 unfold PyData.hasDict
 show (false || (false || (false || PyData.hasDictAll r.ds)))=false
 rw [h.rs.nodict]
 rfl
theorem RowI.Ok.on {r:RowI}{fs:List Str} (h:r.Ok fs) {H H':Hp}{x:V} (rd:RdV false H x r.d) (t:Tups H H'):RdV false H' x r.d:=RdV.onT t rd h.nd
theorem RowI.Ok.tup {r:RowI}{fs:List Str}{H:Hp}{x:V} (rd:RdV false H x r.d):∃ t rest,x=.ref t∧H t=some (.tup (.str r.word :: .str r.name :: .int r.day :: rest))∧RdVs false H rest r.ds:=by
 unfold RowI.d rowDat at rd
 cases rd with
 | tup e hl q=>
  cases q with
  | cons q1 q=>
   cases q with
   | cons q2 q=>
    cases q with
    | cons q3 q=>
     cases q1
     cases q2
     cases q3
     exact ⟨_,_,rfl,e,q⟩
def HEnt (H:Hp) (ws:List Str) (v:V) (n:Int):Prop:=∃ (t tp:Addr) (hs:Str) (xs:List V) (ps:List Pc),v=.ref t∧H t=some (.tup [.str hs,.ref tp])∧H tp=some (.tup xs)∧PcsAt H xs ps∧PGood ws ps∧acr ps=n
theorem HEnt.on {H H':Hp}{ws:List Str}{v:V}{n:Int} (h:HEnt H ws v n) (t:Tups H H'):HEnt H' ws v n:=by
 obtain ⟨a,b,hs,xs,ps,h1,h2,h3,h4,h5⟩:=h
 exact ⟨a,b,hs,xs,ps,h1,t _ _ h2,t _ _ h3,h4.on t,h5⟩
theorem HEnt.pos {H:Hp}{ws:List Str}{v:V}{n:Int} (h:HEnt H ws v n):0≤n:=by
 obtain ⟨_,_,_,_,ps,_,_,_,_,g,rfl⟩:=h
 have:=g.len
 omega
inductive HolT (H:Hp) (ws:List Str):List (Key×V)→Int→Prop
 | nil:HolT H ws [] 0
 | cons {k:Key} {v:V} {r:List (Key×V)} {n m:Int} (h:HEnt H ws v n) (t:HolT H ws r m):HolT H ws ((k,v) :: r) (n + m)
theorem HolT.on {H H':Hp}{ws:List Str}{l:List (Key×V)}{n:Int} (h:HolT H ws l n) (t:Tups H H'):HolT H' ws l n:=by
 induction h with
 | nil=>exact .nil
 | cons h _ ih=>exact .cons (h.on t) ih
theorem HolT.pos {H:Hp}{ws:List Str}{l:List (Key×V)}{n:Int} (h:HolT H ws l n):0≤n:=by
 induction h with
 | nil=>exact Int.le_refl _
 | cons h _ ih=>
  have:=h.pos
  omega
theorem HolT.dropLe {H:Hp}{ws:List Str}{l:List (Key×V)}{n:Int} (h:HolT H ws l n) (k:Key):∃ n',HolT H ws (dropK l k) n'∧n'≤n:=by
 induction h with
 | nil=>exact ⟨0,.nil,Int.le_refl _⟩
 | @cons j v r a m h t ih=>
  obtain ⟨n',h1,h2⟩:=ih
  have:=h.pos
  by_cases e:j=k
  ·rw [dropK_pos (p:=(j,v)) e]
   exact ⟨n',h1,by omega⟩
  ·rw [dropK_neg (p:=(j,v)) e]
   exact ⟨a + n',.cons h h1,by omega⟩
theorem HolT.take {H:Hp}{ws:List Str}{l:List (Key×V)}{n:Int} (h:HolT H ws l n) {k:Key}{v:V} (e:valV l k=some v):∃ a n',HEnt H ws v a∧HolT H ws (dropK l k) n'∧a + n'≤n:=by
 induction h with
 | nil=>cases e
 | @cons j u r a m h t ih=>
  by_cases ek:j=k
  ·rw [valV_pos (p:=(j,u)) ek] at e
   cases e
   obtain ⟨n',h1,h2⟩:=t.dropLe k
   rw [dropK_pos (p:=(j,u)) ek]
   exact ⟨a,n',h,h1,by omega⟩
  ·rw [valV_neg (p:=(j,u)) ek] at e
   obtain ⟨b,n',h1,h2,h3⟩:=ih e
   rw [dropK_neg (p:=(j,u)) ek]
   exact ⟨b,a + n',h1,.cons h h2,by omega⟩
theorem HolT.snoc {H:Hp}{ws:List Str}{l:List (Key×V)}{n a:Int}{k:Key}{v:V} (h:HolT H ws l n) (hv:HEnt H ws v a):HolT H ws (l ++ [(k,v)]) (n + a):=by
 induction h with
 | nil=>
  have:=HolT.cons (k:=k) hv (HolT.nil (H:=H) (ws:=ws))
  rw [Int.add_zero] at this
  rw [Int.zero_add]
  exact this
 | cons h _ ih=>
  rw [Int.add_assoc]
  exact .cons h ih
theorem map_put_no:∀ {l:List (Key×V)}{k:Key}{v:V},¬ k∈l.map (·.1)→l.map (fun kv=>if kv.1=k then (kv.1,v) else kv)=l
 | [],_,_,_=>rfl
 | p :: l,k,v,h=>by
  rw [List.map_cons,if_neg (fun z=>h (by rw [← z];exact List.mem_cons_self)),map_put_no fun z=>h (List.mem_cons_of_mem _ z)]
theorem HolT.put {H:Hp}{ws:List Str}{l:List (Key×V)}{n a:Int}{k:Key}{v:V} (h:HolT H ws l n) (hnd:(l.map (·.1)).Nodup) (hv:HEnt H ws v a):∃ n',HolT H ws (putK l k v) n'∧n'≤n + a:=by
 unfold putK
 split
 ·rename_i hany
  clear hany
  induction h with
  | nil=>exact ⟨0,.nil,by have:=hv.pos;omega⟩
  | @cons j u r b m h t ih=>
   obtain ⟨h1,h2⟩:=List.nodup_cons.mp hnd
   rw [List.map_cons]
   by_cases e:j=k
   ·rw [if_pos e,map_put_no (by rw [← e];exact h1)]
    exact ⟨a + m,.cons hv t,by have:=h.pos;omega⟩
   ·rw [if_neg e]
    obtain ⟨n',h3,h4⟩:=ih h2
    exact ⟨b + n',.cons h h3,by omega⟩
 ·exact ⟨n + a,h.snoc hv,Int.le_refl _⟩
theorem nd_put {l:List (Key×V)}{k:Key} (v:V) (hn:(l.map (·.1)).Nodup):((putK l k v).map (·.1)).Nodup:=by
 cases e:valV l k with
 | none=>exact nd_putK v hn e
 | some u=>
  have e2:(l.any fun kv=>decide (kv.1=k))=true:=by rw [valV_any,e];rfl
  unfold putK
  rw [if_pos e2,List.map_map]
  have:((fun x:Key×V=>x.1) ∘ fun kv:Key×V=>if kv.1=k then (kv.1,v) else kv)=(·.1):=by
   funext kv
   show (if kv.1=k then (kv.1,v) else kv).1=kv.1
   split <;> rfl
  rw [this]
  exact hn
structure MA where
 dx:Addr
 r:Addr
 h:Addr
 a:Addr
 i:Addr
 me:Addr
def momF (A:MA):List (Str×V):=[("ranks",.ref A.r),("holdings",.ref A.h),("acres",.ref A.a),("inches",.ref A.i),("menders",.ref A.me)]
structure MC (K:PySem.W.Frag) (C:Addr):Prop where
 cl:Cls K C
 r:NoAttr K C "ranks"
 h:NoAttr K C "holdings"
 a:NoAttr K C "acres"
 i:NoAttr K C "inches"
 m:NoAttr K C "menders"
structure Mom (H:Hp) (C M:Addr) (A:MA) (ws:List Str) (n:Nat) (m:Mnd):Prop where
 ins:H M=some (.ins C A.dx (momF A))
 r:∃ rks,H A.r=some (.dK rks)∧RksOk rks ws
 h:∃ hol b,H A.h=some (.dK hol)∧(hol.map (·.1)).Nodup∧hol.length≤n∧HolT H ws hol b∧b≤8000000
 i:∃ inc,H A.i=some (.dK inc)∧RksOk inc ws∧inc.length≤n
 me:H A.me=some (.dK m)
 ac:Acyc m
 ml:m.length≤n
 rh:A.r≠A.h
 ri:A.r≠A.i
 rm:A.r≠A.me
 hi:A.h≠A.i
 hm:A.h≠A.me
 im:A.i≠A.me
def KeepX (E:List Addr) (H H':Hp):Prop:=∀ b o,b ∉ E→H b=some o→H' b=some o
theorem KeepX.trans {E:List Addr}{H H1 H2:Hp} (a:KeepX E H H1) (b:KeepX E H1 H2):KeepX E H H2:=fun c o n h=>b c o n (a c o n h)
theorem KeepX.refl {E:List Addr} (H:Hp):KeepX E H H:=fun _ _ _ h=>h
theorem KeepX.same {E:List Addr}{H H1 H2:Hp} (a:KeepX E H H1) (b:Same H1 H2):KeepX E H H2:=fun c o n h=>b c o (a c o n h)
theorem same_keepX {E:List Addr}{H H1:Hp} (a:Same H H1):KeepX E H H1:=fun c o _ h=>a c o h
theorem Mom.ne {H:Hp}{C M:Addr}{A:MA}{ws:List Str}{n:Nat}{m:Mnd} (h:Mom H C M A ws n m):M≠A.r∧M≠A.h∧M≠A.i∧M≠A.me:=by
 obtain ⟨rks,hr,_⟩:=h.r
 obtain ⟨hol,b,hh,_⟩:=h.h
 obtain ⟨inc,hi,_⟩:=h.i
 exact ⟨ne_of h.ins hr (fun z=>nomatch z),ne_of h.ins hh (fun z=>nomatch z),ne_of h.ins hi (fun z=>nomatch z),ne_of h.ins h.me (fun z=>nomatch z)⟩
theorem Mom.same {H H':Hp}{C M:Addr}{A:MA}{ws:List Str}{n:Nat}{m:Mnd} (h:Mom H C M A ws n m) (s:Same H H'):Mom H' C M A ws n m:=by
 obtain ⟨rks,hr,r2⟩:=h.r
 obtain ⟨hol,b,hh,h2,h3,h4,h5⟩:=h.h
 obtain ⟨inc,hi,i2⟩:=h.i
 exact ⟨s _ _ h.ins,⟨rks,s _ _ hr,r2⟩,⟨hol,b,s _ _ hh,h2,h3,h4.on fun q xs e=>s _ _ e,h5⟩,⟨inc,s _ _ hi,i2⟩,s _ _ h.me,h.ac,h.ml,h.rh,h.ri,h.rm,h.hi,h.hm,h.im⟩
theorem Mom.mono {H:Hp}{C M:Addr}{A:MA}{ws:List Str}{n k:Nat}{m:Mnd} (h:Mom H C M A ws n m) (hk:n≤k):Mom H C M A ws k m:=by
 obtain ⟨hol,b,hh,h2,h3,h4,h5⟩:=h.h
 obtain ⟨inc,hi,i2,i3⟩:=h.i
 exact ⟨h.ins,h.r,⟨hol,b,hh,h2,by omega,h4,h5⟩,⟨inc,hi,i2,by omega⟩,h.me,h.ac,by have:=h.ml;omega,h.rh,h.ri,h.rm,h.hi,h.hm,h.im⟩
theorem Mom.setM {H:Hp}{C M:Addr}{A:MA}{ws:List Str}{n:Nat}{m m':Mnd} (h:Mom H C M A ws n m) (ac:Acyc m') (hl:m'.length≤n):Mom (upd H A.me (.dK m')) C M A ws n m':=by
 obtain ⟨n1,n2,n3,n4⟩:=h.ne
 obtain ⟨rks,hr,r2⟩:=h.r
 obtain ⟨hol,b,hh,h2,h3,h4,h5⟩:=h.h
 obtain ⟨inc,hi,i2⟩:=h.i
 have t:Tups H (upd H A.me (.dK m')):=fun q xs e=>by rw [upd_ne (ne_of e h.me (fun z=>nomatch z))];exact e
 exact ⟨by rw [upd_ne n4];exact h.ins,⟨rks,by rw [upd_ne h.rm];exact hr,r2⟩,⟨hol,b,by rw [upd_ne h.hm];exact hh,h2,h3,h4.on t,h5⟩,⟨inc,by rw [upd_ne h.im];exact hi,i2⟩,upd_same,ac,hl,h.rh,h.ri,h.rm,h.hi,h.hm,h.im⟩
theorem Mom.setI {H:Hp}{C M:Addr}{A:MA}{ws:List Str}{n:Nat}{m:Mnd}{inc:List (Key×V)} (h:Mom H C M A ws n m) (ok:RksOk inc ws) (hl:inc.length≤n):Mom (upd H A.i (.dK inc)) C M A ws n m:=by
 obtain ⟨n1,n2,n3,n4⟩:=h.ne
 obtain ⟨rks,hr,r2⟩:=h.r
 obtain ⟨hol,b,hh,h2,h3,h4,h5⟩:=h.h
 obtain ⟨inc0,hi,i2⟩:=h.i
 have t:Tups H (upd H A.i (.dK inc)):=fun q xs e=>by rw [upd_ne (ne_of e hi (fun z=>nomatch z))];exact e
 exact ⟨by rw [upd_ne n3];exact h.ins,⟨rks,by rw [upd_ne h.ri];exact hr,r2⟩,⟨hol,b,by rw [upd_ne h.hi];exact hh,h2,h3,h4.on t,h5⟩,⟨inc,upd_same,ok,hl⟩,by rw [upd_ne h.im.symm];exact h.me,h.ac,h.ml,h.rh,h.ri,h.rm,h.hi,h.hm,h.im⟩
theorem Mom.setH {H:Hp}{C M:Addr}{A:MA}{ws:List Str}{n k:Nat}{m:Mnd}{hol:List (Key×V)}{b:Int} (h:Mom H C M A ws n m) (hnd:(hol.map (·.1)).Nodup) (hl:hol.length≤k) (hk:n≤k) (ht:HolT H ws hol b) (hb:b≤8000000):Mom (upd H A.h (.dK hol)) C M A ws k m:=by
 obtain ⟨n1,n2,n3,n4⟩:=h.ne
 obtain ⟨rks,hr,r2⟩:=h.r
 obtain ⟨hol0,b0,hh,_⟩:=h.h
 obtain ⟨inc,hi,i2,i3⟩:=h.i
 have t:Tups H (upd H A.h (.dK hol)):=fun q xs e=>by rw [upd_ne (ne_of e hh (fun z=>nomatch z))];exact e
 exact ⟨by rw [upd_ne n2];exact h.ins,⟨rks,by rw [upd_ne h.rh];exact hr,r2⟩,⟨hol,b,upd_same,hnd,hl,ht.on t,hb⟩,⟨inc,by rw [upd_ne h.hi.symm];exact hi,i2,by omega⟩,by rw [upd_ne h.hm.symm];exact h.me,h.ac,by have:=h.ml;omega,h.rh,h.ri,h.rm,h.hi,h.hm,h.im⟩
end K37
namespace K37
open PySem L2
def tell (m:Mnd) (r:RowI) (z:Str):Prop:=(∀ a b,r.word="mend"→r.ds=[.str a,.str b]→z=if a∈rd m b then ("ring":Str) else "done")∧(∀ a,r.word="alone"→r.ds=[.str a]→z=if (valV m (Sum.inr a)).isSome=true then ("done":Str) else "none")
noncomputable def stepM (m:Mnd) (r:RowI):Mnd:=match r.ds with
 | [.str a,.str b]=>if r.word="mend" then mendM m a b else m
 | [.str a]=>if r.word="alone" then aloneM m a else m
 | _=>m
theorem tell_no {m:Mnd}{r:RowI}{z:Str} (h1:r.word≠"mend") (h2:r.word≠"alone"):tell m r z:=⟨fun a b e=>absurd e h1,fun a e=>absurd e h2⟩
theorem step_no {m:Mnd}{r:RowI} (h1:r.word≠"mend") (h2:r.word≠"alone"):stepM m r=m:=by
 unfold stepM
 split
 ·rw [if_neg h1]
 ·rw [if_neg h2]
 ·rfl
theorem step_mend (m:Mnd) (name:Str) (day:Int) (a b:Str):stepM m ⟨"mend",name,day,[.str a,.str b]⟩=mendM m a b:=by simp [stepM]
theorem step_alone (m:Mnd) (name:Str) (day:Int) (a:Str):stepM m ⟨"alone",name,day,[.str a]⟩=aloneM m a:=by simp [stepM]
def spDeed (C T:Addr) (W:List Str):Sp:=fun vs H Q _=>∃ (M:Addr) (A:MA) (ws:List Str) (n:Nat) (m:Mnd) (x:V) (r:RowI),vs=[.ref M,x]∧Mom H C M A ws n m∧n≤10000∧Tb T H∧RdV false H x r.d∧r.Ok ws∧r.word∈W∧
 ∀ z H',tell m r z→KeepX [T,A.h,A.i,A.me] H H'→Tb T H'→Mom H' C M A ws (n + 6) (stepM m r)→Q (.str z) H'
theorem tb_dict {T a:Addr}{kvs kvs':List (Key×V)}{H:Hp} (g:Tb T H) (e:H a=some (.dK kvs)):Tb T (upd H a (.dK kvs')):=by
 obtain ⟨ps,h1,h2,h3⟩:=g.ex
 refine ⟨ps,by rw [upd_ne (ne_of h1 e (fun z=>nomatch z))];exact h1,h2,?_⟩
 rcases h3 with h3 | ⟨c,h3,h4⟩
 ·exact .inl h3
 ·exact .inr ⟨c,h3,by rw [upd_ne (ne_of h4 e (fun z=>nomatch z))];exact h4⟩
theorem keepX_upd {E:List Addr}{a:Addr}{o:HO}{H:Hp} (h:a∈E):KeepX E H (upd H a o):=fun b u n e=>by
 rw [upd_ne (fun z=>n (by rw [z];exact h))]
 exact e
theorem pcs_uniq {H:Hp}:∀ {xs:List V}{ps qs:List Pc},PcsAt H xs ps→PcsAt H xs qs→ps=qs
 | _,_,_,.nil,.nil=>rfl
 | _,_,_,.cons r t,.cons r' t'=>by
  obtain ⟨q,e,h⟩:=r
  obtain ⟨q',e',h'⟩:=r'
  rw [e] at e'
  cases e'
  rw [h] at h'
  unfold pcT at h'
  injection h' with h'
  injection h' with h'
  injection h' with h1 h'
  injection h' with h2 h'
  injection h' with h3 h'
  injection h1 with h1
  injection h2 with h2
  injection h3 with h3
  rw [pcs_uniq t t',Prod.ext h1 (Prod.ext h2 h3)]
theorem hol_replace {H:Hp}{ws:List Str}{l:List (Key×V)}{n a:Int}{k:Key}{v u:V} (h:HolT H ws l n) (hnd:(l.map (·.1)).Nodup) (e:valV l k=some v) (hu:HEnt H ws u a) (hv:HEnt H ws v a):∃ n',HolT H ws (putK l k u) n'∧n'≤n:=by
 have hany:(l.any fun kv=>decide (kv.1=k))=true:=by rw [valV_any,e];rfl
 unfold putK
 rw [if_pos hany]
 clear hany
 induction h with
 | nil=>cases e
 | @cons j x r b m h t ih=>
  obtain ⟨h1,h2⟩:=List.nodup_cons.mp hnd
  rw [List.map_cons]
  by_cases ek:j=k
  ·rw [valV_pos (p:=(j,x)) ek] at e
   cases e
   rw [if_pos ek,map_put_no (by rw [← ek];exact h1)]
   have:a=b:=by
    obtain ⟨t1,tp1,s1,xs1,ps1,e1,f1,g1,p1,_,q1⟩:=hv
    obtain ⟨t2,tp2,s2,xs2,ps2,e2,f2,g2,p2,_,q2⟩:=h
    subst e1
    cases e2
    rw [f1] at f2
    injection f2 with f2
    injection f2 with f2
    injection f2 with f3 f4
    injection f4 with f4
    injection f4 with f4
    subst f4
    rw [g1] at g2
    injection g2 with g2
    injection g2 with g2
    subst g2
    rw [← q1,← q2,pcs_uniq p1 p2]
   exact ⟨a + m,.cons hu t,by omega⟩
  ·rw [valV_neg (p:=(j,x)) ek] at e
   rw [if_neg ek]
   obtain ⟨n',h3,h4⟩:=ih h2 e
   exact ⟨b + n',.cons h h3,by omega⟩
section
variable {P:Program}{w:World}{K:PySem.W.Frag}{mg:Str→Option Value}{base:Heap}
theorem scForfeit:FnScope ["moment","row","land","house","holding","pieces"] ["moment","row"] (defScope sDoForfeit):=⟨rfl,rfl,rfl,by decide,rfl,by decide,by decide⟩
theorem ok_doForfeit {f C T:Addr}{fd:FuncData} (F:Fun K "do_forfeit" "do_forfeit" sDoForfeit f fd) (hc:MC K C):FnOk P w K mg base CX0 1 f fd ["moment","row"] (spDeed C T ["forfeit"]):=by
 refine F.ok scForfeit (fun vs H Q E h=>?_) (fun cdv A outer s H vs Q E hr h=>?_)
 ·obtain ⟨M,A,ws,n,m,x,r,rfl,_⟩:=h
  rfl
 ·obtain ⟨M,MA,ws,n,m,x,r,rfl,mom,hn,tb,rdv,ok,hw,k⟩:=h
  have hu:=hu_of hr
  have nd:=scForfeit.nd
  refine ⟨_,pss_cons (ps_par (i:=2) (j:=3) rfl nd rfl rfl (by decide) rfl rfl (pa_c (pe_ix ix_tup (pv 1) pe_int (fun _ _=>rfl)) (pa_c (pe_ix ix_tup (pv 1) pe_int (fun _ _=>rfl)) pa_nil)) rfl)
   (pss_cons (ps_if (pt_cmp (pc_dnotin hu (pv 2) (pe_fld (pv 0) rfl))) (pss_one (ps_ret pe_str)) pss_nil)
   (pss_cons (ps_asg (pe_dget hu (pe_fld (pv 0) rfl) (pv 2) (fun _ _=>rfl)) (pg_tup rfl (pgs_cons (pg_name (i:=4) nd rfl (Or.inl rfl)) (pgs_cons (pg_name (i:=5) nd rfl (Or.inl rfl)) pgs_nil))))
   (pss_cons (ps_if (pt_cmpR op_eq (pv 4) (pv 3) (nomark _)) (pss_one (ps_ret pe_str)) pss_nil)
   (pss_cons (ps_dput hu (pe_fld (pv 0) rfl) (pv 2) (pe_tup (pa_c (pv 3) (pa_c (pv 5) pa_nil))) rfl)
   (pss_one (ps_ret pe_str)))))),?_⟩
  obtain ⟨t,rest,rfl,ht,hrest⟩:=RowI.Ok.tup (fs:=ws) rdv
  have hwd:r.word="forfeit":=by simpa using hw
  have rs:=ok.rs
  have t1:∀ z,tell m r z:=fun z=>tell_no (by rw [hwd];decide) (by rw [hwd];decide)
  have t2:stepM m r=m:=step_no (by rw [hwd];decide) (by rw [hwd];decide)
  rw [t2] at k
  obtain ⟨word,name,day,ds⟩:=r
  dsimp only at hwd rs hrest ht
  subst hwd
  cases rs with
  | @forfeit land house hl hh=>
  cases hrest with
  | cons q1 hrest=>
  cases hrest with
  | cons q2 hrest=>
  cases hrest
  cases q1
  cases q2
  refine ⟨_,rfl,t,_,3,_,rfl,rfl,SqT.of ht,rfl,_,rfl,t,_,4,_,rfl,rfl,SqT.of ht,rfl,_,_,rfl,?_⟩
  obtain ⟨hol,b,hh1,hnd,hlen,hT,hb⟩:=mom.h
  refine ⟨_,rfl,_,rfl,M,C,_,_,_,rfl,mom.ins,hc.cl,hc.h,rfl,MA.h,_,rfl,.inl ⟨hol,Sum.inr land,.inl hh1,rfl,rfl⟩,_,rfl,?_⟩
  cases hv:valV hol (Sum.inr land) with
  | none=>exact iteT (k _ _ (t1 _) (KeepX.refl H) tb (mom.mono (by omega)))
  | some v=>
   refine iteF ?_
   obtain ⟨a,b',he,hT',hab⟩:=hT.take hv
   obtain ⟨t3,tp,hs,xs,ps,rfl,e1,e2,e3,e4,e5⟩:=id he
   refine ⟨_,rfl,M,C,_,_,_,rfl,mom.ins,hc.cl,hc.h,rfl,_,rfl,MA.h,_,rfl,.inl ⟨hol,Sum.inr land,.inl hh1,rfl,hv.symm⟩,?_⟩
   refine ⟨t3,_,rfl,SqT.of e1,rfl,_,_,rfl,_,_,rfl,rfl,?_⟩
   refine ⟨_,rfl,_,rfl,rfl,_,rfl,?_⟩
   refine ite2 (fun g=>k _ _ (t1 _) (KeepX.refl H) tb (mom.mono (by omega))) fun g=>?_
   refine ⟨_,rfl,_,rfl,sizeLine_big (by show 2≤1000000;decide),fun u2 hu2=>?_⟩
   have su2:=Same.new (o:=.tup [V.str house,.ref tp]) hu2
   have mom2:=mom.same su2
   have tb2:Tb T _:=tb.same su2
   refine ⟨_,rfl,M,C,_,_,_,rfl,mom2.ins,hc.cl,hc.h,rfl,_,rfl,MA.h,_,rfl,DPut.k (k:=Sum.inr land) (su2 _ _ hh1) (Nat.lt_of_le_of_lt hlen (by rw [PySem.sizeLine_eq];omega)),?_⟩
   have he2:HEnt (upd H u2 (.tup [V.str house,.ref tp])) ws (.ref u2) a:=⟨u2,tp,house,xs,ps,rfl,upd_same,su2 _ _ e2,e3.same su2,e4,e5⟩
   obtain ⟨b2,hT2,hb2⟩:=hol_replace (k:=Sum.inr land) (hT.on (same_tups su2)) hnd hv he2 (he.on (same_tups su2))
   refine k _ _ (t1 _) ((same_keepX su2).trans (keepX_upd (by simp))) (tb_dict tb2 (su2 _ _ hh1)) (mom2.setH (nd_put _ hnd) ?_ (by omega) hT2 (by omega))
   have:=length_putK hol (Sum.inr land) (.ref u2)
   omega
end
end K37
namespace K37
open PySem L2
theorem inV_str (x:Str):∀ l:List Str,inV (.str x) (l.map V.str)=decide (x∈l)
 | []=>by simp [inV]
 | y :: l=>by
  have ih:=inV_str x l
  unfold inV at ih ⊢
  rw [List.map_cons,List.any_cons,ih]
  by_cases e:y=x
  ·subst e
   simp [eqV]
  ·have:x≠y:=fun z=>e z.symm
   simp [eqV,e,this]
section
variable {P:Program}{w:World}{K:PySem.W.Frag}{mg:Str→Option Value}{base:Heap}
theorem scMeasure:FnScope ["moment","row"] ["moment","row"] (defScope sDoMeasure):=⟨rfl,rfl,rfl,by decide,rfl,by decide,by decide⟩
theorem ok_doMeasure {f C T:Addr}{fd:FuncData} (F:Fun K "do_measure" "do_measure" sDoMeasure f fd) (hc:MC K C):FnOk P w K mg base CX0 1 f fd ["moment","row"] (spDeed C T ["measure"]):=by
 refine F.ok scMeasure (fun vs H Q E h=>?_) (fun cdv A outer s H vs Q E hr h=>?_)
 ·obtain ⟨M,A,ws,n,m,x,r,rfl,_⟩:=h
  rfl
 ·obtain ⟨M,MA,ws,n,m,x,r,rfl,mom,hn,tb,rdv,ok,hw,k⟩:=h
  have hu:=hu_of hr
  refine ⟨_,pss_cons (ps_dput hu (pe_fld (pv 0) rfl) (pe_ix ix_tup (pv 1) pe_int (fun _ _=>rfl)) (pe_ix ix_tup (pv 1) pe_int (fun _ _=>rfl)) rfl) (pss_one (ps_ret pe_str)),?_⟩
  obtain ⟨t,rest,rfl,ht,hrest⟩:=RowI.Ok.tup (fs:=ws) rdv
  have hwd:r.word="measure":=by simpa using hw
  have rs:=ok.rs
  have fi:=ok.fi
  have t1:∀ z,tell m r z:=fun z=>tell_no (by rw [hwd];decide) (by rw [hwd];decide)
  have t2:stepM m r=m:=step_no (by rw [hwd];decide) (by rw [hwd];decide)
  rw [t2] at k
  obtain ⟨word,name,day,ds⟩:=r
  dsimp only at hwd rs hrest ht fi
  subst hwd
  cases rs with
  | @measure field num hf h0 h1=>
  cases hrest with
  | cons q1 hrest=>
  cases hrest with
  | cons q2 hrest=>
  cases hrest
  cases q1
  cases q2
  obtain ⟨inc,hi,i2,i3⟩:=mom.i
  refine ⟨_,rfl,t,_,4,_,rfl,rfl,SqT.of ht,rfl,_,rfl,M,C,_,_,_,rfl,mom.ins,hc.cl,hc.i,rfl,_,rfl,t,_,3,_,rfl,rfl,SqT.of ht,rfl,MA.i,_,rfl,DPut.k (k:=Sum.inr field) hi (Nat.lt_of_le_of_lt i3 (by rw [PySem.sizeLine_eq];omega)),?_⟩
  have hl:=length_putK inc (Sum.inr field) (.int num)
  refine k _ _ (t1 _) (keepX_upd (by simp)) (tb_dict tb hi) ((mom.mono (show n≤n + 6 by omega)).setI (fun w hw=>?_) (by omega))
  rw [valV_put]
  by_cases e:w=field
  ·rw [if_pos (by rw [e])]
   exact ⟨num,rfl⟩
  ·rw [if_neg (fun z=>e (Sum.inr.inj z))]
   exact i2 w hw
theorem scLook:FnScope ["moment","row"] ["moment","row"] (defScope sDoLook):=⟨rfl,rfl,rfl,by decide,rfl,by decide,by decide⟩
theorem ok_doLook {f C T:Addr}{fd:FuncData} (F:Fun K "do_look" "do_look" sDoLook f fd) (hc:MC K C):FnOk P w K mg base CX0 1 f fd ["moment","row"] (spDeed C T ["breach","view"]):=by
 refine F.ok scLook (fun vs H Q E h=>?_) (fun cdv A outer s H vs Q E hr h=>?_)
 ·obtain ⟨M,A,ws,n,m,x,r,rfl,_⟩:=h
  rfl
 ·obtain ⟨M,MA,ws,n,m,x,r,rfl,mom,hn,tb,rdv,ok,hw,k⟩:=h
  have hu:=hu_of hr
  refine ⟨_,pss_one (ps_ret (pe_ifExp (pt_cmpR op_lt (pe_ix ix_tup (pv 1) pe_int (fun _ _=>rfl)) (pe_dget hu (pe_fld (pv 0) rfl) (pe_ix ix_tup (pv 1) pe_int (fun _ _=>rfl)) (fun _ _=>rfl)) (nomark _)) pe_str pe_str)),?_⟩
  obtain ⟨t,rest,rfl,ht,hrest⟩:=RowI.Ok.tup (fs:=ws) rdv
  have hwd:r.word="breach"∨r.word="view":=by simpa using hw
  have hw1:r.word≠"mend":=fun z=>by rcases hwd with e | e <;> (rw [e] at z;revert z;decide)
  have hw2:r.word≠"alone":=fun z=>by rcases hwd with e | e <;> (rw [e] at z;revert z;decide)
  rw [step_no hw1 hw2] at k
  obtain ⟨field,num,more,hds,hin⟩:∃ field num more,r.ds=.str field :: .int num :: more∧field∈ws:=by
   have rs:=ok.rs
   have fi:=ok.fi
   rcases hwd with e | e
   ·rw [e] at rs fi
    cases hd:r.ds with
    | nil=>rw [hd] at rs;cases rs
    | cons d0 ds0=>
     rw [hd] at rs fi
     cases rs
     exact ⟨_,_,_,rfl,fi (by decide) _ _ rfl⟩
   ·rw [e] at rs fi
    cases hd:r.ds with
    | nil=>rw [hd] at rs;cases rs
    | cons d0 ds0=>
     rw [hd] at rs fi
     cases rs
     exact ⟨_,_,_,rfl,fi (by decide) _ _ rfl⟩
  rw [hds] at hrest
  cases hrest with
  | cons q1 hrest=>
  cases hrest with
  | cons q2 hrest=>
  cases q1
  cases q2
  have hz:=ht
  obtain ⟨inc,hi,i2,i3⟩:=mom.i
  obtain ⟨v,hv⟩:=i2 field hin
  have a3:∀ (a b c d e:V) (r:List V),atI (a :: b :: c :: d :: e :: r) 3=some d∧atI (a :: b :: c :: d :: e :: r) 4=some e:=fun a b c d e r=>by
   have hl:(a :: b :: c :: d :: e :: r).length=r.length + 5:=rfl
   unfold atI ixN
   rw [hl,if_pos (by decide),if_pos (by omega),if_pos (by decide),if_pos (by omega)]
   exact ⟨rfl,rfl⟩
  refine ⟨_,rfl,t,_,4,_,rfl,rfl,SqT.of ht,(a3 _ _ _ _ _ _).2,_,rfl,M,C,_,_,_,rfl,mom.ins,hc.cl,hc.i,rfl,_,rfl,t,_,3,_,rfl,rfl,SqT.of ht,(a3 _ _ _ _ _ _).1,MA.i,_,rfl,.inl ⟨inc,Sum.inr field,.inl hi,rfl,hv.symm⟩,_,_,rfl,rfl,_,rfl,?_⟩
  exact ite2 (fun _=>k _ _ (tell_no hw1 hw2) (KeepX.refl H) tb (mom.mono (by omega))) fun _=>k _ _ (tell_no hw1 hw2) (KeepX.refl H) tb (mom.mono (by omega))
theorem scMend:FnScope ["moment","row","house","other"] ["moment","row"] (defScope sDoMend):=⟨rfl,rfl,rfl,by decide,rfl,by decide,by decide⟩
theorem ok_doMend {f fR C T:Addr}{fd fdR:FuncData} (F:Fun K "do_mend" "do_mend" sDoMend f fd) (hc:MC K C)
  (GR:FnOk P w K mg base CX0 1 fR fdR ["menders","house"] spRoad) (mR:mg "road_from"=some (.ref fR)) (kR:PySem.W.keepIn K (.ref fR)=true) (bR:Binds K fdR ["menders","house"] []):FnOk P w K mg base CX0 2 f fd ["moment","row"] (spDeed C T ["mend"]):=by
 refine F.ok scMend (fun vs H Q E h=>?_) (fun cdv A outer s H vs Q E hr h=>?_)
 ·obtain ⟨M,A,ws,n,m,x,r,rfl,_⟩:=h
  rfl
 ·obtain ⟨M,MA,ws,n,m,x,r,rfl,mom,hn,tb,rdv,ok,hw,k⟩:=h
  have hu:=hu_of hr
  have nd:=scMend.nd
  refine ⟨_,pss_cons (ps_par (i:=2) (j:=3) rfl nd rfl rfl (by decide) rfl rfl (pa_c (pe_ix ix_tup (pv 1) pe_int (fun _ _=>rfl)) (pa_c (pe_ix ix_tup (pv 1) pe_int (fun _ _=>rfl)) pa_nil)) rfl)
   (pss_cons (ps_if (pt_cmpR op_in_seq (pv 2) (pe_call GR hr rfl mR kR bR .nil pass0 (pa_c (pe_fld (pv 0) rfl) (pa_c (pv 3) pa_nil))) (by with_unfolding_all rfl)) (pss_one (ps_ret pe_str)) pss_nil)
   (pss_cons (ps_dput hu (pe_fld (pv 0) rfl) (pv 2) (pv 3) rfl)
   (pss_one (ps_ret pe_str)))),?_⟩
  obtain ⟨t,rest,rfl,ht,hrest⟩:=RowI.Ok.tup (fs:=ws) rdv
  have hwd:r.word="mend":=by simpa using hw
  have rs:=ok.rs
  obtain ⟨word,name,day,ds⟩:=r
  dsimp only at hwd rs hrest ht
  subst hwd
  cases rs with
  | @mend house other hh ho hne=>
  cases hrest with
  | cons q1 hrest=>
  cases hrest with
  | cons q2 hrest=>
  cases hrest
  cases q1
  cases q2
  have ml:=mom.ml
  refine ⟨_,rfl,t,_,3,_,rfl,rfl,SqT.of ht,rfl,_,rfl,t,_,4,_,rfl,rfl,SqT.of ht,rfl,_,_,rfl,?_⟩
  refine ⟨_,rfl,_,rfl,M,C,_,_,_,rfl,mom.ins,hc.cl,hc.m,rfl,_,rfl,MA.me,other,m,rfl,mom.me,mom.ac,by omega,fun L H1 hL S1 hL1=>?_⟩
  refine ⟨L,_,rfl,.inl (SqL.of hL1),rfl,flat_strs _,_,rfl,?_⟩
  have mom1:=mom.same S1
  have tb1:Tb T H1:=tb.same S1
  have e1:stepM m ⟨"mend",name,day,[.str house,.str other]⟩=mendM m house other:=step_mend _ _ _ _ _
  rw [e1] at k
  show if (if false=true then !inV (V.str house) ((rd m other).map V.str) else inV (V.str house) ((rd m other).map V.str))=true then _ else _
  rw [if_neg Bool.false_ne_true,inV_str]
  by_cases g:house∈rd m other
  ·rw [decide_eq_true g]
   refine iteT (k _ _ ⟨fun a b _ e=>?_,fun a e=>?_⟩ (same_keepX S1) tb1 ?_)
   ·cases e
    rw [if_pos g]
   ·exact absurd e (by show ("mend":Str)≠"alone";decide)
   ·unfold mendM
    rw [if_pos g]
    exact mom1.mono (by omega)
  ·rw [decide_eq_false g]
   refine iteF ?_
   refine ⟨_,rfl,_,rfl,M,C,_,_,_,rfl,mom1.ins,hc.cl,hc.m,rfl,_,rfl,MA.me,_,rfl,DPut.k (k:=Sum.inr house) mom1.me (Nat.lt_of_le_of_lt ml (by rw [PySem.sizeLine_eq];omega)),?_⟩
   have hml:=mendM_len m house other
   have ac:=mom.ac.mend house other
   have em:mendM m house other=putK m (Sum.inr house) (.str other):=if_neg g
   rw [em] at k hml ac
   refine k _ _ ⟨fun a b _ e=>?_,fun a e=>?_⟩ ((same_keepX S1).trans (keepX_upd (by simp))) (tb_dict tb1 mom1.me) ((mom1.mono (show n≤n + 6 by omega)).setM ac (by omega))
   ·cases e
    rw [if_neg g]
   ·exact absurd e (by show ("mend":Str)≠"alone";decide)
theorem scAlone:FnScope ["moment","row"] ["moment","row"] (defScope sDoAlone):=⟨rfl,rfl,rfl,by decide,rfl,by decide,by decide⟩
theorem ok_doAlone {f C T:Addr}{fd:FuncData} (F:Fun K "do_alone" "do_alone" sDoAlone f fd) (hc:MC K C):FnOk P w K mg base CX0 1 f fd ["moment","row"] (spDeed C T ["alone"]):=by
 refine F.ok scAlone (fun vs H Q E h=>?_) (fun cdv A outer s H vs Q E hr h=>?_)
 ·obtain ⟨M,A,ws,n,m,x,r,rfl,_⟩:=h
  rfl
 ·obtain ⟨M,MA,ws,n,m,x,r,rfl,mom,hn,tb,rdv,ok,hw,k⟩:=h
  have hu:=hu_of hr
  refine ⟨_,pss_cons (ps_if (pt_cmp (pc_dnotin hu (pe_ix ix_tup (pv 1) pe_int (fun _ _=>rfl)) (pe_fld (pv 0) rfl))) (pss_one (ps_ret pe_str)) pss_nil)
   (pss_cons (ps_expr (pe_dpop1 (pe_fld (pv 0) rfl) (pe_ix ix_tup (pv 1) pe_int (fun _ _=>rfl)) ⟨rfl,rfl,rfl,rfl⟩))
   (pss_one (ps_ret pe_str))),?_⟩
  obtain ⟨t,rest,rfl,ht,hrest⟩:=RowI.Ok.tup (fs:=ws) rdv
  have hwd:r.word="alone":=by simpa using hw
  have rs:=ok.rs
  obtain ⟨word,name,day,ds⟩:=r
  dsimp only at hwd rs hrest ht
  subst hwd
  cases rs with
  | @alone house hh=>
  cases hrest with
  | cons q1 hrest=>
  cases hrest
  cases q1
  have e1:stepM m ⟨"alone",name,day,[.str house]⟩=aloneM m house:=step_alone _ _ _ _
  rw [e1] at k
  have t1:∀ z:Str,z=(if (valV m (Sum.inr house)).isSome=true then ("done":Str) else "none")→tell m ⟨"alone",name,day,[.str house]⟩ z:=fun z hz=>⟨fun a b e=>absurd e (by show ("alone":Str)≠"mend";decide),fun a _ e=>by cases e;exact hz⟩
  refine ⟨_,rfl,t,_,3,_,rfl,rfl,SqT.of ht,rfl,_,rfl,M,C,_,_,_,rfl,mom.ins,hc.cl,hc.m,rfl,MA.me,_,rfl,.inl ⟨m,Sum.inr house,.inl mom.me,rfl,rfl⟩,_,rfl,?_⟩
  cases hv:valV m (Sum.inr house) with
  | none=>
   rw [hv] at t1
   refine iteT (k _ _ (t1 _ rfl) (KeepX.refl H) tb ?_)
   unfold aloneM
   rw [hv]
   exact mom.mono (by omega)
  | some v=>
   rw [hv] at t1
   refine iteF ?_
   refine ⟨_,rfl,M,C,_,_,_,rfl,mom.ins,hc.cl,hc.m,rfl,MA.me,rfl,.inl ⟨m,.inl mom.me⟩,_,rfl,t,_,3,_,rfl,rfl,SqT.of ht,rfl,m,Sum.inr house,v,mom.me,rfl,hv,?_⟩
   have ea:aloneM m house=dropK m (Sum.inr house):=if_pos (by rw [hv];rfl)
   rw [ea] at k
   have ml:=mom.ml
   have hd:=dropK_le m (Sum.inr house)
   exact k _ _ (t1 _ rfl) (keepX_upd (by simp)) (tb_dict tb mom.me) ((mom.mono (show n≤n + 6 by omega)).setM mom.ac.drop (by omega))
end
end K37
namespace L2
open PySem PySem.Spec PyProof.Rows
theorem pe_fldK {X:Cx}{K:PySem.W.Frag}{e:Expr}{f:Str}{pos:Pos}{ta:TE} (he:PE X e ta) (hb:attributeBase e f X.env (eval e X.env)=eval e X.env:=by rfl) (hK:X.K=K:=by rfl):PE X (.Attribute e f pos) (tFld K ta f):=by
 subst hK
 exact pe_fld he hb
end L2
namespace K37
open PySem L2
theorem parts_at {H:Hp}:∀ {us:List V}{R:List P3},RdVs false H us (R.map pD)→∀ {i:Nat}{v:V},us[i]?=some v→∃ p q,R[i]?=some p∧v=.ref q∧H q=some (.tup [.str p.1,.str p.2.1,.int p.2.2])
 | _,[],h,i,v,e=>by cases h;simp at e
 | _,p :: R,h,i,v,e=>by
  rw [List.map_cons] at h
  cases h with
  | cons a r=>
   cases i with
   | zero=>
    simp at e
    subst e
    unfold pD at a
    cases a with
    | tup e hl q=>
     cases q with
     | cons q1 q=>
      cases q with
      | cons q2 q=>
       cases q with
       | cons q3 q=>
        cases q
        cases q1
        cases q2
        cases q3
        exact ⟨p,_,rfl,rfl,e⟩
   | succ i=>
    obtain ⟨p',q,e1,e2⟩:=parts_at r (i:=i) (by simpa using e)
    exact ⟨p',q,by simpa using e1,e2⟩
theorem part_acres {p:P3} (h:partD (pD p)=true):1≤p.2.2:=by
 simp only [pD,partD,wholeD,Bool.and_eq_true,decide_eq_true_eq] at h
 omega
section
variable {P:Program}{w:World}{K:PySem.W.Frag}{mg:Str→Option Value}{base:Heap}
theorem scPart:FnScope ["moment","row","parted","parts","pieces","low","land","house","acres"] ["moment","row"] (defScope sDoPart):=⟨rfl,rfl,rfl,by decide,rfl,by decide,by decide⟩
theorem ok_doPart {f fA fC C T:Addr}{fd fdA fdC:FuncData} (F:Fun K "do_part" "do_part" sDoPart f fd) (hc:MC K C) (hsum:mg "sum"=none) (hany:mg "any"=none)
  (GA:FnOk P w K mg base CX0 1 fA fdA ["pieces"] spAcres) (mA:mg "acres_in"=some (.ref fA)) (kA:PySem.W.keepIn K (.ref fA)=true) (bA:Binds K fdA ["pieces"] [])
  (GC:FnOk P w K mg base CX0 1 fC fdC ["pieces","low","high"] spCut) (mC:mg "cut"=some (.ref fC)) (kC:PySem.W.keepIn K (.ref fC)=true) (bC:Binds K fdC ["pieces","low","high"] []):FnOk P w K mg base CX0 2 f fd ["moment","row"] (spDeed C T ["part"]):=by
 refine F.ok scPart (fun vs H Q E h=>?_) (fun cdv A outer s H vs Q E hr h=>?_)
 ·obtain ⟨M,A,ws,n,m,x,r,rfl,_⟩:=h
  rfl
 ·obtain ⟨M,MA,ws,n,m,x,r,rfl,mom,hn,tb,rdv,ok,hw,k⟩:=h
  have hu:=hu_of hr
  have nd:=scPart.nd
  have nd3:(["part","moment","parted"]:List Str).Nodup:=by decide
  refine ⟨_,pss_cons (ps_asg (pe_tup (pa_c (pe_ix ix_tup (pv 1) pe_int (fun _ _=>rfl)) (pa_c (pe_ix ix_tup (pv 1) pe_int (fun _ _=>rfl)) pa_nil))) (pg_tup rfl (pgs_cons (pg_name (i:=2) nd rfl (Or.inr rfl)) (pgs_cons (pg_name (i:=3) nd rfl (Or.inl rfl)) pgs_nil))))
   (pss_cons (ps_if (pt_cmp (pc_dnotin hu (pv 2) (pe_fld (pv 0) rfl))) (pss_one (ps_ret pe_str)) pss_nil)
   (pss_cons (ps_set (i:=4) nd rfl (Or.inl rfl) (pe_ix ix_tup (pe_dget hu (pe_fld (pv 0) rfl) (pv 2) (fun _ _=>rfl)) pe_int (fun _ _=>rfl)))
   (pss_cons (ps_if (pt_cmpR op_ne (pe_callB (call_sum rfl) (by rfl) hsum PyProof.Rows.boot_sum (pa_c (pe_comp (N:=["part"]) (src:=[none]) (osc:=defScope sDoPart) (oN:=["moment","row","parted","parts","pieces","low","land","house","acres"]) ⟨by rfl,by decide,by decide,by decide,rfl,by rfl⟩ (pi_tup (pv 3))
     fun cl s H fp pins C=>⟨pg_name (i:=0) (show (["part"]:List Str).Nodup by decide) rfl (Or.inl rfl),pts_nil,pe_ix (r:=rIxT K) ix_tup (pv 0) pe_int (fun _ _=>rfl)⟩) pa_nil))
     (pe_call GA hr rfl mA kA bA .nil pass0 (pa_c (pv 4) pa_nil)) (nomark _)) (pss_one (ps_ret pe_str)) pss_nil)
   (pss_cons (ps_if (pt_val (pe_callB (call_any rfl) (by rfl) hany (by kernel_rfl) (pa_c (pe_comp (N:=["part","moment","parted"]) (src:=[none,some 0,some 2]) (osc:=defScope sDoPart) (oN:=["moment","row","parted","parts","pieces","low","land","house","acres"]) ⟨by rfl,by decide,by decide,by decide,rfl,by rfl⟩ (pi_tup (pv 3))
     fun cl s H fp pins C=>⟨pg_name (i:=0) nd3 rfl (Or.inl rfl),pts_nil,pe_and (pe_cmpR op_ne (pe_ix (r:=rIxT K) ix_tup (pv 0) pe_int (fun _ _=>rfl)) (pv 2) (nomark _)) (pe_one (pe_cmp (pc_din hu (pe_ix (r:=rIxT K) ix_tup (pv 0) pe_int (fun _ _=>rfl)) (pe_fldK (K:=K) (pv 1)))))⟩) pa_nil))) (pss_one (ps_ret pe_str)) pss_nil)
   (pss_cons (ps_expr (pe_dpop1 (pe_fld (pv 0) rfl) (pv 2) ⟨rfl,rfl,rfl,rfl⟩))
   (pss_cons (ps_set (i:=5) nd rfl (Or.inl rfl) pe_int)
   (pss_cons (ps_for PassesOwn.never rfl (pi_tup (pv 3)) (g:=gTup K 3 (gCons (gName 6) (gCons (gName 7) (gCons (gName 8) gNil)))) (pg_tup rfl (pgs_cons (pg_name (i:=6) nd rfl (Or.inl rfl)) (pgs_cons (pg_name (i:=7) nd rfl (Or.inl rfl)) (pgs_cons (pg_name (i:=8) nd rfl (Or.inl rfl)) pgs_nil))))
    (pss_cons (ps_dput hu (pe_fld (pv 0) rfl) (pv 6) (pe_tup (pa_c (pv 7) (pa_c (pe_call GC hr rfl mC kC bC .nil pass0 (pa_c (pv 4) (pa_c (pv 5) (pa_c (pe_op op_add (pv 5) (pv 8)) pa_nil)))) pa_nil))) rfl)
    (pss_one (ps_aug (i:=5) nd rfl (Or.inl rfl) (pv 8) ip_add))))
   (pss_one (ps_ret pe_str))))))))),?_⟩
  obtain ⟨t,rest,rfl,ht,hrest⟩:=RowI.Ok.tup (fs:=ws) rdv
  have hwd:r.word="part":=by simpa using hw
  have rs:=ok.rs
  have t1:∀ z,tell m r z:=fun z=>tell_no (by rw [hwd];decide) (by rw [hwd];decide)
  have t2:stepM m r=m:=step_no (by rw [hwd];decide) (by rw [hwd];decide)
  rw [t2] at k
  obtain ⟨word,name,day,ds⟩:=r
  dsimp only at hwd rs hrest ht
  subst hwd
  cases rs with
  | @part parted R hl hrise h2 h6 hall=>
  cases hrest with
  | cons q1 hrest=>
  cases hrest with
  | cons q2 hrest=>
  cases hrest
  cases q1
  cases q2 with
  | @tup tp us _ etp htl hus=>
  have hul:=hus.len
  rw [List.length_map] at hul
  refine ⟨_,rfl,t,_,3,_,rfl,rfl,SqT.of ht,rfl,_,rfl,t,_,4,_,rfl,rfl,SqT.of ht,rfl,sizeLine_big (by show 2≤1000000;decide),fun u hu0=>?_⟩
  have su:=Same.new (o:=.tup [V.str parted,.ref tp]) hu0
  refine ⟨u,_,rfl,SqT.of upd_same,rfl,_,_,rfl,_,_,rfl,rfl,?_⟩
  generalize upd H u (.tup [V.str parted,.ref tp])=H0 at su ⊢
  have mom0:=mom.same su
  have tb0:Tb T H0:=tb.same su
  have etp0:=su _ _ etp
  have hus0:=hus.same su
  obtain ⟨hol,b,hh1,hnd,hlen,hT,hb⟩:=mom0.h
  refine ⟨_,rfl,_,rfl,M,C,_,_,_,rfl,mom0.ins,hc.cl,hc.h,rfl,MA.h,_,rfl,.inl ⟨hol,Sum.inr parted,.inl hh1,rfl,rfl⟩,_,rfl,?_⟩
  cases hv:valV hol (Sum.inr parted) with
  | none=>exact iteT (k _ _ (t1 _) (same_keepX su) tb0 (mom0.mono (by omega)))
  | some v=>
  refine iteF ?_
  obtain ⟨a,b',he,hT',hab⟩:=hT.take hv
  obtain ⟨t3,tp3,hs,xs,ps,rfl,e1,e2,e3,e4,e5⟩:=he
  refine ⟨_,rfl,M,C,_,_,_,rfl,mom0.ins,hc.cl,hc.h,rfl,_,rfl,MA.h,_,rfl,.inl ⟨hol,Sum.inr parted,.inl hh1,rfl,hv.symm⟩,t3,_,1,_,rfl,rfl,SqT.of e1,rfl,?_⟩
  have hpl:=e4.len
  have hxl:=Paired.length e3
  have hpos:=hT'.pos
  have hxz:xs.length≤8000000:=by omega
  have z8:∀ i,i≤8000000→i≤sizeLine:=fun i h=>by rw [PySem.sizeLine_eq];omega
  refine ⟨_,rfl,tp,rfl,⟨_,SqT.of etp0⟩,?_⟩
  refine comp_tup (K:=K) (xs:=us) (fun i ys σ' H'=>∃ o1:Option V,σ'=[o1]∧Same H0 H'∧ys=((R.take i).map fun p=>p.2.2).map V.int) ⟨none,rfl,Same.refl H0,by simp⟩
   (z8 _ (by omega)) (fun i ys σ H' p=>by obtain ⟨_,_,_,rfl⟩:=p;simp;omega) (fun i ys σ H' p=>by obtain ⟨_,_,S,_⟩:=p;exact SqT.of (S _ _ etp0)) ?_ ?_
  ·rintro i v ys σ' H1 hv ⟨o1,rfl,S,rfl⟩
   obtain ⟨p,q,hp,rfl,hq⟩:=parts_at hus0 hv
   dsimp only [gName]
   refine iteT ?_
   refine ⟨_,rfl,q,_,2,_,rfl,rfl,SqT.of (S _ _ hq),rfl,_,rfl,S,?_⟩
   rw [List.take_add_one,hp]
   simp
  rintro ys σ' H1 ⟨o1,rfl,S1,rfl⟩ D hD
  rw [hul,List.take_length]
  have S2:=S1.trans (Same.new (o:=.lst ((R.map fun p=>p.2.2).map V.int)) hD)
  refine ⟨D,R.map fun p=>p.2.2,rfl,SqL.of upd_same,?_⟩
  refine ⟨_,rfl,tp3,xs,ps,rfl,S2 _ _ e2,e3.same S2,z8 _ hxz,fun H3 S3=>?_⟩
  have S4:=S2.trans S3
  generalize upd H1 D _=H2 at S2 S3
  refine ⟨rfl,_,rfl,?_⟩
  refine ite2 (fun g=>k _ _ (t1 _) (same_keepX (su.trans S4)) (tb0.same S4) ((mom0.same S4).mono (by omega))) fun g=>?_
  refine ⟨_,rfl,tp,rfl,⟨_,SqT.of (S4 _ _ etp0)⟩,?_⟩
  refine comp_tup (K:=K) (xs:=us) (fun i ys σ' H'=>∃ (o1:Option V) (bs:List Bool),σ'=[o1,some (.ref M),some (.str parted)]∧Same H3 H'∧ys=bs.map V.bl∧bs.length=i) ⟨none,[],rfl,Same.refl H3,rfl,rfl⟩
   (z8 _ (by omega)) (fun i ys σ H' p=>by obtain ⟨_,_,_,_,rfl,e⟩:=p;simp;omega) (fun i ys σ H' p=>by obtain ⟨_,_,_,S,_⟩:=p;exact SqT.of (S _ _ (S4 _ _ etp0))) ?_ ?_
  ·rintro i v ys σ' H5 hv ⟨o1,bs,rfl,S,rfl,hbl⟩
   obtain ⟨p,q,hp,rfl,hq⟩:=parts_at hus0 hv
   have hq5:=S _ _ (S4 _ _ hq)
   have mom5:=(mom0.same S4).same S
   have nx:∀ c:Bool,∃ (o1:Option V) (bs':List Bool),[some (V.ref q),some (V.ref M),some (.str parted)]=[o1,some (.ref M),some (.str parted)]∧Same H3 H5∧bs.map V.bl ++ [.bl c]=bs'.map V.bl∧bs'.length=i + 1:=fun c=>⟨_,bs ++ [c],rfl,S,by simp,by simp [hbl]⟩
   dsimp only [gName]
   refine iteT ?_
   refine ⟨_,rfl,q,_,0,_,rfl,rfl,SqT.of hq5,rfl,_,rfl,rfl,_,rfl,?_⟩
   refine ite2 (fun g2=>?_) fun g2=>nx false
   refine ⟨_,rfl,q,_,0,_,rfl,rfl,SqT.of hq5,rfl,_,rfl,M,C,_,_,_,rfl,mom5.ins,hc.cl,hc.h,rfl,MA.h,_,rfl,.inl ⟨hol,Sum.inr p.1,.inl (S _ _ (S4 _ _ hh1)),rfl,rfl⟩,nx _⟩
  rintro ys σ' H5 ⟨o1,bs,rfl,S5,rfl,hbl⟩ D2 hD2
  have S6:=(S4.trans S5).trans (Same.new (o:=.lst (bs.map V.bl)) hD2)
  refine ⟨D2,bs,rfl,SqL.of upd_same,_,rfl,?_⟩
  generalize upd H5 D2 _=H6 at S6 ⊢
  have mom6:=mom0.same S6
  have tb6:Tb T H6:=tb0.same S6
  refine ite2 (fun g2=>k _ _ (t1 _) (same_keepX (su.trans S6)) tb6 (mom6.mono (by omega))) fun g2=>?_
  refine ⟨_,rfl,M,C,_,_,_,rfl,mom6.ins,hc.cl,hc.h,rfl,MA.h,rfl,.inl ⟨hol,.inl (S6 _ _ hh1)⟩,_,rfl,hol,Sum.inr parted,_,S6 _ _ hh1,rfl,hv,?_⟩
  have hdl:=dropK_le hol (Sum.inr parted)
  have mom7:Mom (upd H6 MA.h (.dK (dropK hol (Sum.inr parted)))) C M MA ws n m:=mom6.setH (nd_dropK hnd) (by omega) (Nat.le_refl _) (hT'.on (same_tups S6)) (by omega)
  have tb7:Tb T (upd H6 MA.h (.dK (dropK hol (Sum.inr parted)))):=tb_dict tb6 (S6 _ _ hh1)
  have K7:KeepX [T,MA.h,MA.i,MA.me] H (upd H6 MA.h (.dK (dropK hol (Sum.inr parted)))):=(same_keepX (su.trans S6)).trans (keepX_upd (by simp))
  have T7:Tups H0 (upd H6 MA.h (.dK (dropK hol (Sum.inr parted)))):=fun q us e=>by
   rw [upd_ne (ne_of (S6 _ _ e) (S6 _ _ hh1) (fun z=>nomatch z))]
   exact S6 _ _ e
  have hT7:HolT (upd H6 MA.h (.dK (dropK hol (Sum.inr parted)))) ws (dropK hol (Sum.inr parted)) b':=hT'.on T7
  have hh7:upd H6 MA.h (.dK (dropK hol (Sum.inr parted))) MA.h=some (.dK (dropK hol (Sum.inr parted))):=upd_same
  generalize upd H6 MA.h (.dK (dropK hol (Sum.inr parted)))=H7 at mom7 tb7 K7 T7 hT7 hh7 ⊢
  have hpp:∀ p∈ps,p.2.1 < p.2.2:=fun p hp=>(e4.ok p hp).2
  refine ⟨_,rfl,tp,rfl,⟨_,SqT.of (T7 _ _ etp0)⟩,?_⟩
  refine for_tup (K:=K) (xs:=us) (fun i σ H'=>∃ (o6 o7 o8:Option V) (lo c:Int) (hl:List (Key×V)),σ=[some (.ref M),some (.ref t),some (.str parted),some (.ref tp),some (.ref tp3),some (.int lo),o6,o7,o8]∧KeepX [T,MA.h,MA.i,MA.me] H H'∧Tups H0 H'∧Tb T H'∧Mom H' C M MA ws (n + i) m∧H' MA.h=some (.dK hl)∧(hl.map (·.1)).Nodup∧hl.length≤n + i∧HolT H' ws hl c∧0≤lo∧c≤b' + bef ps lo)
   ⟨none,none,none,0,b',dropK hol (Sum.inr parted),rfl,K7,T7,tb7,mom7,hh7,nd_dropK hnd,by omega,hT7,Int.le_refl _,by rw [bef_0 ps 0 hpp (Int.le_refl _)];omega⟩ (fun i σ H' _ p=>by obtain ⟨_,_,_,_,_,_,_,_,tt,_⟩:=p;exact SqT.of (tt _ _ etp0)) ?_ ?_
  ·rintro i v σ H8 hv8 ⟨o6,o7,o8,lo,c,hl8,rfl,K8,T8,tb8,mom8,hh8,hnd8,hlen8,hT8,hlo,hc8⟩
   obtain ⟨p,q,hp,rfl,hq⟩:=parts_at hus0 hv8
   have hac:1≤p.2.2:=part_acres (List.all_eq_true.mp hall _ (List.mem_map_of_mem (List.mem_of_getElem? hp)))
   have hi6:i < R.length:=(List.getElem?_eq_some_iff.mp hp).1
   refine ⟨q,_,rfl,SqT.of (T8 _ _ hq),rfl,_,_,rfl,_,_,rfl,_,_,rfl,rfl,?_⟩
   refine ⟨_,rfl,_,rfl,_,rfl,_,rfl,_,rfl,_,_,rfl,rfl,tp3,xs,ps,lo,lo + p.2.2,rfl,T8 _ _ e2,e3.on T8,z8 _ hxz,fun t9 ys9 H9 S9 ht9 hY9=>?_⟩
   refine ⟨sizeLine_big (by show 2≤1000000;decide),fun u9 hu9=>?_⟩
   have S10:=S9.trans (Same.new (o:=.tup [V.str p.2.1,.ref t9]) hu9)
   have hY10:=hY9.same (Same.new (o:=.tup [V.str p.2.1,.ref t9]) hu9)
   have ht10:=(Same.new (o:=.tup [V.str p.2.1,.ref t9]) hu9) _ _ ht9
   have hu10:upd H9 u9 (.tup [V.str p.2.1,.ref t9]) u9=_:=upd_same
   generalize upd H9 u9 (.tup [V.str p.2.1,.ref t9])=H10 at S10 hY10 ht10 hu10 ⊢
   have mom10:=mom8.same S10
   have hE:HEnt H10 ws (.ref u9) (acr (cutP ps lo (lo + p.2.2))):=⟨u9,t9,p.2.1,ys9,_,rfl,hu10,ht10,hY10,cut_good e4,rfl⟩
   obtain ⟨c',hT10,hc10⟩:=(hT8.on (same_tups S10)).put (k:=Sum.inr p.1) hnd8 hE
   have hcut:=acr_cut (lo:=lo) (hi:=lo + p.2.2) e4 (by omega)
   have hbl8:=bef_le ps (lo + p.2.2) hpp
   have hlp:=length_putK hl8 (Sum.inr p.1) (.ref u9)
   refine ⟨_,rfl,M,C,_,_,_,rfl,mom10.ins,hc.cl,hc.h,rfl,_,rfl,MA.h,_,rfl,DPut.k (k:=Sum.inr p.1) (S10 _ _ hh8) (Nat.lt_of_le_of_lt hlen8 (by rw [PySem.sizeLine_eq];omega)),?_⟩
   refine ⟨_,rfl,_,rfl,_,_,rfl,rfl,?_⟩
   have T11:Tups H10 (upd H10 MA.h (.dK (putK hl8 (Sum.inr p.1) (.ref u9)))):=fun q us e=>by
    rw [upd_ne (ne_of e (S10 _ _ hh8) (fun z=>nomatch z))]
    exact e
   exact ⟨_,_,_,lo + p.2.2,c',putK hl8 (Sum.inr p.1) (.ref u9),rfl,(K8.same S10).trans (keepX_upd (by simp)),fun q us e=>T11 _ _ (S10 _ _ (T8 _ _ e)),tb_dict (tb8.same S10) (S10 _ _ hh8),mom10.setH (nd_put _ hnd8) (by omega) (by omega) hT10 (by omega),upd_same,nd_put _ hnd8,by omega,hT10.on T11,by omega,by omega⟩
  ·rintro σ H8 ⟨o6,o7,o8,lo,c,hl8,rfl,K8,T8,tb8,mom8,hh8,hnd8,hlen8,hT8,hlo,hc8⟩
   exact k _ _ (t1 _) K8 tb8 (mom8.mono (by omega))
end
end K37
namespace K37
open PySem L2
theorem Mom.sameT {H H':Hp}{C M T:Addr}{A:MA}{ws:List Str}{n:Nat}{m:Mnd} (h:Mom H C M A ws n m) (s:SameT T H H') (g:Tb T H):Mom H' C M A ws n m:=by
 obtain ⟨tps,hT,_⟩:=g.ex
 have go:∀ b o,H b=some o→(∀ ps,o≠.tbl ps)→H' b=some o:=fun b o e ne=>s b o (fun z=>by rw [z,hT] at e;cases e;exact ne _ rfl) e
 obtain ⟨rks,hr,r2⟩:=h.r
 obtain ⟨hol,b,hh,h2,h3,h4,h5⟩:=h.h
 obtain ⟨inc,hi,i2⟩:=h.i
 exact ⟨go _ _ h.ins (fun _ z=>nomatch z),⟨rks,go _ _ hr (fun _ z=>nomatch z),r2⟩,⟨hol,b,go _ _ hh (fun _ z=>nomatch z),h2,h3,h4.on (sameT_tups s g),h5⟩,⟨inc,go _ _ hi (fun _ z=>nomatch z),i2⟩,go _ _ h.me (fun _ z=>nomatch z),h.ac,h.ml,h.rh,h.ri,h.rm,h.hi,h.hm,h.im⟩
theorem Mom.list {H:Hp}{C M L:Addr}{A:MA}{ws:List Str}{n:Nat}{m:Mnd}{xs ys:List V} (h:Mom H C M A ws n m) (e:H L=some (.lst xs)):Mom (upd H L (.lst ys)) C M A ws n m:=by
 have go:∀ b o,H b=some o→(∀ xs,o≠.lst xs)→upd H L (.lst ys) b=some o:=fun b o q ne=>by
  rw [upd_ne (fun z=>by rw [z,e] at q;cases q;exact ne _ rfl)]
  exact q
 obtain ⟨rks,hr,r2⟩:=h.r
 obtain ⟨hol,b,hh,h2,h3,h4,h5⟩:=h.h
 obtain ⟨inc,hi,i2⟩:=h.i
 exact ⟨go _ _ h.ins (fun _ z=>nomatch z),⟨rks,go _ _ hr (fun _ z=>nomatch z),r2⟩,⟨hol,b,go _ _ hh (fun _ z=>nomatch z),h2,h3,h4.on (fun q us z=>go _ _ z (fun _ z=>nomatch z)),h5⟩,⟨inc,go _ _ hi (fun _ z=>nomatch z),i2⟩,go _ _ h.me (fun _ z=>nomatch z),h.ac,h.ml,h.rh,h.ri,h.rm,h.hi,h.hm,h.im⟩
theorem tb_list {T L:Addr}{xs ys:List V}{H:Hp} (g:Tb T H) (e:H L=some (.lst xs)):Tb T (upd H L (.lst ys)):=tb_on g fun b o q n=>by
 rw [upd_ne (fun z=>n ⟨xs,by rw [z];exact e⟩)]
 exact q
theorem rising_nodup {R:List Str} (h:risingB R=true):R.Nodup:=by
 have h:=of_decide_eq_true h
 exact h.imp fun {a b} hab e=>by
  subst e
  exact List.lt_irrefl _ hab
theorem strs_read {m:Bool}{H:Hp}:∀ {us:List V}{R:List Str},RdVs m H us (R.map PyData.str)→us=R.map V.str
 | _,[],h=>by cases h;rfl
 | _,z :: R,h=>by
  rw [List.map_cons] at h
  cases h with
  | cons a r=>
   cases a
   rw [strs_read r]
   rfl
section
variable {P:Program}{w:World}{K:PySem.W.Frag}{mg:Str→Option Value}{base:Heap}
theorem scJoin:FnScope ["moment","row","joined","land","house","pieces","name"] ["moment","row"] (defScope sDoJoin):=⟨rfl,rfl,rfl,by decide,rfl,by decide,by decide⟩
theorem ok_doJoin {f fI C T:Addr}{fd fdI:FuncData} (F:Fun K "do_join" "do_join" sDoJoin f fd) (hc:MC K C) (hall:mg "all"=none) (hany:mg "any"=none)
  (GI:FnOk P w K mg base CX0 4 fI fdI ["ranks","pieces"] (spInOne T)) (mI:mg "in_one"=some (.ref fI)) (kI:PySem.W.keepIn K (.ref fI)=true) (bI:Binds K fdI ["ranks","pieces"] []):FnOk P w K mg base CX0 5 f fd ["moment","row"] (spDeed C T ["join"]):=by
 refine F.ok scJoin (fun vs H Q E h=>?_) (fun cdv A outer s H vs Q E hr h=>?_)
 ·obtain ⟨M,A,ws,n,m,x,r,rfl,_⟩:=h
  rfl
 ·obtain ⟨M,MA,ws,n,m,x,r,rfl,mom,hn,tb,rdv,ok,hw,k⟩:=h
  have hu:=hu_of hr
  have nd:=scJoin.nd
  have nd2:(["name","moment"]:List Str).Nodup:=by decide
  have nd3:(["name","moment","house"]:List Str).Nodup:=by decide
  refine ⟨_,pss_cons (ps_par (i:=2) (j:=3) rfl nd rfl rfl (by decide) rfl rfl (pa_c (pe_ix ix_tup (pv 1) pe_int (fun _ _=>rfl)) (pa_c (pe_ix ix_tup (pv 1) pe_int (fun _ _=>rfl)) pa_nil)) rfl)
   (pss_cons (ps_if (pt_not (pt_val (pe_callB (call_all rfl) (by rfl) hall (by kernel_rfl) (pa_c (pe_comp (N:=["name","moment"]) (src:=[none,some 0]) (osc:=defScope sDoJoin) (oN:=["moment","row","joined","land","house","pieces","name"]) ⟨by rfl,by decide,by decide,by decide,rfl,by rfl⟩ (pi_tup (pv 2))
     fun cl s H fp pins C=>⟨pg_name (i:=0) nd2 rfl (Or.inl rfl),pts_nil,pe_cmp (pc_din hu (pv 0) (pe_fldK (K:=K) (pv 1)))⟩) pa_nil)))) (pss_one (ps_ret pe_str)) pss_nil)
   (pss_cons (ps_set (i:=4) nd rfl (Or.inr rfl) (pe_ix ix_tup (pe_dget hu (pe_fld (pv 0) rfl) (pe_ix ix_tup (pv 2) pe_int (fun _ _=>rfl)) (fun _ _=>rfl)) pe_int (fun _ _=>rfl)))
   (pss_cons (ps_if (pt_val (pe_callB (call_any rfl) (by rfl) hany (by kernel_rfl) (pa_c (pe_comp (N:=["name","moment","house"]) (src:=[none,some 0,some 4]) (osc:=defScope sDoJoin) (oN:=["moment","row","joined","land","house","pieces","name"]) ⟨by rfl,by decide,by decide,by decide,rfl,by rfl⟩ (pi_tup (pv 2))
     fun cl s H fp pins C=>⟨pg_name (i:=0) nd3 rfl (Or.inl rfl),pts_nil,pe_cmpR op_ne (pe_ix (r:=rIxT K) ix_tup (pe_dget hu (pe_fldK (K:=K) (pv 1)) (pv 0) (fun _ _=>rfl)) pe_int (fun _ _=>rfl)) (pv 2) (nomark _)⟩) pa_nil))) (pss_one (ps_ret pe_str)) pss_nil)
   (pss_cons (ps_if (pt_mid (PW.pt (pw_and (pt_cmpR op_notIn_seq (pv 3) (pv 2) (by with_unfolding_all rfl)) (pw_and1 (pt_cmp (pc_din hu (pv 3) (pe_fld (pv 0) rfl))))))) (pss_one (ps_ret pe_str)) pss_nil)
   (pss_cons (ps_set (i:=5) nd rfl (Or.inl rfl) (pe_lst pa_nil))
   (pss_cons (ps_for PassesOwn.never rfl (pi_tup (pv 2)) (pg_name (i:=6) nd rfl (Or.inl rfl))
    (pss_one (ps_expr (pe_bm PySem.F.plainAttrs_list PySem.F.slot_list_extend PySem.F.type_list_extend mt_extendT (pv 5) (pa_c (pe_ix ix_tup (pe_dpop1 (pe_fld (pv 0) rfl) (pv 6) ⟨rfl,rfl,rfl,rfl⟩) pe_int (fun _ _=>rfl)) pa_nil)))))
   (pss_cons (ps_dput hu (pe_fld (pv 0) rfl) (pv 3) (pe_tup (pa_c (pv 4) (pa_c (pe_call GI hr rfl mI kI bI .nil pass0 (pa_c (pe_fld (pv 0) rfl) (pa_c (pv 5) pa_nil))) pa_nil))) rfl)
   (pss_one (ps_ret pe_str))))))))),?_⟩
  obtain ⟨t,rest,rfl,ht,hrest⟩:=RowI.Ok.tup (fs:=ws) rdv
  have hwd:r.word="join":=by simpa using hw
  have rs:=ok.rs
  have t1:∀ z,tell m r z:=fun z=>tell_no (by rw [hwd];decide) (by rw [hwd];decide)
  have t2:stepM m r=m:=step_no (by rw [hwd];decide) (by rw [hwd];decide)
  rw [t2] at k
  obtain ⟨word,name,day,ds⟩:=r
  dsimp only at hwd rs hrest ht
  subst hwd
  cases rs with
  | @join land R hl hrise h2 h6 hallR=>
  cases hrest with
  | cons q1 hrest=>
  cases hrest with
  | cons q2 hrest=>
  cases hrest
  cases q2
  cases q1 with
  | @tup tp us _ etp htl hus=>
  obtain rfl:=strs_read hus
  have hnR:=rising_nodup hrise
  refine ⟨_,rfl,t,_,3,_,rfl,rfl,SqT.of ht,rfl,_,rfl,t,_,4,_,rfl,rfl,SqT.of ht,rfl,_,_,rfl,?_⟩
  obtain ⟨hol,b,hh1,hnd,hlen,hT,hb⟩:=mom.h
  have zs:∀ i,i≤8000000→i≤sizeLine:=fun i h=>by rw [PySem.sizeLine_eq];omega
  have hRl:(R.map V.str).length=R.length:=List.length_map _
  refine ⟨_,rfl,tp,rfl,⟨_,SqT.of etp⟩,?_⟩
  refine comp_tup (K:=K) (xs:=R.map V.str) (fun i ys σ' H'=>∃ (o1:Option V),σ'=[o1,some (.ref M)]∧Same H H'∧ys=((R.take i).map fun z=>(valV hol (Sum.inr z)).isSome).map V.bl) ⟨none,rfl,Same.refl H,by simp⟩
   (zs _ (by omega)) (fun i ys σ H' p=>by obtain ⟨_,_,_,rfl⟩:=p;simp;omega) (fun i ys σ H' p=>by obtain ⟨_,_,S,_⟩:=p;exact SqT.of (S _ _ etp)) ?_ ?_
  ·rintro i v ys σ' H1 hv ⟨o1,rfl,S,rfl⟩
   rw [List.getElem?_map] at hv
   obtain ⟨z,hz,rfl⟩:=Option.map_eq_some_iff.mp hv
   dsimp only [gName]
   refine iteT ?_
   refine ⟨_,rfl,_,rfl,M,C,_,_,_,rfl,(mom.same S).ins,hc.cl,hc.h,rfl,MA.h,_,rfl,.inl ⟨hol,Sum.inr z,.inl (S _ _ hh1),rfl,rfl⟩,_,rfl,S,?_⟩
   rw [List.take_add_one,hz]
   simp
  rintro ys σ' H1 ⟨o1,rfl,S1,rfl⟩ D hD
  rw [hRl,List.take_length]
  have S2:=S1.trans (Same.new (o:=.lst ((R.map fun z=>(valV hol (Sum.inr z)).isSome).map V.bl)) hD)
  refine ⟨D,R.map fun z=>(valV hol (Sum.inr z)).isSome,rfl,SqL.of upd_same,_,rfl,?_⟩
  generalize upd H1 D _=H2 at S2 ⊢
  have mom2:=mom.same S2
  have tb2:Tb T H2:=tb.same S2
  refine ite2 (fun g=>k _ _ (t1 _) (same_keepX S2) tb2 (mom2.mono (by omega))) fun g=>?_
  have hin:∀ z∈R,∃ v,valV hol (Sum.inr z)=some v:=fun z hz=>by
   have g':((R.map fun z=>(valV hol (Sum.inr z)).isSome).all id)=true:=by
    cases hh:((R.map fun z=>(valV hol (Sum.inr z)).isSome).all id) with
    | true=>rfl
    | false=>rw [hh] at g;exact absurd rfl g
   have:=List.all_eq_true.mp g' _ (List.mem_map_of_mem hz)
   exact Option.isSome_iff_exists.mp this
  have hT2:=hT.on (same_tups S2)
  have etp2:=S2 _ _ etp
  have hh2:=S2 _ _ hh1
  obtain ⟨z0,R',rfl⟩:∃ z0 R',R=z0 :: R':=by
   cases R with
   | nil=>simp at h2
   | cons z0 R'=>exact ⟨z0,R',rfl⟩
  obtain ⟨v0,hv0⟩:=hin z0 List.mem_cons_self
  obtain ⟨_,_,⟨t0,tp0,hs0,xs0,ps0,rfl,e1,_⟩,_⟩:=hT2.take hv0
  have at0:atI ((z0 :: R').map V.str) 0=some (.str z0):=atI_nat (xs:=(z0 :: R').map V.str) (j:=0) rfl
  refine ⟨_,rfl,M,C,_,_,_,rfl,mom2.ins,hc.cl,hc.h,rfl,_,rfl,tp,_,0,_,rfl,rfl,SqT.of etp2,at0,MA.h,_,rfl,.inl ⟨hol,Sum.inr z0,.inl hh2,rfl,hv0.symm⟩,t0,_,0,_,rfl,rfl,SqT.of e1,rfl,?_⟩
  generalize hRR:z0 :: R'=R at *
  refine ⟨_,rfl,tp,rfl,⟨_,SqT.of etp2⟩,?_⟩
  refine comp_tup (K:=K) (xs:=R.map V.str) (fun i ys σ' H'=>∃ (o1:Option V) (bs:List Bool),σ'=[o1,some (.ref M),some (.str hs0)]∧Same H2 H'∧ys=bs.map V.bl∧bs.length=i) ⟨none,[],rfl,Same.refl H2,rfl,rfl⟩
   (zs _ (by omega)) (fun i ys σ H' p=>by obtain ⟨_,_,_,_,rfl,e⟩:=p;simp;omega) (fun i ys σ H' p=>by obtain ⟨_,_,_,S,_⟩:=p;exact SqT.of (S _ _ etp2)) ?_ ?_
  ·rintro i v ys σ' H5 hv ⟨o1,bs,rfl,S,rfl,hbl⟩
   rw [List.getElem?_map] at hv
   obtain ⟨z,hz,rfl⟩:=Option.map_eq_some_iff.mp hv
   obtain ⟨v1,hv1⟩:=hin z (List.mem_of_getElem? hz)
   obtain ⟨_,_,⟨t5,tp5,hs5,xs5,ps5,rfl,e5,_⟩,_⟩:=hT2.take hv1
   dsimp only [gName]
   refine iteT ?_
   refine ⟨_,rfl,M,C,_,_,_,rfl,(mom2.same S).ins,hc.cl,hc.h,rfl,_,rfl,MA.h,_,rfl,.inl ⟨hol,Sum.inr z,.inl (S _ _ hh2),rfl,hv1.symm⟩,t5,_,0,_,rfl,rfl,SqT.of (S _ _ e5),rfl,_,rfl,rfl,?_⟩
   exact ⟨_,bs ++ [!decide (V.str hs5=V.str hs0)],rfl,S,by rw [List.map_append];rfl,by simp [hbl]⟩
  rintro ys σ' H5 ⟨o1,bs,rfl,S5,rfl,hbl⟩ D2 hD2
  have S6:=S5.trans (Same.new (o:=.lst (bs.map V.bl)) hD2)
  refine ⟨D2,bs,rfl,SqL.of upd_same,_,rfl,?_⟩
  generalize upd H5 D2 _=H6 at S6 ⊢
  have mom6:=mom2.same S6
  have tb6:Tb T H6:=tb2.same S6
  have S26:=S2.trans S6
  refine ite2 (fun g2=>k _ _ (t1 _) (same_keepX S26) tb6 (mom6.mono (by omega))) fun g2=>?_
  refine ⟨fun _ H'=>H'=H6,?_,fun bb H' e=>?_⟩
  ·refine ⟨_,rfl,_,rfl,tp,_,rfl,.inr (SqT.of (S6 _ _ etp2)),rfl,flat_strs _,_,rfl,?_⟩
   refine ite2 (fun g3=>?_) fun g3=>rfl
   exact ⟨_,rfl,_,rfl,M,C,_,_,_,rfl,mom6.ins,hc.cl,hc.h,rfl,MA.h,_,rfl,.inl ⟨hol,Sum.inr land,.inl (S6 _ _ hh2),rfl,rfl⟩,_,rfl,rfl⟩
  subst e
  refine ite2 (fun g3=>k _ _ (t1 _) (same_keepX S26) tb6 (mom6.mono (by omega))) fun g3=>?_
  refine ⟨Nat.zero_le _,fun L hL=>?_⟩
  have sL:=Same.new (o:=.lst []) hL
  have mom7:=mom6.same sL
  have tb7:Tb T _:=tb6.same sL
  have hL7:upd H' L (.lst []) L=some (.lst []):=upd_same
  have S27:=S26.trans sL
  have nHL:H L=none:=S26.free hL
  generalize upd H' L (.lst [])=H7 at sL mom7 tb7 hL7 S27 ⊢
  have etp7:=S27 _ _ etp
  refine ⟨_,rfl,tp,rfl,⟨_,SqT.of etp7⟩,?_⟩
  refine for_tup (K:=K) (xs:=R.map V.str) (fun i σ H'=>∃ (o6:Option V) (hl:List (Key×V)) (c:Int) (xs:List V) (ps:List Pc),σ=[some (.ref M),some (.ref t),some (.ref tp),some (.str land),some (.str hs0),some (.ref L),o6]∧KeepX [T,MA.h,MA.i,MA.me] H H'∧Tups H H'∧Tb T H'∧Mom H' C M MA ws n m∧H' MA.h=some (.dK hl)∧(hl.map (·.1)).Nodup∧hl.length≤n∧HolT H' ws hl c∧H' L=some (.lst xs)∧PcsAt H' xs ps∧PGood ws ps∧acr ps + c≤b∧∀ j z,i≤j→R[j]?=some z→∃ v,valV hl (Sum.inr z)=some v)
   ⟨none,hol,b,[],[],rfl,same_keepX S27,same_tups S27,tb7,mom7,S27 _ _ hh1,hnd,hlen,hT.on (same_tups S27),hL7,.nil,⟨fun p hp=>by simp at hp⟩,by simp [acr],fun j z _ e=>hin z (List.mem_of_getElem? e)⟩ (fun i σ H' _ p=>by obtain ⟨_,_,_,_,_,_,_,tt,_⟩:=p;exact SqT.of (tt _ _ etp)) ?_ ?_
  ·rintro i v σ H8 hv8 ⟨o6,hl8,c,xs,ps,rfl,K8,T8,tb8,mom8,hh8,hnd8,hlen8,hT8,hL8,hP8,hG8,hA8,hin8⟩
   rw [List.getElem?_map] at hv8
   obtain ⟨z,hz,rfl⟩:=Option.map_eq_some_iff.mp hv8
   obtain ⟨v1,hv1⟩:=hin8 i z (Nat.le_refl _) hz
   obtain ⟨a9,c9,⟨t9,tp9,hs9,xs9,ps9,rfl,f1,f2,f3,f4,f5⟩,hT9,hac9⟩:=hT8.take hv1
   have hpos9:=hT9.pos
   have hg9:=f4.len
   have hg8:=hG8.len
   have hxl:=Paired.length hP8
   have hxl9:=Paired.length f3
   have hdl:=dropK_le hl8 (Sum.inr z)
   dsimp only [gName]
   have nLh:L≠MA.h:=ne_of hL8 hh8 (fun z=>nomatch z)
   have mom9:Mom (upd H8 MA.h (.dK (dropK hl8 (Sum.inr z)))) C M MA ws n m:=mom8.setH (nd_dropK hnd8) (by omega) (Nat.le_refl _) hT9 (by omega)
   have T9:Tups H8 (upd H8 MA.h (.dK (dropK hl8 (Sum.inr z)))):=fun q us e=>by
    rw [upd_ne (ne_of e hh8 (fun z=>nomatch z))]
    exact e
   have hL9:upd H8 MA.h (.dK (dropK hl8 (Sum.inr z))) L=some (.lst xs):=by
    rw [upd_ne nLh]
    exact hL8
   have tb9:Tb T (upd H8 MA.h (.dK (dropK hl8 (Sum.inr z)))):=tb_dict tb8 hh8
   have K9:KeepX [T,MA.h,MA.i,MA.me] H (upd H8 MA.h (.dK (dropK hl8 (Sum.inr z)))):=K8.trans (keepX_upd (by simp))
   have hh9:upd H8 MA.h (.dK (dropK hl8 (Sum.inr z))) MA.h=some (.dK (dropK hl8 (Sum.inr z))):=upd_same
   refine ⟨_,rfl,.inl ⟨rfl,_,SqL.of hL8⟩,_,rfl,M,C,_,_,_,rfl,mom8.ins,hc.cl,hc.h,rfl,MA.h,rfl,.inl ⟨hl8,.inl hh8⟩,_,rfl,hl8,Sum.inr z,_,hh8,rfl,hv1,t9,_,1,_,rfl,rfl,SqT.of (T9 _ _ f1),rfl,L,tp9,xs,xs9,rfl,rfl,hL9,T9 _ _ f2,zs _ (by omega),?_⟩
   generalize upd H8 MA.h (.dK (dropK hl8 (Sum.inr z)))=H9 at mom9 T9 hL9 tb9 K9 hh9 ⊢
   have T10:Tups H9 (upd H9 L (.lst (xs ++ xs9))):=fun q us e=>by
    rw [upd_ne (ne_of e hL9 (fun z=>nomatch z))]
    exact e
   have T11:Tups H8 (upd H9 L (.lst (xs ++ xs9))):=fun q us e=>T10 _ _ (T9 _ _ e)
   refine ⟨_,dropK hl8 (Sum.inr z),c9,xs ++ xs9,ps ++ ps9,rfl,fun bb o nn e=>?_,fun q us e=>T11 _ _ (T8 _ _ e),tb_list tb9 hL9,mom9.list hL9,by rw [upd_ne nLh.symm];exact hh9,nd_dropK hnd8,by omega,hT9.on T11,upd_same,Paired.app (hP8.on T11) (f3.on T11),hG8.app f4,by rw [acr_app];omega,fun j y hj ey=>?_⟩
   ·rw [upd_ne (ne_of_none e nHL)]
    exact K9 bb o nn e
   ·obtain ⟨vy,hvy⟩:=hin8 j y (by omega) ey
    rw [valV_drop,if_neg]
    ·exact ⟨vy,hvy⟩
    ·intro zz
     have hzy:=Sum.inr.inj zz
     subst hzy
     obtain ⟨h1,e1⟩:=List.getElem?_eq_some_iff.mp hz
     obtain ⟨h2',e2⟩:=List.getElem?_eq_some_iff.mp ey
     have:=(List.getElem_inj hnR).mp (e1.trans e2.symm)
     omega
  ·rintro σ H8 ⟨o6,hl8,c,xs,ps,rfl,K8,T8,tb8,mom8,hh8,hnd8,hlen8,hT8,hL8,hP8,hG8,hA8,hin8⟩
   obtain ⟨rks,hr8,hrk8⟩:=mom8.r
   have hpos:=hT8.pos
   have hg8:=hG8.len
   have hxl:=Paired.length hP8
   refine ⟨_,rfl,_,rfl,M,C,_,_,_,rfl,mom8.ins,hc.cl,hc.r,rfl,_,rfl,MA.r,L,rks,xs,ps,ws,rfl,hr8,hrk8,hL8,hP8,hG8,Nat.lt_of_le_of_lt (show xs.length≤8000000 by omega) (by rw [PySem.sizeLine_eq];omega),tb8,fun t9 ys9 qs9 H9 S9 tb9 ht9 hY9 hG9 hA9=>?_⟩
   refine ⟨sizeLine_big (by show 2≤1000000;decide),fun u9 hu9=>?_⟩
   have s10:=Same.new (o:=.tup [V.str hs0,.ref t9]) hu9
   have mom10:=(mom8.sameT S9 tb8).same s10
   have tb10:Tb T _:=tb9.same s10
   have hh10:upd H9 u9 (.tup [V.str hs0,.ref t9]) MA.h=some (.dK hl8):=by
    obtain ⟨tps,hTT,_⟩:=tb8.ex
    exact s10 _ _ (S9 _ _ (fun z=>by rw [z,hTT] at hh8;cases hh8) hh8)
   have T10:Tups H8 (upd H9 u9 (.tup [V.str hs0,.ref t9])):=fun q us e=>s10 _ _ (sameT_tups S9 tb8 _ _ e)
   have K10:KeepX [T,MA.h,MA.i,MA.me] H (upd H9 u9 (.tup [V.str hs0,.ref t9])):=fun bb o nn e=>s10 _ _ (S9 _ _ (fun z=>nn (by rw [z];simp)) (K8 bb o nn e))
   have hE:HEnt (upd H9 u9 (.tup [V.str hs0,.ref t9])) ws (.ref u9) (acr qs9):=⟨u9,t9,hs0,ys9,qs9,rfl,upd_same,s10 _ _ ht9,hY9.same s10,hG9,rfl⟩
   obtain ⟨c',hT11,hc11⟩:=(hT8.on T10).put (k:=Sum.inr land) hnd8 hE
   have hlp:=length_putK hl8 (Sum.inr land) (.ref u9)
   generalize upd H9 u9 (.tup [V.str hs0,.ref t9])=H10 at mom10 tb10 hh10 K10 hT11 ⊢
   refine ⟨_,rfl,M,C,_,_,_,rfl,mom10.ins,hc.cl,hc.h,rfl,_,rfl,MA.h,_,rfl,DPut.k (k:=Sum.inr land) hh10 (Nat.lt_of_le_of_lt hlen8 (by rw [PySem.sizeLine_eq];omega)),?_⟩
   exact k _ _ (t1 _) (K10.trans (keepX_upd (by simp))) (tb_dict tb10 hh10) (mom10.setH (nd_put _ hnd8) (by omega) (by omega) hT11 (by omega))
end
end K37
namespace K37
open PySem L2
structure DeedAt (P:Program) (w:World) (K:PySem.W.Frag) (mg:Str→Option Value) (base:Heap) (C T:Addr) (g:Addr) (W:List Str):Prop where
 ex:∃ fd,FnOk P w K mg base CX0 5 g fd ["moment","row"] (spDeed C T W)∧PySem.W.keepIn K (.ref g)=true∧Binds K fd ["moment","row"] []
section
variable {P:Program}{w:World}{K:PySem.W.Frag}{mg:Str→Option Value}{base:Heap}
theorem scCarry:FnScope ["moment","row","deed"] ["moment","row"] (defScope sCarry):=⟨rfl,rfl,rfl,by decide,rfl,by decide,by decide⟩
theorem ok_carry {f C T ra g0 g1 g2 g3 g4 g5 g6:Addr}{fd:FuncData} (F:Fun K "carry_out" "carry_out" sCarry f fd)
  (hdF:∀ h:Heap,K.In h→h.DictOf (mixKind P w) ra (fmR g0 g1 g2 g3 g4 g5 g6 g6)) (mF:mg "DEEDS"=some (.ref ra))
  (G0:DeedAt P w K mg base C T g0 ["part"]) (G1:DeedAt P w K mg base C T g1 ["join"]) (G2:DeedAt P w K mg base C T g2 ["forfeit"]) (G3:DeedAt P w K mg base C T g3 ["measure"]) (G4:DeedAt P w K mg base C T g4 ["mend"]) (G5:DeedAt P w K mg base C T g5 ["alone"]) (G6:DeedAt P w K mg base C T g6 ["breach","view"]):
  FnOk P w K mg base CX0 6 f fd ["moment","row"] (spDeed C T words8):=by
 refine F.ok scCarry (fun vs H Q E h=>?_) (fun cdv A outer s H vs Q E hr h=>?_)
 ·obtain ⟨M,A,ws,n,m,x,r,rfl,_⟩:=h
  rfl
 ·obtain ⟨M,MA,ws,n,m,x,r,rfl,mom,hn,tb,rdv,ok,hw,k⟩:=h
  have nd:=scCarry.nd
  refine ⟨_,pss_cons (ps_set (i:=2) nd rfl (Or.inl rfl) (pe_kget hdF (fm_rel g0 g1 g2 g3 g4 g5 g6 g6) (by rfl) mF (pe_ix ix_tup (pv 1) pe_int (fun _ _=>rfl)) (fun _ _=>rfl)))
   (pss_one (ps_ret (pe_callV (k:=5) (ps:=["moment","row"]) (pv 2) hr (pa_c (pv 0) (pa_c (pv 1) pa_nil))))),?_⟩
  obtain ⟨t,rest,rfl,ht,hrest⟩:=RowI.Ok.tup (fs:=ws) rdv
  have a0:=(row_at (word:=r.word) (name:=r.name) (day:=r.day) (rest:=rest)).1
  obtain ⟨g,W,hg,hW,fdg,Gg,kg,bg⟩:∃ g W,valV (fmV g0 g1 g2 g3 g4 g5 g6 g6) (Sum.inr r.word)=some (.ref g)∧r.word∈W∧∃ fd,FnOk P w K mg base CX0 5 g fd ["moment","row"] (spDeed C T W)∧PySem.W.keepIn K (.ref g)=true∧Binds K fd ["moment","row"] []:=by
   have hw8:=ok.rs.word
   unfold words8 at hw8
   simp only [List.mem_cons,List.not_mem_nil,or_false] at hw8
   rcases hw8 with e | e | e | e | e | e | e | e <;> rw [e]
   ·exact ⟨g0,_,rfl,List.mem_cons_self,G0.ex⟩
   ·exact ⟨g1,_,rfl,List.mem_cons_self,G1.ex⟩
   ·exact ⟨g2,_,rfl,List.mem_cons_self,G2.ex⟩
   ·exact ⟨g3,_,rfl,List.mem_cons_self,G3.ex⟩
   ·exact ⟨g4,_,rfl,List.mem_cons_self,G4.ex⟩
   ·exact ⟨g5,_,rfl,List.mem_cons_self,G5.ex⟩
   ·exact ⟨g6,_,rfl,List.mem_cons_self,G6.ex⟩
   ·exact ⟨g6,_,rfl,List.mem_cons_of_mem _ List.mem_cons_self,G6.ex⟩
  refine ⟨_,rfl,t,_,0,_,rfl,rfl,SqT.of ht,a0,Sum.inr r.word,.ref g,rfl,hg,?_⟩
  exact ⟨_,rfl,g,_,rfl,⟨fdg,Gg,kg,bg⟩,_,rfl,_,rfl,M,MA,ws,n,m,_,r,rfl,mom,hn,tb,rdv,ok,hW,k⟩
end
def spInit (C:Addr):Sp:=fun vs H Q _=>∃ (x dx lay:Addr) (xs:List V) (ds:List PyData) (ws:List Str),vs=[.ref x,.ref lay]∧H x=some (.ins C dx [])∧H lay=some (.tup xs)∧RdVs false H xs ds∧Flds ds∧ds.map headS=ws∧ds.length≤8∧
 ∀ (A:MA) (H':Hp),KeepBut x H H'→H A.h=none→H A.i=none→H A.me=none→Mom H' C x A ws 8 []→Q .non H'
structure Init (H:Hp) (C x:Addr) (A:MA) (ws:List Str) (i:Nat):Prop where
 ins:H x=some (.ins C A.dx (momF A))
 r:∃ rks,H A.r=some (.dK rks)∧RksOk rks (ws.take i)∧rks.length≤i
 h:∃ hol b,H A.h=some (.dK hol)∧(hol.map (·.1)).Nodup∧hol.length≤i∧HolT H ws hol b∧b≤i * 1000000
 a:∃ acs,H A.a=some (.dK acs)∧acs.length≤i
 i:∃ inc,H A.i=some (.dK inc)∧RksOk inc (ws.take i)∧inc.length≤i
 me:H A.me=some (.dK [])
 nd:[A.r,A.h,A.a,A.i,A.me].Nodup
theorem rks_put {rks:List (Key×V)}{ws:List Str}{i:Nat}{z:Str}{n:Int} (h:RksOk rks (ws.take i)) (e:ws[i]?=some z):RksOk (putK rks (Sum.inr z) (.int n)) (ws.take (i + 1)):=fun y hy=>by
 rw [valV_put]
 by_cases ey:y=z
 ·rw [if_pos (by rw [ey])]
  exact ⟨n,rfl⟩
 ·rw [if_neg fun q=>ey (Sum.inr.inj q)]
  rw [List.take_add_one,e] at hy
  rcases List.mem_append.mp hy with hy | hy
  ·exact h y hy
  ·exact absurd (by simpa using hy) ey
theorem field_at {H:Hp}{x:V}{d:PyData} (r:RdV false H x d) (h:fieldD d=true):∃ (q:Addr) (f g:Str) (a i:Int),x=.ref q∧H q=some (.tup [.str f,.str g,.int a,.int i])∧f=headS d∧1≤a∧a≤1000000:=by
 obtain ⟨f,g,a,i,rfl,h1,h2,h3,h4⟩:=field_form h
 cases r with
 | tup e hl q=>
  cases q with
  | cons q1 q=>
   cases q with
   | cons q2 q=>
    cases q with
    | cons q3 q=>
     cases q with
     | cons q4 q=>
      cases q
      cases q1
      cases q2 <;> simp [nameD] at h2
      cases q3 <;> simp [wholeD] at h3
      cases q4 <;> simp [wholeD] at h4
      exact ⟨_,_,_,_,_,rfl,e,rfl,by omega,by omega⟩
section
variable {P:Program}{w:World}{K:PySem.W.Frag}{mg:Str→Option Value}{base:Heap}
abbrev sInit:Stmt:=inClass sMoment 0
theorem scInit:FnScope ["self","laying","field","house","acres","inches"] ["self","laying"] (defScope sInit):=⟨rfl,rfl,rfl,by decide,rfl,by decide,by decide⟩
theorem ok_init {f C:Addr}{fd:FuncData} (F:Fun K "__init__" "Moment.__init__" sInit f fd) (hc:MC K C) (hlen:mg "len"=none):FnOk P w K mg base CX0 1 f fd ["self","laying"] (spInit C):=by
 refine F.ok scInit (fun vs H Q E h=>?_) (fun cdv A outer s H vs Q E hr h=>?_)
 ·obtain ⟨x,dx,lay,xs,ds,ws,rfl,_⟩:=h
  rfl
 ·obtain ⟨x,dx,lay,xs,ds,ws,rfl,hx,hlay,hrd,hfl,hws,h8,k⟩:=h
  have hu:=hu_of hr
  have nd:=scInit.nd
  refine ⟨_,pss_cons (ps_fld (pv 0) pe_dnewK rfl) (pss_cons (ps_fld (pv 0) pe_dnewK rfl) (pss_cons (ps_fld (pv 0) pe_dnewK rfl) (pss_cons (ps_fld (pv 0) pe_dnewK rfl) (pss_cons (ps_fld (pv 0) pe_dnewK rfl)
   (pss_one (ps_for PassesOwn.never rfl (pi_tup (pv 1)) (g:=gTup K 4 (gCons (gName 2) (gCons (gName 3) (gCons (gName 4) (gCons (gName 5) gNil))))) (pg_tup rfl (pgs_cons (pg_name (i:=2) nd rfl (Or.inl rfl)) (pgs_cons (pg_name (i:=3) nd rfl (Or.inl rfl)) (pgs_cons (pg_name (i:=4) nd rfl (Or.inl rfl)) (pgs_cons (pg_name (i:=5) nd rfl (Or.inl rfl)) pgs_nil)))))
    (pss_cons (ps_dput hu (pe_fld (pv 0) rfl) (pv 2) (pe_callB call_lenD (by rfl) hlen PySem.boot_len (pa_c (pe_fld (pv 0) rfl) pa_nil)) rfl)
    (pss_cons (ps_dput hu (pe_fld (pv 0) rfl) (pv 2) (pe_tup (pa_c (pv 3) (pa_c (pe_tup (pa_c (pe_tup (pa_c (pv 2) (pa_c pe_int (pa_c (pv 4) pa_nil)))) pa_nil)) pa_nil))) rfl)
    (pss_cons (ps_dput hu (pe_fld (pv 0) rfl) (pv 2) (pv 4) rfl)
    (pss_one (ps_dput hu (pe_fld (pv 0) rfl) (pv 2) (pv 5) rfl))))))))))),?_⟩
  have st:∀ (H0:Hp) (d:Addr) (fs fs':List (Str×V)),H0 d=none→H0 x=some (.ins C dx fs)→upd (upd H0 d (.dK [])) x (.ins C dx fs') x=some (.ins C dx fs')∧upd (upd H0 d (.dK [])) x (.ins C dx fs') d=some (.dK [])∧∀ b o,b≠x→H0 b=some o→upd (upd H0 d (.dK [])) x (.ins C dx fs') b=some o:=fun H0 d fs fs' hd hx0=>by
   have dx:d≠x:=(ne_of_none hx0 hd).symm
   refine ⟨upd_same,by rw [upd_ne dx];exact upd_same,fun b o n e=>?_⟩
   rw [upd_ne n,upd_ne (ne_of_none e hd)]
   exact e
  refine fun d1 hd1=>⟨_,rfl,x,C,dx,_,rfl,(by rw [upd_ne (ne_of_none hx hd1)];exact hx),hc.cl,hc.r,by decide,?_⟩
  obtain ⟨x1,y1,k1⟩:=st H d1 _ (putF "ranks" (.ref d1) []) hd1 hx
  generalize upd (upd H d1 (.dK [])) x _=H1 at x1 y1 k1 ⊢
  refine fun d2 hd2=>⟨_,rfl,x,C,dx,_,rfl,(by rw [upd_ne (ne_of_none x1 hd2)];exact x1),hc.cl,hc.h,(by show (1:Nat) < 1000;decide),?_⟩
  obtain ⟨x2,y2,k2⟩:=st H1 d2 _ (putF "holdings" (.ref d2) (putF "ranks" (.ref d1) [])) hd2 x1
  generalize upd (upd H1 d2 (.dK [])) x _=H2 at x2 y2 k2 ⊢
  refine fun d3 hd3=>⟨_,rfl,x,C,dx,_,rfl,(by rw [upd_ne (ne_of_none x2 hd3)];exact x2),hc.cl,hc.a,(by show (2:Nat) < 1000;decide),?_⟩
  obtain ⟨x3,y3,k3⟩:=st H2 d3 _ (putF "acres" (.ref d3) (putF "holdings" (.ref d2) (putF "ranks" (.ref d1) []))) hd3 x2
  generalize upd (upd H2 d3 (.dK [])) x _=H3 at x3 y3 k3 ⊢
  refine fun d4 hd4=>⟨_,rfl,x,C,dx,_,rfl,(by rw [upd_ne (ne_of_none x3 hd4)];exact x3),hc.cl,hc.i,(by show (3:Nat) < 1000;decide),?_⟩
  obtain ⟨x4,y4,k4⟩:=st H3 d4 _ (putF "inches" (.ref d4) (putF "acres" (.ref d3) (putF "holdings" (.ref d2) (putF "ranks" (.ref d1) [])))) hd4 x3
  generalize upd (upd H3 d4 (.dK [])) x _=H4 at x4 y4 k4 ⊢
  refine fun d5 hd5=>⟨_,rfl,x,C,dx,_,rfl,(by rw [upd_ne (ne_of_none x4 hd5)];exact x4),hc.cl,hc.m,(by show (4:Nat) < 1000;decide),?_⟩
  obtain ⟨x5,y5,k5⟩:=st H4 d5 _ (momF ⟨dx,d1,d2,d3,d4,d5⟩) hd5 x4
  have ef:putF "menders" (.ref d5) (putF "inches" (.ref d4) (putF "acres" (.ref d3) (putF "holdings" (.ref d2) (putF "ranks" (.ref d1) []))))=momF ⟨dx,d1,d2,d3,d4,d5⟩:=rfl
  rw [ef]
  generalize upd (upd H4 d5 (.dK [])) x _=H5 at x5 y5 k5 ⊢
  have nx:∀ {G:Hp} {d:Addr} {kvs:List (Key×V)} {fs:List (Str×V)},G d=some (.dK kvs)→G x=some (.ins C dx fs)→d≠x:=fun a b=>ne_of a b (fun z=>nomatch z)
  have e1:=k5 _ _ (nx y1 x1) (k4 _ _ (nx y1 x1) (k3 _ _ (nx y1 x1) (k2 _ _ (nx y1 x1) y1)))
  have e2:=k5 _ _ (nx y2 x2) (k4 _ _ (nx y2 x2) (k3 _ _ (nx y2 x2) y2))
  have e3:=k5 _ _ (nx y3 x3) (k4 _ _ (nx y3 x3) y3)
  have e4:=k5 _ _ (nx y4 x4) y4
  have K0:KeepBut x H H5:=fun b o e n=>k5 _ _ n (k4 _ _ n (k3 _ _ n (k2 _ _ n (k1 _ _ n e))))
  have hnd:[d1,d2,d3,d4,d5].Nodup:=by
   have a12:d1≠d2:=ne_of_none y1 hd2
   have a13:d1≠d3:=ne_of_none (k2 _ _ (nx y1 x1) y1) hd3
   have a23:d2≠d3:=ne_of_none y2 hd3
   have a14:d1≠d4:=ne_of_none (k3 _ _ (nx y1 x1) (k2 _ _ (nx y1 x1) y1)) hd4
   have a24:d2≠d4:=ne_of_none (k3 _ _ (nx y2 x2) y2) hd4
   have a34:d3≠d4:=ne_of_none y3 hd4
   have a15:d1≠d5:=ne_of_none (k4 _ _ (nx y1 x1) (k3 _ _ (nx y1 x1) (k2 _ _ (nx y1 x1) y1))) hd5
   have a25:d2≠d5:=ne_of_none (k4 _ _ (nx y2 x2) (k3 _ _ (nx y2 x2) y2)) hd5
   have a35:d3≠d5:=ne_of_none (k4 _ _ (nx y3 x3) y3) hd5
   have a45:d4≠d5:=ne_of_none y4 hd5
   simp [a12,a13,a14,a15,a23,a24,a25,a34,a35,a45]
  have fr:∀ {G G':Hp} {d:Addr},(∀ b o,b≠x→G b=some o→G' b=some o)→(∃ o,G' x=some o)→G' d=none→G d=none:=fun {G G' d} kq hx' hd=>by
   cases q:G d with
   | none=>rfl
   | some o=>
    by_cases e:d=x
    ·obtain ⟨o',hx'⟩:=hx'
     rw [e,hx'] at hd
     cases hd
    ·rw [kq d o e q] at hd
     cases hd
  have f2:H d2=none:=fr k1 ⟨_,x1⟩ hd2
  have f3:H d3=none:=fr k1 ⟨_,x1⟩ (fr k2 ⟨_,x2⟩ hd3)
  have f4:H d4=none:=fr k1 ⟨_,x1⟩ (fr k2 ⟨_,x2⟩ (fr k3 ⟨_,x3⟩ hd4))
  have f5:H d5=none:=fr k1 ⟨_,x1⟩ (fr k2 ⟨_,x2⟩ (fr k3 ⟨_,x3⟩ (fr k4 ⟨_,x4⟩ hd5)))
  obtain ⟨MA,hMA⟩:∃ MA:MA,MA=⟨dx,d1,d2,d3,d4,d5⟩:=⟨_,rfl⟩
  have I0:Init H5 C x MA ws 0:=by
   subst hMA
   exact ⟨x5,⟨[],e1,fun y hy=>by simp at hy,Nat.le_refl _⟩,⟨[],0,e2,by simp,Nat.le_refl _,.nil,by simp⟩,⟨[],e3,Nat.le_refl _⟩,⟨[],e4,fun y hy=>by simp at hy,Nat.le_refl _⟩,y5,hnd⟩
  have hfr:H MA.r=none∧H MA.h=none∧H MA.a=none∧H MA.i=none:=by
   subst hMA
   exact ⟨hd1,f2,f3,f4⟩
  have hfm:H MA.me=none:=by
   subst hMA
   exact f5
  have hlay5:H5 lay=some (.tup xs):=K0 _ _ hlay (ne_of hlay hx (fun z=>nomatch z))
  have hdl:=hrd.len
  refine ⟨_,rfl,lay,rfl,⟨_,SqT.of hlay5⟩,?_⟩
  refine for_tup (K:=K) (xs:=xs) (fun i σ H'=>∃ (o2 o3 o4 o5:Option V),σ=[some (.ref x),some (.ref lay),o2,o3,o4,o5]∧KeepBut x H H'∧Init H' C x MA ws i) ⟨none,none,none,none,rfl,K0,I0⟩ (fun i σ H' _ p=>by obtain ⟨_,_,_,_,_,kk,_⟩:=p;exact SqT.of (kk _ _ hlay (ne_of hlay hx (fun z=>nomatch z)))) ?_ ?_
  ·rintro i v σ H1' hv ⟨o2,o3,o4,o5,rfl,kk,I⟩
   clear x1 y1 k1 x2 y2 k2 x3 y3 k3 x4 y4 k4 x5 y5 k5 e1 e2 e3 e4 I0 hnd hd1 hd2 hd3 hd4 hd5 st nx ef fr f2 f3 f4 f5
   obtain ⟨d,hd,rd'⟩:=hrd.at hv
   obtain ⟨hF,_,hnd⟩:=hfl d (List.mem_of_getElem? hd)
   have nlx:∀ b us,H b=some (.tup us)→H1' b=some (.tup us):=fun b us e=>kk _ _ e (ne_of e hx (fun z=>nomatch z))
   obtain ⟨q,f1,g1,a1,i1,rfl,hq,ef1,ha1,ha2⟩:=field_at (RdV.onT nlx rd' hnd) hF
   have hwi:ws[i]?=some f1:=by rw [← hws,List.getElem?_map,hd,ef1];rfl
   have hin:f1∈ws:=List.mem_of_getElem? hwi
   have hi8:i < ds.length:=(List.getElem?_eq_some_iff.mp hd).1
   have hn:=I.nd
   simp only [List.nodup_cons,List.mem_cons,List.not_mem_nil,or_false,not_or] at hn
   obtain ⟨⟨n12,n13,n14,n15⟩,⟨n23,n24,n25⟩,⟨n34,n35⟩,n45,_⟩:=hn
   obtain ⟨rks,r1,r2,r3⟩:=I.r
   obtain ⟨hol,b,h1,h2,h3,h4,h5⟩:=I.h
   obtain ⟨acs,c1,c2⟩:=I.a
   obtain ⟨inc,j1,j2,j3⟩:=I.i
   have me:=I.me
   have ins:=I.ins
   have zl:∀ k,k≤8→k < sizeLine:=fun k h=>by rw [PySem.sizeLine_eq];omega
   have nxd:∀ {G:Hp} {d:Addr} {kvs:List (Key×V)} {fs:List (Str×V)},G d=some (.dK kvs)→G x=some (.ins C MA.dx fs)→x≠d:=fun a b=>(ne_of a b (fun z=>nomatch z)).symm
   refine ⟨q,_,rfl,SqT.of hq,rfl,_,_,rfl,_,_,rfl,_,_,rfl,_,_,rfl,rfl,?_⟩
   refine ⟨_,rfl,x,C,_,_,_,rfl,ins,hc.cl,hc.r,rfl,MA.r,rks,rfl,r1,_,rfl,x,C,_,_,_,rfl,ins,hc.cl,hc.r,rfl,_,rfl,MA.r,_,rfl,DPut.k (k:=Sum.inr f1) r1 (zl _ (by omega)),?_⟩
   have L1:=length_putK rks (Sum.inr f1) (.int (rks.length:Int))
   have R2:=rks_put (n:=(rks.length:Int)) r2 hwi
   obtain ⟨fr1,fr2,fr3,fr4⟩:=hfr
   have kk1:KeepBut x H (upd H1' MA.r (.dK (putK rks (Sum.inr f1) (.int (rks.length:Int))))):=fun b o e n=>by
    rw [upd_ne (ne_of_none e fr1)]
    exact kk b o e n
   have g1':upd H1' MA.r (.dK (putK rks (Sum.inr f1) (.int (rks.length:Int)))) MA.r=some (.dK (putK rks (Sum.inr f1) (.int (rks.length:Int)))):=upd_same
   have g2:upd H1' MA.r (.dK (putK rks (Sum.inr f1) (.int (rks.length:Int)))) MA.h=some (.dK hol):=by rw [upd_ne (Ne.symm n12)];exact h1
   have g3:upd H1' MA.r (.dK (putK rks (Sum.inr f1) (.int (rks.length:Int)))) MA.a=some (.dK acs):=by rw [upd_ne (Ne.symm n13)];exact c1
   have g4:upd H1' MA.r (.dK (putK rks (Sum.inr f1) (.int (rks.length:Int)))) MA.i=some (.dK inc):=by rw [upd_ne (Ne.symm n14)];exact j1
   have g5:upd H1' MA.r (.dK (putK rks (Sum.inr f1) (.int (rks.length:Int)))) MA.me=some (.dK []):=by rw [upd_ne (Ne.symm n15)];exact me
   have g6:upd H1' MA.r (.dK (putK rks (Sum.inr f1) (.int (rks.length:Int)))) x=some (.ins C MA.dx (momF MA)):=by rw [upd_ne (nxd r1 ins)];exact ins
   have g7:HolT (upd H1' MA.r (.dK (putK rks (Sum.inr f1) (.int (rks.length:Int))))) ws hol b:=h4.on fun b us e=>by rw [upd_ne (ne_of e r1 (fun z=>nomatch z))];exact e
   generalize upd H1' MA.r (.dK (putK rks (Sum.inr f1) (.int (rks.length:Int))))=G1 at kk1 g1' g2 g3 g4 g5 g6 g7 ⊢
   refine ⟨_,rfl,_,rfl,_,rfl,sizeLine_big (by show 3≤1000000;decide),fun u1 hu1=>?_⟩
   have s1:=Same.new (o:=.tup [V.str f1,.int 0,.int a1]) hu1
   refine ⟨sizeLine_big (by show 1≤1000000;decide),fun u2 hu2=>?_⟩
   have s2:=Same.new (o:=.tup [V.ref u1]) hu2
   refine ⟨sizeLine_big (by show 2≤1000000;decide),fun u3 hu3=>?_⟩
   have s3:=Same.new (o:=.tup [V.str g1,.ref u2]) hu3
   have s123:=(s1.trans s2).trans s3
   have he:HEnt (upd (upd (upd G1 u1 (.tup [V.str f1,.int 0,.int a1])) u2 (.tup [V.ref u1])) u3 (.tup [V.str g1,.ref u2])) ws (.ref u3) a1:=⟨u3,u2,g1,[.ref u1],[(f1,0,a1)],rfl,upd_same,s3 _ _ upd_same,.cons ⟨u1,rfl,s3 _ _ (s2 _ _ upd_same)⟩ .nil,⟨fun p hp=>by rw [List.mem_singleton.mp hp];exact ⟨hin,by dsimp only;omega⟩⟩,by simp [acr,plen]⟩
   have kk2:KeepBut x H (upd (upd (upd G1 u1 (.tup [V.str f1,.int 0,.int a1])) u2 (.tup [V.ref u1])) u3 (.tup [V.str g1,.ref u2])):=kk1.same s123
   refine ⟨_,rfl,x,C,_,_,_,rfl,s123 _ _ g6,hc.cl,hc.h,rfl,_,rfl,MA.h,_,rfl,DPut.k (k:=Sum.inr f1) (s123 _ _ g2) (zl _ (by omega)),?_⟩
   have q1:=s123 _ _ g1'
   have q2:=s123 _ _ g2
   have q3:=s123 _ _ g3
   have q4:=s123 _ _ g4
   have q5:=s123 _ _ g5
   have q6:=s123 _ _ g6
   have q7:=g7.on (same_tups s123)
   generalize upd (upd (upd G1 u1 (.tup [V.str f1,.int 0,.int a1])) u2 (.tup [V.ref u1])) u3 (.tup [V.str g1,.ref u2])=G2 at he kk2 q1 q2 q3 q4 q5 q6 q7 ⊢
   obtain ⟨b',hT',hb'⟩:=q7.put (k:=Sum.inr f1) h2 he
   have L2:=length_putK hol (Sum.inr f1) (.ref u3)
   have L3:=length_putK acs (Sum.inr f1) (.int a1)
   have L4:=length_putK inc (Sum.inr f1) (.int i1)
   have R4:=rks_put (n:=i1) j2 hwi
   have e6:upd G2 MA.h (.dK (putK hol (Sum.inr f1) (.ref u3))) x=some (.ins C MA.dx (momF MA)):=by rw [upd_ne (nxd q2 q6)];exact q6
   have e3:upd G2 MA.h (.dK (putK hol (Sum.inr f1) (.ref u3))) MA.a=some (.dK acs):=by rw [upd_ne (Ne.symm n23)];exact q3
   refine ⟨_,rfl,_,rfl,x,C,_,_,_,rfl,e6,hc.cl,hc.a,rfl,_,rfl,MA.a,_,rfl,DPut.k (k:=Sum.inr f1) e3 (zl _ (by omega)),?_⟩
   have e6':upd (upd G2 MA.h (.dK (putK hol (Sum.inr f1) (.ref u3)))) MA.a (.dK (putK acs (Sum.inr f1) (.int a1))) x=some (.ins C MA.dx (momF MA)):=by rw [upd_ne (nxd e3 e6)];exact e6
   have e4:upd (upd G2 MA.h (.dK (putK hol (Sum.inr f1) (.ref u3)))) MA.a (.dK (putK acs (Sum.inr f1) (.int a1))) MA.i=some (.dK inc):=by rw [upd_ne (Ne.symm n34),upd_ne (Ne.symm n24)];exact q4
   refine ⟨_,rfl,_,rfl,x,C,_,_,_,rfl,e6',hc.cl,hc.i,rfl,_,rfl,MA.i,_,rfl,DPut.k (k:=Sum.inr f1) e4 (zl _ (by omega)),?_⟩
   have tt:Tups G2 (upd (upd (upd G2 MA.h (.dK (putK hol (Sum.inr f1) (.ref u3)))) MA.a (.dK (putK acs (Sum.inr f1) (.int a1)))) MA.i (.dK (putK inc (Sum.inr f1) (.int i1)))):=fun b us e=>by
    rw [upd_ne (ne_of e q4 (fun z=>nomatch z)),upd_ne (ne_of e q3 (fun z=>nomatch z)),upd_ne (ne_of e q2 (fun z=>nomatch z))]
    exact e
   have hbb:b'≤((i + 1:Nat):Int) * 1000000:=by
    rw [Int.natCast_add]
    omega
   refine ⟨_,_,_,_,rfl,fun b o e n=>?_,?_,⟨_,?_,R2,by omega⟩,⟨_,b',?_,nd_put _ h2,by omega,hT'.on tt,hbb⟩,⟨putK acs (Sum.inr f1) (.int a1),?_,by omega⟩,⟨_,upd_same,R4,by omega⟩,?_,I.nd⟩
   ·rw [upd_ne (ne_of_none e fr4),upd_ne (ne_of_none e fr3),upd_ne (ne_of_none e fr2)]
    exact kk2 b o e n
   ·rw [upd_ne (nxd e4 e6')]
    exact e6'
   ·rw [upd_ne n14,upd_ne n13,upd_ne n12]
    exact q1
   ·rw [upd_ne n24,upd_ne n23]
    exact upd_same
   ·rw [upd_ne n34]
    exact upd_same
   ·rw [upd_ne (Ne.symm n45),upd_ne (Ne.symm n35),upd_ne (Ne.symm n25)]
    exact q5
  ·rintro σ H' ⟨o2,o3,o4,o5,rfl,kk,I⟩
   rw [hdl] at I
   have hwl:ws.length=ds.length:=by rw [← hws,List.length_map]
   obtain ⟨rks,r1,r2,r3⟩:=I.r
   obtain ⟨hol,b,h1,h2,h3,h4,h5⟩:=I.h
   obtain ⟨inc,i1,i2,i3⟩:=I.i
   rw [← hwl,List.take_length] at r2 i2
   have hn:=I.nd
   simp only [List.nodup_cons,List.mem_cons,List.not_mem_nil,or_false,not_or] at hn
   exact k MA H' kk hfr.2.1 hfr.2.2.2 hfm ⟨I.ins,⟨rks,r1,r2⟩,⟨hol,b,h1,h2,by omega,h4,by omega⟩,⟨inc,i1,i2,by omega⟩,I.me,Acyc.nil,Nat.zero_le _,hn.1.1,hn.1.2.2.1,hn.1.2.2.2,hn.2.1.2.1,hn.2.1.2.2,hn.2.2.2.1⟩
end
end K37
namespace K37
open PySem L2
noncomputable def menM (us:List RowI) (n:Nat):Mnd:=(us.take n).foldl stepM []
structure RollAt (H:Hp) (t rw:Addr) (ws:List Str) (us:List RowI):Prop where
 ex:∃ (lay:Addr) (xs:List V) (ds:List PyData) (ys:List V),H t=some (.tup [.ref lay,.ref rw])∧H lay=some (.tup xs)∧RdVs false H xs ds∧Flds ds∧ds.map headS=ws∧ds.length≤8∧H rw=some (.tup ys)∧RowsAt H ys us ws∧us.length≤40
theorem flds_nd:∀ {ds:List PyData},Flds ds→PyData.hasDictAll ds=false
 | [],_=>by unfold PyData.hasDictAll;rfl
 | d :: ds,h=>by
  unfold PyData.hasDictAll
  rw [(h d List.mem_cons_self).2.2,flds_nd fun d hd=>h d (List.mem_cons_of_mem _ hd)]
  rfl
theorem RowsAt.on {H H':Hp}{xs:List V}{us:List RowI}{fs:List Str} (h:RowsAt H xs us fs) (t:Tups H H'):RowsAt H' xs us fs:=⟨h.len,fun i x hx=>by
 obtain ⟨u,h1,h2,h3⟩:=h.at' i x hx
 exact ⟨u,h1,h3.on h2 t,h3⟩⟩
theorem RollAt.on {H H':Hp}{t rw:Addr}{ws:List Str}{us:List RowI} (h:RollAt H t rw ws us) (k:Tups H H'):RollAt H' t rw ws us:=by
 obtain ⟨lay,xs,ds,ys,h1,h2,h3,h4,h5,h6,h7,h8,h9⟩:=h.ex
 exact ⟨lay,xs,ds,ys,k _ _ h1,k _ _ h2,RdVs.onT k h3 (flds_nd h4),h4,h5,h6,k _ _ h7,h8.on k,h9⟩
def spBehind (C T:Addr):Sp:=fun vs H Q _=>∃ (t rw:Addr) (ws:List Str) (us:List RowI) (n:Nat),vs=[.ref t,.int n]∧RollAt H t rw ws us∧Tb T H∧
 ∀ M (A:MA) H',H A.h=none→H A.i=none→H A.me=none→SameT T H H'→Tb T H'→Mom H' C M A ws 248 (menM us n)→Q (.ref M) H'
def spRoadR (T:Addr):Sp:=fun vs H Q _=>∃ (t rw:Addr) (ws:List Str) (us:List RowI) (n:Nat) (h:Str),vs=[.ref t,.int n,.str h]∧RollAt H t rw ws us∧Tb T H∧
 ∀ L H',H L=none→SameT T H H'→Tb T H'→Acyc (menM us n)→(menM us n).length≤248→H' L=some (.lst ((rd (menM us n) h).map V.str))→Q (.ref L) H'
def spMends (T:Addr):Sp:=fun vs H Q _=>∃ (t rw:Addr) (ws:List Str) (us:List RowI) (n:Nat) (h:Str),vs=[.ref t,.int n,.str h]∧RollAt H t rw ws us∧Tb T H∧
 ∀ pre x H',SameT T H H'→Tb T H'→rd (menM us n) h=pre ++ [x]→Q (.str x) H'
theorem tb_but {T x C dx:Addr}{fs:List (Str×V)}{H H':Hp} (g:Tb T H) (e:H x=some (.ins C dx fs)) (k:KeepBut x H H'):Tb T H':=by
 obtain ⟨ps,h1,h2,h3⟩:=g.ex
 refine ⟨ps,k _ _ h1 (ne_of h1 e (fun z=>nomatch z)),h2,?_⟩
 rcases h3 with h3 | ⟨c,h3,h4⟩
 ·exact .inl h3
 ·exact .inr ⟨c,h3,k _ _ h4 (ne_of h4 e (fun z=>nomatch z))⟩
theorem Mom.tups {H H':Hp}{C M T:Addr}{A:MA}{ws:List Str}{n:Nat}{m:Mnd} (h:Mom H C M A ws n m) (g:Tb T H) (k:KeepX [T,A.h,A.i,A.me] H H'):Tups H H':=fun q xs e=>by
 obtain ⟨hol,b,hh,_⟩:=h.h
 obtain ⟨inc,hi,_⟩:=h.i
 obtain ⟨ps,hT,_⟩:=g.ex
 refine k q _ (fun z=>?_) e
 simp only [List.mem_cons,List.not_mem_nil,or_false] at z
 rcases z with z | z | z | z <;> rw [z] at e
 ·rw [hT] at e;cases e
 ·rw [hh] at e;cases e
 ·rw [hi] at e;cases e
 ·rw [h.me] at e;cases e
theorem ends_last {m:Mnd}{h:Str}{l:List Str} (e:Ends m h l):∃ pre x,l=pre ++ [x]:=by
 obtain ⟨r,x,h,_⟩:=e.keys
 exact ⟨r,x,h⟩
theorem none_of {T L:Addr}{H H':Hp} (g:Tb T H') (s:SameT T H H') (h:H' L=none):H L=none:=by
 cases q:H L with
 | none=>rfl
 | some o=>
  obtain ⟨ps,h1,_⟩:=g.ex
  rw [s _ _ (fun z=>by rw [z,h1] at h;cases h) q] at h
  cases h
section
variable {P:Program}{w:World}{K:PySem.W.Frag}{mg:Str→Option Value}{base:Heap}
theorem scBehind:FnScope ["roll","at","laying","rows","moment","row"] ["roll","at"] (defScope sBehind):=⟨rfl,rfl,rfl,by decide,rfl,by decide,by decide⟩
theorem ok_behind {f fI fC C T:Addr}{fd fdI fdC:FuncData} (F:Fun K "moment_behind" "moment_behind" sBehind f fd) (mk:Mk K C fI)
  (GI:FnOk P w K mg base CX0 1 fI fdI ["self","laying"] (spInit C)) (mC:mg "Moment"=some (.ref C)) (bI:Binds K fdI ["self","laying"] [])
  (GC:FnOk P w K mg base CX0 6 fC fdC ["moment","row"] (spDeed C T words8)) (mD:mg "carry_out"=some (.ref fC)) (kD:PySem.W.keepIn K (.ref fC)=true) (bD:Binds K fdC ["moment","row"] []):
  FnOk P w K mg base CX0 7 f fd ["roll","at"] (spBehind C T):=by
 refine F.ok scBehind (fun vs H Q E h=>?_) (fun cdv A outer s H vs Q E hr h=>?_)
 ·obtain ⟨t,rw,ws,us,n,rfl,_⟩:=h
  rfl
 ·obtain ⟨t,rw,ws,us,n,rfl,roll,tb,k⟩:=h
  have nd:=scBehind.nd
  have hr2:Room 2 _:=hr.mono (by decide)
  refine ⟨_,pss_cons (ps_asg (pv 0) (pg_tup rfl (pgs_cons (pg_name (i:=2) nd rfl (Or.inl rfl)) (pgs_cons (pg_name (i:=3) nd rfl (Or.inl rfl)) pgs_nil))))
   (pss_cons (ps_set (i:=4) nd rfl (Or.inl rfl) (pe_make mk GI hr2 rfl mC bI .nil pass0 (pa_c (pv 2) pa_nil)))
   (pss_cons (ps_for PassesOwn.never rfl (pi_tup (pe_slice sl_tupA (pv 3) po_none (po_some (pv 1)))) (g:=gName 5) (pg_name (i:=5) nd rfl (Or.inl rfl))
    (pss_one (ps_expr (pe_call GC hr rfl mD kD bD .nil pass0 (pa_c (pv 4) (pa_c (pv 5) pa_nil))))))
   (pss_one (ps_ret (pv 4))))),?_⟩
  obtain ⟨lay,xs,ds,ys,h1,h2,h3,h4,h5,h6,h7,h8,h9⟩:=roll.ex
  refine ⟨_,rfl,t,_,rfl,SqT.of h1,rfl,_,_,rfl,_,_,rfl,rfl,?_⟩
  refine ⟨_,rfl,fun x dx hx hdx ne=>?_⟩
  have s1:=Same.new (o:=.own x) hdx
  have s2:=Same.new (H:=upd H dx (.own x)) (o:=.ins C dx []) (p:=x) (by rw [upd_ne (Ne.symm ne)];exact hx)
  have s12:=s1.trans s2
  have ex:upd (upd H dx (.own x)) x (.ins C dx []) x=some (.ins C dx []):=upd_same
  generalize upd (upd H dx (.own x)) x (.ins C dx [])=H0 at s12 ex ⊢
  clear s2
  refine ⟨x,dx,lay,xs,ds,ws,rfl,ex,s12 _ _ h2,h3.same s12,h4,h5,h6,fun MA H1 k1 n1 n2 n3 mom=>⟨rfl,?_⟩⟩
  have f:∀ {a:Addr},H0 a=none→H a=none:=fun {a} z=>by
   cases q:H a with
   | none=>rfl
   | some o=>rw [s12 _ _ q] at z;cases z
  have f1:=f n1
  have f2:=f n2
  have f3:=f n3
  have S1:SameT T H H1:=fun b o _ e=>k1 b o (s12 _ _ e) (ne_of_none e hx)
  have tb1:Tb T H1:=tb_but (tb.same s12) ex k1
  have h71:=sameT_tups S1 tb _ _ h7
  refine ⟨_,rfl,_,rfl,_,rfl,rw,_,rfl,h71,fun t2 H2 s2 ht2=>?_⟩
  rw [cut_to (α:=Unit)] at ht2
  have S2:SameT T H H2:=S1.trans s2.butT
  refine ⟨t2,rfl,⟨_,SqT.of ht2⟩,?_⟩
  refine for_tup (K:=K) (xs:=ys.take n) (fun i σ H'=>∃ (o5:Option V),σ=[some (.ref t),some (.int n),some (.ref lay),some (.ref rw),some (.ref x),o5]∧SameT T H H'∧Tb T H'∧H' t2=some (.tup (ys.take n))∧Mom H' C x MA ws (8 + 6 * i) (menM us i)) ⟨none,rfl,S2,tb1.same s2,ht2,mom.same s2⟩ (fun i σ H' _ p=>by obtain ⟨_,_,_,_,e,_⟩:=p;exact SqT.of e) ?_ ?_
  ·rintro i v σ H3 hv ⟨o5,rfl,S3,tb3,e3,mom3⟩
   have hv':ys[i]?=some v:=by
    rw [List.getElem?_take] at hv
    split at hv
    ·exact hv
    ·cases hv
   have hi:i < ys.length:=(List.getElem?_eq_some_iff.mp hv').1
   have hl:=h8.len
   obtain ⟨u,hu,rdu,oku⟩:=h8.at' i v hv'
   have T3:=sameT_tups S3 tb
   refine ⟨_,rfl,_,rfl,x,MA,ws,8 + 6 * i,_,v,u,rfl,mom3,by omega,tb3,oku.on rdu T3,oku,oku.rs.word,fun z H4 _ k4 tb4 mom4=>?_⟩
   refine ⟨_,rfl,fun b o nb e=>k4 b o (fun z=>?_) (S3 b o nb e),tb4,mom3.tups tb3 k4 _ _ e3,?_⟩
   ·simp only [List.mem_cons,List.not_mem_nil,or_false] at z
    rcases z with z | z | z | z
    ·exact nb z
    ·rw [z,f1] at e;cases e
    ·rw [z,f2] at e;cases e
    ·rw [z,f3] at e;cases e
   ·have e1:menM us (i + 1)=stepM (menM us i) u:=by
     unfold menM
     rw [List.take_add_one,hu,List.foldl_append]
     rfl
    rw [e1]
    exact mom4
  ·rintro σ H3 ⟨o5,rfl,S3,tb3,e3,mom3⟩
   refine ⟨_,rfl,k x MA H3 f1 f2 f3 S3 tb3 ?_⟩
   have hl:=h8.len
   have e1:menM us (ys.take n).length=menM us n:=by
    unfold menM
    congr 1
    rw [List.length_take,hl]
    by_cases z:n≤us.length
    ·rw [Nat.min_eq_left z]
    ·rw [Nat.min_eq_right (by omega),List.take_length,List.take_of_length_le (by omega)]
   rw [e1] at mom3
   exact mom3.mono (by rw [List.length_take];omega)
theorem scRoad:FnScope ["roll","at","house"] ["roll","at","house"] (defScope sRoad):=⟨rfl,rfl,rfl,by decide,rfl,by decide,by decide⟩
theorem ok_road {f fB fR C T:Addr}{fd fdB fdR:FuncData} (F:Fun K "road" "road" sRoad f fd) (hc:MC K C)
  (GB:FnOk P w K mg base CX0 7 fB fdB ["roll","at"] (spBehind C T)) (mB:mg "moment_behind"=some (.ref fB)) (kB:PySem.W.keepIn K (.ref fB)=true) (bB:Binds K fdB ["roll","at"] [])
  (GR:FnOk P w K mg base CX0 1 fR fdR ["menders","house"] spRoad) (mR:mg "road_from"=some (.ref fR)) (kR:PySem.W.keepIn K (.ref fR)=true) (bR:Binds K fdR ["menders","house"] []):
  FnOk P w K mg base CX0 8 f fd ["roll","at","house"] (spRoadR T):=by
 refine F.ok scRoad (fun vs H Q E h=>?_) (fun cdv A outer s H vs Q E hr h=>?_)
 ·obtain ⟨t,rw,ws,us,n,h,rfl,_⟩:=h
  rfl
 ·obtain ⟨t,rw,ws,us,n,h,rfl,roll,tb,k⟩:=h
  have hr1:Room 1 _:=hr.mono (by decide)
  refine ⟨_,pss_one (ps_ret (pe_call GR hr1 rfl mR kR bR .nil pass0 (pa_c (pe_fld (pe_call GB hr rfl mB kB bB .nil pass0 (pa_c (pv 0) (pa_c (pv 1) pa_nil))) rfl) (pa_c (pv 2) pa_nil)))),?_⟩
  refine ⟨_,rfl,_,rfl,t,rw,ws,us,n,rfl,roll,tb,fun M MA H1 _ _ _ S1 tb1 mom=>?_⟩
  refine ⟨M,C,_,_,_,rfl,mom.ins,hc.cl,hc.m,rfl,_,rfl,MA.me,h,menM us n,rfl,mom.me,mom.ac,by have:=mom.ml;omega,fun L H2 hL S2 e2=>?_⟩
  exact k L H2 (none_of tb1 S1 hL) (S1.trans S2.butT) (tb1.same S2) mom.ac mom.ml e2
theorem scMends:FnScope ["roll","at","house"] ["roll","at","house"] (defScope sMends):=⟨rfl,rfl,rfl,by decide,rfl,by decide,by decide⟩
theorem ok_mends {f fR T:Addr}{fd fdR:FuncData} (F:Fun K "mends" "mends" sMends f fd)
  (GR:FnOk P w K mg base CX0 8 fR fdR ["roll","at","house"] (spRoadR T)) (mR:mg "road"=some (.ref fR)) (kR:PySem.W.keepIn K (.ref fR)=true) (bR:Binds K fdR ["roll","at","house"] []):
  FnOk P w K mg base CX0 9 f fd ["roll","at","house"] (spMends T):=by
 refine F.ok scMends (fun vs H Q E h=>?_) (fun cdv A outer s H vs Q E hr h=>?_)
 ·obtain ⟨t,rw,ws,us,n,h,rfl,_⟩:=h
  rfl
 ·obtain ⟨t,rw,ws,us,n,h,rfl,roll,tb,k⟩:=h
  refine ⟨_,pss_one (ps_ret (pe_ix ix_list (pe_call GR hr rfl mR kR bR .nil pass0 (pa_c (pv 0) (pa_c (pv 1) (pa_c (pv 2) pa_nil)))) (pe_un un_neg pe_int) (fun _ _=>rfl))),?_⟩
  refine ⟨_,rfl,_,rfl,_,rfl,t,rw,ws,us,n,h,rfl,roll,tb,fun L H1 hL S1 tb1 ac ml e1=>?_⟩
  obtain ⟨pre,x,er⟩:=ends_last (ac.rd h)
  refine ⟨_,rfl,L,_,-1,_,rfl,rfl,SqL.of e1,?_,k pre x H1 S1 tb1 er⟩
  rw [er,List.map_append]
  exact atI_last _ _
end
end K37
namespace L2
open PySem PySem.Spec PyProof.Rows
theorem op_ne0 {X:Cx} (hu:X.A.units < cLine):OpR X (compareOp .NotEq) (fun x y H Q=>∃ p q xs,x=.ref p∧y=.ref q∧SqL X.K H p xs∧SqL X.K H q []∧Q (.bl (!xs.isEmpty)) H):=by
 intro pins s σ H x y v u Q I rx ry h
 obtain ⟨p,q,xs,rfl,rfl,h1,h2,hq⟩:=h
 cases xs with
 | nil=>exact op_neL hu pins s σ H _ _ v u Q I rx ry ⟨p,q,[],[],rfl,rfl,h1,h2,rfl,rfl,hq⟩
 | cons a xs=>
  cases rx
  cases ry
  obtain ⟨us,r1,p1,_⟩:=I.list h1
  obtain ⟨ws,r2,p2,_⟩:=I.list h2
  have l1:=r1.length
  have l2:=r2.length
  refine SeqAt.RcNeAt.lists_lengths p1.isList p2.isList (by simp at l1 l2 ⊢;omega) hu X.prog X.w _ _ ?_
  exact ⟨.bl _,H,I,rfl,hq⟩
end L2
namespace K37
open PySem L2
def PastAt (H:Hp) (xs:List V) (fs:List Str):Prop:=∀ x∈xs,∃ r:RowI,RdV false H x r.d∧r.Ok fs∧(r.word="mend"∨r.word="alone")
def spMendRow:Sp:=fun vs H Q _=>∃ (p c:Addr) (ns:List Int) (a:Int) (name:Str) (day:Int) (lh lp:Addr) (hs:List Str) (xs:List V) (fs:List Str),vs=[.ref p,.str name,.int day,.ref lh,.ref lp]∧PenAt H p c ns a∧a≤600000∧H lh=some (.lst (hs.map V.str))∧Nms hs∧2≤hs.length∧hs.length≤44∧H lp=some (.lst xs)∧PastAt H xs fs∧nameB name=true∧0≤day∧day≤9999∧
 ∀ (x:V) (r:RowI) (a':Int) (H':Hp),RdV false H' x r.d→r.name=name→r.Ok fs→(r.word="mend"∨r.word="alone")→a≤a'→a'≤a + 5→PenAt H' p c ns a'→KeepBut p H H'→Q x H'
theorem row_case {H:Hp}{wd:Str}{ds:List PyData}{rest:List V} (rs:RowS wd ds) (hrest:RdVs false H rest ds):(wd="mend"∧∃ h o,ds=[.str h,.str o]∧rest=[.str h,.str o])∨(wd="alone"∧∃ h,ds=[.str h]∧rest=[.str h])∨(wd≠"mend"∧wd≠"alone"):=by
 cases rs with
 | mend=>
  cases hrest with
  | cons q1 hrest=>
  cases hrest with
  | cons q2 hrest=>
  cases hrest
  cases q1
  cases q2
  exact .inl ⟨rfl,_,_,rfl,rfl⟩
 | alone=>
  cases hrest with
  | cons q1 hrest=>
  cases hrest
  cases q1
  exact .inr (.inl ⟨rfl,_,rfl,rfl⟩)
 | _=>exact .inr (.inr ⟨by decide,by decide⟩)
theorem fin_no {wd:Str}{ds:List PyData}{fs:List Str} (h:wd="mend"∨wd="alone"):FIn wd ds fs:=by
 rcases h with rfl | rfl <;> exact fun z=>absurd z (by decide)
theorem past_last {H:Hp}{xs:List V}{fs:List Str} (past:PastAt H xs fs) (h:xs≠[]):∃ (t:Addr) (nm:Str) (dy:Int) (h:Str),nameB h=true∧atI xs (-1)=some (.ref t)∧((H t=some (.tup [.str "alone",.str nm,.int dy,.str h]))∨∃ o,nameB o=true∧h≠o∧H t=some (.tup [.str "mend",.str nm,.int dy,.str h,.str o])):=by
 obtain ⟨ys,x,rfl⟩:∃ ys x,xs=ys ++ [x]:=⟨_,_,(List.dropLast_concat_getLast h).symm⟩
 obtain ⟨r,rd,ok,hw⟩:=past x (by simp)
 obtain ⟨t,rest,rfl,ht,hrest⟩:=RowI.Ok.tup (fs:=fs) rd
 have rs:=ok.rs
 have hc:=row_case rs hrest
 obtain ⟨wd,nm,dy,ds⟩:=r
 dsimp only at hc rs ht hw
 rcases hc with ⟨rfl,h,o,rfl,rfl⟩ | ⟨rfl,h,rfl,rfl⟩ | ⟨h1,h2⟩
 ·cases rs with
  | mend hh ho hne=>exact ⟨t,nm,dy,h,hh,atI_last _ _,.inr ⟨o,ho,hne,ht⟩⟩
 ·cases rs with
  | alone hh=>exact ⟨t,nm,dy,h,hh,atI_last _ _,.inl ht⟩
 ·rcases hw with z | z
  ·exact absurd z h1
  ·exact absurd z h2
section
variable {P:Program}{w:World}{K:PySem.W.Frag}{mg:Str→Option Value}{base:Heap}
theorem scMendRow:FnScope ["_law_pen_here","_law_name","_law_day","_law_houses","_law_past","_law_at","_law_one","_law_other","_law_way"] ["_law_pen_here","_law_name","_law_day","_law_houses","_law_past"] (defScope sMendRow):=⟨rfl,rfl,rfl,by decide,rfl,by decide,by decide⟩
theorem ok_mendRow {f fT:Addr}{fd fdT:FuncData} (F:Fun K "_law_mend_row" "_law_mend_row" sMendRow f fd) (hlen:mg "len"=none)
  (GT:FnOk P w K mg base CX0 1 fT fdT ["_law_pen_here","_law_many"] spTake) (mT:mg "_law_take"=some (.ref fT)) (kT:PySem.W.keepIn K (.ref fT)=true) (bT:Binds K fdT ["_law_pen_here","_law_many"] []):
  FnOk P w K mg base CX0 2 f fd ["_law_pen_here","_law_name","_law_day","_law_houses","_law_past"] spMendRow:=by
 refine F.ok scMendRow (fun vs H Q E h=>?_) (fun cdv A outer s H vs Q E hr h=>?_)
 ·obtain ⟨p,c,ns,a,name,day,lh,lp,hs,xs,fs,rfl,_⟩:=h
  rfl
 ·obtain ⟨p,c,ns,a,name,day,lh,lp,hs,xs,fs,rfl,hp,ha,hlh,nh,h2,h44,hlp,past,hnm,d0,d1,k⟩:=h
  have nd:=scMendRow.nd
  have hu:_ < _:=hr.units0
  refine ⟨_,pss_cons (ps_set (i:=5) nd rfl (Or.inl rfl) (pe_call GT hr rfl mT kT bT .nil pass0 (pa_c (pv 0) (pa_c (pe_callB call_len_seq (by rfl) hlen PySem.boot_len (pa_c (pv 3) pa_nil)) pa_nil))))
   (pss_cons (ps_set (i:=6) nd rfl (Or.inl rfl) (pe_ix ix_list (pv 3) (pv 5) (fun _ _=>rfl)))
   (pss_cons (ps_set (i:=7) nd rfl (Or.inl rfl) (pe_ix ix_list (pv 3) (pe_op op_mod (pe_op op_add (pe_op op_add (pv 5) pe_int) (pe_call GT hr rfl mT kT bT .nil pass0 (pa_c (pv 0) (pa_c (pe_op op_sub (pe_callB call_len_seq (by rfl) hlen PySem.boot_len (pa_c (pv 3) pa_nil)) pe_int) pa_nil)))) (pe_callB call_len_seq (by rfl) hlen PySem.boot_len (pa_c (pv 3) pa_nil))) (fun _ _=>rfl)))
   (pss_cons (ps_set (i:=8) nd rfl (Or.inl rfl) (pe_call GT hr rfl mT kT bT .nil pass0 (pa_c (pv 0) (pa_c pe_int pa_nil))))
   (pss_cons (ps_if (pt_cmpR op_eq (pv 8) pe_int (nomark _)) (pss_one (ps_ret (pe_tup (pa_c pe_str (pa_c (pv 1) (pa_c (pv 2) (pa_c (pv 6) pa_nil))))))) pss_nil)
   (pss_cons (ps_if (pt_mid (PW.pt (pw_and (pt_cmpR op_lt (pv 8) pe_int (nomark _)) (pw_and (pt_cmpR (op_ne0 hu) (pv 4) (pe_lst pa_nil) (nomark _)) (pw_and (pt_cmpR op_eq (pe_ix ix_tup (pe_ix ix_list (pv 4) (pe_un un_neg pe_int) (fun _ _=>rfl)) pe_int (fun _ _=>rfl)) pe_str (nomark _)) (pw_and1 (pt_cmpR op_ne (pe_ix ix_tup (pe_ix ix_list (pv 4) (pe_un un_neg pe_int) (fun _ _=>rfl)) pe_int (fun _ _=>rfl)) (pv 7) (nomark _))))))))
    (pss_one (ps_ret (pe_tup (pa_c pe_str (pa_c (pv 1) (pa_c (pv 2) (pa_c (pe_ix ix_tup (pe_ix ix_list (pv 4) (pe_un un_neg pe_int) (fun _ _=>rfl)) pe_int (fun _ _=>rfl)) (pa_c (pv 7) pa_nil)))))))) pss_nil)
   (pss_cons (ps_if (pt_mid (PW.pt (pw_and (pt_cmpR op_eq (pv 8) pe_int (nomark _)) (pw_and (pt_cmpR (op_ne0 hu) (pv 4) (pe_lst pa_nil) (nomark _)) (pw_and1 (pt_cmpR op_ne (pe_ix ix_tup (pe_ix ix_list (pv 4) (pe_un un_neg pe_int) (fun _ _=>rfl)) pe_int (fun _ _=>rfl)) (pv 6) (nomark _)))))))
    (pss_one (ps_ret (pe_tup (pa_c pe_str (pa_c (pv 1) (pa_c (pv 2) (pa_c (pv 6) (pa_c (pe_ix ix_tup (pe_ix ix_list (pv 4) (pe_un un_neg pe_int) (fun _ _=>rfl)) pe_int (fun _ _=>rfl)) pa_nil)))))))) pss_nil)
   (pss_cons (ps_if (pt_mid (PW.pt (pw_and (pt_cmpR op_eq (pv 8) pe_int (nomark _)) (pw_and1 (pt_cmpR (op_ne0 hu) (pv 4) (pe_lst pa_nil) (nomark _))))))
    (pss_one (ps_ret (pe_op op_catA (pe_op op_catA (pe_slice sl_tupA (pe_ix ix_list (pv 4) (pe_un un_neg pe_int) (fun _ _=>rfl)) po_none (po_some pe_int)) (pe_tup (pa_c (pv 1) (pa_c (pv 2) pa_nil)))) (pe_slice sl_tupA (pe_ix ix_list (pv 4) (pe_un un_neg pe_int) (fun _ _=>rfl)) (po_some pe_int) po_none)))) pss_nil)
   (pss_one (ps_ret (pe_tup (pa_c pe_str (pa_c (pv 1) (pa_c (pv 2) (pa_c (pv 6) (pa_c (pv 7) pa_nil))))))))))))))),?_⟩
  refine ⟨_,rfl,_,rfl,lh,_,rfl,.inl (SqL.of hlh),p,c,ns,a,_,rfl,hp,by omega,by rw [List.length_map];omega,by rw [List.length_map];omega,fun r1 a1 H1 r10 r11 la1 ua1 hp1 kp1=>?_⟩
  rw [List.length_map] at r11
  have hlh1:=lst_but hlh hp kp1
  obtain ⟨j,rfl⟩:∃ j:Nat,r1=j:=⟨r1.toNat,by omega⟩
  obtain ⟨one,hone⟩:∃ y,hs[j]?=some y:=⟨_,List.getElem?_eq_getElem (by omega)⟩
  have none':=nh.ok one (List.mem_of_getElem? hone)
  refine ⟨_,rfl,_,rfl,lh,_,_,_,rfl,rfl,SqL.of hlh1,atI_nat (by rw [List.getElem?_map,hone];rfl),?_⟩
  refine ⟨_,rfl,_,rfl,_,_,rfl,rfl,_,rfl,_,rfl,lh,_,rfl,.inl (SqL.of hlh1),_,_,rfl,rfl,p,c,ns,a1,_,rfl,hp1,by omega,by rw [List.length_map];omega,by rw [List.length_map];omega,fun r4 b1 G1 r40 r41 lb1 ub1 hpb kpb=>?_⟩
  have hh:=lst_but hlh1 hp1 kpb
  refine ⟨_,_,rfl,rfl,_,rfl,lh,_,rfl,.inl (SqL.of hh),_,_,rfl,rfl,by rw [List.length_map];omega,?_⟩
  rw [List.length_map] at r41
  obtain ⟨j4,ej4,hj4⟩:=mod_other (n:=hs.length) (j:=j) (r:=r4) (by omega) r40 (by omega)
  rw [← List.length_map (f:=V.str)] at ej4
  obtain ⟨other,hot⟩:∃ y,hs[j4]?=some y:=⟨_,List.getElem?_eq_getElem (by omega)⟩
  have nother:=nh.ok other (List.mem_of_getElem? hot)
  have hne:one≠other:=fun z=>by
   have hl2:j < hs.length:=by omega
   have hl4:j4 < hs.length:=by omega
   rw [List.getElem?_eq_getElem hl2] at hone
   rw [List.getElem?_eq_getElem hl4] at hot
   injection hone with hone
   injection hot with hot
   rw [← hone,← hot] at z
   exact hj4.2 ((List.getElem_inj nh.nd).mp z).symm
  have hat4:atI (hs.map V.str) ((j4:Nat):Int)=some (V.str other):=atI_nat (by rw [List.getElem?_map,hot];rfl)
  rw [← ej4] at hat4
  refine ⟨lh,_,_,_,rfl,rfl,SqL.of hh,hat4,?_⟩
  refine ⟨_,rfl,p,c,ns,b1,_,rfl,hpb,by omega,by decide,by decide,fun way a3 H3 w0 w1 la3 ua3 hp3 kp3=>?_⟩
  have k3:=(kp1.trans kpb).trans kp3
  have hlp3:=lst_but hlp hp k3
  have past3:PastAt H3 xs fs:=fun x hx=>by
   obtain ⟨r,h1,h2,h3⟩:=past x hx
   exact ⟨r,h2.on h1 (fun q ys e=>tup_but e hp k3),h2,h3⟩
  have fin:∀ (G:Hp) (wd:Str) (ds:List PyData) (rest:List V),Same H3 G→RdVs false G rest ds→RowS wd ds→(wd="mend"∨wd="alone")→∀ t,G t=none→Q (.ref t) (upd G t (.tup (.str wd :: .str name :: .int day :: rest))):=fun G wd ds rest S hrest hRS hw t ht=>by
   have St:=Same.new (o:=.tup (.str wd :: .str name :: .int day :: rest)) ht
   have hl4:=hrest.len
   have hd4:=hRS.len
   exact k (.ref t) ⟨wd,name,day,ds⟩ a3 _ (.tup upd_same (by simp only [List.length_cons];omega) (.cons (.str wd (word_len hRS.word)) (.cons (nm_rd hnm) (.cons (.int day) (hrest.same St))))) rfl ⟨hRS,hnm,d0,d1,fin_no hw⟩ hw (by omega) (by omega) (hp3.same (S.trans St)) (k3.same (S.trans St))
  have z4:∀ n:Nat,n≤10→n≤sizeLine:=fun n h=>sizeLine_big (by omega)
  have nz:∀ {b:Bool},(!b)=true→b=false:=fun {b} z=>by cases b <;> simp_all
  have pl:(!xs.isEmpty)=true→xs≠[]:=fun z e=>by rw [e] at z;cases z
  refine ⟨_,rfl,rfl,_,rfl,?_⟩
  refine ite2 (fun g0=>⟨_,rfl,_,rfl,_,rfl,z4 _ (by simp),fun t ht=>fin _ "alone" [.str one] [.str one] (Same.refl _) (.cons (nm_rd none') .nil) (.alone none') (.inr rfl) t ht⟩) fun g0=>?_
  refine ⟨fun b H'=>Same H3 H'∧(b=true→∃ (t:Addr) (nm:Str) (dy:Int) (h o:Str),nameB o=true∧o≠other∧atI xs (-1)=some (.ref t)∧H3 t=some (.tup [.str "mend",.str nm,.int dy,.str h,.str o])),?_,?_⟩
  ·refine ⟨_,rfl,_,_,rfl,rfl,_,rfl,?_⟩
   refine ite2 (fun g=>?_) fun g=>⟨Same.refl _,fun z=>nomatch z⟩
   refine ⟨_,rfl,z4 _ (by simp),fun L hL=>?_⟩
   have sL:=Same.new (o:=.lst []) hL
   refine ⟨lp,L,xs,rfl,rfl,SqL.of (sL _ _ hlp3),SqL.of upd_same,_,rfl,?_⟩
   refine ite2 (fun g1=>?_) fun g1=>⟨sL,fun z=>nomatch z⟩
   obtain ⟨t,nm,dy,h,hh,hat,ht | ⟨o,ho,hno,ht⟩⟩:=past_last past3 (pl g1)
   ·refine ⟨_,rfl,_,rfl,lp,_,-1,_,rfl,rfl,SqL.of (sL _ _ hlp3),hat,t,_,0,_,rfl,rfl,SqT.of (sL _ _ ht),rfl,rfl,_,rfl,?_⟩
    exact iteF ⟨sL,fun z=>nomatch z⟩
   ·refine ⟨_,rfl,_,rfl,lp,_,-1,_,rfl,rfl,SqL.of (sL _ _ hlp3),hat,t,_,0,_,rfl,rfl,SqT.of (sL _ _ ht),rfl,rfl,_,rfl,?_⟩
    refine iteT ?_
    refine ⟨_,rfl,_,rfl,lp,_,-1,_,rfl,rfl,SqL.of (sL _ _ hlp3),hat,t,_,4,_,rfl,rfl,SqT.of (sL _ _ ht),rfl,_,rfl,rfl,_,rfl,?_⟩
    refine ⟨sL,fun g2=>⟨t,nm,dy,h,o,ho,fun z=>?_,hat,ht⟩⟩
    have:=nz g2
    rw [z] at this
    exact absurd rfl (of_decide_eq_false this)
  rintro b G ⟨SG,hb⟩
  refine ite2 (fun gb=>?_) fun _=>?_
  ·obtain ⟨t,nm,dy,h,o,ho,hno,hat,ht⟩:=hb gb
   refine ⟨_,rfl,_,rfl,_,rfl,_,rfl,lp,_,-1,_,rfl,rfl,SqL.of (SG _ _ hlp3),hat,t,_,4,_,rfl,rfl,SqT.of (SG _ _ ht),rfl,_,rfl,z4 _ (by simp),fun t ht=>fin _ "mend" [.str o,.str other] [.str o,.str other] SG (.cons (nm_rd ho) (.cons (nm_rd nother) .nil)) (.mend ho nother hno) (.inl rfl) t ht⟩
  clear hb
  refine ⟨fun b H'=>Same H3 H'∧(b=true→∃ (t:Addr) (h:Str) (ys:List V),nameB h=true∧h≠one∧atI xs (-1)=some (.ref t)∧H3 t=some (.tup ys)∧atI ys 3=some (.str h)),?_,?_⟩
  ·refine ⟨_,rfl,rfl,_,rfl,?_⟩
   refine ite2 (fun g=>?_) fun g=>⟨SG,fun z=>nomatch z⟩
   refine ⟨_,rfl,z4 _ (by simp),fun L hL=>?_⟩
   have sL:=SG.trans (Same.new (o:=.lst []) hL)
   refine ⟨lp,L,xs,rfl,rfl,SqL.of (sL _ _ hlp3),SqL.of upd_same,_,rfl,?_⟩
   refine ite2 (fun g1=>?_) fun g1=>⟨sL,fun z=>nomatch z⟩
   obtain ⟨t,nm,dy,h,hh,hat,hc⟩:=past_last past3 (pl g1)
   obtain ⟨ys,ht,ha3⟩:∃ ys,H3 t=some (.tup ys)∧atI ys 3=some (.str h):=by
    rcases hc with ht | ⟨o,ho,hno,ht⟩
    ·exact ⟨_,ht,rfl⟩
    ·exact ⟨_,ht,rfl⟩
   refine ⟨_,rfl,_,rfl,lp,_,-1,_,rfl,rfl,SqL.of (sL _ _ hlp3),hat,t,_,3,_,rfl,rfl,SqT.of (sL _ _ ht),ha3,_,rfl,rfl,_,rfl,?_⟩
   refine ⟨sL,fun g2=>⟨t,h,ys,hh,fun z=>?_,hat,ht,ha3⟩⟩
   have:=nz g2
   rw [z] at this
   exact absurd rfl (of_decide_eq_false this)
  rintro b G2 ⟨SG2,hb⟩
  refine ite2 (fun gb=>?_) fun _=>?_
  ·obtain ⟨t,h,ys,hh,hno,hat,ht,ha3⟩:=hb gb
   refine ⟨_,rfl,_,rfl,_,rfl,_,rfl,_,rfl,lp,_,-1,_,rfl,rfl,SqL.of (SG2 _ _ hlp3),hat,t,_,3,_,rfl,rfl,SqT.of (SG2 _ _ ht),ha3,z4 _ (by simp),fun t ht=>fin _ "mend" [.str one,.str h] [.str one,.str h] SG2 (.cons (nm_rd none') (.cons (nm_rd hh) .nil)) (.mend none' hh (Ne.symm hno)) (.inl rfl) t ht⟩
  clear hb
  refine ⟨fun b H'=>Same H3 H'∧(b=true→xs≠[]),?_,?_⟩
  ·refine ⟨_,rfl,rfl,_,rfl,?_⟩
   refine ite2 (fun g=>?_) fun g=>⟨SG2,fun z=>nomatch z⟩
   refine ⟨_,rfl,z4 _ (by simp),fun L hL=>?_⟩
   have sL:=SG2.trans (Same.new (o:=.lst []) hL)
   exact ⟨lp,L,xs,rfl,rfl,SqL.of (sL _ _ hlp3),SqL.of upd_same,_,rfl,sL,pl⟩
  rintro b G3 ⟨SG3,hb⟩
  refine ite2 (fun gb=>?_) fun _=>?_
  ·obtain ⟨t,nm,dy,h,hh,hat,hc⟩:=past_last past3 (hb gb)
   obtain ⟨wd,ds,rest,ht,hRS,hrr,hw⟩:∃ (wd:Str) (ds:List PyData) (rest:List V),H3 t=some (.tup (.str wd :: .str nm :: .int dy :: rest))∧RowS wd ds∧(∀ G,RdVs false G rest ds)∧(wd="mend"∨wd="alone"):=by
    rcases hc with ht | ⟨o,ho,hno,ht⟩
    ·exact ⟨_,[.str h],_,ht,.alone hh,fun G=>.cons (nm_rd hh) .nil,.inr rfl⟩
    ·exact ⟨_,[.str h,.str o],_,ht,.mend hh ho hno,fun G=>.cons (nm_rd hh) (.cons (nm_rd ho) .nil),.inl rfl⟩
   have hrl:=(hrr H3).len
   have hdl:=hRS.len
   refine ⟨_,rfl,_,rfl,lp,_,-1,_,rfl,rfl,SqL.of (SG3 _ _ hlp3),hat,_,rfl,t,_,rfl,SG3 _ _ ht,fun q1 I1 s1 e1=>?_⟩
   rw [show (1:Int)=((1:Nat):Int) from rfl,cut_to (α:=Unit)] at e1
   refine ⟨_,rfl,_,rfl,z4 _ (by simp),fun q2 hq2=>?_⟩
   have s2:=Same.new (o:=.tup [V.str name,.int day]) hq2
   refine ⟨q1,q2,_,_,rfl,rfl,s2 _ _ e1,upd_same,by simp,fun q3 I3 s3 e3=>?_⟩
   have S3:=(SG3.trans s1).trans (s2.trans s3)
   refine ⟨_,rfl,_,rfl,lp,_,-1,_,rfl,rfl,SqL.of (S3 _ _ hlp3),hat,_,rfl,t,_,rfl,S3 _ _ ht,fun q4 I4 s4 e4=>?_⟩
   rw [show (3:Int)=((3:Nat):Int) from rfl,cut_from (α:=Unit)] at e4
   refine ⟨q3,q4,_,_,rfl,rfl,s4 _ _ e3,e4,by simp;omega,fun q5 I5 s5 e5=>?_⟩
   have S5:=(S3.trans s4).trans s5
   have e5':I5 q5=some (.tup (.str wd :: .str name :: .int day :: rest)):=e5
   exact k (.ref q5) ⟨wd,name,day,ds⟩ a3 _ (.tup e5' (by simp only [List.length_cons];omega) (.cons (.str wd (word_len hRS.word)) (.cons (nm_rd hnm) (.cons (.int day) (hrr I5))))) rfl ⟨hRS,hnm,d0,d1,fin_no hw⟩ hw (by omega) (by omega) (hp3.same S5) (k3.same S5)
  ·exact ⟨_,rfl,_,rfl,_,rfl,_,rfl,z4 _ (by simp),fun t ht=>fin _ "mend" [.str one,.str other] [.str one,.str other] SG3 (.cons (nm_rd none') (.cons (nm_rd nother) .nil)) (.mend none' nother hne) (.inl rfl) t ht⟩
end
end K37
namespace K37
open PySem L2
abbrev RowsP (H:Hp) (fs:List Str) (xs:List V) (us:List RowI):Prop:=Paired (fun (x:V) (u:RowI)=>RdV false H x u.d∧u.Ok fs) xs us
theorem paired_get {α β:Type}{R:α→β→Prop}:∀ {as:List α}{bs:List β}{i:Nat}{a:α},Paired R as bs→as[i]?=some a→∃ b,bs[i]?=some b∧R a b
 | _,_,_,_,.nil,e=>by simp at e
 | _,_,0,_,.cons r _,e=>by simp at e;subst e;exact ⟨_,rfl,r⟩
 | _,_,i + 1,_,.cons _ t,e=>by
  rw [List.getElem?_cons_succ] at e
  obtain ⟨b,h1,h2⟩:=paired_get t e
  exact ⟨b,by rw [List.getElem?_cons_succ];exact h1,h2⟩
theorem paired_perm {α β:Type}{R:α→β→Prop}{xs ys:List α} (hp:ys.Perm xs):∀ {us:List β},Paired R xs us→∃ vs,vs.Perm us∧Paired R ys vs:=by
 induction hp with
 | nil=>intro ps h;exact ⟨ps,.refl _,h⟩
 | cons a _ ih=>
  intro ps h
  cases h with
  | cons r t=>
   obtain ⟨qs,h1,h2⟩:=ih t
   exact ⟨_ :: qs,h1.cons _,.cons r h2⟩
 | swap a b l=>
  intro ps h
  cases h with
  | cons r t=>
   cases t with
   | cons r2 t2=>exact ⟨_ :: _ :: _,.swap _ _ _,.cons r2 (.cons r t2)⟩
 | trans _ _ ih1 ih2=>
  intro ps h
  obtain ⟨qs,h1,h2⟩:=ih2 h
  obtain ⟨rs,h3,h4⟩:=ih1 h2
  exact ⟨rs,h3.trans h1,h4⟩
theorem RowsP.on {H H':Hp}{fs:List Str}{xs:List V}{us:List RowI} (h:RowsP H fs xs us) (t:Tups H H'):RowsP H' fs xs us:=Paired.mapP h fun x u ⟨r,ok⟩=>⟨ok.on r t,ok⟩
theorem RowsP.at {H:Hp}{fs:List Str}{xs:List V}{us:List RowI} (h:RowsP H fs xs us):RowsAt H xs us fs:=⟨Paired.length h,fun i x e=>by
 obtain ⟨u,h1,h2⟩:=paired_get h e
 exact ⟨u,h1,h2⟩⟩
theorem PastAt.on {H H':Hp}{xs:List V}{fs:List Str} (h:PastAt H xs fs) (t:Tups H H'):PastAt H' xs fs:=fun x hx=>by
 obtain ⟨r,h1,h2,h3⟩:=h x hx
 exact ⟨r,h2.on h1 t,h2,h3⟩
theorem PenAt.upd {H:Hp}{p c L:Addr}{ns:List Int}{a:Int}{o:HO} (h:PenAt H p c ns a) (h1:L≠p) (h2:L≠c):PenAt (upd H L o) p c ns a:=by
 obtain ⟨⟨z,hz,e⟩,ce,ge,sm⟩:=h
 exact ⟨⟨z,hz,by rw [upd_ne h1.symm];exact e⟩,by rw [upd_ne h2.symm];exact ce,ge,sm⟩
theorem PenAt.off {H:Hp}{p c L:Addr}{ns:List Int}{a:Int} (h:PenAt H p c ns a) (e:H L=none):L≠p∧L≠c:=by
 obtain ⟨z,_,q⟩:=h.ob
 exact ⟨(ne_of_none q e).symm,(ne_of_none h.ce e).symm⟩
theorem but_tups {H H':Hp}{p c:Addr}{ns:List Int}{a:Int} (hp:PenAt H p c ns a) (k:KeepBut p H H'):Tups H H':=fun q xs e=>tup_but e hp k
theorem lst_tups {H:Hp}{L:Addr}{xs ys:List V} (e:H L=some (.lst xs)):Tups H (upd H L (.lst ys)):=fun q us z=>by
 rw [upd_ne (ne_of z e (fun w=>nomatch w))]
 exact z
def spSomeRows:Sp:=fun vs H Q _=>∃ (p c:Addr) (ns:List Int) (a:Int) (ln tS lf lp lh:Addr) (rs fs ps hs:List Str) (m:Nat),vs=[.ref p,.ref ln,.ref tS,.int m]∧PenAt H p c ns a∧a≤500000∧H ln=some (.lst (rs.map V.str))∧Nms rs∧m≤rs.length∧m≤40∧H tS=some (.tup [.ref lf,.ref lp,.ref lh])∧S3 H lf lp lh fs ps hs∧
 ∀ (t:Addr) (ys:List V) (us:List RowI) (a':Int) (H':Hp),H' t=some (.tup ys)→RowsAt H' ys us fs→us.length=m→(us.map RowI.name).Nodup→a≤a'→a'≤a + 5000→PenAt H' p c ns a'→KeepBut p H H'→Q (.ref t) H'
section
variable {P:Program}{w:World}{K:PySem.W.Frag}{mg:Str→Option Value}{base:Heap}
theorem scSomeRows:FnScope ["_law_pen_here","_law_names_here","_law_sorts_here","_law_many","_law_way","_law_days_here","_law_found","_law_past","_law_k","_law_day"] ["_law_pen_here","_law_names_here","_law_sorts_here","_law_many"] (defScope sSomeRows):=⟨rfl,rfl,rfl,by decide,rfl,by decide,by decide⟩
theorem ok_someRows {f fT fD fR fM fK:Addr}{fd fdT fdD fdR fdM fdK:FuncData} (F:Fun K "_law_some_rows" "_law_some_rows" sSomeRows f fd) (hrng:mg "range"=none) (htup:mg "tuple"=none) (hsor:mg "sorted"=none)
  (GT:FnOk P w K mg base CX0 1 fT fdT ["_law_pen_here","_law_many"] spTake) (mT:mg "_law_take"=some (.ref fT)) (kT:PySem.W.keepIn K (.ref fT)=true) (bT:Binds K fdT ["_law_pen_here","_law_many"] [])
  (GD:FnOk P w K mg base CX0 2 fD fdD ["_law_pen_here","_law_many"] spDays) (mD:mg "_law_days"=some (.ref fD)) (kD:PySem.W.keepIn K (.ref fD)=true) (bD:Binds K fdD ["_law_pen_here","_law_many"] [])
  (GR:FnOk P w K mg base CX0 4 fR fdR ["_law_pen_here","_law_name","_law_day","_law_sorts_here"] spRow) (mR:mg "_law_row"=some (.ref fR)) (kR:PySem.W.keepIn K (.ref fR)=true) (bR:Binds K fdR ["_law_pen_here","_law_name","_law_day","_law_sorts_here"] [])
  (GM:FnOk P w K mg base CX0 2 fM fdM ["_law_pen_here","_law_name","_law_day","_law_houses","_law_past"] spMendRow) (mM:mg "_law_mend_row"=some (.ref fM)) (kM:PySem.W.keepIn K (.ref fM)=true) (bM:Binds K fdM ["_law_pen_here","_law_name","_law_day","_law_houses","_law_past"] [])
  (GK:FnOk P w K mg base CX0 1 fK fdK ["_law_row_here"] spPlace) (mK:mg "_law_place"=some (.ref fK)) (bK:Binds K fdK ["_law_row_here"] []):
  FnOk P w K mg base CX0 5 f fd ["_law_pen_here","_law_names_here","_law_sorts_here","_law_many"] spSomeRows:=by
 refine F.ok scSomeRows (fun vs H Q E h=>?_) (fun cdv A outer s H vs Q E hr h=>?_)
 ·obtain ⟨p,c,ns,a,ln,tS,lf,lp,lh,rs,fs,ps,hs,m,rfl,_⟩:=h
  rfl
 ·obtain ⟨p,c,ns,a,ln,tS,lf,lp,lh,rs,fs,ps,hs,m,rfl,hp,ha,hln,nr,hm,h40,htS,h3,k⟩:=h
  have nd:=scSomeRows.nd
  have hr1:Room 1 _:=hr.mono (by decide)
  have hr2:Room 2 _:=hr.mono (by decide)
  have hr3:Room 3 _:=hr.mono (by decide)
  refine ⟨_,pss_cons (ps_set (i:=4) nd rfl (Or.inl rfl) (pe_call GT hr1 rfl mT kT bT .nil pass0 (pa_c (pv 0) (pa_c pe_int pa_nil))))
   (pss_cons (ps_set (i:=5) nd rfl (Or.inl rfl) (pe_call GD hr2 rfl mD kD bD .nil pass0 (pa_c (pv 0) (pa_c (pv 3) pa_nil))))
   (pss_cons (ps_set (i:=6) nd rfl (Or.inl rfl) (pe_lst pa_nil))
   (pss_cons (ps_set (i:=7) nd rfl (Or.inl rfl) (pe_lst pa_nil))
   (pss_cons (ps_for PassesOwn.never rfl (pi_range1 rfl hrng (pa_c (pv 3) pa_nil)) (g:=gName 8) (pg_name (i:=8) nd rfl (Or.inl rfl))
    (pss_cons (ps_set (i:=9) nd rfl (Or.inl rfl) (pe_ix ix_list (pe_lst (pa_c (pe_ix ix_list (pv 5) (pv 8) (fun _ _=>rfl)) (pa_c (pv 8) (pa_c (pe_op op_add (pe_op op_sub pe_int (pv 3)) (pv 8)) pa_nil)))) (pv 4) (fun _ _=>rfl)))
    (pss_one (ps_if (pt_cmpR op_eq (pe_call GT hr1 rfl mT kT bT .nil pass0 (pa_c (pv 0) (pa_c pe_int pa_nil))) pe_int (nomark _))
     (pss_one (ps_expr (pe_bm PySem.F.plainAttrs_list PySem.F.slot_list_append PySem.F.type_list_append mt_append (pv 6) (pa_c (pe_call GR hr rfl mR kR bR .nil pass0 (pa_c (pv 0) (pa_c (pe_ix ix_list (pv 1) (pv 8) (fun _ _=>rfl)) (pa_c (pv 9) (pa_c (pv 2) pa_nil))))) pa_nil))))
     (pss_cons (ps_expr (pe_bm PySem.F.plainAttrs_list PySem.F.slot_list_append PySem.F.type_list_append mt_append (pv 7) (pa_c (pe_call GM hr2 rfl mM kM bM .nil pass0 (pa_c (pv 0) (pa_c (pe_ix ix_list (pv 1) (pv 8) (fun _ _=>rfl)) (pa_c (pv 9) (pa_c (pe_ix ix_tup (pv 2) pe_int (fun _ _=>rfl)) (pa_c (pv 7) pa_nil)))))) pa_nil)))
     (pss_one (ps_expr (pe_bm PySem.F.plainAttrs_list PySem.F.slot_list_append PySem.F.type_list_append mt_append (pv 6) (pa_c (pe_ix ix_list (pv 7) (pe_un un_neg pe_int) (fun _ _=>rfl)) pa_nil)))))))))
   (pss_one (ps_ret (pe_callTy call_tuple_of (by rfl) htup (by kernel_rfl) (pa_c (pe_sortedK GK hr3 bK (by rfl) hsor (by rfl) mK (pa_c (pv 6) pa_nil)) pa_nil)))))))),?_⟩
  refine ⟨_,rfl,p,c,ns,a,_,rfl,hp,by omega,by decide,by decide,fun way a1 H1 w0 w1 la1 ua1 hp1 kp1=>?_⟩
  refine ⟨_,rfl,_,rfl,p,c,ns,a1,m,rfl,hp1,by omega,by omega,fun ld ds a2 H2 hld hdl hds la2 ua2 hp2 kp2=>?_⟩
  have k2:=kp1.trans kp2
  have hln2:=lst_but hln hp k2
  have htS2:=tup_but htS hp k2
  have h32:=h3.but hp k2
  refine ⟨Nat.zero_le _,fun L hL=>?_⟩
  have sL:=Same.new (o:=.lst []) hL
  obtain ⟨nLp,nLc⟩:=hp2.off hL
  refine ⟨Nat.zero_le _,fun R hR=>?_⟩
  have sR:=Same.new (o:=.lst []) hR
  obtain ⟨nRp,nRc⟩:=(hp2.same sL).off hR
  have nLR:L≠R:=ne_of_none upd_same hR
  have S0:=sL.trans sR
  have hL0:upd (upd H2 L (.lst [])) R (.lst []) L=some (.lst []):=sR _ _ upd_same
  have hR0:upd (upd H2 L (.lst [])) R (.lst []) R=some (.lst []):=upd_same
  generalize upd (upd H2 L (.lst [])) R (.lst [])=H3 at S0 hL0 hR0 ⊢
  have hHL:H2 R=none:=by
   cases q:H2 R with
   | none=>rfl
   | some o=>rw [sL _ _ q] at hR;cases hR
  have kX:∀ {G G':Hp},KeepBut p G G'→KeepX [p,L,R] G G':=fun z b o n e=>z b o e (fun q=>n (by simp [q]))
  have uL:∀ {G:Hp} {o:HO},KeepX [p,L,R] G (upd G L o):=fun {G o}=>keepX_upd (by simp)
  have uR:∀ {G:Hp} {o:HO},KeepX [p,L,R] G (upd G R o):=fun {G o}=>keepX_upd (by simp)
  have frX:∀ {b:Addr} {o:HO},H2 b=some o→b≠p→b ∉ [p,L,R]:=fun {b o} e n z=>by
   simp only [List.mem_cons,List.not_mem_nil,or_false] at z
   rcases z with z | z | z
   ·exact n z
   ·rw [z,hL] at e;cases e
   ·rw [z,hHL] at e;cases e
  refine ⟨_,rfl,m,rfl,by omega,by omega,for_range (n:=(m:Int).toNat) (fun i σ H'=>∃ (o8 o9:Option V) (a':Int) (xs:List V) (us:List RowI) (zs:List V),σ=[some (.ref p),some (.ref ln),some (.ref tS),some (.int m),some (.int way),some (.ref ld),some (.ref L),some (.ref R),o8,o9]∧PenAt H' p c ns a'∧a2≤a'∧a'≤a2 + 100 * i∧KeepX [p,L,R] H2 H'∧H' L=some (.lst xs)∧RowsP H' fs xs us∧us.length=i∧us.map RowI.name=rs.take i∧H' R=some (.lst zs)∧PastAt H' zs fs∧zs.length≤i)
   ⟨_,_,a2,[],[],[],rfl,hp2.same S0,by omega,by simp,fun b o _ e=>S0 _ _ e,hL0,.nil,rfl,by simp,hR0,(fun x hx=>by simp at hx),Nat.le_refl _⟩ ?_ ?_⟩
  ·rintro i σ H4 hi ⟨o8,o9,a4,xs,us,zs,rfl,hp4,la4,ua4,k4,hL4,rows,hul,hnms,hR4,past,hzl⟩
   have him:i < m:=by omega
   have nld:ld ∉ [p,L,R]:=frX hld (pen_ne hp2 hld (fun _ _ z=>nomatch z))
   have hld4:=k4 _ _ nld hld
   have hln4:=k4 _ _ (frX hln2 (pen_ne hp2 hln2 (fun _ _ z=>nomatch z))) hln2
   have htS4:=k4 _ _ (frX htS2 (pen_ne hp2 htS2 (fun _ _ z=>nomatch z))) htS2
   have h34:S3 H4 lf lp lh fs ps hs:=⟨k4 _ _ (frX h32.f (pen_ne hp2 h32.f (fun _ _ z=>nomatch z))) h32.f,k4 _ _ (frX h32.p (pen_ne hp2 h32.p (fun _ _ z=>nomatch z))) h32.p,k4 _ _ (frX h32.h (pen_ne hp2 h32.h (fun _ _ z=>nomatch z))) h32.h,h3.f1,h3.f2,h3.p1,h3.h1,h3.nf,h3.np,h3.nh⟩
   have hxl:=Paired.length rows
   obtain ⟨d,hd⟩:∃ d,ds[i]?=some d:=⟨_,List.getElem?_eq_getElem (by omega)⟩
   have hd':=hds d (List.mem_of_getElem? hd)
   obtain ⟨name,hnm⟩:∃ y,rs[i]?=some y:=⟨_,List.getElem?_eq_getElem (by omega)⟩
   have nname:=nr.ok name (List.mem_of_getElem? hnm)
   have e0:(0:Int) + (i:Int)=(i:Int):=by omega
   rw [e0]
   dsimp only [gName]
   refine ⟨_,rfl,_,rfl,ld,_,_,_,rfl,rfl,SqL.of hld4,atI_nat (by rw [List.getElem?_map,hd];rfl),_,rfl,_,rfl,_,_,rfl,rfl,_,rfl,_,_,rfl,rfl,sizeLine_big (by show 3≤1000000;decide),fun q hq=>?_⟩
   have sq:=Same.new (o:=.lst [V.int d,.int i,.int (9999 - (m:Int) + i)]) hq
   obtain ⟨v,hv,hat⟩:=atI_in (xs:=[V.int d,.int i,.int (9999 - (m:Int) + i)]) (i:=way) w0 (by show way < 3;omega)
   obtain ⟨day,rfl,hday0,hday1⟩:∃ dd:Int,v=.int dd∧0≤dd∧dd≤9999:=by
    simp only [List.mem_cons,List.not_mem_nil,or_false] at hv
    rcases hv with rfl | rfl | rfl
    ·exact ⟨_,rfl,hd'⟩
    ·exact ⟨_,rfl,by omega,by omega⟩
    ·exact ⟨_,rfl,by omega,by omega⟩
   refine ⟨_,rfl,q,_,way,_,rfl,rfl,SqL.of upd_same,hat,?_⟩
   have hp5:=hp4.same sq
   have k5:KeepX [p,L,R] H2 _:=k4.same sq
   have t45:=same_tups sq
   have hL5:=sq _ _ hL4
   have hR5:=sq _ _ hR4
   have hln5:=sq _ _ hln4
   have htS5:=sq _ _ htS4
   have h35:=h34.same sq
   have rows5:=rows.on t45
   have past5:=past.on t45
   generalize upd H4 q (.lst [V.int d,.int i,.int (9999 - (m:Int) + i)])=H5 at hp5 k5 hL5 hR5 hln5 htS5 h35 rows5 past5 ⊢
   refine ⟨_,rfl,p,c,ns,a4,_,rfl,hp5,by omega,by decide,by decide,fun r7 a6 H6 r70 r71 la6 ua6 hp6 kp6=>?_⟩
   have k6:=k5.trans (kX kp6)
   have t56:=but_tups hp5 kp6
   have hL6:=lst_but hL5 hp5 kp6
   have hR6:=lst_but hR5 hp5 kp6
   have hln6:=lst_but hln5 hp5 kp6
   have htS6:=tup_but htS5 hp5 kp6
   have h36:=h35.but hp5 kp6
   have rows6:=rows5.on t56
   have past6:=past5.on t56
   have hatn:atI (rs.map V.str) (i:Int)=some (.str name):=atI_nat (by rw [List.getElem?_map,hnm];rfl)
   refine ⟨rfl,_,rfl,?_⟩
   refine ite2 (fun _=>?_) fun _=>?_
   ·refine ⟨_,rfl,.inl ⟨rfl,_,SqL.of hL6⟩,_,rfl,_,rfl,_,rfl,ln,_,_,_,rfl,rfl,SqL.of hln6,hatn,_,rfl,_,rfl,p,c,ns,a6,name,day,tS,lf,lp,lh,fs,ps,hs,rfl,hp6,by omega,htS6,h36,nname,hday0,hday1,fun x r a7 H7 rdx hrn okr la7 ua7 hp7 kp7=>?_⟩
    have hL7:=lst_but hL6 hp6 kp7
    have hR7:=lst_but hR6 hp6 kp7
    have t67:=but_tups hp6 kp7
    refine ⟨L,_,_,rfl,rfl,hL7,small1000 (by omega),?_⟩
    have t7:=lst_tups (ys:=xs ++ [x]) hL7
    exact ⟨_,_,a7,xs ++ [x],us ++ [r],zs,rfl,hp7.upd nLp nLc,by omega,by omega,(k6.trans (kX kp7)).trans uL,upd_same,Paired.snoc ⟨okr.on rdx t7,okr⟩ ((rows6.on t67).on t7),by simp [hul],by rw [List.map_append,hnms,List.take_add_one,hnm];simp [hrn],by rw [upd_ne nLR.symm];exact hR7,(past6.on t67).on t7,by omega⟩
   ·refine ⟨_,rfl,.inl ⟨rfl,_,SqL.of hR6⟩,_,rfl,_,rfl,_,rfl,ln,_,_,_,rfl,rfl,SqL.of hln6,hatn,_,rfl,_,rfl,tS,_,2,_,rfl,rfl,SqT.of htS6,rfl,_,rfl,p,c,ns,a6,name,day,lh,R,hs,zs,fs,rfl,hp6,by omega,h36.h,h36.nh,h36.h1.1,h36.h1.2,hR6,past6,nname,hday0,hday1,fun x r a7 H7 rdx hrn okr hwr la7 ua7 hp7 kp7=>?_⟩
    have hL7:=lst_but hL6 hp6 kp7
    have hR7:=lst_but hR6 hp6 kp7
    have t67:=but_tups hp6 kp7
    refine ⟨R,_,_,rfl,rfl,hR7,small1000 (by omega),?_⟩
    have t7:=lst_tups (ys:=zs ++ [x]) hR7
    have hL8:upd H7 R (.lst (zs ++ [x])) L=some (.lst xs):=by rw [upd_ne nLR];exact hL7
    have hR8:upd H7 R (.lst (zs ++ [x])) R=some (.lst (zs ++ [x])):=upd_same
    have hp8:=hp7.upd (o:=.lst (zs ++ [x])) nRp nRc
    have k8:KeepX [p,L,R] H2 (upd H7 R (.lst (zs ++ [x]))):=(k6.trans (kX kp7)).trans uR
    have rd8:=okr.on rdx t7
    have rows8:=(rows6.on t67).on t7
    have past8:=(past6.on t67).on t7
    generalize upd H7 R (.lst (zs ++ [x]))=H8 at hL8 hR8 hp8 k8 rd8 rows8 past8 ⊢
    refine ⟨_,rfl,.inl ⟨rfl,_,SqL.of hL8⟩,_,rfl,_,rfl,R,_,-1,_,rfl,rfl,SqL.of hR8,atI_last _ _,L,_,_,rfl,rfl,hL8,small1000 (by omega),?_⟩
    have t8:=lst_tups (ys:=xs ++ [x]) hL8
    refine ⟨_,_,a7,xs ++ [x],us ++ [r],zs ++ [x],rfl,hp8.upd nLp nLc,by omega,by omega,k8.trans uL,upd_same,Paired.snoc ⟨okr.on rd8 t8,okr⟩ (rows8.on t8),by simp [hul],by rw [List.map_append,hnms,List.take_add_one,hnm];simp [hrn],by rw [upd_ne nLR.symm];exact hR8,fun y hy=>?_,by simp;omega⟩
    rcases List.mem_append.mp hy with z | z
    ·exact (past8.on t8) y z
    ·rw [List.mem_singleton.mp z]
     exact ⟨r,okr.on rd8 t8,okr,hwr⟩
  ·rintro σ H4 ⟨o8,o9,a4,xs,us,zs,rfl,hp4,la4,ua4,k4,hL4,rows,hul,hnms,hR4,past,hzl⟩
   have hxl:=Paired.length rows
   refine ⟨_,rfl,L,xs,rfl,SqL.of hL4,by omega,fun y hy H' Q S h=>keyCall rows.at y hy H' Q S (fun t a b c H'' s e _=>h t a b c H'' s e),fun D ys H5 S5 hD hpm hD5=>?_⟩
   obtain ⟨vs,hvp,rows'⟩:=paired_perm hpm rows
   refine ⟨D,ys,rfl,.inl ⟨SqL.of hD5,fun t ht=>?_⟩⟩
   have S6:=S5.trans (Same.new (o:=.tup ys) ht)
   refine k t ys vs a4 _ upd_same (RowsP.at (RowsP.on rows' (same_tups S6))) (by rw [hvp.length_eq];omega) ((hvp.map RowI.name).nodup_iff.mpr (by rw [hnms];exact nr.nd.sublist (List.take_sublist _ _))) (by omega) (by omega) (hp4.same S6) (fun b o e n=>?_)
   have e2:=k2 b o e n
   exact S6 _ _ (k4 b o (frX e2 n) e2)
end
end K37
namespace K37
open PySem L2
def spWorld:Sp:=fun vs H Q _=>∃ (p c:Addr) (ns:List Int) (a:Int),vs=[.ref p]∧PenAt H p c ns a∧a≤1000∧
 ∀ (t r rw lh:Addr) (ws hs:List Str) (us:List RowI) (a':Int) (H':Hp),H' t=some (.tup [.ref r,.ref lh])→RollAt H' r rw ws us→(us.map RowI.name).Nodup→H' lh=some (.lst (hs.map V.str))→Nms hs→2≤hs.length→hs.length≤44→a≤a'→a'≤a + 10000→PenAt H' p c ns a'→KeepBut p H H'→Q (.ref t) H'
theorem eqVs_strs:∀ l:List Str,eqVs (l.map V.str) (l.map V.str)=true
 | []=>rfl
 | x :: l=>by
  show (eqV (.str x) (.str x) && eqVs (l.map V.str) (l.map V.str))=true
  rw [eqVs_strs l]
  simp [eqV]
theorem sameT_new {T L:Addr}{H H':Hp}{o:HO} (s:SameT T H H') (h:H L=none):SameT T H (upd H' L o):=fun b u n e=>by
 rw [upd_ne (ne_of_none e h)]
 exact s b u n e
section
variable {P:Program}{w:World}{K:PySem.W.Frag}{mg:Str→Option Value}{base:Heap}
theorem scWorld:FnScope ["_law_pen_here","_law_fields","_law_plots","_law_houses","_law_names_here","_law_many","_law_laying_here"] ["_law_pen_here"] (defScope sWorld):=⟨rfl,rfl,rfl,by decide,rfl,by decide,by decide⟩
theorem ok_world {f fT fS fN fL fR:Addr}{fd fdT fdS fdN fdL fdR:FuncData} (F:Fun K "_law_world" "_law_world" sWorld f fd)
  (GT:FnOk P w K mg base CX0 1 fT fdT ["_law_pen_here","_law_many"] spTake) (mT:mg "_law_take"=some (.ref fT)) (kT:PySem.W.keepIn K (.ref fT)=true) (bT:Binds K fdT ["_law_pen_here","_law_many"] [])
  (GS:FnOk P w K mg base CX0 3 fS fdS ["_law_pen_here","_law_fields","_law_rows"] spSorts) (mS:mg "_law_sorts"=some (.ref fS)) (kS:PySem.W.keepIn K (.ref fS)=true) (bS:Binds K fdS ["_law_pen_here","_law_fields","_law_rows"] [])
  (GN:FnOk P w K mg base CX0 2 fN fdN ["_law_pen_here","_law_many"] spNames) (mN:mg "_law_names"=some (.ref fN)) (kN:PySem.W.keepIn K (.ref fN)=true) (bN:Binds K fdN ["_law_pen_here","_law_many"] [])
  (GL:FnOk P w K mg base CX0 3 fL fdL ["_law_pen_here","_law_fields","_law_houses"] spLayOf) (mL:mg "_law_laying"=some (.ref fL)) (kL:PySem.W.keepIn K (.ref fL)=true) (bL:Binds K fdL ["_law_pen_here","_law_fields","_law_houses"] [])
  (GR:FnOk P w K mg base CX0 5 fR fdR ["_law_pen_here","_law_names_here","_law_sorts_here","_law_many"] spSomeRows) (mR:mg "_law_some_rows"=some (.ref fR)) (kR:PySem.W.keepIn K (.ref fR)=true) (bR:Binds K fdR ["_law_pen_here","_law_names_here","_law_sorts_here","_law_many"] []):
  FnOk P w K mg base CX0 6 f fd ["_law_pen_here"] spWorld:=by
 refine F.ok scWorld (fun vs H Q E h=>?_) (fun cdv A outer s H vs Q E hr h=>?_)
 ·obtain ⟨p,c,ns,a,rfl,_⟩:=h
  rfl
 ·obtain ⟨p,c,ns,a,rfl,hp,ha,k⟩:=h
  have nd:=scWorld.nd
  have hr1:Room 1 _:=hr.mono (by decide)
  have hr2:Room 2 _:=hr.mono (by decide)
  have hr3:Room 3 _:=hr.mono (by decide)
  refine ⟨_,pss_cons (ps_asg (pe_call GS hr3 rfl mS kS bS .nil pass0 (pa_c (pv 0) (pa_c (pe_op op_add pe_int (pe_call GT hr1 rfl mT kT bT .nil pass0 (pa_c (pv 0) (pa_c pe_int pa_nil)))) (pa_c pe_int pa_nil)))) (pg_tup rfl (pgs_cons (pg_name (i:=1) nd rfl (Or.inl rfl)) (pgs_cons (pg_name (i:=2) nd rfl (Or.inl rfl)) (pgs_cons (pg_name (i:=3) nd rfl (Or.inl rfl)) (pgs_cons (pg_name (i:=4) nd rfl (Or.inl rfl)) pgs_nil))))))
   (pss_cons (ps_mid <| ps_if (pt_cmpR op_eq (pe_call GT hr1 rfl mT kT bT .nil pass0 (pa_c (pv 0) (pa_c pe_int pa_nil))) pe_int (nomark _))
    (pss_one (ps_set (i:=3) nd rfl (Or.inl rfl) (pe_call GN hr2 rfl mN kN bN .nil pass0 (pa_c (pv 0) (pa_c (pe_op op_add pe_int (pe_call GT hr1 rfl mT kT bT .nil pass0 (pa_c (pv 0) (pa_c pe_int pa_nil)))) pa_nil))))) pss_nil)
   (pss_cons (ps_set (i:=5) nd rfl (Or.inl rfl) (pe_ix ix_list (pe_lst (pa_c pe_int (pa_c (pe_call GT hr1 rfl mT kT bT .nil pass0 (pa_c (pv 0) (pa_c pe_int pa_nil))) (pa_c (pe_call GT hr1 rfl mT kT bT .nil pass0 (pa_c (pv 0) (pa_c pe_int pa_nil))) pa_nil)))) (pe_call GT hr1 rfl mT kT bT .nil pass0 (pa_c (pv 0) (pa_c pe_int pa_nil))) (fun _ _=>rfl)))
   (pss_cons (ps_set (i:=6) nd rfl (Or.inl rfl) (pe_call GL hr3 rfl mL kL bL .nil pass0 (pa_c (pv 0) (pa_c (pv 1) (pa_c (pv 3) pa_nil)))))
   (pss_one (ps_ret (pe_tup (pa_c (pe_tup (pa_c (pv 6) (pa_c (pe_call GR hr rfl mR kR bR .nil pass0 (pa_c (pv 0) (pa_c (pv 4) (pa_c (pe_tup (pa_c (pv 1) (pa_c (pv 2) (pa_c (pv 3) pa_nil)))) (pa_c (pv 5) pa_nil))))) pa_nil))) (pa_c (pv 3) pa_nil)))))))),?_⟩
  refine ⟨_,rfl,_,rfl,p,c,ns,a,_,rfl,hp,by omega,by decide,by decide,fun r0 a1 H1 r00 r01 la1 ua1 hp1 kp1=>?_⟩
  obtain ⟨j,rfl⟩:∃ j:Nat,r0=j:=⟨r0.toNat,by omega⟩
  refine ⟨_,_,rfl,rfl,p,c,ns,a1,1 + j,40,rfl,hp1,by omega,by omega,by omega,fun t l1 l2 l3 l4 ws ps hs rs a2 H2 ht e1 n1 nm1 e2 n2 nm2 e3 n3 nm3 e4 n4 nm4 la2 ua2 hp2 kp2=>?_⟩
  have k2:=kp1.trans kp2
  refine ⟨t,_,rfl,SqT.of ht,rfl,_,_,rfl,_,_,rfl,_,_,rfl,_,_,rfl,rfl,?_⟩
  refine ⟨fun σ H'=>∃ (a':Int) (lh:Addr) (hs:List Str),σ=[some (.ref p),some (.ref l1),some (.ref l2),some (.ref lh),some (.ref l4),none,none]∧PenAt H' p c ns a'∧a2≤a'∧a'≤a2 + 40∧KeepBut p H2 H'∧H' lh=some (.lst (hs.map V.str))∧Nms hs∧2≤hs.length∧hs.length≤44,?_,?_⟩
  ·refine ⟨_,rfl,p,c,ns,a2,_,rfl,hp2,by omega,by decide,by decide,fun r1 a3 H3 r10 r11 la3 ua3 hp3 kp3=>?_⟩
   refine ⟨rfl,_,rfl,?_⟩
   refine ite2 (fun _=>?_) fun _=>⟨a3,l3,hs,rfl,hp3,by omega,by omega,kp3,lst_but e3 hp2 kp3,nm3,by omega,by omega⟩
   refine ⟨_,rfl,_,rfl,p,c,ns,a3,_,rfl,hp3,by omega,by decide,by decide,fun r2 a4 H4 r20 r21 la4 ua4 hp4 kp4=>?_⟩
   obtain ⟨j2,rfl⟩:∃ j:Nat,r2=j:=⟨r2.toNat,by omega⟩
   refine ⟨_,_,rfl,rfl,p,c,ns,a4,2 + j2,rfl,hp4,by omega,by omega,fun lh hs2 a5 H5 _ hlh hl2 nm la5 ua5 hp5 kp5=>?_⟩
   exact ⟨a5,lh,hs2,rfl,hp5,by omega,by omega,(kp3.trans kp4).trans kp5,hlh,nm,by omega,by omega⟩
  clear e3 n3 nm3 hs
  rintro σ H3 ⟨a3,lh,hs,rfl,hp3,la3,ua3,kp3,elh,nmh,hh2,hh44⟩
  refine ⟨_,rfl,p,c,ns,a3,_,rfl,hp3,by omega,by decide,by decide,fun r1 a4 H4 r10 r11 la4 ua4 hp4 kp4=>?_⟩
  refine ⟨_,rfl,p,c,ns,a4,_,rfl,hp4,by omega,by decide,by decide,fun r2 a5 H5 r20 r21 la5 ua5 hp5 kp5=>?_⟩
  refine ⟨sizeLine_big (by show 3≤1000000;decide),fun q hq=>?_⟩
  have sq:=Same.new (o:=.lst [V.int 40,.int r1,.int r2]) hq
  refine ⟨_,rfl,p,c,ns,a5,_,rfl,hp5.same sq,by omega,by decide,by decide,fun r3 a6 H6 r30 r31 la6 ua6 hp6 kp6=>?_⟩
  obtain ⟨v,hv,hat⟩:=atI_in (xs:=[V.int 40,.int r1,.int r2]) (i:=r3) r30 (by show r3 < 3;omega)
  obtain ⟨m,rfl,hm⟩:∃ dd:Nat,v=.int dd∧dd≤40:=by
   simp only [List.mem_cons,List.not_mem_nil,or_false] at hv
   rcases hv with rfl | rfl | rfl
   ·exact ⟨40,rfl,by omega⟩
   ·exact ⟨r1.toNat,by rw [Int.toNat_of_nonneg r10],by omega⟩
   ·exact ⟨r2.toNat,by rw [Int.toNat_of_nonneg r20],by omega⟩
  refine ⟨q,_,r3,_,rfl,rfl,SqL.of (lst_but upd_same (hp5.same sq) kp6),hat,?_⟩
  have kk:KeepBut p H3 H6:=((kp4.trans kp5).same sq).trans kp6
  have e16:=lst_but (lst_but e1 hp2 kp3) hp3 kk
  have elh6:=lst_but elh hp3 kk
  refine ⟨_,rfl,_,rfl,_,rfl,p,c,ns,a6,l1,lh,ws,hs,rfl,hp6,by omega,e16,nm1.ok,by omega,elh6,nmh.ok,by omega,by omega,fun lay xs ds a7 H7 hlay hrd hfl hws la7 ua7 hp7 kp7=>?_⟩
  have kk7:KeepBut p H2 H7:=(kp3.trans kk).trans kp7
  have e17:=lst_but e1 hp2 kk7
  have e27:=lst_but e2 hp2 kk7
  have e47:=lst_but e4 hp2 kk7
  have elh7:=lst_but elh6 hp6 kp7
  have hdl:ds.length≤8:=by
   have:=congrArg List.length hws
   rw [List.length_map] at this
   omega
  refine ⟨_,rfl,_,rfl,_,rfl,_,rfl,_,rfl,_,rfl,sizeLine_big (by show 3≤1000000;decide),fun tS htS=>?_⟩
  have s8:=Same.new (o:=.tup [V.ref l1,.ref l2,.ref lh]) htS
  refine ⟨_,rfl,p,c,ns,a7,l4,tS,l1,l2,lh,rs,ws,ps,hs,m,rfl,hp7.same s8,by omega,s8 _ _ e47,nm4,by omega,hm,upd_same,⟨s8 _ _ e17,s8 _ _ e27,s8 _ _ elh7,by omega,by omega,n2,⟨hh2,hh44⟩,nm1,nm2,nmh⟩,fun rw ys us a9 H9 hrw rows hul hnn la9 ua9 hp9 kp9=>?_⟩
  have t89:=but_tups (hp7.same s8) kp9
  refine ⟨sizeLine_big (by show 2≤1000000;decide),fun r hr'=>?_⟩
  have s10:=Same.new (o:=.tup [V.ref lay,.ref rw]) hr'
  have er:upd H9 r (.tup [V.ref lay,.ref rw]) r=some (.tup [V.ref lay,.ref rw]):=upd_same
  generalize upd H9 r (.tup [V.ref lay,.ref rw])=H10 at s10 er ⊢
  have t710:Tups H7 H10:=fun q us e=>s10 _ _ (t89 _ _ (s8 _ _ e))
  refine ⟨_,rfl,sizeLine_big (by show 2≤1000000;decide),fun t2 ht2=>?_⟩
  have s11:=Same.new (o:=.tup [V.ref r,.ref lh]) ht2
  have t711:Tups H7 _:=fun q us e=>s11 _ _ (t710 _ _ e)
  have roll:RollAt _ r rw ws us:=⟨lay,xs,ds,ys,s11 _ _ er,t711 _ _ hlay,RdVs.onT t711 hrd (flds_nd hfl),hfl,hws,hdl,s11 _ _ (s10 _ _ hrw),(rows.on (same_tups s10)).on (same_tups s11),by omega⟩
  exact k t2 r rw lh ws hs us a9 _ upd_same roll hnn (s11 _ _ (s10 _ _ (lst_but (s8 _ _ elh7) (hp7.same s8) kp9))) nmh hh2 hh44 (by omega) (by omega) ((hp9.same s10).same s11) (((((k2.trans kk7).same s8).trans kp9).same s10).same s11)
end
end K37
namespace K37
open PySem L2
def spRowCalled:Sp:=fun vs H Q _=>∃ (t rw:Addr) (ws:List Str) (us:List RowI) (ys:List V) (j:Nat) (u:RowI),vs=[.ref t,.str u.name]∧RollAt H t rw ws us∧H rw=some (.tup ys)∧(us.map RowI.name).Nodup∧us[j]?=some u∧∀ x,ys[j]?=some x→Q x H
theorem name_at {us:List RowI} (h:(us.map RowI.name).Nodup) {i j:Nat}{u v:RowI} (h1:us[i]?=some u) (h2:us[j]?=some v) (e:u.name=v.name):i=j:=by
 obtain ⟨l1,e1⟩:=List.getElem?_eq_some_iff.mp h1
 obtain ⟨l2,e2⟩:=List.getElem?_eq_some_iff.mp h2
 refine (List.getElem_inj (xs:=us.map RowI.name) (h₀:=by simpa using l1) (h₁:=by simpa using l2) h).mp ?_
 rw [List.getElem_map,List.getElem_map,e1,e2,e]
section
variable {P:Program}{w:World}{K:PySem.W.Frag}{mg:Str→Option Value}{base:Heap}
theorem scRowCalled:FnScope ["roll","name","row"] ["roll","name"] (defScope sRowCalled):=⟨rfl,rfl,rfl,by decide,rfl,by decide,by decide⟩
theorem ok_rowCalled {f:Addr}{fd:FuncData} (F:Fun K "row_called" "row_called" sRowCalled f fd):FnOk P w K mg base CX0 1 f fd ["roll","name"] spRowCalled:=by
 refine F.ok scRowCalled (fun vs H Q E h=>?_) (fun cdv A outer s H vs Q E hr h=>?_)
 ·obtain ⟨t,rw,ws,us,ys,j,u,rfl,_⟩:=h
  rfl
 ·obtain ⟨t,rw,ws,us,ys,j,u,rfl,roll,hrw,hnd,hu,k⟩:=h
  have nd:=scRowCalled.nd
  refine ⟨_,pss_cons (ps_for PassesOwn.never rfl (pi_tup (pe_ix ix_tup (pv 0) pe_int (fun _ _=>rfl))) (g:=gName 2) (pg_name (i:=2) nd rfl (Or.inl rfl))
    (pss_one (ps_if (pt_cmpR op_eq (pe_ix ix_tup (pv 2) pe_int (fun _ _=>rfl)) (pv 1) (nomark _)) (pss_one (ps_ret (pv 2))) pss_nil)))
   pss_never,?_⟩
  obtain ⟨lay,xs,ds,ys',h1,h2,h3,h4,h5,h6,h7,h8,h9⟩:=roll.ex
  rw [hrw] at h7
  cases h7
  have hl:=h8.len
  refine ⟨_,rfl,t,_,1,_,rfl,rfl,SqT.of h1,rfl,rw,rfl,⟨_,SqT.of hrw⟩,?_⟩
  refine for_tup (K:=K) (xs:=ys) (fun i σ H'=>∃ (o2:Option V),σ=[some (.ref t),some (.str u.name),o2]∧H=H'∧i≤j) ⟨none,rfl,rfl,Nat.zero_le _⟩ (fun i σ H' _ p=>by obtain ⟨_,_,rfl,_⟩:=p;exact SqT.of hrw) ?_ ?_
  ·rintro i v σ H' hv ⟨o2,rfl,rfl,hij⟩
   obtain ⟨r,hr',rdv,ok⟩:=h8.at' i v hv
   obtain ⟨tr,rest,rfl,htr,hrest⟩:=RowI.Ok.tup (fs:=ws) rdv
   have a1:atI (V.str r.word :: .str r.name :: .int r.day :: rest) 1=some (.str r.name):=by
    unfold atI ixN
    rw [if_pos (by decide),if_pos (by simp only [List.length_cons];omega)]
    rfl
   dsimp only [gName]
   refine ⟨_,rfl,tr,_,1,_,rfl,rfl,SqT.of htr,a1,_,rfl,rfl,_,rfl,?_⟩
   by_cases e:r.name=u.name
   ·rw [e,decide_eq_true rfl]
    obtain rfl:=name_at hnd hr' hu e
    exact iteT ⟨_,rfl,k _ hv⟩
   ·rw [decide_eq_false (fun z=>e (by injection z))]
    refine iteF ⟨_,rfl,rfl,?_⟩
    by_cases z:i=j
    ·subst z
     rw [hu] at hr'
     cases hr'
     exact absurd rfl e
    ·omega
  ·rintro σ H' ⟨o2,rfl,rfl,hij⟩
   have:=(List.getElem?_eq_some_iff.mp hu).1
   omega
end
end K37
namespace K37
open PySem L2
theorem part_okS {R:List P3}:∀ e∈R.map pD,OkS 1 e:=fun e he=>by
 obtain ⟨x,_,rfl⟩:=List.mem_map.mp he
 refine .inr (.inr ⟨_,rfl,fun y hy=>?_⟩)
 simp only [List.mem_cons,List.not_mem_nil,or_false] at hy
 rcases hy with rfl | rfl | rfl
 ·exact .str _ _
 ·exact .str _ _
 ·exact .int _ _
theorem row_okS {r:RowI}{fs:List Str} (h:r.Ok fs):OkS 3 r.d:=by
 unfold RowI.d rowDat
 refine .inr (.inr ⟨_,rfl,fun e he=>?_⟩)
 rcases List.mem_cons.mp he with rfl | he
 ·exact .str _ _
 rcases List.mem_cons.mp he with rfl | he
 ·exact .str _ _
 rcases List.mem_cons.mp he with rfl | he
 ·exact .int _ _
 have rs:=h.rs
 revert he
 generalize r.ds=ds at rs ⊢
 generalize r.word=wd at rs
 intro he
 cases rs with
 | part=>
  simp only [List.mem_cons,List.not_mem_nil,or_false] at he
  rcases he with rfl | rfl
  ·exact .str _ _
  ·exact .inr (.inr ⟨_,rfl,part_okS⟩)
 | join=>
  simp only [List.mem_cons,List.not_mem_nil,or_false] at he
  rcases he with rfl | rfl
  ·refine .inr (.inr ⟨_,rfl,fun y hy=>?_⟩)
   obtain ⟨z,_,rfl⟩:=List.mem_map.mp hy
   exact .str _ _
  ·exact .str _ _
 | _=>
  simp only [List.mem_cons,List.not_mem_nil,or_false] at he
  first
   | (rcases he with rfl | rfl | rfl | rfl <;> first | exact .str _ _ | exact .int _ _)
   | (rcases he with rfl | rfl | rfl <;> first | exact .str _ _ | exact .int _ _)
   | (rcases he with rfl | rfl <;> first | exact .str _ _ | exact .int _ _)
   | (subst he;first | exact .str _ _ | exact .int _ _)
theorem rows_rds {H:Hp}{ws:List Str}:∀ {ys:List V}{us:List RowI},RowsAt H ys us ws→RdVs false H ys (us.map RowI.d)
 | [],[],_=>.nil
 | [],u :: us,h=>by have:=h.len;simp at this
 | y :: ys,[],h=>by have:=h.len;simp at this
 | y :: ys,u :: us,h=>by
  obtain ⟨u',h1,h2,_⟩:=h.at' 0 y rfl
  cases h1
  refine .cons h2 (rows_rds (ws:=ws) ⟨by have:=h.len;simpa using this,fun i x hx=>?_⟩)
  obtain ⟨v,h3,h4⟩:=h.at' (i + 1) x hx
  exact ⟨v,h3,h4⟩
def spRing (T:Addr):Sp:=fun vs H Q _=>∃ (t rw:Addr) (ws:List Str) (us:List RowI) (j:Nat) (u:RowI) (a b:Str),vs=[.ref t,.str u.name]∧RollAt H t rw ws us∧(us.map RowI.name).Nodup∧us[j]?=some u∧u.word="mend"∧u.ds=[.str a,.str b]∧Tb T H∧
 ∀ H',SameT T H H'→Tb T H'→(a ∉ rd (menM us j) b→Q .non H')∧∀ (L:Addr) (k:Nat),(rd (menM us j) b)[k]?=some a→(∀ i,i < k→(rd (menM us j) b)[i]?≠some a)→H L=none→H' L=some (.lst ((a :: (rd (menM us j) b).take (k + 1)).map V.str))→Q (.ref L) H'
section
variable {P:Program}{w:World}{K:PySem.W.Frag}{mg:Str→Option Value}{base:Heap}
theorem scRing:FnScope ["roll","name","row","house","other","moment","way"] ["roll","name"] (defScope sRing):=⟨rfl,rfl,rfl,by decide,rfl,by decide,by decide⟩
end
end K37
namespace K37
open PySem L2
section
variable {P:Program}{w:World}{K:PySem.W.Frag}{mg:Str→Option Value}{base:Heap}
theorem ok_ring {f fC fB fR fD C T:Addr}{fd fdC fdB fdR fdD:FuncData} (F:Fun K "ring" "ring" sRing f fd) (hc:MC K C)
  (GC:FnOk P w K mg base CX0 1 fC fdC ["roll","name"] spRowCalled) (mC:mg "row_called"=some (.ref fC)) (kC:PySem.W.keepIn K (.ref fC)=true) (bC:Binds K fdC ["roll","name"] [])
  (GB:FnOk P w K mg base CX0 7 fB fdB ["roll","at"] (spBehind C T)) (mB:mg "moment_behind"=some (.ref fB)) (kB:PySem.W.keepIn K (.ref fB)=true) (bB:Binds K fdB ["roll","at"] [])
  (GR:FnOk P w K mg base CX0 1 fR fdR ["menders","house"] spRoad) (mR:mg "road_from"=some (.ref fR)) (kR:PySem.W.keepIn K (.ref fR)=true) (bR:Binds K fdR ["menders","house"] [])
  (GD:FnOk P w K mg base CX0 6 fD fdD ["moment","row"] (spDeed C T words8)) (mD:mg "carry_out"=some (.ref fD)) (kD:PySem.W.keepIn K (.ref fD)=true) (bD:Binds K fdD ["moment","row"] []):
  FnOk P w K mg base CX0 8 f fd ["roll","name"] (spRing T):=by
 refine F.ok scRing (fun vs H Q E h=>?_) (fun cdv A outer s H vs Q E hr h=>?_)
 ·obtain ⟨t,rw,ws,us,j,u,a,b,rfl,_⟩:=h
  rfl
 ·obtain ⟨t,rw,ws,us,j,u,a,b,rfl,roll,hnd,hu,hw,hd,tb,k⟩:=h
  have nd:=scRing.nd
  have hr1:Room 1 _:=hr.mono (by decide)
  have hr6:Room 6 _:=hr.mono (by decide)
  have hun:(A.deeper (PyProof.Rows.envOfC "ring" (defScope sRing) s.heap.objs.size f cdv)).units + 4 * 3 + 8 < cLine:=by have:=hr.units;omega
  refine ⟨_,pss_cons (ps_set (i:=2) nd rfl (Or.inl rfl) (pe_call GC hr1 rfl mC kC bC .nil pass0 (pa_c (pv 0) (pa_c (pv 1) pa_nil))))
   (pss_cons (ps_if (pt_cmpR op_ne (pe_ix ix_tup (pv 2) pe_int (fun _ _=>rfl)) pe_str (nomark _)) pss_never pss_nil)
   (pss_cons (ps_par (i:=3) (j:=4) rfl nd rfl rfl (by decide) rfl rfl (pa_c (pe_ix ix_tup (pv 2) pe_int (fun _ _=>rfl)) (pa_c (pe_ix ix_tup (pv 2) pe_int (fun _ _=>rfl)) pa_nil)) rfl)
   (pss_cons (ps_set (i:=5) nd rfl (Or.inl rfl) (pe_call GB hr rfl mB kB bB .nil pass0 (pa_c (pv 0) (pa_c (pe_bm PySem.F.plainAttrs_tuple PySem.F.slot_tuple_index PySem.F.type_tuple_index (mt_tupIndex (n:=3) hun) (pe_ix ix_tup (pv 0) pe_int (fun _ _=>rfl)) (pa_c (pv 2) pa_nil)) pa_nil))))
   (pss_cons (ps_set (i:=6) nd rfl (Or.inl rfl) (pe_call GR hr1 rfl mR kR bR .nil pass0 (pa_c (pe_fld (pv 5) rfl) (pa_c (pv 4) pa_nil))))
   (pss_cons (ps_if (pt_cmpR op_eq (pe_call GD hr6 rfl mD kD bD .nil pass0 (pa_c (pv 5) (pa_c (pv 2) pa_nil))) pe_str (nomark _)) (pss_one (ps_ret pe_non)) pss_nil)
   (pss_one (ps_ret (pe_op op_cat (pe_lst (pa_c (pv 3) pa_nil)) (pe_slice sl_list (pv 6) po_none (po_some (pe_op op_add (pe_bm PySem.F.plainAttrs_list PySem.F.slot_list_index PySem.F.type_list_index mt_lstIndexS (pv 6) (pa_c (pv 3) pa_nil)) pe_int))))))))))),?_⟩
  obtain ⟨lay,xs,ds,ys,h1,h2,h3,h4,h5,h6,h7,h8,h9⟩:=roll.ex
  have hl:=h8.len
  refine ⟨_,rfl,_,rfl,t,rw,ws,us,ys,j,u,rfl,roll,h7,hnd,hu,fun x hx=>?_⟩
  obtain ⟨u',hu',rdx,oku⟩:=h8.at' j x hx
  rw [hu] at hu'
  cases hu'
  obtain ⟨tr,rest,rfl,htr,hrest⟩:=RowI.Ok.tup (fs:=ws) rdx
  rw [hd] at hrest
  cases hrest with
  | cons q1 hrest=>
  cases hrest with
  | cons q2 hrest=>
  cases hrest
  cases q1
  cases q2
  have htr':=htr
  rw [hw] at htr'
  refine ⟨_,rfl,tr,_,0,_,rfl,rfl,SqT.of htr',rfl,rfl,_,rfl,?_⟩
  rw [decide_eq_true rfl]
  refine iteF ?_
  refine ⟨_,rfl,tr,_,3,_,rfl,rfl,SqT.of htr',rfl,_,rfl,tr,_,4,_,rfl,rfl,SqT.of htr',rfl,_,_,rfl,?_⟩
  have okall:∀ e∈us.map RowI.d,OkS 3 e:=fun e he=>by
   obtain ⟨v,hv,rfl⟩:=List.mem_map.mp he
   obtain ⟨i,hi⟩:=List.getElem?_of_mem hv
   obtain ⟨y,hy⟩:∃ y,ys[i]?=some y:=⟨_,List.getElem?_eq_getElem (by have:=(List.getElem?_eq_some_iff.mp hi).1;omega)⟩
   obtain ⟨v',h10,_,h11⟩:=h8.at' i y hy
   rw [hi] at h10
   cases h10
   exact row_okS h11
  have hj:(us.map RowI.d)[j]?=some u.d:=by rw [List.getElem?_map,hu];rfl
  have hno:∀ i,i < j→(us.map RowI.d)[i]?≠some u.d:=fun i hi e=>by
   rw [List.getElem?_map] at e
   obtain ⟨v,hv,e2⟩:=Option.map_eq_some_iff.mp e
   have e3:v.name=u.name:=by
    unfold RowI.d rowDat at e2
    injection e2 with e2
    injection e2 with _ e2
    injection e2 with e2 _
    injection e2
   have:=name_at hnd hv hu e3
   omega
  refine ⟨_,rfl,_,rfl,t,_,1,_,rfl,rfl,SqT.of h1,rfl,.inr (.inr (.inr (.inr ⟨rfl,_,h7⟩))),_,rfl,rw,ys,us.map RowI.d,_,u.d,j,rfl,rfl,h7,rows_rds h8,rdx,okall,row_okS oku,hj,hno,?_⟩
  refine ⟨t,rw,ws,us,j,rfl,roll,tb,fun M MA H1 f1 f2 f3 S1 tb1 mom=>?_⟩
  have T1:=sameT_tups S1 tb
  refine ⟨_,rfl,M,C,_,_,_,rfl,mom.ins,hc.cl,hc.m,rfl,_,rfl,MA.me,b,menM us j,rfl,mom.me,mom.ac,by have:=mom.ml;omega,fun Lw H2 hLw S2 eLw=>?_⟩
  have mom2:=mom.same S2
  have tb2:Tb T H2:=tb1.same S2
  have rd2:=(oku.on rdx T1).same S2
  refine ⟨_,rfl,_,rfl,M,MA,ws,248,menM us j,_,u,rfl,mom2,by decide,tb2,rd2,oku,oku.rs.word,fun z H3 tl k3 tb3 mom3=>?_⟩
  have hz:=tl.1 a b hw hd
  have hLwT:Lw ∉ [T,MA.h,MA.i,MA.me]:=fun q=>by
   obtain ⟨ps,hT,_⟩:=tb2.ex
   obtain ⟨hol,bb,hh,_⟩:=mom2.h
   obtain ⟨inc,hi,_⟩:=mom2.i
   simp only [List.mem_cons,List.not_mem_nil,or_false] at q
   rcases q with q | q | q | q <;> rw [q] at eLw
   ·rw [hT] at eLw;cases eLw
   ·rw [hh] at eLw;cases eLw
   ·rw [hi] at eLw;cases eLw
   ·rw [mom2.me] at eLw;cases eLw
  have eLw3:=k3 _ _ hLwT eLw
  have S3:SameT T H H3:=fun c o n e=>k3 c o (fun q=>by
   simp only [List.mem_cons,List.not_mem_nil,or_false] at q
   rcases q with q | q | q | q
   ·exact n q
   ·rw [q,f1] at e;cases e
   ·rw [q,f2] at e;cases e
   ·rw [q,f3] at e;cases e) (S2 _ _ (S1 c o n e))
  have hrd:=mom.ac.rd b
  have hlen:=hrd.len
  have hml:=mom.ml
  refine ⟨rfl,_,rfl,?_⟩
  by_cases g:a∈rd (menM us j) b
  ·rw [if_pos g] at hz
   subst hz
   refine iteF ?_
   obtain ⟨k0,hk0⟩:=List.getElem?_of_mem g
   have hno':∀ i,i < k0→(rd (menM us j) b)[i]?≠some a:=fun i hi e=>by
    have:=(List.getElem?_inj (by have:=(List.getElem?_eq_some_iff.mp hk0).1;omega) hrd.nodup).mp (e.trans hk0.symm)
    omega
   have hk1:=(List.getElem?_eq_some_iff.mp hk0).1
   refine ⟨_,rfl,sizeLine_big (by show 1≤1000000;decide),fun L1 hL1=>?_⟩
   have s1:=Same.new (o:=.lst [V.str a]) hL1
   refine ⟨_,rfl,_,rfl,.inl ⟨rfl,_,SqL.of (s1 _ _ eLw3)⟩,_,rfl,Lw,_,a,k0,rfl,rfl,s1 _ _ eLw3,by omega,hk0,hno',_,_,rfl,rfl,_,rfl,Lw,_,rfl,SqL.of (s1 _ _ eLw3),fun L2 hL2=>?_⟩
   rw [show ((k0:Int) + 1)=((k0 + 1:Nat):Int) by omega,cut_to (α:=Nat)] at *
   have s2:=Same.new (o:=.lst (((rd (menM us j) b).map V.str).take (k0 + 1))) hL2
   refine ⟨L1,L2,_,_,rfl,rfl,s2 _ _ upd_same,upd_same,?_,fun L3 hL3=>?_⟩
   ·refine sizeLine_big ?_
    simp only [List.length_cons,List.length_nil,List.length_take,List.length_map]
    omega
   ·have s3:=Same.new (o:=.lst ([V.str a] ++ ((rd (menM us j) b).map V.str).take (k0 + 1))) hL3
    have S4:=((s1.trans s2).trans s3)
    refine (k _ (fun c o n e=>S4 _ _ (S3 c o n e)) (tb3.same S4)).2 L3 k0 hk0 hno' ?_ ?_
    ·cases q:H L3 with
     | none=>rfl
     | some o=>
      by_cases e:L3=T
      ·obtain ⟨ps,hT,_⟩:=tb3.ex
       rw [e,s2 _ _ (s1 _ _ hT)] at hL3
       cases hL3
      ·rw [s2 _ _ (s1 _ _ (S3 _ _ e q))] at hL3
       cases hL3
    ·rw [upd_same]
     simp [List.map_take]
  ·rw [if_neg g] at hz
   subst hz
   exact iteT ((k H3 S3 tb3).1 g)
end
end K37
namespace K37
open PySem L2
def spWords (T:Addr):Sp:=fun vs H Q _=>∃ (t rw:Addr) (ws:List Str) (us:List RowI),vs=[.ref t]∧RollAt H t rw ws us∧Tb T H∧
 ∀ (D:Addr) (zs:List Str) H',H D=none→SameT T H H'→Tb T H'→H' D=some (.lst (zs.map V.str))→zs.length=us.length→(∀ (i:Nat) (u:RowI) (z:Str),us[i]?=some u→zs[i]?=some z→tell (menM us i) u z)→Q (.ref D) H'
def spRoadsRight (T:Addr):Sp:=fun vs H Q _=>∃ (t rw lh:Addr) (ws hs:List Str) (us:List RowI) (n:Nat),vs=[.ref t,.int n,.ref lh]∧RollAt H t rw ws us∧Tb T H∧H lh=some (.lst (hs.map V.str))∧hs.length≤1000∧
 ∀ H',SameT T H H'→Tb T H'→Q (.bl true) H'
theorem sameT_lst {T a:Addr}{xs:List V}{H H':Hp} (s:SameT T H H') (g:Tb T H) (h:H a=some (.lst xs)):H' a=some (.lst xs):=s _ _ (fun z=>by
 obtain ⟨ps,hT,_⟩:=g.ex
 rw [z,hT] at h
 cases h) h
theorem at0 (x:V) (xs:List V):atI (x :: xs) 0=some x:=by
 unfold atI ixN
 rw [if_pos (by decide),if_pos (by simp only [List.length_cons];omega)]
 rfl
theorem menM_succ {us:List RowI}{i:Nat}{u:RowI} (hu:us[i]?=some u):menM us (i + 1)=stepM (menM us i) u:=by
 unfold menM
 rw [List.take_add_one,hu,List.foldl_append]
 rfl
theorem Ends.drop {m:Mnd}{h:Str}{l:List Str} (e:Ends m h l):∀ (k:Nat) (x:Str),l[k]?=some x→Ends m x (l.drop k):=by
 induction e with
 | @stop h e=>
  intro k x hx
  cases k with
  | zero=>cases hx;exact .stop e
  | succ k=>cases hx
 | @on h o l e r ih=>
  intro k x hx
  cases k with
  | zero=>cases hx;exact .on e r
  | succ k=>exact ih k x hx
section
variable {P:Program}{w:World}{K:PySem.W.Frag}{mg:Str→Option Value}{base:Heap}
theorem scWords:FnScope ["roll","laying","rows","moment"] ["roll"] (defScope sWords):=⟨rfl,rfl,rfl,by decide,rfl,by decide,by decide⟩
theorem ok_words {f fD fI C T:Addr}{fd fdD fdI:FuncData} (F:Fun K "words" "words" sWords f fd) (mk:Mk K C fI) (GI:FnOk P w K mg base CX0 1 fI fdI ["self","laying"] (spInit C)) (mC:mg "Moment"=some (.ref C)) (bI:Binds K fdI ["self","laying"] [])
  (GD:FnOk P w K mg base CX0 6 fD fdD ["moment","row"] (spDeed C T words8)) (mD:mg "carry_out"=some (.ref fD)) (kD:PySem.W.keepIn K (.ref fD)=true) (bD:Binds K fdD ["moment","row"] [])
  :FnOk P w K mg base CX0 7 f fd ["roll"] (spWords T):=by
 refine F.ok scWords (fun vs H Q E h=>?_) (fun cdv A outer s H vs Q E hr h=>?_)
 ·obtain ⟨t,rw,ws,us,rfl,_⟩:=h
  rfl
 ·obtain ⟨t,rw,ws,us,rfl,roll,tb,k⟩:=h
  have hr2:Room 2 _:=hr.mono (by decide)
  have nd:=scWords.nd
  refine ⟨_,(pss_cons (ps_asg (pv 0) (pg_tup rfl (pgs_cons (pg_name (i:=1) nd rfl (Or.inl rfl)) (pgs_cons (pg_name (i:=2) nd rfl (Or.inl rfl)) pgs_nil))))
   (pss_cons (ps_set (i:=3) nd rfl (Or.inr rfl) (pe_make mk GI hr2 rfl mC bI .nil pass0 (pa_c (pv 1) pa_nil)))
   (pss_one (ps_ret (pe_comp (N:=["row","moment"]) (src:=[none,some 3]) (osc:=defScope sWords) (oN:=["roll","laying","rows","moment"]) ⟨by rfl,by decide,by decide,by decide,rfl,by rfl⟩ (pi_tup (pv 2)) (fun cl s H fp pins C=>⟨pg_name (i:=0) (show (["row","moment"]:List Str).Nodup by decide) rfl (Or.inl rfl),pts_nil,pe_call GD hr rfl mD kD bD .nil pass0 (pa_c (pv 1) (pa_c (pv 0) pa_nil))⟩)))))),?_⟩
  obtain ⟨lay,xs,ds,ys,h1,h2,h3,h4,h5,h6,h7,h8,h9⟩:=roll.ex
  refine ⟨_,rfl,t,_,rfl,SqT.of h1,rfl,_,_,rfl,_,_,rfl,rfl,?_⟩
  refine ⟨_,rfl,fun x dx hx hdx ne=>?_⟩
  have s1:=Same.new (o:=.own x) hdx
  have s2:=Same.new (H:=upd H dx (.own x)) (o:=.ins C dx []) (p:=x) (by rw [upd_ne (Ne.symm ne)];exact hx)
  have s12:=s1.trans s2
  have ex:upd (upd H dx (.own x)) x (.ins C dx []) x=some (.ins C dx []):=upd_same
  generalize upd (upd H dx (.own x)) x (.ins C dx [])=H0 at s12 ex ⊢
  clear s2
  refine ⟨x,dx,lay,xs,ds,ws,rfl,ex,s12 _ _ h2,h3.same s12,h4,h5,h6,fun MA H1 k1 n1 n2 n3 mom=>⟨rfl,?_⟩⟩
  have f:∀ {a:Addr},H0 a=none→H a=none:=fun {a} z=>by
   cases q:H a with
   | none=>rfl
   | some o=>rw [s12 _ _ q] at z;cases z
  have f1:=f n1
  have f2:=f n2
  have f3:=f n3
  have S1:SameT T H H1:=fun b o _ e=>k1 b o (s12 _ _ e) (ne_of_none e hx)
  have tb1:Tb T H1:=tb_but (tb.same s12) ex k1
  have h71:=sameT_tups S1 tb _ _ h7
  refine ⟨_,rfl,rw,rfl,⟨_,SqT.of h71⟩,?_⟩
  refine comp_tup (K:=K) (xs:=ys) (fun i zs' σ' H'=>∃ (o1:Option V) (zs:List Str),σ'=[o1,some (.ref x)]∧zs'=zs.map V.str∧zs.length=i∧SameT T H H'∧Tb T H'∧Mom H' C x MA ws (8 + 6 * i) (menM us i)∧(∀ (j:Nat) (u:RowI) (z:Str),us[j]?=some u→zs[j]?=some z→tell (menM us j) u z)) ⟨none,[],rfl,rfl,rfl,S1,tb1,mom,fun j u z _ e=>by simp at e⟩ (sizeLine_big (by have:=h8.len;omega)) (fun i ys σ H p=>by obtain ⟨_,zs,_,e,e2,_⟩:=p;rw [e,List.length_map];omega) (fun i _ σ H' p=>by obtain ⟨_,_,_,_,_,S,_⟩:=p;exact SqT.of (sameT_tups S tb _ _ h7)) ?_ ?_
  ·rintro i v zs' σ H3 hv ⟨o1,zs,rfl,rfl,hzl,S3,tb3,mom3,hz⟩
   have hi:i < ys.length:=(List.getElem?_eq_some_iff.mp hv).1
   have hl:=h8.len
   obtain ⟨u,hu,rdu,oku⟩:=h8.at' i v hv
   have T3:=sameT_tups S3 tb
   dsimp only [gName]
   refine iteT ?_
   refine ⟨_,rfl,_,rfl,x,MA,ws,8 + 6 * i,_,v,u,rfl,mom3,by omega,tb3,oku.on rdu T3,oku,oku.rs.word,fun z H4 tl k4 tb4 mom4=>?_⟩
   refine ⟨_,zs ++ [z],rfl,by simp,by simp [hzl],fun b o nb e=>k4 b o (fun z=>?_) (S3 b o nb e),tb4,?_,?_⟩
   ·simp only [List.mem_cons,List.not_mem_nil,or_false] at z
    rcases z with z | z | z | z
    ·exact nb z
    ·rw [z,f1] at e;cases e
    ·rw [z,f2] at e;cases e
    ·rw [z,f3] at e;cases e
   ·rw [menM_succ hu]
    exact mom4
   ·intro j u' z' hu' hz'
    rw [List.getElem?_append] at hz'
    split at hz'
    ·exact hz j u' z' hu' hz'
    ·rename_i hj
     have hj2:j - zs.length=0:=by
      have:=(List.getElem?_eq_some_iff.mp hz').1
      simp at this
      omega
     rw [hj2] at hz'
     cases hz'
     have hij:j=i:=by omega
     subst hij
     rw [hu] at hu'
     cases hu'
     exact tl
  ·rintro zs' σ H3 ⟨o1,zs,rfl,rfl,hzl,S3,tb3,mom3,hz⟩ D hD
   exact k D zs _ (none_of tb3 S3 hD) (sameT_new S3 (none_of tb3 S3 hD)) (tb3.same (Same.new hD)) upd_same (by have:=h8.len;omega) hz
theorem scRoadsRight:FnScope ["_law_roll","_law_at","_law_houses","_law_house","_law_way","_law_k"] ["_law_roll","_law_at","_law_houses"] (defScope sRoadsRight):=⟨rfl,rfl,rfl,by decide,rfl,by decide,by decide⟩
theorem ok_roadsRight {f fR fM T:Addr}{fd fdR fdM:FuncData} (F:Fun K "_law_roads_right" "_law_roads_right" sRoadsRight f fd) (hlen:mg "len"=none) (hset:mg "set"=none) (hrng:mg "range"=none)
  (GR:FnOk P w K mg base CX0 8 fR fdR ["roll","at","house"] (spRoadR T)) (mR:mg "road"=some (.ref fR)) (kR:PySem.W.keepIn K (.ref fR)=true) (bR:Binds K fdR ["roll","at","house"] [])
  (GM:FnOk P w K mg base CX0 9 fM fdM ["roll","at","house"] (spMends T)) (mM:mg "mends"=some (.ref fM)) (kM:PySem.W.keepIn K (.ref fM)=true) (bM:Binds K fdM ["roll","at","house"] [])
  :FnOk P w K mg base CX0 10 f fd ["_law_roll","_law_at","_law_houses"] (spRoadsRight T):=by
 refine F.ok scRoadsRight (fun vs H Q E h=>?_) (fun cdv A outer s H vs Q E hr h=>?_)
 ·obtain ⟨t,rw,lh,ws,hs,us,n,rfl,_⟩:=h
  rfl
 ·obtain ⟨t,rw,lh,ws,hs,us,n,rfl,roll,tb,hlh,h1000,k⟩:=h
  have hr8:Room 8 _:=hr.mono (by decide)
  have hu:_ < _:=hr.units0
  have nd:=scRoadsRight.nd
  refine ⟨_,(pss_cons (ps_for PassesOwn.never rfl (pi_list (pv 2)) (g:=gName 3) (pg_name (i:=3) nd rfl (Or.inl rfl))
   (pss_cons (ps_set (i:=4) nd rfl (Or.inl rfl) (pe_call GR hr8 rfl mR kR bR .nil pass0 (pa_c (pv 0) (pa_c (pv 1) (pa_c (pv 3) pa_nil)))))
    (pss_cons (ps_if (PW.pt (pw_or (pt_cmpR op_ne (pe_callB call_lenS (by rfl) hlen PySem.boot_len (pa_c (pe_callTy (call_setS rfl) (by rfl) hset (by kernel_rfl) (pa_c (pv 4) pa_nil)) pa_nil)) (pe_callB call_len_seq (by rfl) hlen PySem.boot_len (pa_c (pv 4) pa_nil)) (nomark _)) (pw_or (pt_cmpR op_ne (pe_ix ix_list (pv 4) pe_int (fun _ _=>rfl)) (pv 3) (nomark _)) (pw_or1 (pt_cmpR op_ne (pe_call GM hr rfl mM kM bM .nil pass0 (pa_c (pv 0) (pa_c (pv 1) (pa_c (pv 3) pa_nil)))) (pe_ix ix_list (pv 4) (pe_un un_neg pe_int) (fun _ _=>rfl)) (nomark _)))))) (pss_one (ps_ret pe_bl)) pss_nil)
    (pss_one (ps_for PassesOwn.never rfl (pi_range1 rfl hrng (pa_c (pe_callB call_len_seq (by rfl) hlen PySem.boot_len (pa_c (pv 4) pa_nil)) pa_nil)) (g:=gName 5) (pg_name (i:=5) nd rfl (Or.inl rfl))
    (pss_one (ps_if (pt_cmpR (op_neL hu) (pe_call GR hr8 rfl mR kR bR .nil pass0 (pa_c (pv 0) (pa_c (pv 1) (pa_c (pe_ix ix_list (pv 4) (pv 5) (fun _ _=>rfl)) pa_nil)))) (pe_slice sl_list (pv 4) (po_some (pv 5)) po_none) (nomark _)) (pss_one (ps_ret pe_bl)) pss_nil)))))))
   (pss_one (ps_ret pe_bl))),?_⟩
  refine ⟨_,rfl,lh,rfl,⟨_,SqL.of hlh⟩,?_⟩
  refine for_list (K:=K) (xs:=hs.map V.str) (fun i σ H'=>∃ (o3 o4 o5:Option V),σ=[some (.ref t),some (.int n),some (.ref lh),o3,o4,o5]∧SameT T H H'∧Tb T H') ⟨none,none,none,rfl,SameT.refl H,tb⟩ (fun i σ H' _ p=>by obtain ⟨_,_,_,_,S,_⟩:=p;exact SqL.of (sameT_lst S tb hlh)) ?_ ?_
  ·rintro i v σ H1 hv ⟨o3,o4,o5,rfl,S1,tb1⟩
   rw [List.getElem?_map] at hv
   obtain ⟨h,hh,rfl⟩:=Option.map_eq_some_iff.mp hv
   dsimp only [gName]
   refine ⟨_,rfl,_,rfl,_,rfl,t,rw,ws,us,n,h,rfl,roll.on (sameT_tups S1 tb),tb1,fun L H2 hL S2 tb2 ac ml eL=>?_⟩
   have hrd:=ac.rd h
   have hll:=hrd.len
   have hnd:=hrd.nodup
   generalize hway:rd (menM us n) h=way at hrd hll hnd eL
   have S12:=S1.trans S2
   refine ⟨_,rfl,L,way,rfl,SqL.of eL,by omega,fun SS hSS=>?_⟩
   have sS:=Same.new (o:=setS P w SS way) hSS
   refine ⟨SS,way,rfl,upd_same,by omega,_,rfl,L,_,rfl,.inl (SqL.of (sS _ _ eL)),rfl,_,rfl,?_⟩
   have e0:=set_count way
   rw [decide_eq_true hnd] at e0
   have e1:(V.int ((metS (fun i=>way.getD i "") way.length).length:Nat))=V.int ((way.map V.str).length:Nat):=by
    rw [List.length_map,of_decide_eq_true e0]
   rw [e1,decide_eq_true rfl]
   refine iteF ?_
   obtain ⟨l',hl'⟩:∃ l',way=h :: l':=by cases hrd <;> exact ⟨_,rfl⟩
   have S3:=S12.trans (sS.butT (T:=T))
   have tb3:Tb T _:=tb2.same sS
   have eL3:=sS _ _ eL
   refine ⟨_,rfl,L,_,0,_,rfl,rfl,SqL.of eL3,(show atI (way.map V.str) 0=some (.str h) by rw [hl'];exact at0 _ _),_,rfl,rfl,_,rfl,?_⟩
   rw [decide_eq_true rfl]
   refine iteF ?_
   refine ⟨_,rfl,_,rfl,_,rfl,t,rw,ws,us,n,h,rfl,roll.on (sameT_tups S3 tb),tb3,fun pre x H4 S4 tb4 er=>?_⟩
   have eL4:=sameT_lst S4 tb3 eL3
   refine ⟨_,rfl,_,rfl,L,_,-1,_,rfl,rfl,SqL.of eL4,(show atI (way.map V.str) (-1)=some (.str x) by rw [← hway,er,List.map_append];exact atI_last _ _),rfl,_,rfl,?_⟩
   rw [decide_eq_true rfl]
   refine iteF ?_
   refine ⟨_,rfl,L,_,rfl,.inl (SqL.of eL4),_,rfl,?_⟩
   have S04:=S3.trans S4
   refine ⟨by rw [List.length_map];omega,by rw [List.length_map];omega,?_⟩
   rw [show (((way.map V.str).length:Nat):Int).toNat=way.length by rw [List.length_map];omega]
   refine for_range (n:=way.length) (fun i σ H'=>∃ (o5:Option V),σ=[some (.ref t),some (.int n),some (.ref lh),some (.str h),some (.ref L),o5]∧SameT T H H'∧Tb T H'∧H' L=some (.lst (way.map V.str))) ⟨o5,rfl,S04,tb4,eL4⟩ ?_ ?_
   ·rintro k2 σ H5 hk2 ⟨o5,rfl,S5,tb5,eL5⟩
    dsimp only [gName]
    obtain ⟨y,hy⟩:∃ y,way[k2]?=some y:=⟨_,List.getElem?_eq_getElem hk2⟩
    have e5:rd (menM us n) y=way.drop k2:=(hrd.drop k2 y hy).rd
    refine ⟨_,rfl,_,rfl,_,rfl,_,rfl,L,_,_,_,rfl,rfl,SqL.of eL5,(show atI (way.map V.str) (0 + (k2:Int))=some (.str y) by rw [Int.zero_add];exact atI_nat (by rw [List.getElem?_map,hy];rfl)),t,rw,ws,us,n,y,rfl,roll.on (sameT_tups S5 tb),tb5,fun L6 H6 hL6 S6 tb6 _ _ eL6=>?_⟩
    have eLw6:=sameT_lst S6 tb5 eL5
    refine ⟨_,rfl,_,rfl,_,rfl,L,_,rfl,SqL.of eLw6,fun L7 hL7=>?_⟩
    rw [show (0 + (k2:Int))=(k2:Int) by omega,cut_from (α:=Nat),← List.map_drop]
    have s7:=Same.new (o:=.lst ((way.drop k2).map V.str)) hL7
    refine ⟨L6,L7,_,_,rfl,rfl,SqL.of (s7 _ _ eL6),SqL.of upd_same,flat_strs _,flat_strs _,_,rfl,?_⟩
    rw [e5,eqVs_strs]
    refine iteF ?_
    exact ⟨_,rfl,(S5.trans S6).trans s7.butT,tb6.same s7,s7 _ _ eLw6⟩
   ·rintro σ H5 ⟨o5,rfl,S5,tb5,eL5⟩
    exact ⟨_,_,_,rfl,S5,tb5⟩
  ·rintro σ H1 ⟨o3,o4,o5,rfl,S1,tb1⟩
   exact k H1 S1 tb1
end
end K37
namespace K37
open PySem L2
def spStepRight (T:Addr):Sp:=fun vs H Q _=>∃ (t rw lh:Addr) (ws hs:List Str) (us:List RowI) (n:Nat) (u:RowI) (z:Str),vs=[.ref t,.int n,.ref lh,.str z]∧RollAt H t rw ws us∧(us.map RowI.name).Nodup∧Tb T H∧H lh=some (.lst (hs.map V.str))∧hs.length≤1000∧us[n]?=some u∧tell (menM us n) u z∧
 ∀ H',SameT T H H'→Tb T H'→Q (.bl true) H'
theorem rd_mend {m:Mnd}{a b:Str} (ac:Acyc m) (h:a ∉ rd m b):rd (mendM m a b) a=a :: rd m b:=by
 unfold mendM
 rw [if_neg h]
 refine Ends.rd (.on (by rw [nxt_put,if_pos rfl]) ((ac.rd b).keep h fun y hy=>by rw [nxt_put,if_neg hy]))
theorem rd_alone {m:Mnd} (ac:Acyc m) (a:Str):rd (aloneM m a) a=[a]:=by
 unfold aloneM
 split
 ·exact Ends.rd (.stop (by rw [nxt_drop,if_pos rfl]))
 ·rename_i h
  refine Ends.rd (.stop ?_)
  have:=ac.val a
  cases e:nxt m a with
  | none=>rfl
  | some o=>rw [this,e] at h;exact absurd rfl h
theorem rd_long {m:Mnd} (ac:Acyc m) (a:Str):decide (1 < ((rd m a).length:Int))=(valV m (Sum.inr a)).isSome:=by
 have:=ac.val a
 have hr:=ac.rd a
 generalize rd m a=l at hr ⊢
 rw [this]
 cases hr with
 | stop e=>rw [e];rfl
 | @on _ o l e r=>
  rw [e]
  have:0 < l.length:=by cases r <;> simp
  simp
  omega
section
variable {P:Program}{w:World}{K:PySem.W.Frag}{mg:Str→Option Value}{base:Heap}
theorem scStepRight:FnScope ["_law_roll","_law_at","_law_houses","_law_term","_law_row_here","_law_ahead","_law_behind","_law_round_by","_law_way"] ["_law_roll","_law_at","_law_houses","_law_term"] (defScope sStepRight):=⟨rfl,rfl,rfl,by decide,rfl,by decide,by decide⟩
theorem ok_stepRight {f fR fI T:Addr}{fd fdR fdI:FuncData} (F:Fun K "_law_step_right" "_law_step_right" sStepRight f fd) (hlen:mg "len"=none) (hint:mg "int"=none)
  (GR:FnOk P w K mg base CX0 8 fR fdR ["roll","at","house"] (spRoadR T)) (mR:mg "road"=some (.ref fR)) (kR:PySem.W.keepIn K (.ref fR)=true) (bR:Binds K fdR ["roll","at","house"] [])
  (GI:FnOk P w K mg base CX0 8 fI fdI ["roll","name"] (spRing T)) (mI:mg "ring"=some (.ref fI)) (kI:PySem.W.keepIn K (.ref fI)=true) (bI:Binds K fdI ["roll","name"] [])
  :FnOk P w K mg base CX0 9 f fd ["_law_roll","_law_at","_law_houses","_law_term"] (spStepRight T):=by
 refine F.ok scStepRight (fun vs H Q E h=>?_) (fun cdv A outer s H vs Q E hr h=>?_)
 ·obtain ⟨t,rw,lh,ws,hs,us,n,u,z,rfl,_⟩:=h
  rfl
 ·obtain ⟨t,rw,lh,ws,hs,us,n,u,z,rfl,roll,hnm,tb,hlh,h1000,hu0,tl,k⟩:=h
  have hr8:Room 8 _:=hr.mono (by decide)
  have hu:_ < _:=hr.units0
  have hu8:(A.deeper (PyProof.Rows.envOfC "_law_step_right" (defScope sStepRight) s.heap.objs.size f cdv)).units + 8 < cLine:=by have:=hr.units;omega
  have nd:=scStepRight.nd
  refine ⟨_,(pss_cons (ps_set (i:=4) nd rfl (Or.inl rfl) (pe_ix ix_tup (pe_ix ix_tup (pv 0) pe_int (fun _ _=>rfl)) (pv 1) (fun _ _=>rfl)))
   (pss_cons (ps_setComp (i:=5) (N:=["_law_house","_law_roll","_law_at"]) (src:=[none,some 0,some 1]) (osc:=defScope sStepRight) (oN:=["_law_roll","_law_at","_law_houses","_law_term","_law_row_here","_law_ahead","_law_behind","_law_round_by","_law_way"]) ⟨by rfl,by decide,by decide,by decide,rfl,by rfl⟩ nd rfl (pi_list (pv 2)) (fun cl s H fp pins C=>⟨pg_name (i:=0) (show (["_law_house","_law_roll","_law_at"]:List Str).Nodup by decide) rfl (Or.inl rfl),pts_nil,pe_call GR hr8 rfl mR kR bR .nil pass0 (pa_c (pv 1) (pa_c (pv 2) (pa_c (pv 0) pa_nil)))⟩))
   (pss_cons (ps_setComp (i:=6) (N:=["_law_house","_law_roll","_law_at"]) (src:=[none,some 0,some 1]) (osc:=defScope sStepRight) (oN:=["_law_roll","_law_at","_law_houses","_law_term","_law_row_here","_law_ahead","_law_behind","_law_round_by","_law_way"]) ⟨by rfl,by decide,by decide,by decide,rfl,by rfl⟩ nd rfl (pi_list (pv 2)) (fun cl s H fp pins C=>⟨pg_name (i:=0) (show (["_law_house","_law_roll","_law_at"]:List Str).Nodup by decide) rfl (Or.inl rfl),pts_nil,pe_call GR hr8 rfl mR kR bR .nil pass0 (pa_c (pv 1) (pa_c (pe_op op_add (pv 2) pe_int) (pa_c (pv 0) pa_nil)))⟩))
   (pss_cons (ps_if (pt_cmpR op_eq (pe_ix ix_tup (pv 4) pe_int (fun _ _=>rfl)) pe_str (nomark _)) (pss_cons (ps_set (i:=7) nd rfl (Or.inl rfl) (pe_call GI hr8 rfl mI kI bI .nil pass0 (pa_c (pv 0) (pa_c (pe_ix ix_tup (pv 4) pe_int (fun _ _=>rfl)) pa_nil))))
    (pss_cons (ps_set (i:=8) nd rfl (Or.inl rfl) (pe_call GR hr8 rfl mR kR bR .nil pass0 (pa_c (pv 0) (pa_c (pv 1) (pa_c (pe_ix ix_tup (pv 4) pe_int (fun _ _=>rfl)) pa_nil)))))
    (pss_cons (ps_if (pt_cmp (pc_isN (pv 7))) (pss_one (ps_ret (pe_and (pe_cmpR op_eq (pv 3) pe_str (nomark _)) (pe_and (pe_cmpR op_notIn_seq (pe_ix ix_tup (pv 4) pe_int (fun _ _=>rfl)) (pv 8) (by with_unfolding_all rfl)) (pe_one (pe_cmpR (op_eqL hu) (pe_call GR hr8 rfl mR kR bR .nil pass0 (pa_c (pv 0) (pa_c (pe_op op_add (pv 1) pe_int) (pa_c (pe_ix ix_tup (pv 4) pe_int (fun _ _=>rfl)) pa_nil)))) (pe_op op_cat (pe_lst (pa_c (pe_ix ix_tup (pv 4) pe_int (fun _ _=>rfl)) pa_nil)) (pv 8)) (nomark _))))))) pss_nil)
    (pss_one (ps_if (PW.pt (pw_or (pt_cmpR op_ne (pv 3) pe_str (nomark _)) (pw_or (pt_cmpR (op_neL hu) (pv 7) (pe_op op_cat (pe_lst (pa_c (pe_ix ix_tup (pv 4) pe_int (fun _ _=>rfl)) pa_nil)) (pe_slice sl_list (pv 8) po_none (po_some (pe_op op_sub (pe_callB call_len_seq (by rfl) hlen PySem.boot_len (pa_c (pv 7) pa_nil)) pe_int)))) (nomark _)) (pw_or1 (pt_cmpR op_ne (pe_ix ix_list (pv 7) (pe_un un_neg pe_int) (fun _ _=>rfl)) (pe_ix ix_tup (pv 4) pe_int (fun _ _=>rfl)) (nomark _)))))) (pss_one (ps_ret pe_bl)) pss_nil))))) pss_nil)
   (pss_cons (ps_if (pt_cmpR op_eq (pe_ix ix_tup (pv 4) pe_int (fun _ _=>rfl)) pe_str (nomark _)) (pss_cons (ps_if (pt_cmpR op_ne (pv 3) (pe_ix ix_list (pe_lst (pa_c pe_str (pa_c pe_str pa_nil))) (pe_callTy call_int1 (by rfl) hint (by kernel_rfl) (pa_c (pe_cmpR op_gt (pe_callB call_len_seq (by rfl) hlen PySem.boot_len (pa_c (pe_call GR hr8 rfl mR kR bR .nil pass0 (pa_c (pv 0) (pa_c (pv 1) (pa_c (pe_ix ix_tup (pv 4) pe_int (fun _ _=>rfl)) pa_nil)))) pa_nil)) pe_int (nomark _)) pa_nil)) (fun _ _=>rfl)) (nomark _)) (pss_one (ps_ret pe_bl)) pss_nil)
    (pss_one (ps_ret (pe_cmpR (op_eqL hu) (pe_call GR hr8 rfl mR kR bR .nil pass0 (pa_c (pv 0) (pa_c (pe_op op_add (pv 1) pe_int) (pa_c (pe_ix ix_tup (pv 4) pe_int (fun _ _=>rfl)) pa_nil)))) (pe_lst (pa_c (pe_ix ix_tup (pv 4) pe_int (fun _ _=>rfl)) pa_nil)) (nomark _))))) pss_nil)
   (pss_one (ps_ret (pe_cmpR (op_eqLL hu8) (pv 5) (pv 6) (nomark _))))))))),?_⟩
  obtain ⟨lay,xs,ds,ys,h1,h2,h3,h4,h5,h6,h7,h8,h9⟩:=roll.ex
  have hl:=h8.len
  have hn:n < us.length:=(List.getElem?_eq_some_iff.mp hu0).1
  obtain ⟨x,hx⟩:∃ x,ys[n]?=some x:=⟨_,List.getElem?_eq_getElem (by omega)⟩
  obtain ⟨u',hu',rdx,oku⟩:=h8.at' n x hx
  rw [hu0] at hu'
  cases hu'
  obtain ⟨tr,rest,rfl,htr,hrest⟩:=RowI.Ok.tup (fs:=ws) rdx
  refine ⟨_,rfl,t,_,1,_,rfl,rfl,SqT.of h1,rfl,_,rfl,rw,_,(n:Int),_,rfl,rfl,SqT.of h7,atI_nat hx,?_⟩
  refine ⟨_,rfl,lh,rfl,⟨_,SqL.of hlh⟩,?_⟩
  refine comp_list (K:=K) (xs:=hs.map V.str) (fun i vs' σ' H'=>∃ (o1:Option V) (as:List Addr),σ'=[o1,some (.ref t),some (.int n)]∧vs'=as.map V.ref∧as.length=i∧SameT T H H'∧Tb T H'∧∀ (j:Nat) (a:Addr) (h:Str),as[j]?=some a→hs[j]?=some h→H' a=some (.lst ((rd (menM us n) h).map V.str))) ⟨none,[],rfl,rfl,rfl,SameT.refl H,tb,fun j a h e=>by simp at e⟩ (sizeLine_big (by rw [List.length_map];omega)) (fun i ys σ H p=>by obtain ⟨_,as,_,e,e2,_⟩:=p;rw [e,List.length_map];omega) (fun i _ σ H' p=>by obtain ⟨_,_,_,_,_,S,_⟩:=p;exact SqL.of (sameT_lst S tb hlh)) ?_ ?_
  ·rintro i v vs' σ H1 hv ⟨o1,as,rfl,rfl,hal,S1,tb1,ha⟩
   rw [List.getElem?_map] at hv
   obtain ⟨h,hh,rfl⟩:=Option.map_eq_some_iff.mp hv
   dsimp only [gName]
   refine iteT ?_
   refine ⟨_,rfl,_,rfl,_,rfl,t,rw,ws,us,n,h,rfl,roll.on (sameT_tups S1 tb),tb1,fun L H2 hL S2 tb2 ac ml eL=>?_⟩
   refine ⟨_,as ++ [L],rfl,by simp,by simp [hal],S1.trans S2,tb2,fun j a h' hj hh'=>?_⟩
   rw [List.getElem?_append] at hj
   split at hj
   ·exact sameT_lst S2 tb1 (ha j a h' hj hh')
   ·have hj2:j - as.length=0:=by
     have:=(List.getElem?_eq_some_iff.mp hj).1
     simp at this
     omega
    rw [hj2] at hj
    cases hj
    have hij:j=i:=by omega
    subst hij
    rw [hh] at hh'
    cases hh'
    exact eL
  rintro vs' σ H1 ⟨o1,as,rfl,rfl,hal,S1,tb1,ha⟩ La hLa
  rw [List.length_map] at hal
  have sA:=Same.new (o:=.lst (as.map V.ref)) hLa
  have S1':=S1.trans (sA.butT (T:=T))
  have tb1':Tb T _:=tb1.same sA
  have eLa:upd H1 La (.lst (as.map V.ref)) La=some (.lst (as.map V.ref)):=upd_same
  have ha':∀ (j:Nat) (a:Addr) (h:Str),as[j]?=some a→hs[j]?=some h→upd H1 La (.lst (as.map V.ref)) a=some (.lst ((rd (menM us n) h).map V.str)):=fun j a h e1 e2=>sA _ _ (ha j a h e1 e2)
  generalize upd H1 La (.lst (as.map V.ref))=H2 at S1' tb1' eLa ha' ⊢
  clear ha S1 tb1 sA hLa
  refine ⟨_,rfl,lh,rfl,⟨_,SqL.of (sameT_lst S1' tb hlh)⟩,?_⟩
  refine comp_list (K:=K) (xs:=hs.map V.str) (fun i vs' σ' H'=>∃ (o1:Option V) (bs:List Addr),σ'=[o1,some (.ref t),some (.int n)]∧vs'=bs.map V.ref∧bs.length=i∧SameT T H2 H'∧Tb T H'∧∀ (j:Nat) (a:Addr) (h:Str),bs[j]?=some a→hs[j]?=some h→H' a=some (.lst ((rd (menM us (n + 1)) h).map V.str))) ⟨none,[],rfl,rfl,rfl,SameT.refl H2,tb1',fun j a h e=>by simp at e⟩ (sizeLine_big (by rw [List.length_map];omega)) (fun i ys σ H p=>by obtain ⟨_,as,_,e,e2,_⟩:=p;rw [e,List.length_map];omega) (fun i _ σ H' p=>by obtain ⟨_,_,_,_,_,S,_⟩:=p;exact SqL.of (sameT_lst (S1'.trans S) tb hlh)) ?_ ?_
  ·rintro i v vs' σ H3 hv ⟨o1,bs,rfl,rfl,hbl,S3,tb3,hb⟩
   rw [List.getElem?_map] at hv
   obtain ⟨h,hh,rfl⟩:=Option.map_eq_some_iff.mp hv
   dsimp only [gName]
   refine iteT ?_
   refine ⟨_,rfl,_,rfl,_,_,rfl,rfl,_,rfl,t,rw,ws,us,n + 1,h,rfl,roll.on (sameT_tups (S1'.trans S3) tb),tb3,fun L H4 hL S4 tb4 ac ml eL=>?_⟩
   refine ⟨_,bs ++ [L],rfl,by simp,by simp [hbl],S3.trans S4,tb4,fun j a h' hj hh'=>?_⟩
   rw [List.getElem?_append] at hj
   split at hj
   ·exact sameT_lst S4 tb3 (hb j a h' hj hh')
   ·have hj2:j - bs.length=0:=by
     have:=(List.getElem?_eq_some_iff.mp hj).1
     simp at this
     omega
    rw [hj2] at hj
    cases hj
    have hij:j=i:=by omega
    subst hij
    rw [hh] at hh'
    cases hh'
    exact eL
  rintro vs' σ H3 ⟨o1,bs,rfl,rfl,hbl,S3,tb3,hb⟩ Lb hLb
  rw [List.length_map] at hbl
  have sB:=Same.new (o:=.lst (bs.map V.ref)) hLb
  have S3':=(S1'.trans S3).trans (sB.butT (T:=T))
  have tb3':Tb T _:=tb3.same sB
  have eLb:upd H3 Lb (.lst (bs.map V.ref)) Lb=some (.lst (bs.map V.ref)):=upd_same
  have eLa3:=sB _ _ (sameT_lst S3 tb1' eLa)
  have ha3:∀ (j:Nat) (a:Addr) (h:Str),as[j]?=some a→hs[j]?=some h→upd H3 Lb (.lst (bs.map V.ref)) a=some (.lst ((rd (menM us n) h).map V.str)):=fun j a h e1 e2=>sB _ _ (sameT_lst S3 tb1' (ha' j a h e1 e2))
  have hb':∀ (j:Nat) (a:Addr) (h:Str),bs[j]?=some a→hs[j]?=some h→upd H3 Lb (.lst (bs.map V.ref)) a=some (.lst ((rd (menM us (n + 1)) h).map V.str)):=fun j a h e1 e2=>sB _ _ (hb j a h e1 e2)
  generalize upd H3 Lb (.lst (bs.map V.ref))=H4 at S3' tb3' eLb eLa3 ha3 hb' ⊢
  have T4:=sameT_tups S3' tb
  have a0:=(row_at (word:=u.word) (name:=u.name) (day:=u.day) (rest:=rest)).1
  refine ⟨_,rfl,tr,_,0,_,rfl,rfl,SqT.of (T4 _ _ htr),a0,rfl,_,rfl,?_⟩
  have fin:∀ H':Hp,SameT T H4 H'→Tb T H'→menM us (n + 1)=menM us n→∃ (p q:Addr) (as bs:List Addr),V.ref La=.ref p∧V.ref Lb=.ref q∧H' p=some (.lst (as.map V.ref))∧H' q=some (.lst (bs.map V.ref))∧as.length=bs.length∧(∀ (j:Nat) (a b:Addr),as[j]?=some a→bs[j]?=some b→∃ ls:List Str,H' a=some (.lst (ls.map V.str))∧H' b=some (.lst (ls.map V.str)))∧Q (.bl true) H':=fun H' S tb' em=>by
   refine ⟨La,Lb,as,bs,rfl,rfl,sameT_lst S tb3' eLa3,sameT_lst S tb3' eLb,by omega,fun j a b ea eb=>?_,k H' (S3'.trans S) tb'⟩
   obtain ⟨h,hh⟩:∃ h,hs[j]?=some h:=⟨_,List.getElem?_eq_getElem (by have:=(List.getElem?_eq_some_iff.mp ea).1;omega)⟩
   refine ⟨_,sameT_lst S tb3' (ha3 j a h ea hh),?_⟩
   rw [← em]
   exact sameT_lst S tb3' (hb' j b h eb hh)
  have em:=menM_succ hu0
  have htr4:=T4 _ _ htr
  rcases row_case oku.rs hrest with ⟨hw,a,b,hds,rfl⟩ | ⟨hw,a,hds,rfl⟩ | ⟨hw1,hw2⟩
  ·have hz:=tl.1 a b hw hds
   have em2:menM us (n + 1)=mendM (menM us n) a b:=by
    rw [em]
    unfold stepM
    rw [hds]
    exact if_pos hw
   rw [hw] at htr4
   rw [hw,decide_eq_true rfl]
   refine iteT ?_
   refine ⟨_,rfl,_,rfl,tr,_,1,_,rfl,rfl,SqT.of htr4,rfl,t,rw,ws,us,n,u,a,b,rfl,roll.on T4,hnm,hu0,hw,hds,tb3',fun H5 S5 tb5=>⟨fun g=>?_,fun L k2 hk2 hno hL eL=>?_⟩⟩
   ·have htr5:=sameT_tups S5 tb3' _ _ htr4
    rw [if_neg g] at hz
    subst hz
    refine ⟨_,rfl,_,rfl,_,rfl,tr,_,4,_,rfl,rfl,SqT.of htr5,rfl,t,rw,ws,us,n,b,rfl,(roll.on T4).on (sameT_tups S5 tb3'),tb5,fun L5 H6 hL5 S6 tb6 ac ml eL5=>?_⟩
    have htr6:=sameT_tups S6 tb5 _ _ htr5
    refine ⟨_,rfl,_,rfl,?_⟩
    rw [decide_eq_true rfl]
    refine iteT ?_
    refine ⟨_,rfl,rfl,_,rfl,?_⟩
    rw [decide_eq_true rfl]
    refine iteT ?_
    refine ⟨_,rfl,tr,_,3,_,rfl,rfl,SqT.of htr6,rfl,_,rfl,L5,_,rfl,.inl (SqL.of eL5),rfl,flat_strs _,_,rfl,?_⟩
    rw [if_pos rfl,in_strs,decide_eq_false g]
    refine iteT ?_
    refine ⟨_,rfl,_,rfl,_,_,rfl,rfl,_,rfl,tr,_,3,_,rfl,rfl,SqT.of htr6,rfl,t,rw,ws,us,n + 1,a,rfl,((roll.on T4).on (sameT_tups S5 tb3')).on (sameT_tups S6 tb5),tb6,fun L7 H7 hL7 S7 tb7 _ _ eL7=>?_⟩
    have htr7:=sameT_tups S7 tb6 _ _ htr6
    refine ⟨_,rfl,tr,_,3,_,rfl,rfl,SqT.of htr7,rfl,sizeLine_big (by show 1≤1000000;decide),fun L8 hL8=>?_⟩
    have s8:=Same.new (o:=.lst [V.str a]) hL8
    have hll:=(ac.rd b).len
    refine ⟨_,rfl,L8,L5,_,_,rfl,rfl,upd_same,s8 _ _ (sameT_lst S7 tb6 eL5),?_,fun L9 hL9=>?_⟩
    ·refine sizeLine_big ?_
     simp only [List.length_cons,List.length_nil,List.length_map]
     omega
    ·have s9:=Same.new (o:=.lst ([V.str a] ++ (rd (menM us n) b).map V.str)) hL9
     rw [em2,rd_mend ac g] at eL7
     refine ⟨L7,L9,_,_,rfl,rfl,SqL.of (s9 _ _ (s8 _ _ eL7)),SqL.of upd_same,flat_strs _,flat_strs (a :: rd (menM us n) b),?_⟩
     rw [show eqVs ((a :: rd (menM us n) b).map V.str) ([V.str a] ++ (rd (menM us n) b).map V.str)=true from eqVs_strs (a :: rd (menM us n) b)]
     exact k _ ((((S3'.trans S5).trans S6).trans S7).trans (s8.trans s9).butT) (tb7.same (s8.trans s9))
   ·have htr5:=sameT_tups S5 tb3' _ _ htr4
    have g:a∈rd (menM us n) b:=List.mem_of_getElem? hk2
    rw [if_pos g] at hz
    subst hz
    have hk3:=(List.getElem?_eq_some_iff.mp hk2).1
    refine ⟨_,rfl,_,rfl,_,rfl,tr,_,4,_,rfl,rfl,SqT.of htr5,rfl,t,rw,ws,us,n,b,rfl,(roll.on T4).on (sameT_tups S5 tb3'),tb5,fun L5 H6 hL5 S6 tb6 ac ml eL5=>?_⟩
    have htr6:=sameT_tups S6 tb5 _ _ htr5
    have eL6:=sameT_lst S6 tb5 eL
    have hll:=(ac.rd b).len
    refine ⟨_,rfl,_,rfl,?_⟩
    rw [decide_eq_false (fun z=>nomatch z)]
    refine iteF ?_
    refine ⟨_,rfl,rfl,_,rfl,?_⟩
    rw [decide_eq_true rfl]
    refine iteF ?_
    refine ⟨_,rfl,_,rfl,tr,_,3,_,rfl,rfl,SqT.of htr6,rfl,sizeLine_big (by show 1≤1000000;decide),fun L8 hL8=>?_⟩
    have s8:=Same.new (o:=.lst [V.str a]) hL8
    refine ⟨_,rfl,_,rfl,L,_,rfl,.inl (SqL.of (s8 _ _ eL6)),_,_,rfl,rfl,_,rfl,L5,_,rfl,SqL.of (s8 _ _ eL5),fun L9 hL9=>?_⟩
    rw [show ((((a :: (rd (menM us n) b).take (k2 + 1)).map V.str).length:Nat):Int) - 1=((k2 + 1:Nat):Int) by simp only [List.length_map,List.length_cons,List.length_take];omega,cut_to (α:=Nat),← List.map_take] at *
    have s9:=Same.new (o:=.lst (((rd (menM us n) b).take (k2 + 1)).map V.str)) hL9
    refine ⟨L8,L9,_,_,rfl,rfl,s9 _ _ upd_same,upd_same,?_,fun L10 hL10=>?_⟩
    ·refine sizeLine_big ?_
     simp only [List.length_cons,List.length_nil,List.length_map,List.length_take]
     omega
    have s10:=Same.new (o:=.lst ([V.str a] ++ ((rd (menM us n) b).take (k2 + 1)).map V.str)) hL10
    have s810:=(s8.trans s9).trans s10
    refine ⟨L,L10,_,_,rfl,rfl,SqL.of (s810 _ _ eL6),SqL.of upd_same,flat_strs _,flat_strs (a :: (rd (menM us n) b).take (k2 + 1)),_,rfl,?_⟩
    rw [show eqVs ((a :: (rd (menM us n) b).take (k2 + 1)).map V.str) ([V.str a] ++ ((rd (menM us n) b).take (k2 + 1)).map V.str)=true from eqVs_strs (a :: (rd (menM us n) b).take (k2 + 1))]
    refine iteF ?_
    refine ⟨_,rfl,_,rfl,L,_,-1,_,rfl,rfl,SqL.of (s810 _ _ eL6),(show atI ((a :: (rd (menM us n) b).take (k2 + 1)).map V.str) (-1)=some (.str a) by rw [List.take_add_one,hk2,← List.cons_append,List.map_append];exact atI_last _ _),_,rfl,tr,_,3,_,rfl,rfl,SqT.of (s810 _ _ htr6),rfl,rfl,_,rfl,?_⟩
    rw [decide_eq_true rfl]
    refine iteF ?_
    refine ⟨_,rfl,tr,_,0,_,rfl,rfl,SqT.of (s810 _ _ htr6),rfl,rfl,_,rfl,?_⟩
    rw [decide_eq_false (fun z=>absurd (show ("mend":Str)="alone" by injection z) (by decide))]
    refine iteF ?_
    refine ⟨_,rfl,_,rfl,?_⟩
    refine fin _ ((S5.trans S6).trans s810.butT) (tb6.same s810) ?_
    rw [em2]
    unfold mendM
    rw [if_pos g]
  ·have hz:=tl.2 a hw hds
   have em2:menM us (n + 1)=aloneM (menM us n) a:=by
    rw [em]
    unfold stepM
    rw [hds]
    exact if_pos hw
   rw [hw] at htr4
   rw [hw,decide_eq_false (fun z=>absurd (show ("alone":Str)="mend" by injection z) (by decide))]
   refine iteF ?_
   refine ⟨_,rfl,tr,_,0,_,rfl,rfl,SqT.of htr4,rfl,rfl,_,rfl,?_⟩
   rw [decide_eq_true rfl]
   refine iteT ?_
   refine ⟨_,rfl,sizeLine_big (by show 2≤1000000;decide),fun L5 hL5=>?_⟩
   have s5:=Same.new (o:=.lst [V.str "none",.str "done"]) hL5
   have S5:SameT T H4 _:=s5.butT
   have tb5:Tb T _:=tb3'.same s5
   refine ⟨_,rfl,_,rfl,_,rfl,tr,_,3,_,rfl,rfl,SqT.of (s5 _ _ htr4),rfl,t,rw,ws,us,n,a,rfl,(roll.on T4).on (same_tups s5),tb5,fun L6 H6 hL6 S6 tb6 ac ml eL6=>?_⟩
   have htr6:=sameT_tups S6 tb5 _ _ (s5 _ _ htr4)
   refine ⟨L6,_,rfl,.inl (SqL.of eL6),_,_,rfl,rfl,.inr ⟨_,rfl,?_⟩⟩
   rw [List.length_map,rd_long ac a]
   refine ⟨L5,_,_,.str z,rfl,rfl,SqL.of (sameT_lst S6 tb5 upd_same),?_,rfl,_,rfl,?_⟩
   ·rw [hz]
    cases (valV (menM us n) (Sum.inr a)).isSome <;> rfl
   rw [decide_eq_true rfl]
   refine iteF ?_
   refine ⟨_,rfl,_,rfl,_,_,rfl,rfl,_,rfl,tr,_,3,_,rfl,rfl,SqT.of htr6,rfl,t,rw,ws,us,n + 1,a,rfl,((roll.on T4).on (same_tups s5)).on (sameT_tups S6 tb5),tb6,fun L7 H7 hL7 S7 tb7 _ _ eL7=>?_⟩
   have htr7:=sameT_tups S7 tb6 _ _ htr6
   refine ⟨_,rfl,tr,_,3,_,rfl,rfl,SqT.of htr7,rfl,sizeLine_big (by show 1≤1000000;decide),fun L8 hL8=>?_⟩
   have s8:=Same.new (o:=.lst [V.str a]) hL8
   rw [em2,rd_alone ac] at eL7
   refine ⟨L7,L8,_,_,rfl,rfl,SqL.of (s8 _ _ eL7),SqL.of upd_same,flat_strs [a],flat_strs [a],?_⟩
   rw [show eqVs ([a].map V.str) [V.str a]=true from eqVs_strs [a]]
   exact k _ ((((S3'.trans S5).trans S6).trans S7).trans s8.butT) (tb7.same s8)
  ·rw [decide_eq_false (fun z=>hw1 (by injection z))]
   refine iteF ?_
   refine ⟨_,rfl,tr,_,0,_,rfl,rfl,SqT.of htr4,a0,rfl,_,rfl,?_⟩
   rw [decide_eq_false (fun z=>hw2 (by injection z))]
   refine iteF ?_
   refine ⟨_,rfl,_,rfl,?_⟩
   exact fin H4 (SameT.refl _) tb3' (by rw [em,step_no hw1 hw2])
end
end K37
namespace K37
open PySem L2
def spLaw (K:PySem.W.Frag) (T:Addr):Sp:=fun vs H Q _=>∃ (a:Addr) (ns:List Int),vs=[.ref a]∧SqL K H a (ns.map V.int)∧ns.length≤63∧Tb T H∧∀ H',Q (.bl true) H'
theorem tb_pen {T p c:Addr}{ns:List Int}{a:Int}{H H':Hp} (g:Tb T H) (hp:PenAt H p c ns a) (k:KeepBut p H H'):Tb T H':=by
 obtain ⟨z,_,e⟩:=hp.ob
 obtain ⟨ps,h1,h2,h3⟩:=g.ex
 refine ⟨ps,k _ _ h1 (ne_of h1 e (fun z=>nomatch z)),h2,?_⟩
 rcases h3 with h3 | ⟨c,h3,h4⟩
 ·exact .inl h3
 ·exact .inr ⟨c,h3,k _ _ h4 (ne_of h4 e (fun z=>nomatch z))⟩
section
variable {P:Program}{w:World}{K:PySem.W.Frag}{mg:Str→Option Value}{base:Heap}
theorem scLaw:FnScope ["_law_script","_law_pen_here","_law_roll","_law_houses","_law_terms","_law_at"] ["_law_script"] (defScope sLaw):=⟨rfl,rfl,rfl,by decide,rfl,by decide,by decide⟩
theorem ok_law {f fP fW fO fX fY T:Addr}{fd fdP fdW fdO fdX fdY:FuncData} (F:Fun K "law" "law" sLaw f fd) (hlen:mg "len"=none) (hrng:mg "range"=none)
  (GP:FnOk P w K mg base CX0 1 fP fdP ["_law_script"] (spPen K)) (mP:mg "_law_pen"=some (.ref fP)) (kP:PySem.W.keepIn K (.ref fP)=true) (bP:Binds K fdP ["_law_script"] [])
  (GW:FnOk P w K mg base CX0 6 fW fdW ["_law_pen_here"] spWorld) (mW:mg "_law_world"=some (.ref fW)) (kW:PySem.W.keepIn K (.ref fW)=true) (bW:Binds K fdW ["_law_pen_here"] [])
  (GO:FnOk P w K mg base CX0 7 fO fdO ["roll"] (spWords T)) (mO:mg "words"=some (.ref fO)) (kO:PySem.W.keepIn K (.ref fO)=true) (bO:Binds K fdO ["roll"] [])
  (GX:FnOk P w K mg base CX0 10 fX fdX ["_law_roll","_law_at","_law_houses"] (spRoadsRight T)) (mX:mg "_law_roads_right"=some (.ref fX)) (kX:PySem.W.keepIn K (.ref fX)=true) (bX:Binds K fdX ["_law_roll","_law_at","_law_houses"] [])
  (GY:FnOk P w K mg base CX0 9 fY fdY ["_law_roll","_law_at","_law_houses","_law_term"] (spStepRight T)) (mY:mg "_law_step_right"=some (.ref fY)) (kY:PySem.W.keepIn K (.ref fY)=true) (bY:Binds K fdY ["_law_roll","_law_at","_law_houses","_law_term"] [])
  :FnOk P w K mg base CX0 11 f fd ["_law_script"] (spLaw K T):=by
 refine F.ok scLaw (fun vs H Q E h=>?_) (fun cdv A outer s H vs Q E hr h=>?_)
 ·obtain ⟨a,ns,rfl,_⟩:=h
  rfl
 ·obtain ⟨sc,ns,rfl,hS,hln,tb,k⟩:=h
  have hr1:Room 1 _:=hr.mono (by decide)
  have hr6:Room 6 _:=hr.mono (by decide)
  have hr7:Room 7 _:=hr.mono (by decide)
  have hr9:Room 9 _:=hr.mono (by decide)
  have nd:=scLaw.nd
  refine ⟨_,(pss_cons (ps_set (i:=1) nd rfl (Or.inl rfl) (pe_call GP hr1 rfl mP kP bP .nil pass0 (pa_c (pv 0) pa_nil)))
   (pss_cons (ps_asg (pe_call GW hr6 rfl mW kW bW .nil pass0 (pa_c (pv 1) pa_nil)) (pg_tup rfl (pgs_cons (pg_name (i:=2) nd rfl (Or.inl rfl)) (pgs_cons (pg_name (i:=3) nd rfl (Or.inl rfl)) pgs_nil))))
   (pss_cons (ps_set (i:=3) nd rfl (Or.inl rfl) (pe_slice sl_list (pv 3) po_none (po_some pe_int)))
   (pss_cons (ps_set (i:=4) nd rfl (Or.inl rfl) (pe_call GO hr7 rfl mO kO bO .nil pass0 (pa_c (pv 2) pa_nil)))
   (pss_cons (ps_if (pt_cmpR op_ne (pe_callB call_len_seq (by rfl) hlen PySem.boot_len (pa_c (pv 4) pa_nil)) (pe_callB call_len_seq (by rfl) hlen PySem.boot_len (pa_c (pe_ix ix_tup (pv 2) pe_int (fun _ _=>rfl)) pa_nil)) (nomark _)) (pss_one (ps_ret pe_bl)) pss_nil)
   (pss_cons (ps_for PassesOwn.never rfl (pi_range1 rfl hrng (pa_c (pe_callB call_len_seq (by rfl) hlen PySem.boot_len (pa_c (pe_ix ix_tup (pv 2) pe_int (fun _ _=>rfl)) pa_nil)) pa_nil)) (g:=gName 5) (pg_name (i:=5) nd rfl (Or.inl rfl))
   (pss_one (ps_if (PW.pt (pw_or (pt_not (pt_val (pe_call GX hr rfl mX kX bX .nil pass0 (pa_c (pv 2) (pa_c (pv 5) (pa_c (pv 3) pa_nil)))))) (pw_or1 (pt_not (pt_val (pe_call GY hr9 rfl mY kY bY .nil pass0 (pa_c (pv 2) (pa_c (pv 5) (pa_c (pv 3) (pa_c (pe_ix ix_list (pv 4) (pv 5) (fun _ _=>rfl)) pa_nil)))))))))) (pss_one (ps_ret pe_bl)) pss_nil)))
   (pss_one (ps_ret (pe_call GX hr rfl mX kX bX .nil pass0 (pa_c (pv 2) (pa_c (pe_callB call_len_seq (by rfl) hlen PySem.boot_len (pa_c (pe_ix ix_tup (pv 2) pe_int (fun _ _=>rfl)) pa_nil)) (pa_c (pv 3) pa_nil)))))))))))),?_⟩
  refine ⟨_,rfl,sc,ns,rfl,hS,hln,fun p c H1 hp1 S1 _=>?_⟩
  have tb1:Tb T H1:=tb.same S1
  refine ⟨_,rfl,p,c,ns,0,rfl,hp1,by omega,fun t r rw lh ws hs us a3 H3 ht roll hnn hlh nmh hh2 hh44 la3 ua3 hp3 kp3=>?_⟩
  have tb3:Tb T H3:=tb_pen tb1 hp1 kp3
  refine ⟨t,_,rfl,SqT.of ht,rfl,_,_,rfl,_,_,rfl,rfl,?_⟩
  refine ⟨_,rfl,_,rfl,lh,_,rfl,SqL.of hlh,fun l5 hl5=>?_⟩
  rw [show (5:Int)=((5:Nat):Int) by rfl,cut_to (α:=Nat),← List.map_take]
  have s5:=Same.new (o:=.lst ((hs.take 5).map V.str)) hl5
  have tb5:Tb T _:=tb3.same s5
  have hl55:upd H3 l5 (.lst ((hs.take 5).map V.str)) l5=some (.lst ((hs.take 5).map V.str)):=upd_same
  have roll5:=roll.on (same_tups s5)
  generalize upd H3 l5 (.lst ((hs.take 5).map V.str))=H5 at tb5 hl55 roll5 ⊢
  refine ⟨_,rfl,r,rw,ws,us,rfl,roll5,tb5,fun D zs H6 hD S6 tb6 eD hzl htell=>?_⟩
  have roll6:=roll5.on (sameT_tups S6 tb5)
  have hl6:=sameT_lst S6 tb5 hl55
  have h1000:(hs.take 5).length≤1000:=by rw [List.length_take];omega
  obtain ⟨lay,xs,ds,ys,h1,h2,h3,h4,h5,h6,h7,h8,h9⟩:=roll6.ex
  have hl:=h8.len
  refine ⟨_,rfl,D,_,rfl,.inl (SqL.of eD),_,rfl,r,_,1,_,rfl,rfl,SqT.of h1,rfl,rw,_,rfl,.inr (SqT.of h7),rfl,_,rfl,?_⟩
  rw [show (V.int ((zs.map V.str).length:Nat))=V.int (ys.length:Nat) by rw [List.length_map,hzl,hl],decide_eq_true rfl]
  refine iteF ?_
  refine ⟨_,rfl,r,_,1,_,rfl,rfl,SqT.of h1,rfl,rw,_,rfl,.inr (SqT.of h7),_,rfl,?_⟩
  refine ⟨by omega,by omega,?_⟩
  rw [show ((ys.length:Nat):Int).toNat=us.length by omega]
  refine for_range (n:=us.length) (fun i σ H'=>∃ (o6:Option V),σ=[some (.ref sc),some (.ref p),some (.ref r),some (.ref l5),some (.ref D),o6]∧SameT T H6 H'∧Tb T H') ⟨none,rfl,SameT.refl _,tb6⟩ ?_ ?_
  ·rintro i σ H7 hi ⟨o6,rfl,S7,tb7⟩
   dsimp only [gName]
   have T7:=sameT_tups S7 tb6
   obtain ⟨u,hu⟩:∃ u,us[i]?=some u:=⟨_,List.getElem?_eq_getElem hi⟩
   obtain ⟨z,hz⟩:∃ z,zs[i]?=some z:=⟨_,List.getElem?_eq_getElem (by omega)⟩
   refine ⟨_,rfl,_,rfl,_,rfl,r,rw,l5,ws,hs.take 5,us,i,(by rw [Int.zero_add];rfl),roll6.on T7,tb7,sameT_lst S7 tb6 hl6,h1000,fun H8 S8 tb8=>⟨_,rfl,?_⟩⟩
   refine iteF ?_
   have S78:=S7.trans S8
   refine ⟨_,rfl,_,rfl,_,rfl,_,rfl,_,rfl,D,_,_,.str z,rfl,rfl,SqL.of (sameT_lst S78 tb6 eD),(by rw [Int.zero_add];exact atI_nat (by rw [List.getElem?_map,hz];rfl)),r,rw,l5,ws,hs.take 5,us,i,u,z,(by rw [Int.zero_add];rfl),(roll6.on T7).on (sameT_tups S8 tb7),hnn,tb8,sameT_lst S78 tb6 hl6,h1000,hu,htell i u z hu hz,fun H9 S9 tb9=>⟨_,rfl,?_⟩⟩
   refine iteF ?_
   exact ⟨_,rfl,S78.trans S9,tb9⟩
  ·rintro σ H7 ⟨o6,rfl,S7,tb7⟩
   have T7:=sameT_tups S7 tb6
   exact ⟨_,rfl,_,rfl,r,_,1,_,rfl,rfl,SqT.of (T7 _ _ h1),rfl,rw,_,rfl,.inr (SqT.of (T7 _ _ h7)),_,rfl,r,rw,l5,ws,hs.take 5,us,ys.length,rfl,roll6.on T7,tb7,sameT_lst S7 tb6 hl6,h1000,fun H8 S8 tb8=>k H8⟩
end
end K37
namespace K37
open PySem L2
theorem all_mk {l:PySem.W.OpenLaw}{w:World}{K:PySem.W.Frag}{h:Heap}{mg:Str→Option Value}{fa:Addr} (X:K.In h) (G:h.Ns mainGlobals mg) (hfa:mg "law"=some (.ref fa))
  {fAc:Addr} {odAc anAc:Option Addr} {slAc:Array (Option Value)} {ocAc kVAc dcAc pmAc cdAc ctAc:Value} {fCu:Addr} {odCu anCu:Option Addr} {slCu:Array (Option Value)} {ocCu kVCu dcCu pmCu cdCu ctCu:Value} {fIn:Addr} {odIn anIn:Option Addr} {slIn:Array (Option Value)} {ocIn kVIn dcIn pmIn ctIn:Value} {fRf:Addr} {odRf anRf:Option Addr} {slRf:Array (Option Value)} {ocRf kVRf dcRf pmRf cdRf ctRf:Value} {fPa:Addr} {odPa anPa:Option Addr} {slPa:Array (Option Value)} {ocPa kVPa dcPa pmPa cdPa ctPa:Value} {fJo:Addr} {odJo anJo:Option Addr} {slJo:Array (Option Value)} {ocJo kVJo dcJo pmJo cdJo ctJo:Value} {fFo:Addr} {odFo anFo:Option Addr} {slFo:Array (Option Value)} {ocFo kVFo dcFo pmFo cdFo ctFo:Value} {fMe:Addr} {odMe anMe:Option Addr} {slMe:Array (Option Value)} {ocMe kVMe dcMe pmMe cdMe ctMe:Value} {fMn:Addr} {odMn anMn:Option Addr} {slMn:Array (Option Value)} {ocMn kVMn dcMn pmMn cdMn ctMn:Value} {fAl:Addr} {odAl anAl:Option Addr} {slAl:Array (Option Value)} {ocAl kVAl dcAl pmAl cdAl ctAl:Value} {fLo:Addr} {odLo anLo:Option Addr} {slLo:Array (Option Value)} {ocLo kVLo dcLo pmLo cdLo ctLo:Value} {fCa:Addr} {odCa anCa:Option Addr} {slCa:Array (Option Value)} {ocCa kVCa dcCa pmCa cdCa ctCa:Value} {fBe:Addr} {odBe anBe:Option Addr} {slBe:Array (Option Value)} {ocBe kVBe dcBe pmBe cdBe ctBe:Value} {fRd:Addr} {odRd anRd:Option Addr} {slRd:Array (Option Value)} {ocRd kVRd dcRd pmRd cdRd ctRd:Value} {fMs:Addr} {odMs anMs:Option Addr} {slMs:Array (Option Value)} {ocMs kVMs dcMs pmMs cdMs ctMs:Value} {fRc:Addr} {odRc anRc:Option Addr} {slRc:Array (Option Value)} {ocRc kVRc dcRc pmRc cdRc ctRc:Value} {fRg:Addr} {odRg anRg:Option Addr} {slRg:Array (Option Value)} {ocRg kVRg dcRg pmRg cdRg ctRg:Value} {fWd:Addr} {odWd anWd:Option Addr} {slWd:Array (Option Value)} {ocWd kVWd dcWd pmWd cdWd ctWd:Value} {fP:Addr} {odP anP:Option Addr} {slP:Array (Option Value)} {ocP kVP dcP pmP cdP ctP:Value} {fT:Addr} {odT anT:Option Addr} {slT:Array (Option Value)} {ocT kVT dcT pmT cdT ctT:Value} {fN:Addr} {odN anN:Option Addr} {slN:Array (Option Value)} {ocN kVN dcN pmN cdN ctN:Value} {fSo:Addr} {odSo anSo:Option Addr} {slSo:Array (Option Value)} {ocSo kVSo dcSo pmSo cdSo ctSo:Value} {fD:Addr} {odD anD:Option Addr} {slD:Array (Option Value)} {ocD kVD dcD pmD cdD ctD:Value} {fNu:Addr} {odNu anNu:Option Addr} {slNu:Array (Option Value)} {ocNu kVNu dcNu pmNu cdNu ctNu:Value} {fLO:Addr} {odLO anLO:Option Addr} {slLO:Array (Option Value)} {ocLO kVLO dcLO pmLO cdLO ctLO:Value} {fSm:Addr} {odSm anSm:Option Addr} {slSm:Array (Option Value)} {ocSm kVSm dcSm pmSm cdSm ctSm:Value} {fRo:Addr} {odRo anRo:Option Addr} {slRo:Array (Option Value)} {ocRo kVRo dcRo pmRo cdRo ctRo:Value} {fR:Addr} {odR anR:Option Addr} {slR:Array (Option Value)} {ocR kVR dcR pmR cdR ctR:Value} {fK:Addr} {odK anK:Option Addr} {slK:Array (Option Value)} {ocK kVK dcK pmK cdK ctK:Value} {fMr:Addr} {odMr anMr:Option Addr} {slMr:Array (Option Value)} {ocMr kVMr dcMr pmMr cdMr ctMr:Value} {fSr:Addr} {odSr anSr:Option Addr} {slSr:Array (Option Value)} {ocSr kVSr dcSr pmSr cdSr ctSr:Value} {fWo:Addr} {odWo anWo:Option Addr} {slWo:Array (Option Value)} {ocWo kVWo dcWo pmWo cdWo ctWo:Value} {fRr:Addr} {odRr anRr:Option Addr} {slRr:Array (Option Value)} {ocRr kVRr dcRr pmRr cdRr ctRr:Value} {fSp:Addr} {odSp anSp:Option Addr} {slSp:Array (Option Value)} {ocSp kVSp dcSp pmSp cdSp ctSp:Value} {fL:Addr} {odL anL:Option Addr} {slL:Array (Option Value)} {ocL kVL dcL pmL cdL ctL:Value}
  {t_DEEDS:Addr} {eF:Nat} {xk0 xk1 xk2 xk3 xk4 xk5 xk6 xk7:Tok}
  {C fI:Addr} {odI anI:Option Addr} {slI:Array (Option Value)} {ocI kVI dcI pmI cdI ctI:Value} {TT qIn:Addr}
  (aC:PySem.W.nsIn K mainGlobals "Moment"=some (some (.ref C)))
  (aI:PySem.W.findIn K (.ref C) "__init__"=some (some (.ref fI))) (iI:PySem.W.isFn K (.ref fI)=true) (lI:K.lookup fI=some ⟨ocI,odI,.func (PySem.W.fnOf "__init__" "Moment.__init__" (defArgs sInit) (defBody sInit) (defScope sInit) .none kVI dcI pmI anI cdI ctI),slI⟩) (cI:PySem.W.codeIn K cdI "Moment.__init__"=true) (kI:PySem.W.keepIn K (.ref fI)=true)
  (pg:PySem.W.plainGet K C Str.empty=true) (hd:PySem.W.hasDictIn K C=true) (po:PySem.W.plainOver K C=true) (sa:PySem.W.findIn K (.ref C) "__setattr__"=some (some (.builtin "object.__setattr__"))) (mk:PySem.W.makesIn K C=true) (kc:PySem.W.keepIn K (.ref C)=true)
  (nR:PySem.W.findIn K (.ref C) "ranks"=some none) (nH:PySem.W.findIn K (.ref C) "holdings"=some none) (nA:PySem.W.findIn K (.ref C) "acres"=some none) (nI:PySem.W.findIn K (.ref C) "inches"=some none) (nM:PySem.W.findIn K (.ref C) "menders"=some none)
  (aAc:PySem.W.nsIn K mainGlobals "acres_in"=some (some (.ref fAc))) (lAc:K.lookup fAc=some ⟨ocAc,odAc,.func (PySem.W.fnOf "acres_in" "acres_in" (defArgs sAcres) (defBody sAcres) (defScope sAcres) .none kVAc dcAc pmAc anAc cdAc ctAc),slAc⟩) (cAc:PySem.W.codeIn K cdAc "acres_in"=true) (kAc:PySem.W.keepIn K (.ref fAc)=true)
  (aCu:PySem.W.nsIn K mainGlobals "cut"=some (some (.ref fCu))) (lCu:K.lookup fCu=some ⟨ocCu,odCu,.func (PySem.W.fnOf "cut" "cut" (defArgs sCut) (defBody sCut) (defScope sCut) .none kVCu dcCu pmCu anCu cdCu ctCu),slCu⟩) (cCu:PySem.W.codeIn K cdCu "cut"=true) (kCu:PySem.W.keepIn K (.ref fCu)=true)
  (aIn:PySem.W.nsIn K mainGlobals "in_one"=some (some (.ref fIn))) (lIn:K.lookup fIn=some ⟨ocIn,odIn,.func (PySem.W.fnOf "in_one" "in_one" (defArgs sInOne) (defBody sInOne) (defScope sInOne) .none kVIn dcIn pmIn anIn (.ref qIn) ctIn),slIn⟩) (cIn:PySem.W.codeIn K (.ref qIn) "in_one"=true) (kIn:PySem.W.keepIn K (.ref fIn)=true)
  (aRf:PySem.W.nsIn K mainGlobals "road_from"=some (some (.ref fRf))) (lRf:K.lookup fRf=some ⟨ocRf,odRf,.func (PySem.W.fnOf "road_from" "road_from" (defArgs sRoadFrom) (defBody sRoadFrom) (defScope sRoadFrom) .none kVRf dcRf pmRf anRf cdRf ctRf),slRf⟩) (cRf:PySem.W.codeIn K cdRf "road_from"=true) (kRf:PySem.W.keepIn K (.ref fRf)=true)
  (aPa:PySem.W.nsIn K mainGlobals "do_part"=some (some (.ref fPa))) (lPa:K.lookup fPa=some ⟨ocPa,odPa,.func (PySem.W.fnOf "do_part" "do_part" (defArgs sDoPart) (defBody sDoPart) (defScope sDoPart) .none kVPa dcPa pmPa anPa cdPa ctPa),slPa⟩) (cPa:PySem.W.codeIn K cdPa "do_part"=true) (kPa:PySem.W.keepIn K (.ref fPa)=true)
  (aJo:PySem.W.nsIn K mainGlobals "do_join"=some (some (.ref fJo))) (lJo:K.lookup fJo=some ⟨ocJo,odJo,.func (PySem.W.fnOf "do_join" "do_join" (defArgs sDoJoin) (defBody sDoJoin) (defScope sDoJoin) .none kVJo dcJo pmJo anJo cdJo ctJo),slJo⟩) (cJo:PySem.W.codeIn K cdJo "do_join"=true) (kJo:PySem.W.keepIn K (.ref fJo)=true)
  (aFo:PySem.W.nsIn K mainGlobals "do_forfeit"=some (some (.ref fFo))) (lFo:K.lookup fFo=some ⟨ocFo,odFo,.func (PySem.W.fnOf "do_forfeit" "do_forfeit" (defArgs sDoForfeit) (defBody sDoForfeit) (defScope sDoForfeit) .none kVFo dcFo pmFo anFo cdFo ctFo),slFo⟩) (cFo:PySem.W.codeIn K cdFo "do_forfeit"=true) (kFo:PySem.W.keepIn K (.ref fFo)=true)
  (aMe:PySem.W.nsIn K mainGlobals "do_measure"=some (some (.ref fMe))) (lMe:K.lookup fMe=some ⟨ocMe,odMe,.func (PySem.W.fnOf "do_measure" "do_measure" (defArgs sDoMeasure) (defBody sDoMeasure) (defScope sDoMeasure) .none kVMe dcMe pmMe anMe cdMe ctMe),slMe⟩) (cMe:PySem.W.codeIn K cdMe "do_measure"=true) (kMe:PySem.W.keepIn K (.ref fMe)=true)
  (aMn:PySem.W.nsIn K mainGlobals "do_mend"=some (some (.ref fMn))) (lMn:K.lookup fMn=some ⟨ocMn,odMn,.func (PySem.W.fnOf "do_mend" "do_mend" (defArgs sDoMend) (defBody sDoMend) (defScope sDoMend) .none kVMn dcMn pmMn anMn cdMn ctMn),slMn⟩) (cMn:PySem.W.codeIn K cdMn "do_mend"=true) (kMn:PySem.W.keepIn K (.ref fMn)=true)
  (aAl:PySem.W.nsIn K mainGlobals "do_alone"=some (some (.ref fAl))) (lAl:K.lookup fAl=some ⟨ocAl,odAl,.func (PySem.W.fnOf "do_alone" "do_alone" (defArgs sDoAlone) (defBody sDoAlone) (defScope sDoAlone) .none kVAl dcAl pmAl anAl cdAl ctAl),slAl⟩) (cAl:PySem.W.codeIn K cdAl "do_alone"=true) (kAl:PySem.W.keepIn K (.ref fAl)=true)
  (aLo:PySem.W.nsIn K mainGlobals "do_look"=some (some (.ref fLo))) (lLo:K.lookup fLo=some ⟨ocLo,odLo,.func (PySem.W.fnOf "do_look" "do_look" (defArgs sDoLook) (defBody sDoLook) (defScope sDoLook) .none kVLo dcLo pmLo anLo cdLo ctLo),slLo⟩) (cLo:PySem.W.codeIn K cdLo "do_look"=true) (kLo:PySem.W.keepIn K (.ref fLo)=true)
  (aCa:PySem.W.nsIn K mainGlobals "carry_out"=some (some (.ref fCa))) (lCa:K.lookup fCa=some ⟨ocCa,odCa,.func (PySem.W.fnOf "carry_out" "carry_out" (defArgs sCarry) (defBody sCarry) (defScope sCarry) .none kVCa dcCa pmCa anCa cdCa ctCa),slCa⟩) (cCa:PySem.W.codeIn K cdCa "carry_out"=true) (kCa:PySem.W.keepIn K (.ref fCa)=true)
  (aBe:PySem.W.nsIn K mainGlobals "moment_behind"=some (some (.ref fBe))) (lBe:K.lookup fBe=some ⟨ocBe,odBe,.func (PySem.W.fnOf "moment_behind" "moment_behind" (defArgs sBehind) (defBody sBehind) (defScope sBehind) .none kVBe dcBe pmBe anBe cdBe ctBe),slBe⟩) (cBe:PySem.W.codeIn K cdBe "moment_behind"=true) (kBe:PySem.W.keepIn K (.ref fBe)=true)
  (aRd:PySem.W.nsIn K mainGlobals "road"=some (some (.ref fRd))) (lRd:K.lookup fRd=some ⟨ocRd,odRd,.func (PySem.W.fnOf "road" "road" (defArgs sRoad) (defBody sRoad) (defScope sRoad) .none kVRd dcRd pmRd anRd cdRd ctRd),slRd⟩) (cRd:PySem.W.codeIn K cdRd "road"=true) (kRd:PySem.W.keepIn K (.ref fRd)=true)
  (aMs:PySem.W.nsIn K mainGlobals "mends"=some (some (.ref fMs))) (lMs:K.lookup fMs=some ⟨ocMs,odMs,.func (PySem.W.fnOf "mends" "mends" (defArgs sMends) (defBody sMends) (defScope sMends) .none kVMs dcMs pmMs anMs cdMs ctMs),slMs⟩) (cMs:PySem.W.codeIn K cdMs "mends"=true) (kMs:PySem.W.keepIn K (.ref fMs)=true)
  (aRc:PySem.W.nsIn K mainGlobals "row_called"=some (some (.ref fRc))) (lRc:K.lookup fRc=some ⟨ocRc,odRc,.func (PySem.W.fnOf "row_called" "row_called" (defArgs sRowCalled) (defBody sRowCalled) (defScope sRowCalled) .none kVRc dcRc pmRc anRc cdRc ctRc),slRc⟩) (cRc:PySem.W.codeIn K cdRc "row_called"=true) (kRc:PySem.W.keepIn K (.ref fRc)=true)
  (aRg:PySem.W.nsIn K mainGlobals "ring"=some (some (.ref fRg))) (lRg:K.lookup fRg=some ⟨ocRg,odRg,.func (PySem.W.fnOf "ring" "ring" (defArgs sRing) (defBody sRing) (defScope sRing) .none kVRg dcRg pmRg anRg cdRg ctRg),slRg⟩) (cRg:PySem.W.codeIn K cdRg "ring"=true) (kRg:PySem.W.keepIn K (.ref fRg)=true)
  (aWd:PySem.W.nsIn K mainGlobals "words"=some (some (.ref fWd))) (lWd:K.lookup fWd=some ⟨ocWd,odWd,.func (PySem.W.fnOf "words" "words" (defArgs sWords) (defBody sWords) (defScope sWords) .none kVWd dcWd pmWd anWd cdWd ctWd),slWd⟩) (cWd:PySem.W.codeIn K cdWd "words"=true) (kWd:PySem.W.keepIn K (.ref fWd)=true)
  (aP:PySem.W.nsIn K mainGlobals "_law_pen"=some (some (.ref fP))) (lP:K.lookup fP=some ⟨ocP,odP,.func (PySem.W.fnOf "_law_pen" "_law_pen" (defArgs sPen) (defBody sPen) (defScope sPen) .none kVP dcP pmP anP cdP ctP),slP⟩) (cP:PySem.W.codeIn K cdP "_law_pen"=true) (kP:PySem.W.keepIn K (.ref fP)=true)
  (aT:PySem.W.nsIn K mainGlobals "_law_take"=some (some (.ref fT))) (lT:K.lookup fT=some ⟨ocT,odT,.func (PySem.W.fnOf "_law_take" "_law_take" (defArgs sTake) (defBody sTake) (defScope sTake) .none kVT dcT pmT anT cdT ctT),slT⟩) (cT:PySem.W.codeIn K cdT "_law_take"=true) (kT:PySem.W.keepIn K (.ref fT)=true)
  (aN:PySem.W.nsIn K mainGlobals "_law_names"=some (some (.ref fN))) (lN:K.lookup fN=some ⟨ocN,odN,.func (PySem.W.fnOf "_law_names" "_law_names" (defArgs sNames) (defBody sNames) (defScope sNames) .none kVN dcN pmN anN cdN ctN),slN⟩) (cN:PySem.W.codeIn K cdN "_law_names"=true) (kN:PySem.W.keepIn K (.ref fN)=true)
  (aSo:PySem.W.nsIn K mainGlobals "_law_sorts"=some (some (.ref fSo))) (lSo:K.lookup fSo=some ⟨ocSo,odSo,.func (PySem.W.fnOf "_law_sorts" "_law_sorts" (defArgs sSorts) (defBody sSorts) (defScope sSorts) .none kVSo dcSo pmSo anSo cdSo ctSo),slSo⟩) (cSo:PySem.W.codeIn K cdSo "_law_sorts"=true) (kSo:PySem.W.keepIn K (.ref fSo)=true)
  (aD:PySem.W.nsIn K mainGlobals "_law_days"=some (some (.ref fD))) (lD:K.lookup fD=some ⟨ocD,odD,.func (PySem.W.fnOf "_law_days" "_law_days" (defArgs sDays) (defBody sDays) (defScope sDays) .none kVD dcD pmD anD cdD ctD),slD⟩) (cD:PySem.W.codeIn K cdD "_law_days"=true) (kD:PySem.W.keepIn K (.ref fD)=true)
  (aNu:PySem.W.nsIn K mainGlobals "_law_number"=some (some (.ref fNu))) (lNu:K.lookup fNu=some ⟨ocNu,odNu,.func (PySem.W.fnOf "_law_number" "_law_number" (defArgs sNumber) (defBody sNumber) (defScope sNumber) .none kVNu dcNu pmNu anNu cdNu ctNu),slNu⟩) (cNu:PySem.W.codeIn K cdNu "_law_number"=true) (kNu:PySem.W.keepIn K (.ref fNu)=true)
  (aLO:PySem.W.nsIn K mainGlobals "_law_laying"=some (some (.ref fLO))) (lLO:K.lookup fLO=some ⟨ocLO,odLO,.func (PySem.W.fnOf "_law_laying" "_law_laying" (defArgs sLayOf) (defBody sLayOf) (defScope sLayOf) .none kVLO dcLO pmLO anLO cdLO ctLO),slLO⟩) (cLO:PySem.W.codeIn K cdLO "_law_laying"=true) (kLO:PySem.W.keepIn K (.ref fLO)=true)
  (aSm:PySem.W.nsIn K mainGlobals "_law_some"=some (some (.ref fSm))) (lSm:K.lookup fSm=some ⟨ocSm,odSm,.func (PySem.W.fnOf "_law_some" "_law_some" (defArgs sSome) (defBody sSome) (defScope sSome) .none kVSm dcSm pmSm anSm cdSm ctSm),slSm⟩) (cSm:PySem.W.codeIn K cdSm "_law_some"=true) (kSm:PySem.W.keepIn K (.ref fSm)=true)
  (aRo:PySem.W.nsIn K mainGlobals "_law_row_of"=some (some (.ref fRo))) (lRo:K.lookup fRo=some ⟨ocRo,odRo,.func (PySem.W.fnOf "_law_row_of" "_law_row_of" (defArgs sRowOf) (defBody sRowOf) (defScope sRowOf) .none kVRo dcRo pmRo anRo cdRo ctRo),slRo⟩) (cRo:PySem.W.codeIn K cdRo "_law_row_of"=true) (kRo:PySem.W.keepIn K (.ref fRo)=true)
  (aR:PySem.W.nsIn K mainGlobals "_law_row"=some (some (.ref fR))) (lR:K.lookup fR=some ⟨ocR,odR,.func (PySem.W.fnOf "_law_row" "_law_row" (defArgs sRow) (defBody sRow) (defScope sRow) .none kVR dcR pmR anR cdR ctR),slR⟩) (cR:PySem.W.codeIn K cdR "_law_row"=true) (kR:PySem.W.keepIn K (.ref fR)=true)
  (aK:PySem.W.nsIn K mainGlobals "_law_place"=some (some (.ref fK))) (lK:K.lookup fK=some ⟨ocK,odK,.func (PySem.W.fnOf "_law_place" "_law_place" (defArgs sPlace) (defBody sPlace) (defScope sPlace) .none kVK dcK pmK anK cdK ctK),slK⟩) (cK:PySem.W.codeIn K cdK "_law_place"=true) (kK:PySem.W.keepIn K (.ref fK)=true)
  (aMr:PySem.W.nsIn K mainGlobals "_law_mend_row"=some (some (.ref fMr))) (lMr:K.lookup fMr=some ⟨ocMr,odMr,.func (PySem.W.fnOf "_law_mend_row" "_law_mend_row" (defArgs sMendRow) (defBody sMendRow) (defScope sMendRow) .none kVMr dcMr pmMr anMr cdMr ctMr),slMr⟩) (cMr:PySem.W.codeIn K cdMr "_law_mend_row"=true) (kMr:PySem.W.keepIn K (.ref fMr)=true)
  (aSr:PySem.W.nsIn K mainGlobals "_law_some_rows"=some (some (.ref fSr))) (lSr:K.lookup fSr=some ⟨ocSr,odSr,.func (PySem.W.fnOf "_law_some_rows" "_law_some_rows" (defArgs sSomeRows) (defBody sSomeRows) (defScope sSomeRows) .none kVSr dcSr pmSr anSr cdSr ctSr),slSr⟩) (cSr:PySem.W.codeIn K cdSr "_law_some_rows"=true) (kSr:PySem.W.keepIn K (.ref fSr)=true)
  (aWo:PySem.W.nsIn K mainGlobals "_law_world"=some (some (.ref fWo))) (lWo:K.lookup fWo=some ⟨ocWo,odWo,.func (PySem.W.fnOf "_law_world" "_law_world" (defArgs sWorld) (defBody sWorld) (defScope sWorld) .none kVWo dcWo pmWo anWo cdWo ctWo),slWo⟩) (cWo:PySem.W.codeIn K cdWo "_law_world"=true) (kWo:PySem.W.keepIn K (.ref fWo)=true)
  (aRr:PySem.W.nsIn K mainGlobals "_law_roads_right"=some (some (.ref fRr))) (lRr:K.lookup fRr=some ⟨ocRr,odRr,.func (PySem.W.fnOf "_law_roads_right" "_law_roads_right" (defArgs sRoadsRight) (defBody sRoadsRight) (defScope sRoadsRight) .none kVRr dcRr pmRr anRr cdRr ctRr),slRr⟩) (cRr:PySem.W.codeIn K cdRr "_law_roads_right"=true) (kRr:PySem.W.keepIn K (.ref fRr)=true)
  (aSp:PySem.W.nsIn K mainGlobals "_law_step_right"=some (some (.ref fSp))) (lSp:K.lookup fSp=some ⟨ocSp,odSp,.func (PySem.W.fnOf "_law_step_right" "_law_step_right" (defArgs sStepRight) (defBody sStepRight) (defScope sStepRight) .none kVSp dcSp pmSp anSp cdSp ctSp),slSp⟩) (cSp:PySem.W.codeIn K cdSp "_law_step_right"=true) (kSp:PySem.W.keepIn K (.ref fSp)=true)
  (aL:PySem.W.nsIn K mainGlobals "law"=some (some (.ref fL))) (lL:K.lookup fL=some ⟨ocL,odL,.func (PySem.W.fnOf "law" "law" (defArgs sLaw) (defBody sLaw) (defScope sLaw) .none kVL dcL pmL anL cdL ctL),slL⟩) (cL:PySem.W.codeIn K cdL "law"=true) (kL:PySem.W.keepIn K (.ref fL)=true)
  (z_len:PySem.W.nsIn K mainGlobals "len"=some none)
  (z_sum:PySem.W.nsIn K mainGlobals "sum"=some none)
  (z_max:PySem.W.nsIn K mainGlobals "max"=some none)
  (z_min:PySem.W.nsIn K mainGlobals "min"=some none)
  (z_tuple:PySem.W.nsIn K mainGlobals "tuple"=some none)
  (z_sorted:PySem.W.nsIn K mainGlobals "sorted"=some none)
  (z_any:PySem.W.nsIn K mainGlobals "any"=some none)
  (z_all:PySem.W.nsIn K mainGlobals "all"=some none)
  (z_abs:PySem.W.nsIn K mainGlobals "abs"=some none)
  (z_range:PySem.W.nsIn K mainGlobals "range"=some none)
  (z_int:PySem.W.nsIn K mainGlobals "int"=some none)
  (z_list:PySem.W.nsIn K mainGlobals "list"=some none)
  (z_set:PySem.W.nsIn K mainGlobals "set"=some none)
  (q_DEEDS:PySem.W.nsIn K mainGlobals "DEEDS"=some (some (.ref t_DEEDS)))
  (lFm:K.lookup t_DEEDS=some { cls:=.type "dict",data:=.dict #[⟨PyData.keyHash w.params "part",.str "part" xk0,.ref fPa⟩,⟨PyData.keyHash w.params "join",.str "join" xk1,.ref fJo⟩,⟨PyData.keyHash w.params "forfeit",.str "forfeit" xk2,.ref fFo⟩,⟨PyData.keyHash w.params "measure",.str "measure" xk3,.ref fMe⟩,⟨PyData.keyHash w.params "mend",.str "mend" xk4,.ref fMn⟩,⟨PyData.keyHash w.params "alone",.str "alone" xk5,.ref fAl⟩,⟨PyData.keyHash w.params "breach",.str "breach" xk6,.ref fLo⟩,⟨PyData.keyHash w.params "view",.str "view" xk7,.ref fLo⟩] eF }) (hcI:PySem.W.codeHdIn K qIn TT=true)
  :∃ fd:FuncData,(∀ (s:Shared) (v:Value),BindsTo s fd ⟨[v],[]⟩ [("_law_script",v)])∧∀ base:Heap,K.In base→base.Ns mainGlobals mg→BltM mg base→FnOk l.prog w K mg base CX0 11 fa fd ["_law_script"] (spLaw K TT):=by
 have e:=hfa.symm.trans (PySem.W.mg_of X G aL)
 cases e
 have FAc:=fun_mk (st:=sAcres) lAc cAc kAc
 have mAc:=PySem.W.mg_of X G aAc
 have bAc:=FAc.binds (ps:=["pieces"]) fun _ _ _ _ _ _ us hl=>match us,hl with | [_],_=>rfl
 have FCu:=fun_mk (st:=sCut) lCu cCu kCu
 have mCu:=PySem.W.mg_of X G aCu
 have bCu:=FCu.binds (ps:=["pieces","low","high"]) fun _ _ _ _ _ _ us hl=>match us,hl with | [_,_,_],_=>rfl
 have FIn:=fun_mk (st:=sInOne) lIn cIn kIn
 have mIn:=PySem.W.mg_of X G aIn
 have bIn:=FIn.binds (ps:=["ranks","pieces"]) fun _ _ _ _ _ _ us hl=>match us,hl with | [_,_],_=>rfl
 have FRf:=fun_mk (st:=sRoadFrom) lRf cRf kRf
 have mRf:=PySem.W.mg_of X G aRf
 have bRf:=FRf.binds (ps:=["menders","house"]) fun _ _ _ _ _ _ us hl=>match us,hl with | [_,_],_=>rfl
 have FPa:=fun_mk (st:=sDoPart) lPa cPa kPa
 have mPa:=PySem.W.mg_of X G aPa
 have bPa:=FPa.binds (ps:=["moment","row"]) fun _ _ _ _ _ _ us hl=>match us,hl with | [_,_],_=>rfl
 have FJo:=fun_mk (st:=sDoJoin) lJo cJo kJo
 have mJo:=PySem.W.mg_of X G aJo
 have bJo:=FJo.binds (ps:=["moment","row"]) fun _ _ _ _ _ _ us hl=>match us,hl with | [_,_],_=>rfl
 have FFo:=fun_mk (st:=sDoForfeit) lFo cFo kFo
 have mFo:=PySem.W.mg_of X G aFo
 have bFo:=FFo.binds (ps:=["moment","row"]) fun _ _ _ _ _ _ us hl=>match us,hl with | [_,_],_=>rfl
 have FMe:=fun_mk (st:=sDoMeasure) lMe cMe kMe
 have mMe:=PySem.W.mg_of X G aMe
 have bMe:=FMe.binds (ps:=["moment","row"]) fun _ _ _ _ _ _ us hl=>match us,hl with | [_,_],_=>rfl
 have FMn:=fun_mk (st:=sDoMend) lMn cMn kMn
 have mMn:=PySem.W.mg_of X G aMn
 have bMn:=FMn.binds (ps:=["moment","row"]) fun _ _ _ _ _ _ us hl=>match us,hl with | [_,_],_=>rfl
 have FAl:=fun_mk (st:=sDoAlone) lAl cAl kAl
 have mAl:=PySem.W.mg_of X G aAl
 have bAl:=FAl.binds (ps:=["moment","row"]) fun _ _ _ _ _ _ us hl=>match us,hl with | [_,_],_=>rfl
 have FLo:=fun_mk (st:=sDoLook) lLo cLo kLo
 have mLo:=PySem.W.mg_of X G aLo
 have bLo:=FLo.binds (ps:=["moment","row"]) fun _ _ _ _ _ _ us hl=>match us,hl with | [_,_],_=>rfl
 have FCa:=fun_mk (st:=sCarry) lCa cCa kCa
 have mCa:=PySem.W.mg_of X G aCa
 have bCa:=FCa.binds (ps:=["moment","row"]) fun _ _ _ _ _ _ us hl=>match us,hl with | [_,_],_=>rfl
 have FBe:=fun_mk (st:=sBehind) lBe cBe kBe
 have mBe:=PySem.W.mg_of X G aBe
 have bBe:=FBe.binds (ps:=["roll","at"]) fun _ _ _ _ _ _ us hl=>match us,hl with | [_,_],_=>rfl
 have FRd:=fun_mk (st:=sRoad) lRd cRd kRd
 have mRd:=PySem.W.mg_of X G aRd
 have bRd:=FRd.binds (ps:=["roll","at","house"]) fun _ _ _ _ _ _ us hl=>match us,hl with | [_,_,_],_=>rfl
 have FMs:=fun_mk (st:=sMends) lMs cMs kMs
 have mMs:=PySem.W.mg_of X G aMs
 have bMs:=FMs.binds (ps:=["roll","at","house"]) fun _ _ _ _ _ _ us hl=>match us,hl with | [_,_,_],_=>rfl
 have FRc:=fun_mk (st:=sRowCalled) lRc cRc kRc
 have mRc:=PySem.W.mg_of X G aRc
 have bRc:=FRc.binds (ps:=["roll","name"]) fun _ _ _ _ _ _ us hl=>match us,hl with | [_,_],_=>rfl
 have FRg:=fun_mk (st:=sRing) lRg cRg kRg
 have mRg:=PySem.W.mg_of X G aRg
 have bRg:=FRg.binds (ps:=["roll","name"]) fun _ _ _ _ _ _ us hl=>match us,hl with | [_,_],_=>rfl
 have FWd:=fun_mk (st:=sWords) lWd cWd kWd
 have mWd:=PySem.W.mg_of X G aWd
 have bWd:=FWd.binds (ps:=["roll"]) fun _ _ _ _ _ _ us hl=>match us,hl with | [_],_=>rfl
 have FP:=fun_mk (st:=sPen) lP cP kP
 have mP:=PySem.W.mg_of X G aP
 have bP:=FP.binds (ps:=["_law_script"]) fun _ _ _ _ _ _ us hl=>match us,hl with | [_],_=>rfl
 have FT:=fun_mk (st:=sTake) lT cT kT
 have mT:=PySem.W.mg_of X G aT
 have bT:=FT.binds (ps:=["_law_pen_here","_law_many"]) fun _ _ _ _ _ _ us hl=>match us,hl with | [_,_],_=>rfl
 have FN:=fun_mk (st:=sNames) lN cN kN
 have mN:=PySem.W.mg_of X G aN
 have bN:=FN.binds (ps:=["_law_pen_here","_law_many"]) fun _ _ _ _ _ _ us hl=>match us,hl with | [_,_],_=>rfl
 have FSo:=fun_mk (st:=sSorts) lSo cSo kSo
 have mSo:=PySem.W.mg_of X G aSo
 have bSo:=FSo.binds (ps:=["_law_pen_here","_law_fields","_law_rows"]) fun _ _ _ _ _ _ us hl=>match us,hl with | [_,_,_],_=>rfl
 have FD:=fun_mk (st:=sDays) lD cD kD
 have mD:=PySem.W.mg_of X G aD
 have bD:=FD.binds (ps:=["_law_pen_here","_law_many"]) fun _ _ _ _ _ _ us hl=>match us,hl with | [_,_],_=>rfl
 have FNu:=fun_mk (st:=sNumber) lNu cNu kNu
 have mNu:=PySem.W.mg_of X G aNu
 have bNu:=FNu.binds (ps:=["_law_pen_here","_law_bottom","_law_most"]) fun _ _ _ _ _ _ us hl=>match us,hl with | [_,_,_],_=>rfl
 have FLO:=fun_mk (st:=sLayOf) lLO cLO kLO
 have mLO:=PySem.W.mg_of X G aLO
 have bLO:=FLO.binds (ps:=["_law_pen_here","_law_fields","_law_houses"]) fun _ _ _ _ _ _ us hl=>match us,hl with | [_,_,_],_=>rfl
 have FSm:=fun_mk (st:=sSome) lSm cSm kSm
 have mSm:=PySem.W.mg_of X G aSm
 have bSm:=FSm.binds (ps:=["_law_pen_here","_law_names_here","_law_many"]) fun _ _ _ _ _ _ us hl=>match us,hl with | [_,_,_],_=>rfl
 have FRo:=fun_mk (st:=sRowOf) lRo cRo kRo
 have mRo:=PySem.W.mg_of X G aRo
 have bRo:=FRo.binds (ps:=["_law_pen_here","_law_word","_law_name","_law_day","_law_sorts_here"]) fun _ _ _ _ _ _ us hl=>match us,hl with | [_,_,_,_,_],_=>rfl
 have FR:=fun_mk (st:=sRow) lR cR kR
 have mR:=PySem.W.mg_of X G aR
 have bR:=FR.binds (ps:=["_law_pen_here","_law_name","_law_day","_law_sorts_here"]) fun _ _ _ _ _ _ us hl=>match us,hl with | [_,_,_,_],_=>rfl
 have FK:=fun_mk (st:=sPlace) lK cK kK
 have mK:=PySem.W.mg_of X G aK
 have bK:=FK.binds (ps:=["_law_row_here"]) fun _ _ _ _ _ _ us hl=>match us,hl with | [_],_=>rfl
 have FMr:=fun_mk (st:=sMendRow) lMr cMr kMr
 have mMr:=PySem.W.mg_of X G aMr
 have bMr:=FMr.binds (ps:=["_law_pen_here","_law_name","_law_day","_law_houses","_law_past"]) fun _ _ _ _ _ _ us hl=>match us,hl with | [_,_,_,_,_],_=>rfl
 have FSr:=fun_mk (st:=sSomeRows) lSr cSr kSr
 have mSr:=PySem.W.mg_of X G aSr
 have bSr:=FSr.binds (ps:=["_law_pen_here","_law_names_here","_law_sorts_here","_law_many"]) fun _ _ _ _ _ _ us hl=>match us,hl with | [_,_,_,_],_=>rfl
 have FWo:=fun_mk (st:=sWorld) lWo cWo kWo
 have mWo:=PySem.W.mg_of X G aWo
 have bWo:=FWo.binds (ps:=["_law_pen_here"]) fun _ _ _ _ _ _ us hl=>match us,hl with | [_],_=>rfl
 have FRr:=fun_mk (st:=sRoadsRight) lRr cRr kRr
 have mRr:=PySem.W.mg_of X G aRr
 have bRr:=FRr.binds (ps:=["_law_roll","_law_at","_law_houses"]) fun _ _ _ _ _ _ us hl=>match us,hl with | [_,_,_],_=>rfl
 have FSp:=fun_mk (st:=sStepRight) lSp cSp kSp
 have mSp:=PySem.W.mg_of X G aSp
 have bSp:=FSp.binds (ps:=["_law_roll","_law_at","_law_houses","_law_term"]) fun _ _ _ _ _ _ us hl=>match us,hl with | [_,_,_,_],_=>rfl
 have FL:=fun_mk (st:=sLaw) lL cL kL
 have mL:=PySem.W.mg_of X G aL
 have bL:=FL.binds (ps:=["_law_script"]) fun _ _ _ _ _ _ us hl=>match us,hl with | [_],_=>rfl
 have n_len:=PySem.W.mg_none_of X G z_len
 have n_sum:=PySem.W.mg_none_of X G z_sum
 have n_max:=PySem.W.mg_none_of X G z_max
 have n_min:=PySem.W.mg_none_of X G z_min
 have n_tuple:=PySem.W.mg_none_of X G z_tuple
 have n_sorted:=PySem.W.mg_none_of X G z_sorted
 have n_any:=PySem.W.mg_none_of X G z_any
 have n_all:=PySem.W.mg_none_of X G z_all
 have n_abs:=PySem.W.mg_none_of X G z_abs
 have n_range:=PySem.W.mg_none_of X G z_range
 have n_int:=PySem.W.mg_none_of X G z_int
 have n_list:=PySem.W.mg_none_of X G z_list
 have n_set:=PySem.W.mg_none_of X G z_set
 have g_DEEDS:=PySem.W.mg_of X G q_DEEDS
 refine ⟨PySem.W.fnOf "law" "law" (defArgs sLaw) (defBody sLaw) (defScope sLaw) .none kVL dcL pmL anL cdL ctL,fun s v=>.of_eq rfl,fun base _ _ hB=>?_⟩
 have hc:MC K C:=⟨⟨pg,hd,po,sa⟩,nR,nH,nA,nI,nM⟩
 have mC:=PySem.W.mg_of X G aC
 have FI:=fun_mk (st:=sInit) lI cI kI
 have bI:=FI.binds (ps:=["self","laying"]) fun _ _ _ _ _ _ us hl=>match us,hl with | [_,_],_=>rfl
 have GI:=ok_init (P:=l.prog) (w:=w) (base:=base) FI hc n_len
 have GAc:=ok_acres (P:=l.prog) (w:=w) (base:=base) FAc n_sum
 have GCu:=ok_cut (P:=l.prog) (w:=w) (base:=base) FCu n_max n_min n_tuple
 have GIn:=ok_inOne (P:=l.prog) (w:=w) FIn rfl hcI hB n_sorted n_tuple
 have GRf:=ok_roadFrom (P:=l.prog) (w:=w) (mg:=mg) (base:=base) FRf
 have GPa:=ok_doPart (T:=TT) FPa hc n_sum n_any GAc mAc kAc bAc GCu mCu kCu bCu
 have GJo:=ok_doJoin FJo hc n_all n_any GIn mIn kIn bIn
 have GFo:=ok_doForfeit (P:=l.prog) (w:=w) (mg:=mg) (base:=base) (T:=TT) FFo hc
 have GMe:=ok_doMeasure (P:=l.prog) (w:=w) (mg:=mg) (base:=base) (T:=TT) FMe hc
 have GMn:=ok_doMend (T:=TT) FMn hc GRf mRf kRf bRf
 have GAl:=ok_doAlone (P:=l.prog) (w:=w) (mg:=mg) (base:=base) (T:=TT) FAl hc
 have GLo:=ok_doLook (P:=l.prog) (w:=w) (mg:=mg) (base:=base) (T:=TT) FLo hc
 have GCa:=ok_carry FCa (fm_dict lFm) g_DEEDS ⟨⟨_,GPa.mono (by decide),kPa,bPa⟩⟩ ⟨⟨_,GJo.mono (by decide),kJo,bJo⟩⟩ ⟨⟨_,GFo.mono (by decide),kFo,bFo⟩⟩ ⟨⟨_,GMe.mono (by decide),kMe,bMe⟩⟩ ⟨⟨_,GMn.mono (by decide),kMn,bMn⟩⟩ ⟨⟨_,GAl.mono (by decide),kAl,bAl⟩⟩ ⟨⟨_,GLo.mono (by decide),kLo,bLo⟩⟩
 have GBe:=ok_behind FBe ⟨mk,aI,iI,kc⟩ GI mC bI GCa mCa kCa bCa
 have GRd:=ok_road FRd hc GBe mBe kBe bBe GRf mRf kRf bRf
 have GMs:=ok_mends FMs GRd mRd kRd bRd
 have GT:=ok_take (P:=l.prog) (w:=w) (base:=base) FT n_len n_abs
 have GN:=ok_names FN n_len n_range n_min GT mT kT bT
 have GSo:=ok_sorts FSo GT mT kT bT GN mN kN bN
 have GNu:=ok_num FNu n_min GT mT kT bT
 have GD:=ok_days FD n_range n_len n_int GT mT kT bT
 have GLO:=ok_layOf FLO n_len n_tuple GT mT kT bT GNu mNu kNu bNu
 have GSm:=ok_some FSm n_list n_range n_sorted n_len GT mT kT bT
 have GRo:=ok_rowOf FRo n_len n_tuple GT mT kT bT GNu mNu kNu bNu GSm mSm kSm bSm
 have GR:=ok_row FR GT mT kT bT GRo mRo kRo bRo
 have GK:=ok_place (P:=l.prog) (w:=w) (mg:=mg) (base:=base) FK
 have GMr:=ok_mendRow FMr n_len GT mT kT bT
 have GSr:=ok_someRows FSr n_range n_tuple n_sorted GT mT kT bT GD mD kD bD GR mR kR bR GMr mMr kMr bMr GK mK bK
 have GWo:=ok_world FWo GT mT kT bT GSo mSo kSo bSo GN mN kN bN GLO mLO kLO bLO GSr mSr kSr bSr
 have GRc:=ok_rowCalled (P:=l.prog) (w:=w) (mg:=mg) (base:=base) FRc
 have GRg:=ok_ring FRg hc GRc mRc kRc bRc GBe mBe kBe bBe GRf mRf kRf bRf GCa mCa kCa bCa
 have GWd:=ok_words FWd ⟨mk,aI,iI,kc⟩ GI mC bI GCa mCa kCa bCa
 have GRr:=ok_roadsRight FRr n_len n_set n_range GRd mRd kRd bRd GMs mMs kMs bMs
 have GSp:=ok_stepRight FSp n_len n_int GRd mRd kRd bRd GRg mRg kRg bRg
 exact ok_law FL n_len n_range (ok_pen FP n_list) mP kP bP GWo mWo kWo bWo GWd mWd kWd bWd GRr mRr kRr bRr GSp mSp kSp bSp
theorem walk {l:PySem.W.OpenLaw}{q:Program}{loose:List Str}{XP:(Str→Option Value)→Heap→Prop}{YP:World→Heap→Prop}{d:DefRec}{K:Params→PySem.W.Frag}{c T:Addr} (hn:l.most=some 63) (hdf:d.params.defaults=[])
  (hY:∀ (w:World) (h:Heap),YP w h→(K w.params).In h∧∀ P∈[T],h.get? P=some (PySem.W.tabObj #[]))
  (F:∀ (w:World) (mg:Str→Option Value) (fa:Addr) (h:Heap),(K w.params).In h→h.Ns mainGlobals mg→mg d.name=some (.ref fa)→
   ∃ fd:FuncData,(∀ (s:Shared) (u:Value),BindsTo s fd ⟨[u],[]⟩ [("_law_script",u)])∧∀ base:Heap,(K w.params).In base→base.Ns mainGlobals mg→BltM mg base→FnOk l.prog w (K w.params) mg base CX0 11 fa fd ["_law_script"] (spLaw (K w.params) T))
  (hC:∀ (w:World),PySem.W.codeHdIn (K w.params) c T=true) (hN:∀ (w:World),(K w.params).lookup T=none):
  PySem.W.WalkO q loose XP YP l.row.toRowW d [] (fun f vs=>PySem.call f vs):=
 L2.walk_ofT (n:=63) (k:=11) (x:="_law_script") (cts:=[(c,T)]) (sp:=fun w=>spLaw (K w.params) T) hn (by decide) hdf ⟨rfl,by decide,by decide,rfl⟩ hY (fun w p hp=>by
  rw [List.mem_singleton.mp hp]
  exact ⟨hC w,hN w⟩) F fun w H a ns hl hT hS=>⟨a,ns,rfl,hS,hl,GoodT.start (hT T (List.mem_singleton.mpr rfl)),fun _=>rfl⟩
end K37
end
namespace PySem.W.Fast
def tw7911953481861770633:=0
def tw12943117104648942140:=0
def tw11215587644599652778:=0
def tw4459564446413484924:=0
def tw13390704320750823672:=0
def tw6021643311673064396:=0
def tw1975568081265172895:=0
def tw4585360552544631882:=0
def tw9761377348985066656:=0
def tw18145636658787386855:=0
def tw12083710217914293333:=0
def tw13609313817043558914:=0
def tw3541827050766091630:=0
def tw11594584023754937003:=0
def tw11841405264425937226:=0
def tw8196330533585573462:=0
def tw4443334681256044308:=0
def tw17681082275841254893:=0
def tw12631761049098579025:=0
def tw11157812826017287518:=0
def tw12239144429030033783:=0
def tw1156960602741504884:=0
def tw8334444067983305117:=0
def tw722825328966864442:=0
def tw3373774787531343260:=0
def tw9513427437435723647:=0
def tw11032435699125747007:=0
def tw2178512039301018644:=0
def tw15398590555348099449:=0
def tw3446294103441601865:=0
def tw6104122460931533531:=0
def tw12991828637043003361:=0
def tw7634951643974624054:=0
def tw14150186672263834293:=0
def tw7640336317119764021:=0
def tw13544547455577633556:=0
def tw14257528964330292409:=0
def tw3416933739953596559:=0
def tw8036858723690672219:=0
def tw16932382685185022599:=0
def tw10401778387985033711:=0
def tw3310914838114570131:=0
def tw6547835252295287733:=0
def tw3047618967960505216:=0
def tw3370097441601862185:=0
def tw17096618833949298266:=0
def tw4454403526551612688:=0
def tw11861847821142463040:=0
def tw8636639462894138604:=0
def tw9475439082357737388:=0
def tw9630300234508477909:=0
def tw5548170599632645363:=0
def tw1623762042702994571:=0
def tw192044688168472445:=0
def tw17402633910137300296:=0
def tw3855695771085069993:=0
def tw11755857689529250145:=0
def tw17345620624060774985:=0
def tw14388635544671692765:=0
def tw17538990025891728443:=0
def tw11596681579109891514:=0
def tw1143786902917078823:=0
def tw7303137199667408621:=0
def tw17477174665014917393:=0
def tw12392007574623392138:=0
def tw2632088227854013014:=0
def tw6226687479439593069:=0
def tw11215576137610879479:=0
def tw5482291522021907279:=0
def tw2046006250216241680:=0
def tw5983879262941603107:=0
def tw12149398203420289820:=0
def tw15594175778024337657:=0
def tw14016041677840815290:=0
def tw10208918837948503715:=0
def tw3974960765584755220:=0
def tw15350795922022083869:=0
def tw11130179581025081972:=0
def tw1404732177304046621:=0
def tw12127323624352400794:=0
def tw5765500513520695160:=0
def tw8733635160752308697:=0
def tw6632489350162819113:=0
def tw6281761706760937534:=0
def tw7335823336998986021:=0
def tw8243961244520387603:=0
def tw8008002027130680907:=0
def tw17588339890548134136:=0
def tw9944320473304848615:=0
def tw11682754626815080945:=0
def tw13529809629203973245:=0
def tw9495682529226085401:=0
def tw8397816945526465018:=0
def tw10898955623600691925:=0
def tw2632890837227154495:=0
def tw4578553810252162746:=0
def tw13102384982767105807:=0
def tw8887553983377792537:=0
def tw8030103577350089087:=0
def tw16063731901529122301:=0
def tw5644350928717138082:=0
def tw2021294876146399051:=0
def tw700254974272309966:=0
def tw13090924278977485223:=0
def tw10048011431646620615:=0
def tw5673757678126832534:=0
def tw1333389820673616417:=0
def tw17917805493475456516:=0
def tw13641821895137020654:=0
def tw6416067010012972017:=0
def tw10894239956497144311:=0
def tw8513389553839509202:=0
def tw3354632468531400111:=0
def tw8126917975831439241:=0
def tw8072520140245155252:=0
def tw11999064098259627240:=0
def tw15751400038778881818:=0
def tw4890562743741781783:=0
def tw12434385662187839672:=0
def tw17675146117494441938:=0
def tw16342301079147473377:=0
def tw11571176657759612134:=0
def tw12491058264628474989:=0
def tw17307000677928567538:=0
def tw7930433064046498990:=0
def tw9469021513423827938:=0
def tw14093155073042399348:=0
def tw408126116064589999:=0
def tw1670844223503292813:=0
def tw4929137441772784089:=0
def tw13266805944791051557:=0
def tw14637389459749763557:=0
def tw2955351110416300121:=0
def tw12270736062674957760:=0
def tw4827790884557893654:=0
def tw15437786298050621215:=0
def tw5038874351237997876:=0
def tw14097794611548383244:=0
def tw15707976759179456154:=0
def tw3733536659182619607:=0
def tw4949626793383235610:=0
def tw15045133096156957872:=0
def tw9784985057131154173:=0
def tw3521405415558072704:=0
def tw14849370018556029381:=0
def tw5441255367538951296:=0
def tw3566595522254997134:=0
def tw16551211802641715200:=0
def tw11592303749915301292:=0
def tw14121256568436971564:=0
def tw11221424176903071950:=0
def tw1195164025313898236:=0
def tw12580369993562831019:=0
def tw45431687974628790:=0
def tw17948119111344062069:=0
def tw3888559616675416381:=0
def tw16442787221533789204:=0
def tw17069056736044602855:=0
def tw3831468164050605411:=0
def tw208334178620936767:=0
def tw10771812204813200246:=0
def tw14054924310050153065:=0
def tw11393608336884835295:=0
def tw18119331665973436109:=0
def tw11164893423512350178:=0
def tw10212748290389761460:=0
def tw16888117599402183801:=0
def tw3674624253162132330:=0
def tw7031682534263018093:=0
def tw728624542446189739:=0
def tw8533605987703368608:=0
def tw6514084151390680444:=0
def tw3336716071816095301:=0
def tw3140131578780114883:=0
def tw4671782585287845250:=0
def tw1558237577583660190:=0
def tw3796959278827209698:=0
def tw17363856786064415596:=0
def tw11475905964659859004:=0
def tw8575405621823872000:=0
def tw8600570373712158137:=0
def tw10347274021396441412:=0
def tw17938182064849657503:=0
def tw6313848091931095496:=0
def tw12413641002425163627:=0
def tw11022137646035293562:=0
def tw10793834967019656691:=0
def tw2431338049445551716:=0
def tw11912064983418341970:=0
def tw10675505840508584811:=0
def tw7058036040035492052:=0
def tw2620667350812545077:=0
def tw18393213641907447925:=0
def tw13772883883193397702:=0
def tw12197539656854575041:=0
def tw12157323904749354717:=0
def tw17732483600238877176:=0
def tw468937766524242229:=0
def tw17811786603801227205:=0
def tw7704937332766072990:=0
def tw17950271525885874247:=0
def tw16983568758618840125:=0
def tw3329130122315822602:=0
def tw848346928026821927:=0
def tw11439190041548912665:=0
def tw6160835169274530779:=0
def tw18434235066703218789:=0
def tw12921352027289527321:=0
def tw11367220006307201214:=0
def tw11518375594070939854:=0
def tw16788378811788039103:=0
def tw9558151666295073901:=0
def tw7648286428518045245:=0
def tw7058611093248882449:=0
def tw2806651204818423424:=0
def tw2904354766301806015:=0
def tw2836204324334871128:=0
def tw13561580724400636713:=0
def tw7381546527385146502:=0
def tw11888321954488606223:=0
def tw16835525608489227914:=0
def tw2473635625335541270:=0
def tw17405014613706304866:=0
def tw2585709227967213539:=0
def tw3728255000508157641:=0
def tw9740365903220467256:=0
def tw7535513701421434895:=0
def tw14972919110793971142:=0
def tw17885482522032843750:=0
def tw793459462589686813:=0
def tw11931275717399223720:=0
def tw16101492092700176105:=0
def tw17156693458667146899:=0
def tw15393021551067450737:=0
def tw1272314657223466748:=0
def tw17121557828201419764:=0
def tw11843227352489732164:=0
def tw13493412437543090355:=0
def tw6630576146348028420:=0
def tw15801357692283970810:=0
def tw10863619913527376732:=0
def tw3495168822690467877:=0
def tw17854130330159376017:=0
def tw16169054283074590129:=0
def tw14708465661293815782:=0
def tw18021471446353471222:=0
def tw13838334253685789501:=0
def tw9878419486207585914:=0
def tw17028899783868722570:=0
def tw13660740906759086406:=0
def tw9485701577546970877:=0
def tw9960101912940303476:=0
def tw6965625885970974787:=0
def tw17361486316255935287:=0
def tw16621630900030552054:=0
def tw6847142162309392140:=0
def tw6936942609116198560:=0
def tw11512964678420193386:=0
def tw8781709093756108634:=0
def tw12656774923421029453:=0
def tw12939384716742966797:=0
def tw4175067790427067008:=0
def tw3236123017854096673:=0
def tw7819909513956060270:=0
def tw14828252471644385119:=0
def tw5228996304419605779:=0
def tw18382761470982722386:=0
def tw7633931245330140419:=0
def tw9945991109851016197:=0
def tw7254075070569575871:=0
def tw15907608688461814900:=0
def tw17840747589315763771:=0
def tw2944560486635103204:=0
def tw2418787924598399985:=0
def tw9227513569672748547:=0
def tw8337254040515519094:=0
def tw6448914350665959040:=0
def tw15401289865478385159:=0
def tw15143760889270760050:=0
def tw5454115719911599162:=0
def tw8052099271982552422:=0
def tw13219875629984141496:=0
def tw18227683967097013242:=0
def tw7483020161183927259:=0
def tw1641928427496832489:=0
def tw1124854066559703136:=0
def tw6757892003443092843:=0
def tw15843979360043557708:=0
def tw7428241576569122240:=0
def tw17201096853897059474:=0
def tw12624233281229392848:=0
def tw11413373702855956715:=0
def tw5534639178784111723:=0
def tw6965488838799362645:=0
def tw9564153883985238142:=0
def tw1893332018736447080:=0
def tw4208730402294504085:=0
def tw2955035564182365029:=0
def tw16145772447535252116:=0
def tw4689440302343194614:=0
def tw13646112167700329153:=0
def tw6987102645307561509:=0
def tw17593738453954022202:=0
def tw15630406850647933456:=0
def tw727454225734639738:=0
def tw17401571395408514092:=0
def tw10481339052811181127:=0
def tw10416706266785696150:=0
def tw4144674167684974573:=0
def tw1411901949847067490:=0
def tw7413981182143377041:=0
def tw14827026111127040525:=0
def tw2099254145361417210:=0
def tw13166557410465301148:=0
def tw1975939837587667714:=0
def tw6286984602139456096:=0
def tw10848784980791018905:=0
def tw14571289588780042574:=0
def tw8700340827421986936:=0
def tw11896112520507119252:=0
def tw9878009119032456428:=0
def tw1323912427614900404:=0
def tw15421321740481352500:=0
def tw12439367036987445417:=0
def tw1809352716043326837:=0
def tw16753199396672668671:=0
def tw1457402600980216646:=0
def tw7445392409409500004:=0
end PySem.W.Fast
open PySem PySem.W PyProof.Rows
set_option maxRecDepth 100000 in
set_option maxHeartbeats 0 in
theorem PySem.Challenge.cw_dykelengths_k37_whole_never_a_ring_holds : PySem.Challenge.rw_dykelengths_k37_whole_never_a_ring.Holds := by
 w_on;o_law;k_head;(case hw=>w_witness2)
 k_fill
 refine K37.walk (l:=PySem.Challenge.rw_dykelengths_k37_whole_never_a_ring) (c:=90) (T:=86) rfl rfl (fun w h Y=>⟨PySem.W.km_in_of Y,PySem.W.km_tabs_of Y⟩) ?F ?hC ?hN
 case F=>
  intro w mg fa h KX G hmg
  refine' K37.all_mk KX G hmg ?aC ?aI ?iI ?lI ?cI ?kI ?pg ?hd ?po ?sa ?mk ?kc ?nR ?nH ?nA ?nI ?nM ?aAc ?lAc ?cAc ?kAc ?aCu ?lCu ?cCu ?kCu ?aIn ?lIn ?cIn ?kIn ?aRf ?lRf ?cRf ?kRf ?aPa ?lPa ?cPa ?kPa ?aJo ?lJo ?cJo ?kJo ?aFo ?lFo ?cFo ?kFo ?aMe ?lMe ?cMe ?kMe ?aMn ?lMn ?cMn ?kMn ?aAl ?lAl ?cAl ?kAl ?aLo ?lLo ?cLo ?kLo ?aCa ?lCa ?cCa ?kCa ?aBe ?lBe ?cBe ?kBe ?aRd ?lRd ?cRd ?kRd ?aMs ?lMs ?cMs ?kMs ?aRc ?lRc ?cRc ?kRc ?aRg ?lRg ?cRg ?kRg ?aWd ?lWd ?cWd ?kWd ?aP ?lP ?cP ?kP ?aT ?lT ?cT ?kT ?aN ?lN ?cN ?kN ?aSo ?lSo ?cSo ?kSo ?aD ?lD ?cD ?kD ?aNu ?lNu ?cNu ?kNu ?aLO ?lLO ?cLO ?kLO ?aSm ?lSm ?cSm ?kSm ?aRo ?lRo ?cRo ?kRo ?aR ?lR ?cR ?kR ?aK ?lK ?cK ?kK ?aMr ?lMr ?cMr ?kMr ?aSr ?lSr ?cSr ?kSr ?aWo ?lWo ?cWo ?kWo ?aRr ?lRr ?cRr ?kRr ?aSp ?lSp ?cSp ?kSp ?aL ?lL ?cL ?kL ?z_len ?z_sum ?z_max ?z_min ?z_tuple ?z_sorted ?z_any ?z_all ?z_abs ?z_range ?z_int ?z_list ?z_set ?q_DEEDS ?lFm ?hcI
  case aC|aI|iI|lI|cI|kI|pg|hd|po|sa|mk|kc|nR|nH|nA|nI|nM|aAc|lAc|cAc|kAc|aCu|lCu|cCu|kCu|aIn|lIn|cIn|kIn|aRf|lRf|cRf|kRf|aPa|lPa|cPa|kPa|aJo|lJo|cJo|kJo|aFo|lFo|cFo|kFo|aMe|lMe|cMe|kMe|aMn|lMn|cMn|kMn|aAl|lAl|cAl|kAl|aLo|lLo|cLo|kLo|aCa|lCa|cCa|kCa|aBe|lBe|cBe|kBe|aRd|lRd|cRd|kRd|aMs|lMs|cMs|kMs|aRc|lRc|cRc|kRc|aRg|lRg|cRg|kRg|aWd|lWd|cWd|kWd|aP|lP|cP|kP|aT|lT|cT|kT|aN|lN|cN|kN|aSo|lSo|cSo|kSo|aD|lD|cD|kD|aNu|lNu|cNu|kNu|aLO|lLO|cLO|kLO|aSm|lSm|cSm|kSm|aRo|lRo|cRo|kRo|aR|lR|cR|kR|aK|lK|cK|kK|aMr|lMr|cMr|kMr|aSr|lSr|cSr|kSr|aWo|lWo|cWo|kWo|aRr|lRr|cRr|kRr|aSp|lSp|cSp|kSp|aL|lL|cL|kL|z_len|z_sum|z_max|z_min|z_tuple|z_sorted|z_any|z_all|z_abs|z_range|z_int|z_list|z_set|q_DEEDS|lFm=>k_is
  case hcI=>kernel_rfl
 case hC=>exact fun w=>by kernel_rfl
 case hN=>exact fun w=>by kernel_rfl
