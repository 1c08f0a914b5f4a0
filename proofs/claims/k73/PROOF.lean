import PyProof.Rows.All
import Wide.All
import OpenK.AllK
import Wide.FinOn
import Lean
import PyProof.EqAt
import PyProof.EqKinds
import PyProof.TupleCall
import KE.KIntText
import KE.KDictList
import PySem.Challenge.RW_dykelengths_k73_papers_written_and_read
set_option Elab.async false
set_option linter.all false
set_option maxRecDepth 100000
namespace L2
open PySem PySem.Spec PyProof.Rows

abbrev Key := Sum Int Str
def keyIs : Key → Value → Bool
  | .inl k, v => Value.isInt k v
  | .inr x, v => Value.isStrOf x v
def keyH (w : World) : Key → Int
  | .inl k => hashInt k
  | .inr x => hashStr w x
theorem keyIs_shape : ∀ {k : Key} {v : Value}, keyIs k v = true → (∃ i t, k = Sum.inl i ∧ v = Value.int i t) ∨ (∃ x t, k = Sum.inr x ∧ v = Value.str x t)
  | .inl i, v, h => by
    obtain ⟨t, e⟩ := Value.isInt_shape (k := i) (v := v) h
    exact .inl ⟨i, t, rfl, e⟩
  | .inr x, v, h => by
    obtain ⟨t, e⟩ := Value.isStrOf_shape (x := x) (v := v) h
    exact .inr ⟨x, t, rfl, e⟩
theorem keyIs_int (i : Int) (t : Tok) : keyIs (.inl i) (.int i t) = true := by simp [keyIs, Value.isInt]
theorem keyIs_str (x : Str) (t : Tok) : keyIs (.inr x) (.str x t) = true := by simp [keyIs, Value.isStrOf]
theorem key_ll (a b : Int) : decide ((Sum.inl a : Key) = Sum.inl b) = (a == b) := by
  by_cases e : a = b
  · subst e; simp
  · have h : ¬ (Sum.inl a : Key) = Sum.inl b := fun q => e (Sum.inl.inj q)
    rw [decide_eq_false h]
    exact (beq_eq_false_iff_ne.mpr e).symm
theorem key_rr (a b : Str) : decide ((Sum.inr a : Key) = Sum.inr b) = decide (a = b) := by
  by_cases e : a = b
  · subst e; simp
  · have h : ¬ (Sum.inr a : Key) = Sum.inr b := fun q => e (Sum.inr.inj q)
    rw [decide_eq_false h, decide_eq_false e]
theorem key_lr (a : Int) (b : Str) : decide ((Sum.inl a : Key) = Sum.inr b) = false := decide_eq_false (fun q => nomatch q)
theorem key_rl (a : Str) (b : Int) : decide ((Sum.inr a : Key) = Sum.inl b) = false := decide_eq_false (fun q => nomatch q)

def mixKind (prog : Program) (w : World) : PySem.KeyKind prog w Key where
  is := keyIs
  hash := keyH w
  inj := fun v a b ha hb => by
    rcases keyIs_shape ha with ⟨i, t, rfl, rfl⟩ | ⟨x, t, rfl, rfl⟩
    · rcases keyIs_shape hb with ⟨j, u, rfl, e⟩ | ⟨y, u, rfl, e⟩
      · injection e with e1 _; rw [e1]
      · exact nomatch e
    · rcases keyIs_shape hb with ⟨j, u, rfl, e⟩ | ⟨y, u, rfl, e⟩
      · exact nomatch e
      · injection e with e1 _; rw [e1]
  byValue := fun k v h => by
    rcases keyIs_shape h with ⟨i, t, rfl, rfl⟩ | ⟨x, t, rfl, rfl⟩ <;> rfl
  pyHash := fun hv h => by
    rcases keyIs_shape hv with ⟨i, t, rfl, rfl⟩ | ⟨x, t, rfl, rfl⟩
    · exact wpAny_pyHash_int h
    · exact wpAny_pyHash_str h
  eqBool := fun hu hv h => by
    rcases keyIs_shape hu with ⟨i, t, rfl, rfl⟩ | ⟨x, t, rfl, rfl⟩
    · rcases keyIs_shape hv with ⟨j, u, rfl, rfl⟩ | ⟨y, u, rfl, rfl⟩
      · rw [key_ll] at h; exact wpAny_eqBool_int h
      · rw [key_lr] at h; exact SeqAt.EqAt.int_str i t y u _ _ _ _ h
    · rcases keyIs_shape hv with ⟨j, u, rfl, rfl⟩ | ⟨y, u, rfl, rfl⟩
      · rw [key_rl] at h; exact SeqAt.EqAt.str_int x t j u _ _ _ _ h
      · rw [key_rr] at h; exact wpAny_eqBool_str h
  «strs» := fun k x t v h => by
    rcases keyIs_shape h with ⟨i, u, rfl, e⟩ | ⟨y, u, rfl, e⟩
    · exact nomatch e
    · injection e with e1 _
      subst e1
      cases v <;> rfl

theorem mixKind_int (prog : Program) (w : World) (i : Int) (t : Tok) : (mixKind prog w).is (.inl i) (.int i t) = true := keyIs_int i t
theorem mixKind_str (prog : Program) (w : World) (x : Str) (t : Tok) : (mixKind prog w).is (.inr x) (.str x t) = true := keyIs_str x t
end L2

namespace L2
open PySem PySem.Spec PyProof.Rows

inductive V where
  | non | bl (b : Bool) | int (i : Int) | str (x : Str) | byt (b : Array UInt8) | flt (b : UInt64) | ref (a : Addr) | ty (n : String)
  deriving DecidableEq

def RelV : V → Value → Prop
  | .non, u => u = Value.none
  | .bl b, u => u = Value.bool b
  | .int i, u => ∃ t, u = Value.int i t
  | .str x, u => ∃ t, u = Value.str x t
  | .byt b, u => ∃ t, u = Value.bytes b t
  | .flt b, u => ∃ t, u = Value.float b t
  | .ref a, u => u = Value.ref a
  | .ty n, u => u = Value.type n

abbrev Vals : List V → List Value → Prop := Paired RelV
theorem Vals.length {xs : List V} {us : List Value} (r : Vals xs us) : xs.length = us.length := Paired.length r
theorem Vals.get : ∀ {xs : List V} {us : List Value} {i : Nat} {x : V}, Vals xs us → xs[i]? = some x → ∃ u, us[i]? = some u ∧ RelV x u
  | _, _, _, _, .nil, e => by simp at e
  | _, _, 0, _, .cons r _, e => by simp at e; subst e; exact ⟨_, rfl, r⟩
  | _, _, i + 1, x, .cons _ t, e => by
    obtain ⟨u, h1, h2⟩ := Vals.get (i := i) (x := x) t (by simpa using e)
    exact ⟨u, by simpa using h1, h2⟩
theorem Vals.set {x : V} {u : Value} (r : RelV x u) : ∀ {xs : List V} {us : List Value} (i : Nat), Vals xs us → Vals (xs.set i x) (us.set i u)
  | _, _, _, .nil => .nil
  | _, _, 0, .cons _ t => .cons r t
  | _, _, i + 1, .cons q t => .cons q (Vals.set r i t)
theorem Vals.append : ∀ {xs ys : List V} {us ws : List Value}, Vals xs us → Vals ys ws → Vals (xs ++ ys) (us ++ ws)
  | _, _, _, _, .nil, s => s
  | _, _, _, _, .cons r t, s => .cons r (Vals.append t s)
theorem Vals.take : ∀ {xs : List V} {us : List Value} (n : Nat), Vals xs us → Vals (xs.take n) (us.take n)
  | _, _, 0, _ => .nil
  | _, _, _ + 1, .nil => .nil
  | _, _, n + 1, .cons r t => .cons r (Vals.take n t)
theorem Vals.drop : ∀ {xs : List V} {us : List Value} (n : Nat), Vals xs us → Vals (xs.drop n) (us.drop n)
  | _, _, 0, r => r
  | _, _, _ + 1, .nil => .nil
  | _, _, n + 1, .cons _ t => Vals.drop n t
def RelO : Option V → Option Value → Prop
  | some v, some u => RelV v u
  | none, none => True
  | _, _ => False
def KV {κ : Type} : List (κ × V) → List (κ × Value) → Prop := Paired fun (p : κ × V) (q : κ × Value) => p.1 = q.1 ∧ RelV p.2 q.2

def kV : Key → V
  | .inl i => .int i
  | .inr x => .str x

inductive HO where
    | lst (xs : List V)
    | tup (xs : List V)
    | dK (kvs : List (Key × V)) | dT (kvs : List (List Key × V))
    | set (S : Int → Bool) (n : Nat)
    | ins (C dx : Addr) (fs : List (Str × V))
    | own (x : Addr)
    | xd (fs : List (Str × V))
    | met (f x : Addr)
    | rng (lo hi : Int)
    | frz (o : Obj) (u : HO)
    | tbl (ps : Array Value)
    | ext (φ : Heap → Prop)

abbrev Hp := Addr → Option HO
def upd (H : Hp) (a : Addr) (o : HO) : Hp := fun b => if b = a then some o else H b
theorem upd_same {H : Hp} {a : Addr} {o : HO} : upd H a o a = some o := by unfold upd; rw [if_pos rfl]
theorem upd_ne {H : Hp} {a b : Addr} {o : HO} (h : b ≠ a) : upd H a o b = H b := by unfold upd; rw [if_neg h]
theorem upd_upd {H : Hp} {a : Addr} {o u : HO} : upd (upd H a o) a u = upd H a u := by
  funext b; unfold upd; split <;> rfl
theorem ne_of {H : Hp} {a b : Addr} {o u : HO} (h : H a = some o) (h' : H b = some u) (d : o ≠ u) : a ≠ b := by
  intro e; subst e; rw [h] at h'; exact d (Option.some.inj h')
theorem ne_of_none {H : Hp} {a b : Addr} {o : HO} (h : H a = some o) (h' : H b = none) : a ≠ b := by
  intro e; subst e; rw [h] at h'; cases h'

section
variable (P : Program) (w : World)
def ObjOk (H : Hp) (h : Heap) (a : Addr) : HO → Prop
  | .lst xs => xs.length ≤ sizeLine ∧ ∃ (its : List Value) (n : Nat), Vals xs its ∧ h.get? a = some { cls := .type "list", data := .seq its.toArray n }
  | .tup xs => xs.length ≤ sizeLine ∧ ∃ its : List Value, Vals xs its ∧ IsTup h a its.toArray
  | .dK kvs => kvs.length ≤ sizeLine ∧ (a == sysModules) = false ∧ ∃ vs, KV kvs vs ∧ h.DictOf (mixKind P w) a vs
  | .dT kvs => kvs.length ≤ sizeLine ∧ (a == sysModules) = false ∧ ∃ xs : List (List Key × Addr × Value),
      Paired (fun (p : List Key × V) (q : List Key × Addr × Value) => p.1 = q.1 ∧ H q.2.1 = some (.tup (p.1.map kV)) ∧ RelV p.2 q.2.2) kvs xs ∧
      ∃ o es ep, h.get? a = some o ∧ o.ExactDict ∧ o.data = .dict es ep ∧ es.toList = xs.map (entryOfKey (tupleKind (mixKind P w))) ∧ (xs.map (·.1)).Nodup
  | .set S n => h.SetOf (intKind P w) a S n
  | .ins C dx fs => H dx = some (.own a) ∧ fs.length ≤ 1000 ∧ dx ≠ a ∧ h.get? a = some (PySem.W.instObj C dx) ∧
      ∃ mA, h.Ns1 dx mA ∧ (∀ f, RelO (fs.lookup f) (mA f)) ∧ PySem.Within mA (fs.map (·.1))
  | .own _ => ∃ o, h.get? a = some o
  | .xd fs => ∃ mA, h.Ns1 a mA ∧ ∀ f, RelO (fs.lookup f) (mA f)
  | .rng lo hi => ∃ t u v, h.get? a = some { cls := .type "range", data := .fields #[.int lo t, .int hi u, .int 1 v] }
  | .frz o u => h.get? a = some o ∧ ObjOk H h a u
  | .tbl ps => h.get? a = some { cls := .none, data := .fields ps }
  | .met f x => h.get? a = some (PySem.W.methodObj (.ref f) (.ref x))
  | .ext φ => φ h ∧ (∃ o, h.get? a = some o) ∧ ∀ h1 h2 : Heap, φ h1 → (∀ o, h1.get? a = some o → h2.get? a = some o) → φ h2
def HOk (H : Hp) (h : Heap) : Prop := ∀ a o, H a = some o → ObjOk P w H h a o
end

section
variable {P : Program} {w : World} {H H' : Hp} {h h' : Heap} {a : Addr} {o : HO}
theorem ObjOk.lt (x : ObjOk P w H h a o) : a < h.objs.size := by
  cases o with
  | lst xs => obtain ⟨_, _, _, _, e⟩ := x; exact Heap.lt_size e
  | tup xs => obtain ⟨_, _, _, p⟩ := x; exact p.lt
  | dK kvs => obtain ⟨_, _, _, _, o, _, _, e, _⟩ := x; exact Heap.lt_size e
  | dT kvs => obtain ⟨_, _, _, _, o, _, _, e, _⟩ := x; exact Heap.lt_size e
  | set S n => obtain ⟨o, _, _, _, e, _⟩ := x; exact Heap.lt_size e
  | ins C dx fs => obtain ⟨_, _, _, e, _⟩ := x; exact Heap.lt_size e
  | own y => obtain ⟨_, e⟩ := x; exact Heap.lt_size e
  | xd fs => obtain ⟨_, ⟨_, _, _, e, _⟩, _⟩ := x; exact Heap.lt_size e
  | rng lo hi => obtain ⟨_, _, _, e⟩ := x; exact Heap.lt_size e
  | frz ob u => obtain ⟨e, _⟩ := x; exact Heap.lt_size e
  | tbl ps => exact Heap.lt_size (show h.get? a = some _ from x)
  | met f y => exact Heap.lt_size (show h.get? a = some _ from x)
  | ext φ => obtain ⟨_, ⟨_, e⟩, _⟩ := x; exact Heap.lt_size e
theorem Paired.mapP {α β : Type} {F G : α → β → Prop} : ∀ {l₁ : List α} {l₂ : List β}, Paired F l₁ l₂ → (∀ a b, F a b → G a b) → Paired G l₁ l₂
  | _, _, .nil, _ => .nil
  | _, _, .cons r t, f => .cons (f _ _ r) (Paired.mapP t f)
theorem ObjOk.stay (x : ObjOk P w H h a o) (k : ∀ b u, (b = a ∨ H b = some (.own a)) → h.get? b = some u → h'.get? b = some u)
    (ho : ∀ b, H b = some (.own a) → H' b = some (.own a)) (ht : ∀ b xs, H b = some (.tup xs) → H' b = some (.tup xs)) : ObjOk P w H' h' a o := by
  induction o with
  | lst xs => obtain ⟨z, its, n, r, e⟩ := x; exact ⟨z, its, n, r, k _ _ (.inl rfl) e⟩
  | tup xs => obtain ⟨z, its, r, ob, e, c⟩ := x; exact ⟨z, its, r, ob, k _ _ (.inl rfl) e, c⟩
  | dK kvs => obtain ⟨z, y, vs, r, ob, es, ep, e, c⟩ := x; exact ⟨z, y, vs, r, ob, es, ep, k _ _ (.inl rfl) e, c⟩
  | dT kvs =>
    obtain ⟨z, y, xs, r, ob, es, ep, e, c⟩ := x
    exact ⟨z, y, xs, Paired.mapP r fun p q z => ⟨z.1, ht _ _ z.2.1, z.2.2⟩, ob, es, ep, k _ _ (.inl rfl) e, c⟩
  | set S n => obtain ⟨ob, es, ep, t, e, c⟩ := x; exact ⟨ob, es, ep, t, k _ _ (.inl rfl) e, c⟩
  | ins C dx fs =>
    obtain ⟨d, z, ne, e, mA, ⟨od, es, ep, e2, c⟩, r⟩ := x
    exact ⟨ho _ d, z, ne, k _ _ (.inl rfl) e, mA, ⟨od, es, ep, k _ _ (.inr d) e2, c⟩, r⟩
  | own y => obtain ⟨ob, e⟩ := x; exact ⟨ob, k _ _ (.inl rfl) e⟩
  | xd fs => obtain ⟨mA, ⟨od, es, ep, e, c⟩, r⟩ := x; exact ⟨mA, ⟨od, es, ep, k _ _ (.inl rfl) e, c⟩, r⟩
  | rng lo hi => obtain ⟨t, u, v, e⟩ := x; exact ⟨t, u, v, k _ _ (.inl rfl) e⟩
  | frz ob u ih => obtain ⟨e, q⟩ := x; exact ⟨k _ _ (.inl rfl) e, ih q⟩
  | tbl ps =>
    have e : h.get? a = some { cls := .none, data := .fields ps } := x
    show h'.get? a = some { cls := .none, data := .fields ps }
    exact k a _ (.inl rfl) e
  | met f y =>
    have e : h.get? a = some (PySem.W.methodObj (.ref f) (.ref y)) := x
    show h'.get? a = some (PySem.W.methodObj (.ref f) (.ref y))
    exact k a _ (.inl rfl) e
  | ext φ => obtain ⟨p, ⟨o, e⟩, st⟩ := x; exact ⟨st _ _ p fun o q => k _ _ (.inl rfl) q, ⟨o, k _ _ (.inl rfl) e⟩, st⟩
theorem HOk.lt (x : HOk P w H h) (e : H a = some o) : a < h.objs.size := (x a o e).lt
theorem HOk.fresh (x : HOk P w H h) (e : h.objs.size ≤ a) : H a = none := by
  cases q : H a with
  | none => rfl
  | some u => exact absurd (Nat.lt_of_lt_of_le (x.lt q) e) (Nat.lt_irrefl _)
theorem HOk.kept (x : HOk P w H h) (k : ∀ b u, h.get? b = some u → h'.get? b = some u) : HOk P w H h' := fun a o e =>
  (x a o e).stay (fun b u _ q => k b u q) (fun _ q => q) fun _ _ q => q
theorem HOk.laid (x : HOk P w H h) (k : ∀ b u, h.get? b = some u → h'.get? b = some u) (hp : h.objs.size ≤ a) (new : ObjOk P w (upd H a o) h' a o) : HOk P w (upd H a o) h' := fun b u e => by
  have hn := x.fresh hp
  by_cases hb : b = a
  · subst hb; rw [upd_same] at e; cases e; exact new
  · rw [upd_ne hb] at e
    exact (x b u e).stay (fun c v _ q => k c v q) (fun c q => by rw [upd_ne (ne_of_none q hn)]; exact q) fun c xs q => by rw [upd_ne (ne_of_none q hn)]; exact q
end

def Rd (H : Hp) (a : Addr) (u : HO) : Prop := H a = some u ∨ ∃ o, H a = some (.frz o u)
theorem Rd.of {H : Hp} {a : Addr} {u : HO} (h : H a = some u) : Rd H a u := .inl h
theorem Rd.ok {P : Program} {w : World} {H : Hp} {h : Heap} {a : Addr} {u : HO} (r : Rd H a u) (x : HOk P w H h) : ObjOk P w H h a u := by
  rcases r with r | ⟨o, r⟩
  · exact x a u r
  · obtain ⟨_, q⟩ := x a _ r
    exact q
def Mut : Option HO → Prop
  | some (.lst _) => True
  | some (.dK _) => True
  | some (.dT _) => True
  | some (.set _ _) => True
  | some (.ins _ _ _) => True
  | some (.ext _) => True
  | _ => False
section
variable {P : Program} {w : World} {H : Hp} {h h' : Heap} {x e : Addr} {o' : HO}
theorem HOk.write (ok : HOk P w H h) (mu : Mut (H x)) (he : e = x ∨ H e = some (.own x)) (k : ∀ b u, b ≠ e → h.get? b = some u → h'.get? b = some u) (heo : ∃ u, h'.get? e = some u)
    (new : ObjOk P w (upd H x o') h' x o') : HOk P w (upd H x o') h' := fun b u q => by
  have nown : ∀ c y, H c = some (.own y) → c ≠ x := fun c y r z => by subst z; rw [r] at mu; exact mu
  have ntup : ∀ c xs, H c = some (.tup xs) → c ≠ x := fun c xs r z => by subst z; rw [r] at mu; exact mu
  by_cases hb : b = x
  · subst hb; rw [upd_same] at q; cases q; exact new
  · rw [upd_ne hb] at q
    by_cases hbe : b = e
    · have q' : H b = some (.own x) := by
        rcases he with z | z
        · exact absurd (hbe.trans z) hb
        · rw [hbe]; exact z
      rw [q] at q'; cases q'
      obtain ⟨v, hv⟩ := heo
      exact ⟨v, by rw [hbe]; exact hv⟩
    · refine (ok b u q).stay (fun c v hc r => k c v ?_ r) (fun c r => by rw [upd_ne (nown c b r)]; exact r) fun c xs r => by rw [upd_ne (ntup c xs r)]; exact r
      rcases hc with rfl | hc
      · exact hbe
      · rintro rfl
        rcases he with z | z
        · exact nown c b hc z
        · rw [hc] at z; cases z; exact hb rfl
end

structure Un (fs ex : List Addr) (H H' : Hp) (h h' : Heap) : Prop where
  keep : ∀ b o, h.get? b = some o → H b = none → b ∉ fs → b ∉ ex → h'.get? b = some o
  slot : ∀ b o, h.get? b = some o → H b = none → b ∈ fs → b ∉ ex → ∃ sl, h'.get? b = some { o with slots := sl }
  free : ∀ b o, h.get? b = some o → H b = none → b ∉ ex → H' b = none
  there : ∀ b o, h.get? b = some o → b ∉ ex → ∃ o', h'.get? b = some o'
  tups : ∀ b xs, H b = some (.tup xs) → H' b = some (.tup xs)
  frzs : ∀ b o u, H b = some (.frz o u) → H' b = some (.frz o u)
  tbls : ∀ b ps, H b = some (.tbl ps) → ∃ more, H' b = some (.tbl (ps ++ more))
section
variable {fs fs' ex ex' : List Addr} {H H1 H2 : Hp} {h h1 h2 h' : Heap} {a x e : Addr} {o : HO}
theorem Un.any (u : Un fs ex H H1 h h1) {b : Addr} {ob : Obj} (q : h.get? b = some ob) (n : H b = none) (hx : b ∉ ex) : ∃ sl, h1.get? b = some { ob with slots := sl } := by
  by_cases hb : b ∈ fs
  · exact u.slot b ob q n hb hx
  · exact ⟨ob.slots, u.keep b ob q n hb hx⟩
theorem Un.trans (a : Un fs ex H H1 h h1) (b : Un fs ex H1 H2 h1 h2) : Un fs ex H H2 h h2 where
  keep := fun c ob q n hc hx => b.keep c ob (a.keep c ob q n hc hx) (a.free c ob q n hx) hc hx
  slot := fun c ob q n hc hx => by
    obtain ⟨sl, e1⟩ := a.slot c ob q n hc hx
    obtain ⟨sl', e2⟩ := b.slot c _ e1 (a.free c ob q n hx) hc hx
    exact ⟨sl', e2⟩
  free := fun c ob q n hx => by
    obtain ⟨o', e1⟩ := a.there c ob q hx
    exact b.free c o' e1 (a.free c ob q n hx) hx
  there := fun c ob q hx => by
    obtain ⟨o', e1⟩ := a.there c ob q hx
    exact b.there c o' e1 hx
  tups := fun c xs q => b.tups c xs (a.tups c xs q)
  frzs := fun c ob xs q => b.frzs c ob xs (a.frzs c ob xs q)
  tbls := fun c ps q => by
    obtain ⟨m1, e1⟩ := a.tbls c ps q
    obtain ⟨m2, e2⟩ := b.tbls c _ e1
    exact ⟨m1 ++ m2, by rw [e2, Array.append_assoc]⟩
theorem Un.kept (k : ∀ b u, h.get? b = some u → h'.get? b = some u) : Un fs ex H H h h' :=
  ⟨fun b ob q _ _ _ => k b ob q, fun b ob q _ _ _ => ⟨ob.slots, k b ob q⟩, fun _ _ _ n _ => n, fun b ob q _ => ⟨ob, k b ob q⟩, fun _ _ q => q, fun _ _ _ q => q, fun _ ps q => ⟨#[], by rw [q]; simp⟩⟩
theorem Un.refl : Un fs ex H H h h := Un.kept fun _ _ q => q
theorem Un.laid (k : ∀ b u, h.get? b = some u → h'.get? b = some u) (hp : h.objs.size ≤ a) (hn : H a = none) : Un fs ex H (upd H a o) h h' where
  keep := fun b u q _ _ _ => k b u q
  slot := fun b u q _ _ _ => ⟨u.slots, k b u q⟩
  free := fun b u q n _ => by rw [upd_ne (Nat.ne_of_lt (Nat.lt_of_lt_of_le (Heap.lt_size q) hp))]; exact n
  there := fun b u q _ => ⟨u, k b u q⟩
  tups := fun b xs q => by rw [upd_ne (ne_of_none q hn)]; exact q
  frzs := fun b u xs q => by rw [upd_ne (ne_of_none q hn)]; exact q
  tbls := fun b ps q => ⟨#[], by rw [upd_ne (ne_of_none q hn), q]; simp⟩
theorem Un.write (mu : Mut (H x)) (he : e = x ∨ H e = some (.own x)) (k : ∀ b u, b ≠ e → h.get? b = some u → h'.get? b = some u) (heo : ∃ u, h'.get? e = some u) : Un fs ex H (upd H x o) h h' := by
  have hx : ∀ b, H b = none → b ≠ x := fun b n z => by subst z; rw [n] at mu; exact mu
  have hb : ∀ b, H b = none → b ≠ e := fun b n z => by
    subst z
    rcases he with r | r
    · exact hx b n r
    · rw [n] at r; cases r
  have hm : ∀ b u, H b = some u → ¬ Mut (some u) → b ≠ x := fun b u q nm z => by subst z; rw [q] at mu; exact nm mu
  refine ⟨fun b u q n _ _ => k b u (hb b n) q, fun b u q n _ _ => ⟨u.slots, k b u (hb b n) q⟩, fun b u q n _ => by rw [upd_ne (hx b n)]; exact n, fun b u q _ => ?_,
    fun b xs q => by rw [upd_ne (hm b _ q fun z => z)]; exact q, fun b u xs q => by rw [upd_ne (hm b _ q fun z => z)]; exact q, fun b ps q => ⟨#[], by rw [upd_ne (hm b _ q fun z => z), q]; simp⟩⟩
  by_cases hbe : b = e
  · subst hbe; exact heo
  · exact ⟨u, k b u hbe q⟩
theorem Un.mono (u : Un fs ex H H1 h h1) (hs : ∀ b ∈ fs, b ∈ fs') (hx : ∀ b ∈ ex, b ∈ ex') : Un fs' ex' H H1 h h1 :=
  ⟨fun b ob q n hb he => u.keep b ob q n (fun z => hb (hs b z)) fun z => he (hx b z), fun _ _ q n _ he => u.any q n fun z => he (hx _ z), fun b ob q n he => u.free b ob q n fun z => he (hx b z), fun b ob q he => u.there b ob q fun z => he (hx b z), u.tups, u.frzs, u.tbls⟩
end

def trk (h : Heap) (H : Hp) : List Addr := (List.range h.objs.size).filter fun a => (H a).isSome
def hidT (h : Heap) (H : Hp) : Heap := PySem.W.hideAll h (trk h H)
theorem hidT_size (h : Heap) (H : Hp) : (hidT h H).objs.size = h.objs.size := PySem.W.hideAll_size _ _
theorem hidT_get {h : Heap} {H : Hp} {b : Addr} {o : Obj} (e : h.get? b = some o) (n : H b = none) : (hidT h H).get? b = some o :=
  PySem.W.hideAll_get _ e fun hm => by
    have q : (H b).isSome = true := (List.mem_filter.mp hm).2
    rw [n] at q; simp at q
theorem of_hidT {h : Heap} {H : Hp} {b : Addr} {o : Obj} (e : (hidT h H).get? b = some o) : h.get? b = some o ∧ H b = none := by
  have e' : h.get? b = some o := PySem.W.of_hideAll (trk h H) e
  refine ⟨e', ?_⟩
  cases q : H b with
  | none => rfl
  | some x =>
    have hm : b ∈ trk h H := List.mem_filter.mpr ⟨List.mem_range.mpr (Heap.lt_size e'), by simp [q]⟩
    have z : (hidT h H).get? b = none := PySem.W.hideAll_none (trk h H) hm
    rw [z] at e; cases e

def allNews (g h : Heap) (L : Addr) : List (Addr × Obj) := (List.range h.objs.size).filterMap fun a => if a = L ∨ (g.get? a).isSome = true then none else (h.get? a).map fun o => (a, o)
def rest (g h : Heap) (L d : Addr) : List (Addr × Obj) := (allNews g h L).filter fun p => decide (p.1 ≠ d)
end L2

namespace L2
open PySem PySem.Spec PyProof.Rows

structure Mod (K : PySem.W.Frag) (mg : Str → Option Value) (base : Heap) : Prop where
  kin : K.In base
  glob : base.Ns mainGlobals mg
  blt : ∃ mb, base.Ns builtinsNs mb ∧ ∀ x : Str, x ≠ "__name__" → mb x = bootBuiltins x
  nolimit : base.NoLimit

structure Cx where
  prog : Program
  w : World
  K : PySem.W.Frag
  mg : Str → Option Value
  base : Heap
  A : Around
  N : List Str
  s₀ : Shared
  H₀ : Hp
  env : Env
  outer : List Env
  stack : List Env
  ex : List Addr
  fn : Str → Bool
  calm : Bool
  pn : List (Addr × Obj)
  xe : Value → Shared → Prop
def frs (l : List Env) : List Addr := l.filterMap (·.frame)
abbrev Cx.fs (X : Cx) : List Addr := frs X.outer

def Vis (sc : Scope) (x : Str) : Prop := sc.names.lookup x = some .local ∨ sc.names.lookup x = some .cell ∨ sc.names.lookup x = some .free
def Loc (sc : Scope) (x : Str) : Prop := sc.names.lookup x = some .local ∨ sc.names.lookup x = some .cell
def Look (env : Env) (h : Heap) (m : Str → Option Value) (x : Str) (u : Value) : Prop :=
  (env.kindOf x = some .local ∧ m x = some u) ∨ ((env.kindOf x = some .cell ∨ env.kindOf x = some .free) ∧ ∃ c, env.cells.lookup x = some c ∧ h.IsCell c (some u))

structure Cx.Ok (X : Cx) : Prop where
  mod : Mod X.K X.mg X.base
  kind : X.env.scope.kind = .function
  glob : X.env.globals = mainGlobals
  blt : X.env.builtins = builtinsNs
  above : X.s₀.heap.objs.size ≤ X.env.locals
  inj : ∀ x y c, X.env.cells.lookup x = some c → X.env.cells.lookup y = some c → x = y
  has : ∀ x, (X.env.kindOf x = some .cell ∨ X.env.kindOf x = some .free) → ∃ c, X.env.cells.lookup x = some c
  cab : ∀ x c, X.fn x = true → X.env.cells.lookup x = some c → X.s₀.heap.objs.size ≤ c
  hd : X.calm = true → X.A.handled = none
  frames : X.A.frames = some X.stack
  stk : X.stack = X.outer ∨ (X.stack = X.env :: X.outer ∧ X.env.frame = some X.env.locals)
  exf : ∀ b ∈ X.ex, b ≠ X.env.locals ∧ ∀ x c, X.env.cells.lookup x = some c → c ≠ b
  bs : ∀ b o, X.base.get? b = some o → X.s₀.heap.get? b = some o ∧ X.H₀ b = none
  bsz : X.base.objs.size ≤ X.s₀.heap.objs.size
  noex : ∀ b o, X.base.get? b = some o → b ∉ X.ex
  exfs : ∀ b ∈ X.ex, b ∉ X.fs
  funs : X.s₀.heap.FunFrames X.base X.outer
  frf : ∀ b ∈ X.fs, X.H₀ b = none

structure Inv (X : Cx) (pins : List (Addr × Obj)) (σ : List (Option V)) (H : Hp) (s : Shared) : Prop where
  ok : X.Ok
  os : s.os = X.s₀.os
  bare : AllBare s.gens
  base : Un X.fs X.ex X.H₀ H X.s₀.heap s.heap
  loc : ∃ m, s.heap.Ns X.env.locals m ∧ ∀ (i : Nat) (x : Str) (v : V), X.N[i]? = some x → σ[i]? = some (some v) → Vis X.env.scope x → ∃ u, RelV v u ∧ Look X.env s.heap m x u
  cell : ∀ x c, X.env.cells.lookup x = some c → ∃ v, s.heap.IsCell c v
  free : H X.env.locals = none
  freeC : ∀ x c, X.env.cells.lookup x = some c → H c = none
  pin : ∀ p ∈ X.pn ++ pins, s.heap.get? p.1 = some p.2 ∧ H p.1 = none ∧ p.1 ≠ X.env.locals ∧ p.1 ∉ X.fs ∧ ∀ v, p.2.data ≠ .cell v
  hok : HOk X.prog X.w H s.heap
  len : σ.length = X.N.length

section
variable {X : Cx} {pins : List (Addr × Obj)} {σ : List (Option V)} {H H' : Hp} {s : Shared} {h' : Heap}

theorem Cx.Ok.nofr (ok : X.Ok) {b : Addr} {o : Obj} (e : X.base.get? b = some o) : b ∉ X.fs := fun hb => by
  have := (ok.funs.mem hb).1
  rw [e] at this; cases this
theorem Inv.bs (I : Inv X pins σ H s) : ∀ b o, X.base.get? b = some o → s.heap.get? b = some o ∧ H b = none := fun b o e =>
  ⟨I.base.keep b o (I.ok.bs b o e).1 (I.ok.bs b o e).2 (I.ok.nofr e) (I.ok.noex b o e), I.base.free b o (I.ok.bs b o e).1 (I.ok.bs b o e).2 (I.ok.noex b o e)⟩
theorem Inv.bk (I : Inv X pins σ H s) : ∀ b o, X.base.get? b = some o → s.heap.get? b = some o := fun b o e => (I.bs b o e).1
theorem Inv.mod (I : Inv X pins σ H s) : Mod X.K X.mg X.base := I.ok.mod
theorem Inv.kIn (I : Inv X pins σ H s) : X.K.In s.heap := I.ok.mod.kin.keeps I.bk
theorem Inv.nolimit (I : Inv X pins σ H s) : s.heap.NoLimit := I.ok.mod.nolimit.keeps I.bk
theorem Inv.fr (I : Inv X pins σ H s) : ∃ m, Fr X.base X.env.locals s.heap m :=
  let ⟨m, hn, _⟩ := I.loc
  ⟨m, hn, I.bk, Nat.le_trans I.ok.bsz I.ok.above⟩
theorem Inv.lt (I : Inv X pins σ H s) : X.env.locals < s.heap.objs.size := let ⟨_, hn, _⟩ := I.loc; hn.lt
theorem Inv.sz (I : Inv X pins σ H s) : X.s₀.heap.objs.size ≤ s.heap.objs.size := Nat.le_trans I.ok.above (Nat.le_of_lt I.lt)
theorem Inv.nofs (I : Inv X pins σ H s) {a : Addr} (h : s.heap.objs.size ≤ a) : a ∉ X.fs := fun hb => by
  obtain ⟨_, o, ho, _⟩ := I.ok.funs.mem hb
  exact absurd (Nat.lt_of_lt_of_le (Heap.lt_size ho) (Nat.le_trans I.sz h)) (Nat.lt_irrefl _)
theorem Inv.cne (I : Inv X pins σ H s) : ∀ x c, X.env.cells.lookup x = some c → c ≠ X.env.locals := fun x c e z => by
  obtain ⟨v, o, ho, hd⟩ := I.cell x c e
  obtain ⟨m, ⟨o', es, ep, ho', hd', _⟩, _⟩ := I.loc
  rw [z, ho'] at ho; cases ho; rw [hd'] at hd; cases hd
theorem Inv.funs (I : Inv X pins σ H s) : s.heap.FunFrames X.base X.outer := by
  have all : ∀ (l : List Env), (∀ b ∈ frs l, b ∈ X.fs) → X.s₀.heap.FunFrames X.base l → s.heap.FunFrames X.base l := by
    intro l
    induction l with
    | nil => intro _ _; trivial
    | cons env r ih =>
      intro hs hl
      obtain ⟨hk, ⟨L, o, hf, hn, ho, hd⟩, hr⟩ := hl
      have hL : L ∈ X.fs := hs L (by unfold frs; rw [List.filterMap_cons, hf]; exact List.mem_cons_self)
      obtain ⟨sl, e⟩ := I.base.slot L o ho (I.ok.frf L hL) hL fun z => I.ok.exfs L z hL
      exact ⟨hk, ⟨L, _, hf, hn, e, hd⟩, ih (fun b hb => hs b (by unfold frs; rw [List.filterMap_cons, hf]; exact List.mem_cons_of_mem _ hb)) hr⟩
  exact all X.outer (fun _ hb => hb) I.ok.funs

theorem Inv.stack (I : Inv X pins σ H s) : s.heap.FunFrames X.base X.stack := by
  rcases I.ok.stk with e | ⟨e, hf⟩
  · rw [e]; exact I.funs
  · rw [e]
    obtain ⟨m, hn, _⟩ := I.loc
    refine .cons (by rw [I.ok.kind]; decide) hf hn ?_ I.funs
    exact Heap.get?_none_of_le (Nat.le_trans I.ok.bsz I.ok.above)
theorem Inv.stkSub (I : Inv X pins σ H s) : ∀ b ∈ frs X.stack, b ∈ X.env.locals :: X.fs := fun b hb => by
  rcases I.ok.stk with e | ⟨e, hf⟩
  · rw [e] at hb; exact List.mem_cons_of_mem _ hb
  · rw [e] at hb
    unfold frs at hb
    rw [List.filterMap_cons, hf] at hb
    exact hb
theorem Inv.stkFree (I : Inv X pins σ H s) : ∀ b ∈ frs X.stack, H b = none := fun b hb => by
  rcases List.mem_cons.mp (I.stkSub b hb) with e | hb
  · rw [e]; exact I.free
  · obtain ⟨_, o, ho, _⟩ := I.ok.funs.mem hb
    exact I.base.free b o ho (I.ok.frf b hb) fun z => I.ok.exfs b z hb

theorem Inv.step {g' : Array GenState} {t' : Nat} {d' : Drawn} {ch : List Addr} (I : Inv X pins σ H s)
    (hch : ∀ b ∈ ch, (b ∈ X.ex ∨ X.s₀.heap.objs.size ≤ b) ∧ b ≠ X.env.locals ∧ (∀ x c, X.env.cells.lookup x = some c → c ≠ b) ∧ ∀ p ∈ X.pn ++ pins, p.1 ≠ b)
    (keep : ∀ b o, b ≠ X.env.locals → b ∉ X.fs → b ∉ ch → s.heap.get? b = some o → H b = none → h'.get? b = some o)
    (slot : ∀ b o, b ≠ X.env.locals → b ∈ X.fs → b ∉ ch → s.heap.get? b = some o → H b = none → ∃ sl, h'.get? b = some { o with slots := sl }) (free : ∀ b o, b ∉ ch → s.heap.get? b = some o → H b = none → H' b = none)
    (there : ∀ b o, b ∉ ch → s.heap.get? b = some o → ∃ o', h'.get? b = some o')
    (tups : ∀ b xs, H b = some (.tup xs) → H' b = some (.tup xs)) (frzs : ∀ b o u, H b = some (.frz o u) → H' b = some (.frz o u)) (tbls : ∀ b ps, H b = some (.tbl ps) → ∃ more, H' b = some (.tbl (ps ++ more)))
    (ns : ∀ m, s.heap.Ns X.env.locals m → h'.Ns X.env.locals m) (hok : HOk X.prog X.w H' h') (hg : AllBare g') :
    Inv X pins σ H' { s with heap := h', gens := g', drawn := d', toks := t' } := by
  have neL : ∀ b o, X.s₀.heap.get? b = some o → b ≠ X.env.locals := fun b o e => Nat.ne_of_lt (Nat.lt_of_lt_of_le (Heap.lt_size e) I.ok.above)
  have neC : ∀ b o, X.s₀.heap.get? b = some o → b ∉ X.ex → b ∉ ch := fun b o e hx hb => by
    rcases (hch b hb).1 with z | z
    · exact hx z
    · exact absurd (Nat.lt_of_lt_of_le (Heap.lt_size e) z) (Nat.lt_irrefl _)
  have cellK : ∀ x c, X.env.cells.lookup x = some c → ∀ v, s.heap.IsCell c v → h'.IsCell c v := fun x c e v ⟨o, ho, hd⟩ => by
    have nch : c ∉ ch := fun z => (hch c z).2.2.1 x c e rfl
    by_cases hc : c ∈ X.fs
    · obtain ⟨sl, q⟩ := slot c o (I.cne x c e) hc nch ho (I.freeC x c e)
      exact ⟨_, q, hd⟩
    · exact ⟨o, keep c o (I.cne x c e) hc nch ho (I.freeC x c e), hd⟩
  refine ⟨I.ok, I.os, hg, ⟨fun b o e n hb hx => ?_, fun b o e n hb hx => ?_, fun b o e n hx => ?_, fun b o e hx => ?_, fun b xs e => tups b xs (I.base.tups b xs e), fun b o xs e => frzs b o xs (I.base.frzs b o xs e), fun b ps e => ?_⟩, ?_, fun x c e => ?_, ?_, fun x c e => ?_, fun p hp => ?_, hok, I.len⟩
  · exact keep b o (neL b o e) hb (neC b o e hx) (I.base.keep b o e n hb hx) (I.base.free b o e n hx)
  · obtain ⟨sl, e1⟩ := I.base.slot b o e n hb hx
    obtain ⟨sl', e2⟩ := slot b _ (neL b o e) hb (neC b o e hx) e1 (I.base.free b o e n hx)
    exact ⟨sl', e2⟩
  · obtain ⟨o', e1⟩ := I.base.there b o e hx
    exact free b o' (neC b o e hx) e1 (I.base.free b o e n hx)
  · obtain ⟨o', e1⟩ := I.base.there b o e hx
    exact there b o' (neC b o e hx) e1
  · obtain ⟨m1, e1⟩ := I.base.tbls b ps e
    obtain ⟨m2, e2⟩ := tbls b _ e1
    exact ⟨m1 ++ m2, by rw [e2, Array.append_assoc]⟩
  · obtain ⟨m, hn, hl⟩ := I.loc
    refine ⟨m, ns m hn, fun i x v e1 e2 e3 => ?_⟩
    obtain ⟨u, r, l⟩ := hl i x v e1 e2 e3
    refine ⟨u, r, ?_⟩
    rcases l with l | ⟨k, c, e, z⟩
    · exact .inl l
    · exact .inr ⟨k, c, e, cellK x c e _ z⟩
  · obtain ⟨v, z⟩ := I.cell x c e
    exact ⟨v, cellK x c e v z⟩
  · obtain ⟨m, ⟨o, _, _, ho, _⟩, _⟩ := I.loc
    exact free _ o (fun z => (hch _ z).2.1 rfl) ho I.free
  · obtain ⟨v, o, ho, hd⟩ := I.cell x c e
    exact free c o (fun z => (hch c z).2.2.1 x c e rfl) ho (I.freeC x c e)
  · obtain ⟨e, n, ne, nf, d⟩ := I.pin p hp
    have nch : p.1 ∉ ch := fun z => (hch p.1 z).2.2.2 p hp rfl
    exact ⟨keep p.1 p.2 ne nf nch e n, free p.1 p.2 nch e n, ne, nf, d⟩
theorem Inv.un {t' : Nat} (I : Inv X pins σ H s) (u : Un X.fs [] H H' s.heap h') (hok : HOk X.prog X.w H' h') : Inv X pins σ H' { s with heap := h', toks := t' } := by
  obtain ⟨m, ⟨o, es, ep, ho, r⟩, _⟩ := id I.loc
  obtain ⟨sl, hL⟩ := u.any ho I.free (by simp)
  exact I.step (g' := s.gens) (d' := s.drawn) (ch := []) (fun _ z => nomatch z) (fun b o _ hb _ e n => u.keep b o e n hb (by simp)) (fun b o _ hb _ e n => u.slot b o e n hb (by simp)) (fun b o _ e n => u.free b o e n (by simp)) (fun b o _ e => u.there b o e (by simp)) u.tups u.frzs u.tbls (fun m' hm => by
    obtain ⟨o', es', ep', ho', r'⟩ := hm
    rw [ho] at ho'; cases ho'
    exact ⟨_, es', ep', hL, r'⟩) hok I.bare
theorem Inv.call {g' : Array GenState} {t' : Nat} {d' : Drawn} {ch : List Addr} (I : Inv X pins σ H s) (u : Un (frs X.stack) ch H H' s.heap h') (hok : HOk X.prog X.w H' h') (hg : AllBare g')
    (hch : ∀ b ∈ ch, (b ∈ X.ex ∨ X.s₀.heap.objs.size ≤ b) ∧ b ≠ X.env.locals ∧ (∀ x c, X.env.cells.lookup x = some c → c ≠ b) ∧ ∀ p ∈ X.pn ++ pins, p.1 ≠ b) :
    Inv X pins σ H' { s with heap := h', gens := g', drawn := d', toks := t' } := by
  obtain ⟨m, ⟨o, es, ep, ho, r⟩, _⟩ := id I.loc
  obtain ⟨sl, hL⟩ := u.any ho I.free fun z => (hch _ z).2.1 rfl
  exact I.step (ch := ch) hch (fun b o hL hb hc e n => u.keep b o e n (fun z => (List.mem_cons.mp (I.stkSub b z)).elim hL hb) hc) (fun b o _ _ hc e n => u.any e n hc) (fun b o hc e n => u.free b o e n hc) (fun b o hc e => u.there b o e hc) u.tups u.frzs u.tbls (fun m' hm => by
    obtain ⟨o', es', ep', ho', r'⟩ := hm
    rw [ho] at ho'; cases ho'
    exact ⟨_, es', ep', hL, r'⟩) hok hg
theorem Inv.turned {t' : Nat} {it : Addr} (I : Inv X pins σ H s) (k : ∀ b o, b ≠ it → s.heap.get? b = some o → h'.get? b = some o) (hn : H it = none) (hL : it ≠ X.env.locals)
    (h1 : it ∈ X.ex ∨ X.s₀.heap.objs.size ≤ it) (h2 : ∀ x c, X.env.cells.lookup x = some c → c ≠ it) (h3 : ∀ p ∈ X.pn ++ pins, p.1 ≠ it) : Inv X pins σ H { s with heap := h', toks := t' } := by
  have nit : ∀ b u, H b = some u → b ≠ it := fun b u e z => by rw [z, hn] at e; cases e
  refine I.step (g' := s.gens) (d' := s.drawn) (ch := [it]) (fun b hb => ?_) (fun b o _ _ hc e _ => k b o (fun z => hc (by simp [z])) e) (fun b o _ _ hc e _ => ⟨o.slots, k b o (fun z => hc (by simp [z])) e⟩) (fun _ _ _ _ n => n)
    (fun b o hc e => ⟨o, k b o (fun z => hc (by simp [z])) e⟩) (fun _ _ e => e) (fun _ _ _ e => e) (fun b ps e => ⟨#[], by rw [e]; simp⟩) (fun m hm => ?_) (fun b u e => ?_) I.bare
  · have e : b = it := by simpa using hb
    subst e
    exact ⟨h1, hL, h2, h3⟩
  · obtain ⟨o, es, ep, ho, r⟩ := hm
    exact ⟨o, es, ep, k _ o (Ne.symm hL) ho, r⟩
  · refine (I.hok b u e).stay (fun c v hc q => k c v ?_ q) (fun _ q => q) fun _ _ q => q
    rcases hc with z | z
    · rw [z]; exact nit b u e
    · exact nit c _ z
theorem Inv.tok (I : Inv X pins σ H s) (t : Nat) : Inv X pins σ H { s with toks := t } := I.un (h' := s.heap) (t' := t) Un.refl I.hok
theorem Inv.kept {t' : Nat} (I : Inv X pins σ H s) (k : ∀ b u, s.heap.get? b = some u → h'.get? b = some u) : Inv X pins σ H { s with heap := h', toks := t' } := I.un (Un.kept k) (I.hok.kept k)
theorem Inv.laid {a : Addr} {o : HO} {t' : Nat} (I : Inv X pins σ H s) (k : ∀ b u, s.heap.get? b = some u → h'.get? b = some u) (hp : s.heap.objs.size ≤ a) (new : ObjOk X.prog X.w (upd H a o) h' a o) :
    Inv X pins σ (upd H a o) { s with heap := h', toks := t' } := I.un (Un.laid k hp (I.hok.fresh hp)) (I.hok.laid k hp new)
theorem Inv.write {x e : Addr} {o : HO} {t' : Nat} (I : Inv X pins σ H s) (mu : Mut (H x)) (he : e = x ∨ H e = some (.own x)) (k : ∀ b u, b ≠ e → s.heap.get? b = some u → h'.get? b = some u) (heo : ∃ u, h'.get? e = some u)
    (new : ObjOk X.prog X.w (upd H x o) h' x o) : Inv X pins σ (upd H x o) { s with heap := h', toks := t' } := I.un (Un.write mu he k heo) (I.hok.write mu he k heo new)
theorem Inv.pins_of {pins' : List (Addr × Obj)} (I : Inv X pins σ H s) (h : ∀ p ∈ pins', s.heap.get? p.1 = some p.2 ∧ H p.1 = none ∧ p.1 ≠ X.env.locals ∧ p.1 ∉ X.fs ∧ ∀ v, p.2.data ≠ .cell v) : Inv X pins' σ H s :=
  ⟨I.ok, I.os, I.bare, I.base, I.loc, I.cell, I.free, I.freeC, fun p hp => (List.mem_append.mp hp).elim (fun z => I.pin p (List.mem_append_left _ z)) (h p), I.hok, I.len⟩

theorem nodup_ix {N : List Str} (hN : N.Nodup) {i j : Nat} {x : Str} (a : N[i]? = some x) (b : N[j]? = some x) : i = j := by
  obtain ⟨h1, e1⟩ := List.getElem?_eq_some_iff.mp a
  obtain ⟨h2, e2⟩ := List.getElem?_eq_some_iff.mp b
  exact (List.getElem_inj hN).mp (e1.trans e2.symm)

theorem store_ok2 {M : Model} {A : Around} {E : Value → Shared → Prop} {i : Nat} {x : Str} {v : V} {u : Value} {Q : Unit → Shared → Prop} (I : Inv X pins σ H s) (hN : X.N.Nodup) (hi : X.N[i]? = some x) (hx : Loc X.env.scope x) (r : RelV v u)
    (h : ∀ s', Inv X pins (σ.set i (some v)) H s' → (∃ a, Heap.SameBut a s.heap s'.heap ∧ (a = X.env.locals ∨ X.env.cells.lookup x = some a)) → Q () s') (hf : X.fn x = true ∨ X.env.scope.names.lookup x = some .local := by first | exact .inl rfl | exact .inr rfl | assumption) : wpAny M A (storeName X.env x u) Q E s := by
  obtain ⟨m, hn, hl⟩ := id I.loc
  have hcls : (X.env.scope.kind == .class || (X.env.scope.kind == .module && X.env.locals != X.env.globals)) = false := by rw [I.ok.kind]; rfl
  have hiσ : i < σ.length := by rw [I.len]; exact (List.getElem?_eq_some_iff.mp hi).1
  have cne := I.cne
  have tracked : ∀ {a : Addr} {h' : Heap}, (∃ o, s.heap.get? a = some o ∧ H a = none) → Heap.SameBut a s.heap h' → HOk X.prog X.w H h' := fun {a h'} ha hs b ob e => by
    obtain ⟨_, _, hfree⟩ := ha
    refine (I.hok b ob e).stay (fun c w' hc q => (hs.2 c ?_).trans q) (fun _ q => q) fun _ _ q => q
    rintro rfl
    rcases hc with rfl | hc
    · rw [hfree] at e; cases e
    · rw [hfree] at hc; cases hc
  rcases hx with hk | hk
  · refine wpAny_storeName_local hk hn (fun h' hn' hs => ?_) hcls
    obtain ⟨oL, _, _, hoL, _⟩ := id hn
    refine h _ ⟨I.ok, I.os, I.bare, ⟨fun b o e n hb hx => ?_, fun b o e n hb hx => ?_, I.base.free, fun b o e hx => ?_, I.base.tups, I.base.frzs, I.base.tbls⟩, ⟨_, hn', fun j y v' e1 e2 e3 => ?_⟩, fun y c e => ?_, I.free, I.freeC, fun p hp => ?_, tracked ⟨oL, hoL, I.free⟩ hs, by simpa using I.len⟩ ⟨_, hs, .inl rfl⟩
    · exact (hs.2 b (Nat.ne_of_lt (Nat.lt_of_lt_of_le (Heap.lt_size e) I.ok.above))).trans (I.base.keep b o e n hb hx)
    · obtain ⟨sl, e1⟩ := I.base.slot b o e n hb hx
      exact ⟨sl, (hs.2 b (Nat.ne_of_lt (Nat.lt_of_lt_of_le (Heap.lt_size e) I.ok.above))).trans e1⟩
    · obtain ⟨o', e1⟩ := I.base.there b o e hx
      exact ⟨o', (hs.2 b (Nat.ne_of_lt (Nat.lt_of_lt_of_le (Heap.lt_size e) I.ok.above))).trans e1⟩
    · by_cases hj : j = i
      · subst hj
        rw [hi] at e1; cases e1
        rw [List.getElem?_set_self hiσ] at e2
        cases e2
        exact ⟨u, r, .inl ⟨hk, by simp⟩⟩
      · rw [List.getElem?_set_ne (Ne.symm hj)] at e2
        obtain ⟨u', r', q⟩ := hl j y v' e1 e2 e3
        refine ⟨u', r', ?_⟩
        rcases q with ⟨k, e⟩ | ⟨k, c, e, z⟩
        · refine .inl ⟨k, ?_⟩
          have : y ≠ x := fun e => hj (nodup_ix hN e1 (e ▸ hi))
          simp [this, e]
        · exact .inr ⟨k, c, e, z.sameBut hs (cne y c e)⟩
    · obtain ⟨w', z⟩ := I.cell y c e
      exact ⟨w', z.sameBut hs (cne y c e)⟩
    · obtain ⟨e, n, ne, nf, d⟩ := I.pin p hp
      exact ⟨(hs.2 p.1 ne).trans e, n, ne, nf, d⟩
  · have hfn : X.fn x = true := by
      rcases hf with z | z
      · exact z
      · rw [z] at hk; cases hk
    obtain ⟨c, hc⟩ := I.ok.has x (.inl hk)
    obtain ⟨w', z⟩ := I.cell x c hc
    refine wpAny_storeName_cell I.ok.kind hk hc z (fun h' hc' hs => ?_)
    obtain ⟨oc, hoc, hocd⟩ := id z
    refine h { s with heap := h' } ⟨I.ok, I.os, I.bare, ⟨fun b o e n hb hx => ?_, fun b o e n hb hx => ?_, I.base.free, fun b o e hx => ?_, I.base.tups, I.base.frzs, I.base.tbls⟩, ⟨m, hn.sameBut hs (Ne.symm (cne x c hc)), fun j y v' e1 e2 e3 => ?_⟩, fun y c' e => ?_, I.free, I.freeC, fun p hp => ?_, tracked ⟨oc, hoc, I.freeC x c hc⟩ hs, by simpa using I.len⟩ ⟨c, hs, .inr hc⟩
    · exact (hs.2 b (Nat.ne_of_lt (Nat.lt_of_lt_of_le (Heap.lt_size e) (I.ok.cab x c hfn hc)))).trans (I.base.keep b o e n hb hx)
    · obtain ⟨sl, e1⟩ := I.base.slot b o e n hb hx
      exact ⟨sl, (hs.2 b (Nat.ne_of_lt (Nat.lt_of_lt_of_le (Heap.lt_size e) (I.ok.cab x c hfn hc)))).trans e1⟩
    · obtain ⟨o', e1⟩ := I.base.there b o e hx
      exact ⟨o', (hs.2 b (Nat.ne_of_lt (Nat.lt_of_lt_of_le (Heap.lt_size e) (I.ok.cab x c hfn hc)))).trans e1⟩
    · by_cases hj : j = i
      · subst hj
        rw [hi] at e1; cases e1
        rw [List.getElem?_set_self hiσ] at e2
        cases e2
        exact ⟨u, r, .inr ⟨.inl hk, c, hc, hc'⟩⟩
      · rw [List.getElem?_set_ne (Ne.symm hj)] at e2
        obtain ⟨u', r', q⟩ := hl j y v' e1 e2 e3
        refine ⟨u', r', ?_⟩
        rcases q with q | ⟨k, c', e, z'⟩
        · exact .inl q
        · refine .inr ⟨k, c', e, z'.sameBut hs ?_⟩
          rintro rfl
          exact hj (nodup_ix hN e1 (I.ok.inj _ _ _ e hc ▸ hi))
    · by_cases hcc : c' = c
      · subst hcc; exact ⟨_, hc'⟩
      · obtain ⟨w2, z2⟩ := I.cell y c' e
        exact ⟨w2, z2.sameBut hs hcc⟩
    · obtain ⟨e, n, ne, nf, d⟩ := I.pin p hp
      refine ⟨(hs.2 p.1 ?_).trans e, n, ne, nf, d⟩
      intro q
      rw [q, hoc] at e
      have q' : oc = p.2 := Option.some.inj e
      exact d w' (by rw [← q']; exact hocd)
theorem store_ok {M : Model} {A : Around} {E : Value → Shared → Prop} {i : Nat} {x : Str} {v : V} {u : Value} {Q : Unit → Shared → Prop} (I : Inv X pins σ H s) (hN : X.N.Nodup) (hi : X.N[i]? = some x) (hx : Loc X.env.scope x) (r : RelV v u)
    (h : ∀ s', Inv X pins (σ.set i (some v)) H s' → Q () s') (hf : X.fn x = true ∨ X.env.scope.names.lookup x = some .local := by first | exact .inl rfl | exact .inr rfl | assumption) : wpAny M A (storeName X.env x u) Q E s :=
  store_ok2 I hN hi hx r (fun s' I' _ => h s' I') hf
theorem Inv.call' {s' : Shared} {ch : List Addr} (I : Inv X pins σ H s) (ho : s'.os = s.os) (u : Un (frs X.stack) ch H H' s.heap s'.heap) (hok : HOk X.prog X.w H' s'.heap) (hg : AllBare s'.gens)
    (hch : ∀ b ∈ ch, (b ∈ X.ex ∨ X.s₀.heap.objs.size ≤ b) ∧ b ≠ X.env.locals ∧ (∀ x c, X.env.cells.lookup x = some c → c ≠ b) ∧ ∀ p ∈ X.pn ++ pins, p.1 ≠ b) : Inv X pins σ H' s' := by
  obtain ⟨h', g', d', t', o'⟩ := s'
  have e : o' = s.os := ho
  subst e
  exact I.call (g' := g') (t' := t') (d' := d') u hok hg hch
end

abbrev XK := Value → Option Addr → Hp → Prop
abbrev St := List (Option V)
abbrev VK := V → Hp → Prop
abbrev TE := St → Hp → VK → Prop
abbrev TT := St → Hp → (Bool → Hp → Prop) → Prop
abbrev TA := St → Hp → (List V → Hp → Prop) → Prop
structure Ends where
  nx : St → Hp → Prop
  rt : VK
  bk : St → Hp → Prop := fun _ _ => False
  ct : St → Hp → Prop := fun _ _ => False
abbrev TS := Ends → St → Hp → Prop

def EP (X : Cx) (pins : List (Addr × Obj)) (σ : St) (Q : VK) (u : Value) (s' : Shared) : Prop := ∃ v H', Inv X pins σ H' s' ∧ RelV v u ∧ Q v H'
def TP (X : Cx) (pins : List (Addr × Obj)) (σ : St) (Q : Bool → Hp → Prop) (b : Bool) (s' : Shared) : Prop := ∃ H', Inv X pins σ H' s' ∧ Q b H'
def AP (X : Cx) (pins : List (Addr × Obj)) (σ : St) (Q : List V → Hp → Prop) (us : List Value) (s' : Shared) : Prop := ∃ vs H', Inv X pins σ H' s' ∧ Vals vs us ∧ Q vs H'
def SP (X : Cx) (pins : List (Addr × Obj)) (D : Ends) (f : Flow) (s' : Shared) : Prop :=
  match f with
  | .next => ∃ σ' H', Inv X pins σ' H' s' ∧ D.nx σ' H'
  | .brk => ∃ σ' H', Inv X pins σ' H' s' ∧ D.bk σ' H'
  | .cont => ∃ σ' H', Inv X pins σ' H' s' ∧ D.ct σ' H'
  | .ret u => ∃ v σ' H', Inv X pins σ' H' s' ∧ RelV v u ∧ D.rt v H'

structure PE (X : Cx) (e : Expr) (t : TE) : Prop where
  run :
    ∀ (pins : List (Addr × Obj)) (s : Shared) (σ : St) (H : Hp) (Q : VK), Inv X pins σ H s → t σ H Q → wpAny (model X.prog X.w) X.A (eval e X.env) (EP X pins σ Q) X.xe s
instance {X : Cx} {e : Expr} {t : TE} : CoeFun (PE X e t) (fun _ =>
  ∀ (pins : List (Addr × Obj)) (s : Shared) (σ : St) (H : Hp) (Q : VK), Inv X pins σ H s → t σ H Q → wpAny (model X.prog X.w) X.A (eval e X.env) (EP X pins σ Q) X.xe s) := ⟨fun h => h.run⟩
structure PT (X : Cx) (e : Expr) (t : TT) : Prop where
  run :
    ∀ (pins : List (Addr × Obj)) (s : Shared) (σ : St) (H : Hp) (Q : Bool → Hp → Prop), Inv X pins σ H s → t σ H Q → wpAny (model X.prog X.w) X.A (isTrue e X.env (eval e X.env)) (TP X pins σ Q) X.xe s
instance {X : Cx} {e : Expr} {t : TT} : CoeFun (PT X e t) (fun _ =>
  ∀ (pins : List (Addr × Obj)) (s : Shared) (σ : St) (H : Hp) (Q : Bool → Hp → Prop), Inv X pins σ H s → t σ H Q → wpAny (model X.prog X.w) X.A (isTrue e X.env (eval e X.env)) (TP X pins σ Q) X.xe s) := ⟨fun h => h.run⟩
structure PW (X : Cx) (e : Expr) (t : TT) : Prop where
  run :
    ∀ (whole : Sem Value) (pins : List (Addr × Obj)) (s : Shared) (σ : St) (H : Hp) (Q : Bool → Hp → Prop), Inv X pins σ H s → t σ H Q → wpAny (model X.prog X.w) X.A (isTrue e X.env whole) (TP X pins σ Q) X.xe s
instance {X : Cx} {e : Expr} {t : TT} : CoeFun (PW X e t) (fun _ =>
  ∀ (whole : Sem Value) (pins : List (Addr × Obj)) (s : Shared) (σ : St) (H : Hp) (Q : Bool → Hp → Prop), Inv X pins σ H s → t σ H Q → wpAny (model X.prog X.w) X.A (isTrue e X.env whole) (TP X pins σ Q) X.xe s) := ⟨fun h => h.run⟩
theorem PW.pt {X : Cx} {e : Expr} {t : TT} (h : PW X e t) : PT X e t := ⟨h.run _⟩
structure PA (X : Cx) (es : List Expr) (t : TA) : Prop where
  run :
    ∀ (pos : Pos) (pins : List (Addr × Obj)) (s : Shared) (σ : St) (H : Hp) (Q : List V → Hp → Prop), Inv X pins σ H s → t σ H Q → wpAny (model X.prog X.w) X.A (spliced (backTo pos (starEach es X.env))) (AP X pins σ Q) X.xe s
instance {X : Cx} {es : List Expr} {t : TA} : CoeFun (PA X es t) (fun _ =>
  ∀ (pos : Pos) (pins : List (Addr × Obj)) (s : Shared) (σ : St) (H : Hp) (Q : List V → Hp → Prop), Inv X pins σ H s → t σ H Q → wpAny (model X.prog X.w) X.A (spliced (backTo pos (starEach es X.env))) (AP X pins σ Q) X.xe s) := ⟨fun h => h.run⟩
structure PS (X : Cx) (st : Stmt) (t : TS) : Prop where
  run :
    ∀ (pins : List (Addr × Obj)) (s : Shared) (σ : St) (H : Hp) (D : Ends), Inv X pins σ H s → t D σ H → wpAny (model X.prog X.w) X.A (exec st X.env) (SP X pins D) X.xe s
instance {X : Cx} {st : Stmt} {t : TS} : CoeFun (PS X st t) (fun _ =>
  ∀ (pins : List (Addr × Obj)) (s : Shared) (σ : St) (H : Hp) (D : Ends), Inv X pins σ H s → t D σ H → wpAny (model X.prog X.w) X.A (exec st X.env) (SP X pins D) X.xe s) := ⟨fun h => h.run⟩
structure PSs (X : Cx) (st : List Stmt) (t : TS) : Prop where
  run :
    ∀ (pins : List (Addr × Obj)) (s : Shared) (σ : St) (H : Hp) (D : Ends), Inv X pins σ H s → t D σ H → wpAny (model X.prog X.w) X.A (execs st X.env) (SP X pins D) X.xe s
instance {X : Cx} {st : List Stmt} {t : TS} : CoeFun (PSs X st t) (fun _ =>
  ∀ (pins : List (Addr × Obj)) (s : Shared) (σ : St) (H : Hp) (D : Ends), Inv X pins σ H s → t D σ H → wpAny (model X.prog X.w) X.A (execs st X.env) (SP X pins D) X.xe s) := ⟨fun h => h.run⟩
theorem thn {α : Type} {t : Sem α} {Q Q' : α → Shared → Prop} {M : Model} {A : Around} {E : Value → Shared → Prop} {s : Shared} (h : wpAny M A t Q E s) (hQ : ∀ a s, Q a s → Q' a s) : wpAny M A t Q' E s := wpAny_mono h hQ fun _ _ x => x
end L2

namespace L2
open PySem PySem.Spec PyProof.Rows
section
variable {X : Cx}

theorem bin {a b : Expr} {ta tb : TE} (ha : PE X a ta) (hb : PE X b tb) {pins : List (Addr × Obj)} {s : Shared} {σ : St} {H : Hp} {R : V → V → Hp → Prop} (I : Inv X pins σ H s) (h : ta σ H fun x H1 => tb σ H1 fun y H2 => R x y H2)
    {α : Type} {Q : α → Shared → Prop} {f : Value → Value → Sem α}
    (hf : ∀ v u s2 x y H2, Inv X pins σ H2 s2 → RelV x v → RelV y u → R x y H2 → wpAny (model X.prog X.w) X.A (f v u) Q X.xe s2) :
    wpAny (model X.prog X.w) X.A (eval a X.env) (fun v s₁ => wpAny (model X.prog X.w) X.A (eval b X.env) (fun u s₂ => wpAny (model X.prog X.w) X.A (f v u) Q X.xe s₂) X.xe s₁) X.xe s := by
  refine thn (ha pins s σ H _ I h) fun v s1 ⟨x, H1, I1, r1, q1⟩ => ?_
  refine thn (hb pins s1 σ H1 _ I1 q1) fun u s2 ⟨y, H2, I2, r2, q2⟩ => ?_
  exact hf v u s2 x y H2 I2 r1 r2 q2

def tVar (i : Nat) : TE := fun σ H Q => ∃ v, σ[i]? = some (some v) ∧ Q v H
def tC (v : V) : TE := fun _ H Q => Q v H
theorem pe_var {i : Nat} {x : Str} {pos : Pos} (hN : X.N[i]? = some x) (hv : Vis X.env.scope x) (hd : (x == ("__debug__" : Str)) = false := by decide) (hcd : (x == ("__classdict__" : Str)) = false := by decide) : PE X (.Name x pos) (tVar i) := by
  constructor
  intro pins s σ H Q I h
  obtain ⟨v, e, h⟩ := h
  obtain ⟨m, hn, hl⟩ := I.loc
  obtain ⟨u, r, l⟩ := hl i x v hN e hv
  have fin : EP X pins σ Q u s := ⟨v, H, I, r, h⟩
  rcases l with ⟨hk, hm⟩ | ⟨hk, c, hc, hcell⟩
  · exact wpAny_Name (wpAny_loadName_local I.ok.kind hk hn hm fin) hd
  · rcases hk with hk | hk
    · exact wpAny_Name (wpAny_loadName_cell I.ok.kind hk hc hcell fin) hd
    · exact wpAny_Name (wpAny_loadName_free I.ok.kind hk hc hcell fin hcd) hd
theorem pe_int {i j pos} : PE X (.Constant (.int i) j pos) (tC (.int i)) := ⟨fun _ _ _ H _ I h => wpAny_Constant_int ⟨.int i, H, I.tok _, ⟨_, rfl⟩, h⟩⟩
theorem pe_bl {b j pos} : PE X (.Constant (.bool b) j pos) (tC (.bl b)) := ⟨fun _ _ _ H _ I h => Constant_bool ⟨.bl b, H, I, rfl, h⟩⟩
theorem pe_non {j pos} : PE X (.Constant .none j pos) (tC .non) := ⟨fun _ _ _ H _ I h => Constant_none ⟨.non, H, I, rfl, h⟩⟩
theorem pe_str {x j pos} : PE X (.Constant (.str x) j pos) (tC (.str x)) := ⟨fun _ _ _ H _ I h => Calls.Constant_str ⟨.str x, H, I.tok _, ⟨_, rfl⟩, h⟩⟩

def Gl (X : Cx) (x : Str) : Prop := X.env.kindOf x = some .globalImplicit
theorem ld_glob {E : Value → Shared → Prop} {pins : List (Addr × Obj)} {s : Shared} {σ : St} {H : Hp} {x : Str} {u : Value} {pos : Pos} {Q : Value → Shared → Prop} (I : Inv X pins σ H s) (hg : Gl X x) (hm : X.mg x = some u) (h : Q u s)
    (hd : (x == ("__debug__" : Str)) = false := by decide) : wpAny (model X.prog X.w) X.A (eval (.Name x pos) X.env) Q E s :=
  Calls.Name_function_global I.ok.kind hg (Calls.loadGlobal_global (by rw [I.ok.glob]; exact I.mod.glob.keeps I.bk) hm h) hd
theorem ld_blt {E : Value → Shared → Prop} {pins : List (Addr × Obj)} {s : Shared} {σ : St} {H : Hp} {x : Str} {u : Value} {pos : Pos} {Q : Value → Shared → Prop} (I : Inv X pins σ H s) (hg : Gl X x) (hm : X.mg x = none) (hv : bootBuiltins x = some u) (h : Q u s)
    (hn : x ≠ "__name__" := by decide) (hd : (x == ("__debug__" : Str)) = false := by decide) : wpAny (model X.prog X.w) X.A (eval (.Name x pos) X.env) Q E s := by
  obtain ⟨mb, h1, h2⟩ := I.mod.blt
  exact Calls.Name_function_global I.ok.kind hg (Calls.loadGlobal_builtin (by rw [I.ok.glob]; exact I.mod.glob.keeps I.bk) hm (by rw [I.ok.blt]; exact h1.keeps I.bk) ((h2 x hn).trans hv) h) hd
theorem pe_glob {x : Str} {v : V} {u : Value} {pos : Pos} (hg : Gl X x) (hm : X.mg x = some u) (r : RelV v u) (hd : (x == ("__debug__" : Str)) = false := by decide) : PE X (.Name x pos) (tC v) :=
  ⟨fun _ _ _ H _ I h => ld_glob I hg hm ⟨v, H, I, r, h⟩ hd⟩
theorem pe_bltn {x : Str} {v : V} {u : Value} {pos : Pos} (hg : Gl X x) (hm : X.mg x = none) (hv : bootBuiltins x = some u) (r : RelV v u) (hn : x ≠ "__name__" := by decide) (hd : (x == ("__debug__" : Str)) = false := by decide) : PE X (.Name x pos) (tC v) :=
  ⟨fun _ _ _ H _ I h => ld_blt I hg hm hv ⟨v, H, I, r, h⟩ hn hd⟩

variable {a b : Expr} {ta tb : TE} {pos : Pos}
structure PC (X : Cx) (op : CmpOp) (a b : Expr) (t : TE) : Prop where
  run :
    ∀ (pins : List (Addr × Obj)) (s : Shared) (σ : St) (H : Hp) (Q : VK), Inv X pins σ H s → t σ H Q →
      wpAny (model X.prog X.w) X.A (eval a X.env) (fun v s₁ => wpAny (model X.prog X.w) X.A (eval b X.env) (fun u s₂ => wpAny (model X.prog X.w) X.A (compareOp op v u) (EP X pins σ Q) X.xe s₂) X.xe s₁) X.xe s
instance {X : Cx} {op : CmpOp} {a b : Expr} {t : TE} : CoeFun (PC X op a b t) (fun _ =>
  ∀ (pins : List (Addr × Obj)) (s : Shared) (σ : St) (H : Hp) (Q : VK), Inv X pins σ H s → t σ H Q →
    wpAny (model X.prog X.w) X.A (eval a X.env) (fun v s₁ => wpAny (model X.prog X.w) X.A (eval b X.env) (fun u s₂ => wpAny (model X.prog X.w) X.A (compareOp op v u) (EP X pins σ Q) X.xe s₂) X.xe s₁) X.xe s) := ⟨fun h => h.run⟩
def tB (t : TE) : TT := fun σ H Q => t σ H fun x H1 => ∃ c, x = .bl c ∧ Q c H1
theorem pt_val {e : Expr} {t : TE} (h : PE X e t) (he : ∀ whole, isTrue e X.env whole = (do let v ← whole; standAt e.pos; holding [v] (truthy v)) := by intro _; rfl) : PT X e (tB t) := by
  constructor
  intro pins s σ H Q I hw
  refine isTrue_plain (thn (h pins s σ H _ I hw) fun v s1 ⟨x, H1, I1, r1, q1⟩ => ?_) (he _)
  obtain ⟨d, rfl, q⟩ := q1
  cases r1
  exact wpAny_truthy_bool ⟨H1, I1, q⟩

variable {tA tB' : TT} {rest : List Expr}
def tAnd (t u : TT) : TT := fun σ H Q => t σ H fun c H1 => if c = true then u σ H1 Q else Q false H1
def tOr (t u : TT) : TT := fun σ H Q => t σ H fun c H1 => if c = true then Q true H1 else u σ H1 Q
def tNot (t : TT) : TT := fun σ H Q => t σ H fun c H1 => Q (!c) H1
theorem pw_and1 (ha : PT X a tA) : PW X (.BoolOp .And [a] pos) tA := by
  constructor
  intro wh pins s σ H Q I h
  refine isTrue_and (thn (ha pins s σ H Q I h) fun c s1 e => ?_)
  cases c with
  | true => exact isTrue_and_nil e
  | false => exact e
theorem pw_or1 (ha : PT X a tA) : PW X (.BoolOp .Or [a] pos) tA := by
  constructor
  intro wh pins s σ H Q I h
  refine isTrue_or (thn (ha pins s σ H Q I h) fun c s1 e => ?_)
  cases c with
  | false => exact isTrue_or_nil e
  | true => exact e
theorem pw_and (ha : PT X a tA) (hb : PW X (.BoolOp .And (b :: rest) pos) tB') : PW X (.BoolOp .And (a :: b :: rest) pos) (tAnd tA tB') := by
  constructor
  intro wh pins s σ H Q I h
  refine isTrue_and (thn (ha pins s σ H _ I h) fun c s1 ⟨H1, I1, q1⟩ => ?_)
  cases c with
  | true => exact hb wh pins s1 σ H1 Q I1 q1
  | false => exact ⟨H1, I1, q1⟩
theorem pw_or (ha : PT X a tA) (hb : PW X (.BoolOp .Or (b :: rest) pos) tB') : PW X (.BoolOp .Or (a :: b :: rest) pos) (tOr tA tB') := by
  constructor
  intro wh pins s σ H Q I h
  refine isTrue_or (thn (ha pins s σ H _ I h) fun c s1 ⟨H1, I1, q1⟩ => ?_)
  cases c with
  | true => exact ⟨H1, I1, q1⟩
  | false => exact hb wh pins s1 σ H1 Q I1 q1
theorem pt_not (ha : PT X a tA) : PT X (.UnaryOp .Not a pos) (tNot tA) := by
  constructor
  intro pins s σ H Q I h
  exact isTrue_not (ha pins s σ H (fun c H1 => Q (!c) H1) I h)
def tAndV (ta tb : TE) : TE := fun σ H Q => ta σ H fun x H1 => ∃ c, x = .bl c ∧ if c = true then tb σ H1 Q else Q (.bl false) H1
theorem pe_one {op} {t : TE} (h : PE X a t) : PE X (.BoolOp op [a] pos) t := ⟨fun pins s σ H Q I hw => BoolOp_one (h pins s σ H Q I hw)⟩
theorem pe_and (ha : PE X a ta) (hb : PE X (.BoolOp .And (b :: rest) pos) tb) : PE X (.BoolOp .And (a :: b :: rest) pos) (tAndV ta tb) := by
  constructor
  intro pins s σ H Q I h
  refine BoolOp_and (thn (ha pins s σ H _ I h) fun v s1 ⟨x, H1, I1, r1, q1⟩ => ?_)
  obtain ⟨c, rfl, q1⟩ := q1
  cases r1
  refine wpAny_truthy_bool ?_
  cases c with
  | true => exact hb pins s1 σ H1 Q I1 q1
  | false => exact ⟨.bl false, H1, I1, rfl, q1⟩
def tIf (t : TT) (ta tb : TE) : TE := fun σ H Q => t σ H fun c H1 => if c = true then ta σ H1 Q else tb σ H1 Q
theorem pe_ifExp {c : Expr} (hc : PT X c tA) (ha : PE X a ta) (hb : PE X b tb) : PE X (.IfExp c a b pos) (tIf tA ta tb) := by
  constructor
  intro pins s σ H Q I h
  refine wpAny_IfExp (thn (hc pins s σ H _ I h) fun d s1 ⟨H1, I1, q1⟩ => ?_)
  cases d with
  | true => exact ha pins s1 σ H1 Q I1 q1
  | false => exact hb pins s1 σ H1 Q I1 q1
end
end L2

namespace L2
open PySem PySem.Spec PyProof.Rows

def SqL (K : PySem.W.Frag) (H : Hp) (a : Addr) (xs : List V) : Prop :=
  Rd H a (.lst xs) ∨
    ∃ (o : Obj) (its : Array Value) (n : Nat), K.lookup a = some o ∧ o.cls = .type "list" ∧ o.dict = none ∧ o.data = .seq its n ∧ its.size ≤ sizeLine ∧ Vals xs its.toList
def SqT (K : PySem.W.Frag) (H : Hp) (a : Addr) (xs : List V) : Prop :=
  Rd H a (.tup xs) ∨
    ∃ (o : Obj) (its : Array Value) (n : Nat), K.lookup a = some o ∧ o.cls = .type "tuple" ∧ o.data = .seq its n ∧ its.size ≤ sizeLine ∧ Vals xs its.toList
def absV : Value → Option V
  | .none => some .non
  | .bool b => some (.bl b)
  | .int i _ => some (.int i)
  | .str x _ => some (.str x)
  | .bytes b _ => some (.byt b)
  | .float b _ => some (.flt b)
  | .ref a => some (.ref a)
  | .type n => some (.ty n)
  | _ => none
theorem RelV.abs {x : V} {u : Value} (r : RelV x u) : absV u = some x := by
  cases x with
  | non => cases r; rfl
  | bl _ => cases r; rfl
  | int _ => obtain ⟨t, rfl⟩ := r; rfl
  | str _ => obtain ⟨t, rfl⟩ := r; rfl
  | byt _ => obtain ⟨t, rfl⟩ := r; rfl
  | flt _ => obtain ⟨t, rfl⟩ := r; rfl
  | ref _ => cases r; rfl
  | ty _ => cases r; rfl
theorem RelV.inj {x y : V} {u : Value} (r : RelV x u) (q : RelV y u) : x = y := Option.some.inj (r.abs.symm.trans q.abs)
theorem Vals.inj : ∀ {xs ys : List V} {us : List Value}, Vals xs us → Vals ys us → xs = ys
  | _, _, _, .nil, .nil => rfl
  | _, _, _, .cons r t, .cons r' t' => by rw [r.inj r', Vals.inj t t']
section
variable {X : Cx} {pins : List (Addr × Obj)} {σ : St} {H : Hp} {s : Shared} {a : Addr} {xs ys : List V}
theorem SqL.of {K : PySem.W.Frag} (h : H a = some (.lst xs)) : SqL K H a xs := .inl (.inl h)
theorem SqT.of {K : PySem.W.Frag} (h : H a = some (.tup xs)) : SqT K H a xs := .inl (.inl h)
theorem Inv.list (I : Inv X pins σ H s) (h : SqL X.K H a xs) : ∃ its : List Value, Vals xs its ∧ PlainL s.heap a its.toArray ∧ xs.length ≤ sizeLine := by
  rcases h with h | ⟨o, its, n, hk, hc, hd, hs, hz, r⟩
  · obtain ⟨z, its, n, r, e⟩ := h.ok I.hok
    exact ⟨its, r, ⟨_, n, e, rfl, rfl, rfl⟩, z⟩
  · refine ⟨its.toList, r, ⟨o, n, I.kIn a o hk, hc, hd, by simpa using hs⟩, ?_⟩
    have e := r.length
    simp only [Array.length_toList] at e
    omega
theorem Inv.tuple (I : Inv X pins σ H s) (h : SqT X.K H a xs) : ∃ its : List Value, Vals xs its ∧ IsTup s.heap a its.toArray ∧ xs.length ≤ sizeLine := by
  rcases h with h | ⟨o, its, n, hk, hc, hs, hz, r⟩
  · obtain ⟨z, its, r, p⟩ := h.ok I.hok
    exact ⟨its, r, p, z⟩
  · refine ⟨its.toList, r, ⟨o, I.kIn a o hk, hc, n, by simpa using hs⟩, ?_⟩
    have e := r.length
    simp only [Array.length_toList] at e
    omega
theorem Inv.list_inj (I : Inv X pins σ H s) (h : SqL X.K H a xs) (h' : SqL X.K H a ys) : xs = ys := by
  obtain ⟨its, r, ⟨o, n, e, _, _, d⟩, _⟩ := I.list h
  obtain ⟨its', r', ⟨o', n', e', _, _, d'⟩, _⟩ := I.list h'
  rw [e] at e'; cases e'
  rw [d] at d'
  injection d' with d1 _
  have : its = its' := by simpa using congrArg Array.toList d1
  subst this
  exact r.inj r'
end

abbrev Cx.wish (X : Cx) (E : Value → Shared → Prop) : Cx := { X with xe := E }
abbrev Cx.nox (X : Cx) : Cx := X.wish fun _ _ => False
theorem Cx.Ok.wish {X : Cx} (ok : X.Ok) (E : Value → Shared → Prop) : (X.wish E).Ok :=
  ⟨ok.mod, ok.kind, ok.glob, ok.blt, ok.above, ok.inj, ok.has, ok.cab, ok.hd, ok.frames, ok.stk, ok.exf, ok.bs, ok.bsz, ok.noex, ok.exfs, ok.funs, ok.frf⟩
theorem Cx.Ok.unwish {X : Cx} {E : Value → Shared → Prop} (ok : (X.wish E).Ok) : X.Ok :=
  ⟨ok.mod, ok.kind, ok.glob, ok.blt, ok.above, ok.inj, ok.has, ok.cab, ok.hd, ok.frames, ok.stk, ok.exf, ok.bs, ok.bsz, ok.noex, ok.exfs, ok.funs, ok.frf⟩
section
variable {X : Cx} {pins : List (Addr × Obj)} {σ : St} {H : Hp} {s : Shared} {E : Value → Shared → Prop}
theorem Inv.wish (I : Inv X pins σ H s) (E : Value → Shared → Prop) : Inv (X.wish E) pins σ H s := ⟨I.ok.wish E, I.os, I.bare, I.base, I.loc, I.cell, I.free, I.freeC, I.pin, I.hok, I.len⟩
theorem Inv.unwish (I : Inv (X.wish E) pins σ H s) : Inv X pins σ H s := ⟨I.ok.unwish, I.os, I.bare, I.base, I.loc, I.cell, I.free, I.freeC, I.pin, I.hok, I.len⟩
theorem SP.unwish {D : Ends} {f : Flow} {s' : Shared} (h : SP (X.wish E) pins D f s') : SP X pins D f s' := by
  cases f with
  | next => obtain ⟨σ', H', I, q⟩ := h; exact ⟨σ', H', I.unwish, q⟩
  | brk => obtain ⟨σ', H', I, q⟩ := h; exact ⟨σ', H', I.unwish, q⟩
  | cont => obtain ⟨σ', H', I, q⟩ := h; exact ⟨σ', H', I.unwish, q⟩
  | ret u => obtain ⟨v, σ', H', I, r, q⟩ := h; exact ⟨v, σ', H', I.unwish, r, q⟩
theorem PE.nox {e : Expr} {t : TE} (h : PE X.nox e t) : PE X e t := ⟨fun pins s σ H Q I hw =>
  wpAny_mono (h pins s σ H Q (I.wish _) hw) (fun _ _ ⟨v, H', I', r, q⟩ => ⟨v, H', I'.unwish, r, q⟩) fun _ _ z => False.elim z⟩
theorem PT.nox {e : Expr} {t : TT} (h : PT X.nox e t) : PT X e t := ⟨fun pins s σ H Q I hw =>
  wpAny_mono (h pins s σ H Q (I.wish _) hw) (fun _ _ ⟨H', I', q⟩ => ⟨H', I'.unwish, q⟩) fun _ _ z => False.elim z⟩
theorem PSs.nox {st : List Stmt} {t : TS} (h : PSs X.nox st t) : PSs X st t := ⟨fun pins s σ H D I hw =>
  wpAny_mono (h pins s σ H D (I.wish _) hw) (fun _ _ q => q.unwish) fun _ _ z => False.elim z⟩
end

section
variable {X : Cx} {st : Stmt} {rest : List Stmt} {t u : TS} {e : Expr} {te : TE} {pos : Pos}
def tNext : TS := fun D σ H => D.nx σ H
def tSeq (t u : TS) : TS := fun D σ H => t { D with nx := u D } σ H
theorem pss_nil : PSs X [] tNext := ⟨fun _ _ σ H _ I h => wpAny_execs_nil ⟨σ, H, I, h⟩⟩
theorem pss_cons (h1 : PS X st t) (h2 : PSs X rest u) : PSs X (st :: rest) (tSeq t u) := by
  constructor
  intro pins s σ H D I h
  refine wpAny_execs_cons (thn (h1 pins s σ H { D with nx := u D } I h) fun f s1 q => ?_)
  cases f with
  | next =>
    obtain ⟨σ', H', I', q⟩ := q
    exact h2 pins s1 σ' H' D I' q
  | ret v => exact q
  | brk => exact q
  | cont => exact q
theorem pss_one (h1 : PS X st t) : PSs X [st] t := by
  constructor
  intro pins s σ H D I h
  refine wpAny_execs_cons (thn (h1 pins s σ H D I h) fun f s1 q => ?_)
  cases f with
  | next => exact wpAny_execs_nil q
  | ret v => exact q
  | brk => exact q
  | cont => exact q
theorem Inv.quiet {pins : List (Addr × Obj)} {σ : St} {H : Hp} {s : Shared} (I : Inv X pins σ H s) : interactive X.env = false := by simp [interactive, I.ok.kind]
def tDrop (te : TE) : TS := fun D σ H => te σ H fun _ H1 => D.nx σ H1
theorem ps_expr (he : PE X e te) (hs : swapsWith e none pos.line X.env = pure false := by rfl) : PS X (.Expr e pos) (tDrop te) := by
  constructor
  intro pins s σ H D I h
  exact wpAny_Expr_any (thn (he pins s σ H _ I h) fun v s1 ⟨x, H1, I1, r1, q1⟩ => ⟨σ, H1, I1, q1⟩) I.quiet hs
def tRet (te : TE) : TS := fun D σ H => te σ H D.rt
theorem ps_ret (he : PE X e te) : PS X (.Return (some e) pos) (tRet te) := by
  constructor
  intro pins s σ H D I h
  exact wpAny_Return_some (thn (he pins s σ H _ I h) fun v s1 ⟨x, H1, I1, r1, q1⟩ => ⟨x, σ, H1, I1, r1, q1⟩)
def tIfS (c : TT) (t u : TS) : TS := fun D σ H => c σ H fun b H1 => if b = true then t D σ H1 else u D σ H1
theorem ps_if {c : Expr} {a b : List Stmt} {tc : TT} (hc : PT X c tc) (ha : PSs X a t) (hb : PSs X b u) : PS X (.If c a b pos) (tIfS tc t u) := by
  constructor
  intro pins s σ H D I h
  refine wpAny_If (thn (hc pins s σ H _ I h) fun d s1 ⟨H1, I1, q1⟩ => ?_)
  cases d with
  | true => exact ha pins s1 σ H1 D I1 q1
  | false => exact hb pins s1 σ H1 D I1 q1
def tNever : TS := fun _ _ _ => False
theorem pss_never {sts : List Stmt} : PSs X sts tNever := ⟨fun _ _ _ _ _ _ h => h.elim⟩
end

abbrev TG := V → St → Hp → (St → Hp → Prop) → Prop
abbrev TGs := List V → St → Hp → (St → Hp → Prop) → Prop
structure PG (X : Cx) (target : Expr) (t : TG) : Prop where
  run :
    ∀ (pins : List (Addr × Obj)) (s : Shared) (σ : St) (H : Hp) (v : V) (u : Value) (Q : St → Hp → Prop), Inv X pins σ H s → RelV v u → t v σ H Q →
      wpAny (model X.prog X.w) X.A (assign target X.env u) (fun _ s' => ∃ σ' H', Inv X pins σ' H' s' ∧ Q σ' H') X.xe s
instance {X : Cx} {target : Expr} {t : TG} : CoeFun (PG X target t) (fun _ =>
  ∀ (pins : List (Addr × Obj)) (s : Shared) (σ : St) (H : Hp) (v : V) (u : Value) (Q : St → Hp → Prop), Inv X pins σ H s → RelV v u → t v σ H Q →
    wpAny (model X.prog X.w) X.A (assign target X.env u) (fun _ s' => ∃ σ' H', Inv X pins σ' H' s' ∧ Q σ' H') X.xe s) := ⟨fun h => h.run⟩
structure PGs (X : Cx) (ts : List Expr) (t : TGs) : Prop where
  run :
    ∀ (pins : List (Addr × Obj)) (s : Shared) (σ : St) (H : Hp) (vs : List V) (us : List Value) (Q : St → Hp → Prop), Inv X pins σ H s → Vals vs us → t vs σ H Q →
      wpAny (model X.prog X.w) X.A (assignInOrder ((assignEach ts X.env).map (·.2)) us) (fun _ s' => ∃ σ' H', Inv X pins σ' H' s' ∧ Q σ' H') X.xe s
instance {X : Cx} {ts : List Expr} {t : TGs} : CoeFun (PGs X ts t) (fun _ =>
  ∀ (pins : List (Addr × Obj)) (s : Shared) (σ : St) (H : Hp) (vs : List V) (us : List Value) (Q : St → Hp → Prop), Inv X pins σ H s → Vals vs us → t vs σ H Q →
    wpAny (model X.prog X.w) X.A (assignInOrder ((assignEach ts X.env).map (·.2)) us) (fun _ s' => ∃ σ' H', Inv X pins σ' H' s' ∧ Q σ' H') X.xe s) := ⟨fun h => h.run⟩
abbrev TSet := V → V → V → Hp → (Hp → Prop) → Prop
def PSet (X : Cx) (t : TSet) : Prop :=
  ∀ (pins : List (Addr × Obj)) (s : Shared) (σ : St) (H : Hp) (o i v : V) (ov iv u : Value) (Q : Hp → Prop), Inv X pins σ H s → RelV o ov → RelV i iv → RelV v u → t o i v H Q →
    wpAny (model X.prog X.w) X.A (setItem ov iv u) (fun _ s' => ∃ H', Inv X pins σ H' s' ∧ Q H') X.xe s
section
variable {X : Cx} {pos : Pos}
def gName (i : Nat) : TG := fun v σ H Q => Q (σ.set i (some v)) H
theorem pg_name {i : Nat} {x : Str} (hN : X.N.Nodup) (hi : X.N[i]? = some x) (hx : Loc X.env.scope x) (hf : X.fn x = true ∨ X.env.scope.names.lookup x = some .local := by first | exact .inl rfl | exact .inr rfl | assumption) : PG X (.Name x pos) (gName i) := by
  constructor
  intro pins s σ H v u Q I r h
  exact wpAny_assign_Name (store_ok I hN hi hx r (fun s' I' => ⟨_, H, I', h⟩) hf)
def gNil : TGs := fun vs σ H Q => vs = [] ∧ Q σ H
def gCons (t : TG) (u : TGs) : TGs := fun vs σ H Q => ∃ v r, vs = v :: r ∧ t v σ H fun σ' H' => u r σ' H' Q
theorem pgs_nil : PGs X [] gNil := by
  constructor
  intro pins s σ H vs us Q I r h
  obtain ⟨e, h⟩ := h
  subst e
  cases r
  exact assignInOrder_nil ⟨σ, H, I, h⟩
theorem pgs_cons {e : Expr} {es : List Expr} {t : TG} {u : TGs} (h1 : PG X e t) (h2 : PGs X es u)
    (hs : (assignEach (e :: es) X.env).map (·.2) = assign e X.env :: (assignEach es X.env).map (·.2) := by rfl) : PGs X (e :: es) (gCons t u) := by
  constructor
  intro pins s σ H vs us Q I r h
  obtain ⟨v, vr, e1, h⟩ := h
  subst e1
  cases r with
  | cons r rr =>
    rw [hs]
    refine assignInOrder_cons (thn (h1 pins s σ H _ _ _ I r h) fun _ s1 ⟨σ1, H1, I1, q1⟩ => ?_)
    exact h2 pins s1 σ1 H1 _ _ Q I1 rr q1
def gTup (K : PySem.W.Frag) (n : Nat) (t : TGs) : TG := fun v σ H Q => ∃ a xs, v = .ref a ∧ SqT K H a xs ∧ xs.length = n ∧ t xs σ H Q
theorem pg_tup {es : List Expr} {k : Nat} {t : TGs} {n : Nat} (hc : X.calm = true) (h : PGs X es t)
    (hn : (assignEach es X.env).length = n := by rfl) (hst : (assignEach es X.env).findIdx? (·.1) = none := by rfl) : PG X (.Tuple es k pos) (gTup X.K n t) := by
  constructor
  intro pins s σ H v u Q I r hw
  obtain ⟨a, xs, e1, hq, hl, hw⟩ := hw
  subst e1
  cases r
  obtain ⟨its, rv, ht, hz⟩ := I.tuple hq
  refine assign_Tuple_tuple (I.ok.hd hc) ht (by simp [hn, ← hl, rv.length]) hst fun h' hx => ?_
  have I1 : Inv X pins σ H { s with heap := h' } := I.kept (t' := s.toks) fun b o e => hx b o (Nat.ne_of_lt (Heap.lt_size e)) e
  exact h pins _ σ H xs _ Q I1 (by simpa using rv) hw
def gSub (to ti : TE) (t : TSet) : TG := fun v σ H Q => to σ H fun o H1 => ti σ H1 fun i H2 => t o i v H2 fun H3 => Q σ H3
theorem pg_sub {o i : Expr} {to ti : TE} {t : TSet} (ho : PE X o to) (hi : PE X i ti) (hs : PSet X t)
    (ha : ∀ v, assign (.Subscript o i pos) X.env v = (do
      let ov ← holding [v] (eval o X.env)
      let iv ← holding [v, ov] (eval i X.env)
      standAt pos
      holding [v, ov, iv] (setItem ov iv v)
      release [v, ov, iv] []) := by intro _; rfl) : PG X (.Subscript o i pos) (gSub to ti t) := by
  constructor
  intro pins s σ H v u Q I r h
  rw [ha]
  refine wpAny_bind (wpAny_holding (thn (ho pins s σ H _ I h) fun ov s1 ⟨x, H1, I1, r1, q1⟩ => ?_))
  refine wpAny_bind (wpAny_holding (thn (hi pins s1 σ H1 _ I1 q1) fun iv s2 ⟨y, H2, I2, r2, q2⟩ => ?_))
  refine wpAny_bind (wpAny_standAt (wpAny_bind (wpAny_holding (thn (hs pins s2 σ H2 x y v ov iv u _ I2 r1 r2 r q2) fun _ s3 ⟨H3, I3, q3⟩ => ?_))))
  exact wpAny_release ⟨σ, H3, I3, q3⟩
def tAsg (te : TE) (g : TG) : TS := fun D σ H => te σ H fun x H1 => g x σ H1 D.nx
theorem ps_asg {tg e : Expr} {te : TE} {g : TG} (he : PE X e te) (hg : PG X tg g) (hs : swapsWithSole [tg] e pos.line X.env = pure false := by rfl) (hw : swappedStores [tg] e X.env = pure none := by rfl)
    (h1 : (assignEach [tg] X.env).map (·.2) = [assign tg X.env] := by rfl) : PS X (.Assign [tg] e pos) (tAsg te g) := by
  constructor
  intro pins s σ H D I h
  refine wpAny_Assign_stores (thn (he pins s σ H _ I h) fun v s1 ⟨x, H1, I1, r1, q1⟩ => ?_) hs hw
  rw [h1]
  exact thn (hg pins s1 σ H1 x v _ I1 r1 q1) fun _ s2 q => q
theorem ps_set {i : Nat} {x : Str} {e : Expr} {te : TE} {pos' : Pos} (hN : X.N.Nodup) (hi : X.N[i]? = some x) (hx : Loc X.env.scope x) (he : PE X e te) (hs : swapsWith e (some (.Name x pos')) pos.line X.env = pure false := by rfl) (hf : X.fn x = true ∨ X.env.scope.names.lookup x = some .local := by first | exact .inl rfl | exact .inr rfl | assumption) :
    PS X (.Assign [.Name x pos'] e pos) (tAsg te (gName i)) := by
  constructor
  intro pins s σ H D I h
  refine wpAny_Assign_Name (thn (he pins s σ H _ I h) fun v s1 ⟨y, H1, I1, r1, q1⟩ => ?_) hs
  exact store_ok I1 hN hi hx r1 (fun s2 I2 => ⟨_, H1, I2, q1⟩) hf
end

section
variable {X : Cx} {pos : Pos}
def tWhile (c : TT) (tb : TS) : TS := fun D σ H => ∃ W : Nat → St → Hp → Prop, (∃ m, W m σ H) ∧ ∀ m σ H, W m σ H →
  c σ H fun b H1 => if b = true then ∃ N : St → Hp → Prop, (∀ σ' H', N σ' H' → ∃ m', m' < m ∧ W m' σ' H') ∧ tb { D with nx := N, ct := N, bk := D.nx } σ H1 else D.nx σ H1
theorem ps_while {c : Expr} {body : List Stmt} {tc : TT} {tb : TS} (hp : PassesOwn (model X.prog X.w) X.A X.env X.xe) (hc : PT X c tc) (hb : PSs X body tb) : PS X (.While c body [] pos) (tWhile tc tb) := by
  constructor
  intro pins s σ H D I h
  obtain ⟨W, ⟨m0, w0⟩, turn⟩ := h
  refine wpAny_While (codeAny_whileLoop (fun n s' => ∃ σ' H', Inv X pins σ' H' s' ∧ W n σ' H') ?_ m0 ⟨σ, H, I, w0⟩)
  rintro n s1 ⟨σ1, H1, I1, w1⟩
  refine wpAny_passesOwn hp (thn (hc pins s1 σ1 H1 _ I1 (turn n σ1 H1 w1)) fun b s2 ⟨H2, I2, q2⟩ => ?_)
  cases b with
  | true =>
    obtain ⟨N, hN, q2⟩ := q2
    rw [if_pos rfl]
    refine wpAny_passesOwn hp (thn (hb pins s2 σ1 H2 _ I2 q2) fun f s3 q3 => ?_)
    cases f with
    | next =>
      obtain ⟨σ3, H3, I3, n3⟩ := q3
      obtain ⟨m', hm, w3⟩ := hN σ3 H3 n3
      exact ⟨m', hm, σ3, H3, I3, w3⟩
    | cont =>
      obtain ⟨σ3, H3, I3, n3⟩ := q3
      obtain ⟨m', hm, w3⟩ := hN σ3 H3 n3
      exact ⟨m', hm, σ3, H3, I3, w3⟩
    | brk => exact q3
    | ret v => exact q3
  | false =>
    rw [if_neg Bool.false_ne_true]
    exact wpAny_execs_nil ⟨σ1, H2, I2, q2⟩
end

structure It where
  go : Nat → Hp → Prop
  yld : Nat → Hp → V → Hp → Prop
  stop : Nat → Hp → Prop
def FpOk (X : Cx) (pins : List (Addr × Obj)) (H : Hp) (b : Addr) : Prop :=
  H b = none ∧ b ≠ X.env.locals ∧ b ∉ X.fs ∧ (b ∈ X.ex ∨ X.s₀.heap.objs.size ≤ b) ∧ (∀ x c, X.env.cells.lookup x = some c → c ≠ b) ∧ ∀ p ∈ X.pn ++ pins, p.1 ≠ b
theorem Inv.fpOk {X : Cx} {pins : List (Addr × Obj)} {σ : St} {H H' : Hp} {s : Shared} {b : Addr} (I : Inv X pins σ H s) (hb : s.heap.objs.size ≤ b) (hn : H' b = none) : FpOk X pins H' b := by
  refine ⟨hn, Nat.ne_of_gt (Nat.lt_of_lt_of_le I.lt hb), I.nofs hb, .inr (Nat.le_trans I.sz hb), fun x c e z => ?_, fun p hp z => ?_⟩
  · obtain ⟨v, q⟩ := I.cell x c e
    exact absurd (Nat.lt_of_lt_of_le q.lt (by rw [z]; exact hb)) (Nat.lt_irrefl _)
  · exact absurd (Nat.lt_of_lt_of_le (Heap.lt_size (I.pin p hp).1) (by rw [z]; exact hb)) (Nat.lt_irrefl _)
structure Turn (P : Program) (w : World) (K : PySem.W.Frag) (tg : Expr) (J : It) (fp : List Addr) (it : Addr) (tn : Nat → Heap → Prop) : Prop where
  mem : it ∈ fp
  obj : ∀ i h, tn i h → ∀ b ∈ fp, ∃ o, h.get? b = some o ∧ ∀ v, o.data ≠ .cell v
  keep : ∀ i h h', tn i h → (∀ b ∈ fp, ∀ o, h.get? b = some o → h'.get? b = some o) → tn i h'
  item : ∀ (X : Cx), X.prog = P → X.w = w → X.K = K → X.calm = true → ∀ (i : Nat) (pins : List (Addr × Obj)) (s : Shared) (σ : St) (H : Hp) (E : Value → Shared → Prop), Inv X pins σ H s → (∀ b ∈ fp, FpOk X pins H b) → tn i s.heap → J.go i H →
    wpAny (model P w) X.A (pyNext (.ref it)) (fun r s1 => ∃ u, r = some u ∧
      wpAny (model P w) X.A (letOwnedTupleGo tg (.ref it) u) (fun _ s2 => ∃ x H', Inv X pins σ H' s2 ∧ RelV x u ∧ J.yld i H x H' ∧ tn (i + 1) s2.heap ∧ ∀ b ∈ fp, H' b = none) E s1) E s
  done : ∀ (X : Cx), X.prog = P → X.w = w → X.K = K → X.calm = true → ∀ (i : Nat) (pins : List (Addr × Obj)) (s : Shared) (σ : St) (H : Hp) (E : Value → Shared → Prop), Inv X pins σ H s → (∀ b ∈ fp, FpOk X pins H b) → tn i s.heap → J.stop i H →
    wpAny (model P w) X.A (pyNext (.ref it)) (fun r s1 => r = none ∧ Inv X pins σ H s1) E s
  self : ∀ (A : Around) (i : Nat) (s : Shared) (Q : Value → Shared → Prop) (E : Value → Shared → Prop), tn i s.heap → Q (.ref it) s → wpAny (model P w) A (pyIter (.ref it)) Q E s
abbrev TI := St → Hp → (It → Hp → Prop) → Prop
def PIE (X : Cx) (pins : List (Addr × Obj)) (σ : St) (tg : Expr) (R : It → Hp → Prop) (itv : Value) (s2 : Shared) : Prop :=
  ∃ (it : Addr) (fp : List Addr) (tn : Nat → Heap → Prop) (J : It) (H' : Hp), itv = .ref it ∧ Inv X pins σ H' s2 ∧ Turn X.prog X.w X.K tg J fp it tn ∧ tn 0 s2.heap ∧ (∀ b ∈ fp, FpOk X pins H' b) ∧ R J H'
structure PI (X : Cx) (tg iter : Expr) (wi : TI) : Prop where
  run :
    ∀ (pins : List (Addr × Obj)) (s : Shared) (σ : St) (H : Hp) (R : It → Hp → Prop), Inv X pins σ H s → wi σ H R →
      wpAny (model X.prog X.w) X.A (eval iter X.env) (fun v s1 => wpAny (model X.prog X.w) X.A (pyIter v) (PIE X pins σ tg R) X.xe s1) X.xe s
instance {X : Cx} {tg iter : Expr} {wi : TI} : CoeFun (PI X tg iter wi) (fun _ =>
  ∀ (pins : List (Addr × Obj)) (s : Shared) (σ : St) (H : Hp) (R : It → Hp → Prop), Inv X pins σ H s → wi σ H R →
    wpAny (model X.prog X.w) X.A (eval iter X.env) (fun v s1 => wpAny (model X.prog X.w) X.A (pyIter v) (PIE X pins σ tg R) X.xe s1) X.xe s) := ⟨fun h => h.run⟩

theorem go_of {M : Model} {A : Around} {E : Value → Shared → Prop} {s : Shared} {tg : Expr} {it : Addr} {u : Value} {o : Obj} {n : String} {vs : Array Value} {Q : Unit → Shared → Prop} (ho : s.heap.get? it = some o) (hc : o.cls = .type n) (hd : o.data = .fields vs)
    (hn : ["enumerate", "zip", "dict_itemiterator", "dict_reverseitemiterator", "odict_iterator", "itertools.zip_longest", "itertools.pairwise"].contains n = false) (hQ : Q () s) : wpAny M A (letOwnedTupleGo tg (.ref it) u) Q E s := by
  unfold letOwnedTupleGo
  cases tg <;> first
    | exact wpAny_pure hQ
    | (cases u <;> first
        | exact wpAny_pure hQ
        | (refine wpAny_bind (wpAny_load ho ?_)
           rw [hc, hd]
           show wpAny M A (if (["enumerate", "zip", "dict_itemiterator", "dict_reverseitemiterator", "odict_iterator", "itertools.zip_longest", "itertools.pairwise"].contains n && vs[0]? == some (rawInt _)) = true then _ else _) Q E s
           rw [if_neg (by intro h; rw [hn, Bool.false_and] at h; cases h)]
           exact wpAny_pure hQ))

def Itl (K : PySem.W.Frag) (a : Addr) : It :=
  ⟨fun i H => ∃ xs x, SqL K H a xs ∧ xs[i]? = some x, fun i H x H' => H' = H ∧ ∀ xs, SqL K H a xs → xs[i]? = some x, fun i H => ∃ xs, SqL K H a xs ∧ xs.length ≤ i⟩
def Itr (lo : Int) (n : Nat) : It := ⟨fun i _ => i < n, fun i H x H' => H' = H ∧ x = .int (lo + i), fun i _ => n ≤ i⟩
theorem turn_list {P : Program} {w : World} {K : PySem.W.Frag} {tg : Expr} (a it : Addr) : Turn P w K tg (Itl K a) [it] it (fun i h => h.IsListIter it a i) where
  mem := by simp
  obj := fun i h st b hb => by
    have e : b = it := by simpa using hb
    subst e
    obtain ⟨o, e, c, d⟩ := st
    exact ⟨o, e, fun v z => by rw [d] at z; cases z⟩
  keep := fun i h h' st k => st.at fun o e => k it (by simp) o e
  item := by
    intro X hP hw hK hc i pins s σ H E I hf st hg
    subst hP hw hK
    obtain ⟨xs, x, hq, hx⟩ := hg
    obtain ⟨its, rv, p, hz⟩ := I.list hq
    obtain ⟨u, hu, ru⟩ := rv.get hx
    obtain ⟨f0, f1, f2, f3, f4, f5⟩ := hf it (by simp)
    refine wpAny_pyNext_list_item st p.isList (x := u) (by simpa using hu) fun h' st' sb => ?_
    have I1 : Inv X pins σ H { s with heap := h' } := I.turned (t' := s.toks) (fun b o hb e => (sb.2 b hb).trans e) f0 f1 f3 f4 f5
    obtain ⟨o, e, c, d⟩ := id st'
    exact ⟨u, rfl, go_of (s := { s with heap := h' }) e c d (by decide) ⟨x, H, I1, ru, ⟨rfl, fun ys hy => by rw [I.list_inj hy hq]; exact hx⟩, st', fun b hb => (hf b hb).1⟩⟩
  done := by
    intro X hP hw hK hc i pins s σ H E I hf st hg
    subst hP hw hK
    obtain ⟨xs, hq, hx⟩ := hg
    obtain ⟨its, rv, p, hz⟩ := I.list hq
    obtain ⟨f0, f1, f2, f3, f4, f5⟩ := hf it (by simp)
    have hl := rv.length
    exact wpAny_pyNext_list_end (I.ok.hd hc) st p.isList (by simp; omega) fun h' eb => ⟨rfl, I.turned (t' := s.toks) (fun b o hb e => eb b o hb e) f0 f1 f3 f4 f5⟩
  self := fun _ _ _ _ _ st h => wpAny_pyIter_listiter st h
theorem turn_range {P : Program} {w : World} {K : PySem.W.Frag} {tg : Expr} (it : Addr) (lo : Int) (n : Nat) : Turn P w K tg (Itr lo n) [it] it (fun i h => IsRangeIter h it (lo + (i : Nat) * 1) ((n : Int) - (i : Nat)) 1) where
  mem := by simp
  obj := fun i h st b hb => by
    have e : b = it := by simpa using hb
    subst e
    exact ⟨_, st, fun v z => by
      have z' : Data.fields _ = Data.cell v := z
      cases z'⟩
  keep := fun i h h' st k => k it (by simp) _ st
  item := by
    intro X hP hw hK hc i pins s σ H E I hf st hg
    subst hP hw hK
    obtain ⟨f0, f1, f2, f3, f4, f5⟩ := hf it (by simp)
    have W := Walks.range (prog := X.prog) (w := X.w) (I.ok.hd hc) it lo 1 n
    refine W.item i s _ _ hg st fun v h' tk hv st' kk => ?_
    obtain ⟨t, rfl⟩ := hv
    have I1 : Inv X pins σ H { s with heap := h', toks := tk } := I.turned (fun b o hb e => kk b o (by simpa using hb) e) f0 f1 f3 f4 f5
    refine ⟨_, rfl, go_of (s := { s with heap := h', toks := tk }) (n := "range_iterator") st' rfl rfl (by decide) ⟨.int (lo + i), H, I1, ⟨t, ?_⟩, ⟨rfl, rfl⟩, st', fun b hb => (hf b hb).1⟩⟩
    rw [Int.mul_one]
  done := by
    intro X hP hw hK hc i pins s σ H E I hf st hg
    subst hP hw hK
    obtain ⟨f0, f1, f2, f3, f4, f5⟩ := hf it (by simp)
    exact wpAny_pyNext_range_end (I.ok.hd hc) st (by have : n ≤ i := hg; omega) fun h' eb => ⟨rfl, I.turned (t' := s.toks) (fun b o hb e => eb b o hb e) f0 f1 f3 f4 f5⟩
  self := fun _ _ _ _ _ st h => wpAny_pyIter_rangeiter st h
end L2

namespace L2
open PySem PySem.Spec PyProof.Rows
section
variable {X : Cx} {tg : Expr}
def iList (K : PySem.W.Frag) (tl : TE) : TI := fun σ H R => tl σ H fun x H1 => ∃ a, x = .ref a ∧ (∃ xs, SqL K H1 a xs) ∧ R (Itl K a) H1
theorem pi_list {l : Expr} {tl : TE} (hl : PE X l tl) : PI X tg l (iList X.K tl) := by
  constructor
  intro pins s σ H R I h
  refine thn (hl pins s σ H _ I h) fun v s1 ⟨x, H1, I1, r1, q1⟩ => ?_
  obtain ⟨a, e, ⟨xs, hq⟩, q⟩ := q1
  subst e
  cases r1
  obtain ⟨its, rv, p, hz⟩ := I1.list hq
  refine wpAny_pyIter_list p.isList ?_
  refine ⟨s1.heap.objs.size, [s1.heap.objs.size], _, _, H1, rfl, I1.kept (t' := s1.toks) fun b o e => Heap.get?_push_of_some _ e, turn_list a _, ⟨_, Heap.get?_push_size _ rfl, rfl, rfl⟩, fun b hb => ?_, q⟩
  have e : b = s1.heap.objs.size := by simpa using hb
  subst e
  exact I1.fpOk (Nat.le_refl _) (I1.hok.fresh (Nat.le_refl _))
theorem range_it {pins : List (Addr × Obj)} {σ : St} {H : Hp} {s : Shared} {R : It → Hp → Prop} {E : Value → Shared → Prop} {lo hi : Int} {t u v : Tok} {tk : Nat} (I : Inv X pins σ H s) (h1 : -(2 ^ 62) ≤ lo) (h2 : lo < 2 ^ 62) (h3 : -(2 ^ 62) ≤ hi) (h4 : hi < 2 ^ 62)
    (q : R (Itr lo (hi - lo).toNat) H) : wpAny (model X.prog X.w) X.A (pyIter (.ref s.heap.objs.size)) (PIE X pins σ tg R) E { s with heap := s.heap.push { cls := .type "range", data := .fields #[.int lo t, .int hi u, .int 1 v] }, toks := tk } := by
  refine wpAny_pyIter_range (IsRange.new ..) (small_one h1 h2 h3 h4) ?_
  have I1 : Inv X pins σ H { s with heap := s.heap.push { cls := .type "range", data := .fields #[.int lo t, .int hi u, .int 1 v] }, toks := tk } := I.kept fun b o e => Heap.get?_push_of_some _ e
  refine ⟨(s.heap.push { cls := .type "range", data := .fields #[.int lo t, .int hi u, .int 1 v] }).objs.size, [(s.heap.push { cls := .type "range", data := .fields #[.int lo t, .int hi u, .int 1 v] }).objs.size], _, _, H, rfl,
    I1.kept (t' := tk) fun b o e => Heap.get?_push_of_some _ e, turn_range _ lo (hi - lo).toNat, ?_, fun b hb => ?_, q⟩
  · have e1 : lo + ((0 : Nat) : Int) * 1 = lo := by simp
    have e2 : (((hi - lo).toNat : Nat) : Int) - ((0 : Nat) : Int) = Builtin.Range.rangeSize lo hi 1 := by rw [rangeSize_one]; split <;> omega
    show IsRangeIter _ _ (lo + ((0 : Nat) : Int) * 1) ((((hi - lo).toNat : Nat) : Int) - ((0 : Nat) : Int)) 1
    rw [e1, e2]
    exact Heap.get?_push_size _ rfl
  · have e : b = (s.heap.push { cls := .type "range", data := .fields #[.int lo t, .int hi u, .int 1 v] }).objs.size := by simpa using hb
    subst e
    exact I1.fpOk (Nat.le_refl _) (I1.hok.fresh (Nat.le_refl _))
def iRng1 (ta : TA) : TI := fun σ H R => ta σ H fun vs H1 => ∃ j : Int, vs = [.int j] ∧ -(2 ^ 62) ≤ j ∧ j < 2 ^ 62 ∧ R (Itr 0 j.toNat) H1
theorem pi_range1 {a : Expr} {ta : TA} {p pos : Pos} (hg : Gl X "range") (hm : X.mg "range" = none) (ha : PA X [a] ta) (hs : starEach [a] X.env = [(false, eval a X.env)] := by rfl) : PI X tg (.Call (.Name "range" p) [a] [] pos) (iRng1 ta) := by
  constructor
  intro pins s σ H R I h
  refine Call_ (ld_blt I hg hm boot_range (PyProof.Rows.callWith_type1 (thn (ha pos pins s σ H _ I h) fun us s1 ⟨vs, H1, I1, r1, q1⟩ => ?_) hs rfl))
  obtain ⟨j, e, q1, q2, q⟩ := q1
  subst e
  cases r1 with
  | cons r rr =>
    cases rr
    obtain ⟨t, rfl⟩ := r
    exact call_range_1 (range_it I1 (by omega) (by omega) q1 q2 (by simpa using q))
def tFor (wi : TI) (g : TG) (tb : TS) : TS := fun D σ H => wi σ H fun J H1 => ∃ W : Nat → Nat → St → Hp → Prop, (∃ m, W 0 m σ H1) ∧ ∀ i m σ H, W i m σ H →
  (J.stop i H ∧ D.nx σ H) ∨ (J.go i H ∧ ∃ N : St → Hp → Prop, (∀ σ' H', N σ' H' → ∃ m', m' < m ∧ W (i + 1) m' σ' H') ∧ ∀ x H', J.yld i H x H' → g x σ H' fun σ2 H2 => tb { D with nx := N, ct := N, bk := D.nx } σ2 H2)
def pinsAt (fp : List Addr) (h : Heap) : List (Addr × Obj) := fp.filterMap fun b => (h.get? b).map fun o => (b, o)
theorem mem_pinsAt {fp : List Addr} {h : Heap} {b : Addr} {o : Obj} (hb : b ∈ fp) (e : h.get? b = some o) : (b, o) ∈ pinsAt fp h := List.mem_filterMap.mpr ⟨b, hb, by rw [e]; rfl⟩
theorem of_pinsAt {fp : List Addr} {h : Heap} {p : Addr × Obj} (hp : p ∈ pinsAt fp h) : p.1 ∈ fp ∧ h.get? p.1 = some p.2 := by
  obtain ⟨b, hb, e⟩ := List.mem_filterMap.mp hp
  cases q : h.get? b with
  | none => rw [q] at e; cases e
  | some o =>
    rw [q] at e
    have e' : (b, o) = p := Option.some.inj e
    subst e'
    exact ⟨hb, q⟩
theorem Inv.pinned {pins : List (Addr × Obj)} {σ : St} {H : Hp} {s : Shared} {fp : List Addr} (I : Inv X pins σ H s) (hf : ∀ b ∈ fp, FpOk X pins H b) (ho : ∀ b ∈ fp, ∃ o, s.heap.get? b = some o ∧ ∀ v, o.data ≠ .cell v) : Inv X (pins ++ pinsAt fp s.heap) σ H s :=
  I.pins_of fun p hp => (List.mem_append.mp hp).elim (fun z => I.pin p (List.mem_append_right _ z)) fun z => by
    obtain ⟨hb, e⟩ := of_pinsAt z
    obtain ⟨f0, f1, f2, _⟩ := hf p.1 hb
    obtain ⟨o, e', d⟩ := ho p.1 hb
    rw [e] at e'; cases e'
    exact ⟨e, f0, f1, f2, d⟩
theorem Inv.unpinned {pins pl : List (Addr × Obj)} {σ : St} {H : Hp} {s : Shared} (I : Inv X (pins ++ pl) σ H s) : Inv X pins σ H s := I.pins_of fun p hp => I.pin p (List.mem_append_right _ (List.mem_append_left _ hp))
theorem ps_for {iter : Expr} {body : List Stmt} {wi : TI} {g : TG} {tb : TS} {pos : Pos} (hp : PassesOwn (model X.prog X.w) X.A X.env X.xe) (hc : X.calm = true) (hi : PI X tg iter wi) (hg : PG X tg g) (hb : PSs X body tb)
    (hs : ∀ x, foldedSetIterable iter X.env x = pure x := by intro _; rfl) : PS X (.For tg iter body [] pos) (tFor wi g tb) := by
  constructor
  intro pins s σ H D I h
  refine wpAny_For (thn (hi pins s σ H _ I h) fun v s1 h1 => thn h1 fun itv s2 h2 => ?_) hs
  obtain ⟨it, fp, tn, J, H2, e, I2, T, st2, f2, W, ⟨m0, w0⟩, turn⟩ := h2
  subst e
  -- what stays true of the iterator's objects through the loop
  have stat : ∀ {H' : Hp}, (∀ b ∈ fp, H' b = none) → ∀ b ∈ fp, FpOk X pins H' b := fun hn b hb => ⟨hn b hb, (f2 b hb).2⟩
  refine codeAny_forLoop_any (fun n s' => ∃ i σ' H', Inv X pins σ' H' s' ∧ tn i s'.heap ∧ (∀ b ∈ fp, H' b = none) ∧ W i n σ' H') ?_ m0 ⟨0, σ, H2, I2, st2, fun b hb => (f2 b hb).1, w0⟩
  rintro n s3 ⟨i, σ3, H3, I3, st3, fr3, w3⟩
  rcases turn i n σ3 H3 w3 with ⟨stop, qn⟩ | ⟨go, N, hN, step⟩
  · refine wpAny_passesOwn hp (thn (T.done X rfl rfl rfl hc i pins s3 σ3 H3 X.xe I3 (stat fr3) st3 stop) fun r s4 ⟨hr, I4⟩ => ?_)
    subst hr
    exact wpAny_execs_nil ⟨σ3, H3, I4, qn⟩
  · refine wpAny_passesOwn hp (thn (T.item X rfl rfl rfl hc i pins s3 σ3 H3 X.xe I3 (stat fr3) st3 go) fun r s4 ⟨u, hr, h4⟩ => ?_)
    subst hr
    refine wpAny_passesOwn hp (thn h4 fun _ s5 ⟨x, H5, I5, r5, y5, st5, fr5⟩ => ?_)
    have I5' := I5.pinned (stat fr5) (T.obj _ _ st5)
    refine wpAny_passesOwn hp (thn (hg _ s5 σ3 H5 x u _ I5' r5 (step x H5 y5)) fun _ s6 ⟨σ6, H6, I6, q6⟩ => ?_)
    refine wpAny_passesOwn hp (thn (hb _ s6 σ6 H6 _ I6 q6) fun f s7 q7 => ?_)
    have again : ∀ {σ7 : St} {H7 : Hp}, Inv X (pins ++ pinsAt fp s5.heap) σ7 H7 s7 → N σ7 H7 → ∃ m, m < n ∧ ∃ i σ' H', Inv X pins σ' H' s7 ∧ tn i s7.heap ∧ (∀ b ∈ fp, H' b = none) ∧ W i m σ' H' := fun {σ7 H7} I7 n7 => by
      obtain ⟨m', hm, w7⟩ := hN σ7 H7 n7
      refine ⟨m', hm, i + 1, σ7, H7, I7.unpinned, T.keep _ _ _ st5 fun b hb o e => (I7.pin (b, o) (List.mem_append_right _ (List.mem_append_right _ (mem_pinsAt hb e)))).1, fun b hb => ?_, w7⟩
      obtain ⟨o, e, d⟩ := T.obj _ _ st5 b hb
      exact (I7.pin (b, o) (List.mem_append_right _ (List.mem_append_right _ (mem_pinsAt hb e)))).2.1
    cases f with
    | next => obtain ⟨σ7, H7, I7, n7⟩ := q7; exact again I7 n7
    | cont => obtain ⟨σ7, H7, I7, n7⟩ := q7; exact again I7 n7
    | brk => obtain ⟨σ7, H7, I7, q7⟩ := q7; exact ⟨σ7, H7, I7.unpinned, q7⟩
    | ret v => obtain ⟨x7, σ7, H7, I7, r7, q7⟩ := q7; exact ⟨x7, σ7, H7, I7.unpinned, r7, q7⟩
end

theorem for_list {K : PySem.W.Frag} {a : Addr} {xs : List V} {g : TG} {tb : TS} {D : Ends} {σ : St} {H : Hp} (Pv : Nat → St → Hp → Prop) (h0 : Pv 0 σ H) (hl : ∀ i σ H, i ≤ xs.length → Pv i σ H → SqL K H a xs)
    (hs : ∀ i x σ H, xs[i]? = some x → Pv i σ H → g x σ H fun σ2 H2 => tb { D with nx := Pv (i + 1), ct := Pv (i + 1), bk := D.nx } σ2 H2) (hd : ∀ σ H, Pv xs.length σ H → D.nx σ H) :
    ∃ W : Nat → Nat → St → Hp → Prop, (∃ m, W 0 m σ H) ∧ ∀ i m σ H, W i m σ H →
      ((Itl K a).stop i H ∧ D.nx σ H) ∨ ((Itl K a).go i H ∧ ∃ N : St → Hp → Prop, (∀ σ' H', N σ' H' → ∃ m', m' < m ∧ W (i + 1) m' σ' H') ∧ ∀ x H', (Itl K a).yld i H x H' → g x σ H' fun σ2 H2 => tb { D with nx := N, ct := N, bk := D.nx } σ2 H2) := by
  refine ⟨fun i m σ H => m = xs.length - i ∧ i ≤ xs.length ∧ Pv i σ H, ⟨xs.length, by simp, Nat.zero_le _, h0⟩, ?_⟩
  rintro i m σ H ⟨rfl, hi, p⟩
  have q := hl i σ H hi p
  by_cases hlt : i < xs.length
  · refine .inr ⟨⟨xs, xs[i], q, by simp [hlt]⟩, Pv (i + 1), fun σ' H' p' => ⟨xs.length - (i + 1), by omega, rfl, hlt, p'⟩, fun x H' y => ?_⟩
    obtain ⟨e, y⟩ := y
    subst e
    exact hs i x σ _ (y xs q) p
  · have e : i = xs.length := by omega
    subst e
    exact .inl ⟨⟨xs, q, Nat.le_refl _⟩, hd σ H p⟩
theorem for_range {lo : Int} {n : Nat} {g : TG} {tb : TS} {D : Ends} {σ : St} {H : Hp} (Pv : Nat → St → Hp → Prop) (h0 : Pv 0 σ H)
    (hs : ∀ i σ H, i < n → Pv i σ H → g (.int (lo + i)) σ H fun σ2 H2 => tb { D with nx := Pv (i + 1), ct := Pv (i + 1), bk := D.nx } σ2 H2) (hd : ∀ σ H, Pv n σ H → D.nx σ H) :
    ∃ W : Nat → Nat → St → Hp → Prop, (∃ m, W 0 m σ H) ∧ ∀ i m σ H, W i m σ H →
      ((Itr lo n).stop i H ∧ D.nx σ H) ∨ ((Itr lo n).go i H ∧ ∃ N : St → Hp → Prop, (∀ σ' H', N σ' H' → ∃ m', m' < m ∧ W (i + 1) m' σ' H') ∧ ∀ x H', (Itr lo n).yld i H x H' → g x σ H' fun σ2 H2 => tb { D with nx := N, ct := N, bk := D.nx } σ2 H2) := by
  refine ⟨fun i m σ H => m = n - i ∧ i ≤ n ∧ Pv i σ H, ⟨n, by simp, Nat.zero_le _, h0⟩, ?_⟩
  rintro i m σ H ⟨rfl, hi, p⟩
  by_cases hlt : i < n
  · refine .inr ⟨hlt, Pv (i + 1), fun σ' H' p' => ⟨n - (i + 1), by omega, rfl, hlt, p'⟩, fun x H' y => ?_⟩
    obtain ⟨e, y⟩ := y
    subst e y
    exact hs i σ _ hlt p
  · have e : i = n := by omega
    subst e
    exact .inl ⟨Nat.le_refl _, hd σ H p⟩
end L2

namespace L2
open PySem PySem.Spec PyProof.Rows

abbrev R2 := V → V → Hp → VK → Prop
def OpR (X : Cx) (f : Value → Value → Sem Value) (r : R2) : Prop :=
  ∀ (pins : List (Addr × Obj)) (s : Shared) (σ : St) (H : Hp) (x y : V) (v u : Value) (Q : VK), Inv X pins σ H s → RelV x v → RelV y u → r x y H Q →
    wpAny (model X.prog X.w) X.A (f v u) (EP X pins σ Q) X.xe s
def UnR (X : Cx) (f : Value → Sem Value) (r : V → Hp → VK → Prop) : Prop :=
  ∀ (pins : List (Addr × Obj)) (s : Shared) (σ : St) (H : Hp) (x : V) (v : Value) (Q : VK), Inv X pins σ H s → RelV x v → r x H Q →
    wpAny (model X.prog X.w) X.A (f v) (EP X pins σ Q) X.xe s
def CallR (X : Cx) (f : Value) (r : List V → Hp → VK → Prop) : Prop :=
  ∀ (pins : List (Addr × Obj)) (s : Shared) (σ : St) (H : Hp) (xs : List V) (us : List Value) (Q : VK), Inv X pins σ H s → Vals xs us → r xs H Q →
    wpAny (model X.prog X.w) X.A (call f us) (EP X pins σ Q) X.xe s
def TruR (X : Cx) (r : V → Hp → (Bool → Hp → Prop) → Prop) : Prop :=
  ∀ (pins : List (Addr × Obj)) (s : Shared) (σ : St) (H : Hp) (x : V) (v : Value) (Q : Bool → Hp → Prop), Inv X pins σ H s → RelV x v → r x H Q →
    wpAny (model X.prog X.w) X.A (truthy v) (TP X pins σ Q) X.xe s

def tOp (r : R2) (ta tb : TE) : TE := fun σ H Q => ta σ H fun x H1 => tb σ H1 fun y H2 => r x y H2 Q
def tUn (r : V → Hp → VK → Prop) (ta : TE) : TE := fun σ H Q => ta σ H fun x H1 => r x H1 Q
def rI (C : Int → Int → Prop) (g : Int → Int → V) : R2 := fun x y H Q => ∃ i j, x = .int i ∧ y = .int j ∧ C i j ∧ Q (g i j) H
def rI0 (g : Int → Int → V) : R2 := fun x y H Q => ∃ i j, x = .int i ∧ y = .int j ∧ Q (g i j) H
def rU (g : Int → V) : V → Hp → VK → Prop := fun x H Q => ∃ i, x = .int i ∧ Q (g i) H

section
variable {X : Cx} {a b c : Expr} {ta tb tc : TE} {pos : Pos}

theorem binT (ha : PE X a ta) (hb : PE X b tb) {pins : List (Addr × Obj)} {s : Shared} {σ : St} {H : Hp} {R : V → V → Hp → Prop} (I : Inv X pins σ H s)
    (h : ta σ H fun x H1 => tb σ H1 fun y H2 => R x y H2) {Q : Value → Shared → Prop} {f : Value → Value → Sem Value}
    (hf : ∀ v u s2 x y H2, Inv X pins σ H2 s2 → RelV x v → RelV y u → R x y H2 → wpAny (model X.prog X.w) X.A (f v u) Q X.xe s2) :
    wpAny (model X.prog X.w) X.A (eval a X.env) (fun v s₁ => wpAny (model X.prog X.w) X.A (eval b X.env) (fun u s₂ => wpAny (model X.prog X.w) X.A (f v u) Q X.xe s₂) X.xe s₁) X.xe s := by
  refine thn (ha pins s σ H _ I h) fun v s1 ⟨x, H1, I1, r1, q1⟩ => ?_
  refine thn (hb pins s1 σ H1 _ I1 q1) fun u s2 ⟨y, H2, I2, r2, q2⟩ => ?_
  exact hf v u s2 x y H2 I2 r1 r2 q2

theorem pe_op {op : Operator} {r : R2} (ho : OpR X (binaryOp op) r) (ha : PE X a ta) (hb : PE X b tb) : PE X (.BinOp a op b pos) (tOp r ta tb) := by
  constructor
  intro pins s σ H Q I h
  exact wpAny_BinOp (binT ha hb I h fun v u s2 x y H2 I2 rx ry q => ho pins s2 σ H2 x y v u Q I2 rx ry q)
theorem pe_un {op : UnaryOp} {r : V → Hp → VK → Prop} (ho : UnR X (unaryOp op) r) (ha : PE X a ta) : PE X (.UnaryOp op a pos) (tUn r ta) := by
  constructor
  intro pins s σ H Q I h
  exact UnaryOp_ (thn (ha pins s σ H _ I h) fun v s1 ⟨x, H1, I1, r1, q1⟩ => ho pins s1 σ H1 x v Q I1 r1 q1)
theorem opI {f : Value → Value → Sem Value} {C : Int → Int → Prop} {g : Int → Int → Int}
    (rule : ∀ (i j : Int) (t u : Tok) (s : Shared) (Q : Value → Shared → Prop) (E : Value → Shared → Prop), C i j → Q (.int (g i j) s.toks) { s with toks := s.toks + 1 } → wpAny (model X.prog X.w) X.A (f (.int i t) (.int j u)) Q E s) :
    OpR X f (rI C fun i j => .int (g i j)) := by
  intro pins s σ H x y v u Q I rx ry h
  obtain ⟨i, j, rfl, rfl, hc, q⟩ := h
  obtain ⟨t, rfl⟩ := rx
  obtain ⟨t', rfl⟩ := ry
  exact rule i j t t' s _ _ hc ⟨.int (g i j), H, I.tok _, ⟨_, rfl⟩, q⟩
theorem opI0 {f : Value → Value → Sem Value} {g : Int → Int → Int}
    (rule : ∀ (i j : Int) (t u : Tok) (s : Shared) (Q : Value → Shared → Prop) (E : Value → Shared → Prop), Q (.int (g i j) s.toks) { s with toks := s.toks + 1 } → wpAny (model X.prog X.w) X.A (f (.int i t) (.int j u)) Q E s) :
    OpR X f (rI0 fun i j => .int (g i j)) := by
  intro pins s σ H x y v u Q I rx ry h
  obtain ⟨i, j, rfl, rfl, q⟩ := h
  obtain ⟨t, rfl⟩ := rx
  obtain ⟨t', rfl⟩ := ry
  exact rule i j t t' s _ _ ⟨.int (g i j), H, I.tok _, ⟨_, rfl⟩, q⟩
theorem opB0 {f : Value → Value → Sem Value} {g : Int → Int → Bool}
    (rule : ∀ (i j : Int) (t u : Tok) (s : Shared) (Q : Value → Shared → Prop) (E : Value → Shared → Prop), Q (.bool (g i j)) s → wpAny (model X.prog X.w) X.A (f (.int i t) (.int j u)) Q E s) :
    OpR X f (rI0 fun i j => .bl (g i j)) := by
  intro pins s σ H x y v u Q I rx ry h
  obtain ⟨i, j, rfl, rfl, q⟩ := h
  obtain ⟨t, rfl⟩ := rx
  obtain ⟨t', rfl⟩ := ry
  exact rule i j t t' s _ _ ⟨.bl (g i j), H, I, rfl, q⟩

def CDiv (i j : Int) : Prop := 0 < j ∧ j < 1073741824
def CPow (i j : Int) : Prop := 0 ≤ j ∧ j ≤ 1000000 ∧ i.natAbs < 2 ^ 64
def CMul (i j : Int) : Prop := (-(2 ^ 64) < i ∧ i < 2 ^ 64) ∨ (-(2 ^ 64) < j ∧ j < 2 ^ 64)
theorem CMul.ok {i j : Int} (h : CMul i j) : IntMulOk i j := by
  rcases h with ⟨h1, h2⟩ | ⟨h1, h2⟩
  · exact .of_left (intBits_le_64 h1 h2)
  · exact .of_right (intBits_le_64 h1 h2)
theorem op_add : OpR X (binaryOp .Add) (rI0 fun i j => .int (i + j)) := opI0 fun _ _ _ _ _ _ _ q => add_int q
theorem op_sub : OpR X (binaryOp .Sub) (rI0 fun i j => .int (i - j)) := opI0 fun _ _ _ _ _ _ _ q => sub_int q
theorem op_mul : OpR X (binaryOp .Mult) (rI CMul fun i j => .int (i * j)) := opI fun _ _ _ _ _ _ _ hc q => mul_int q hc.ok
theorem op_fdiv : OpR X (binaryOp .FloorDiv) (rI CDiv fun i j => .int (i / j)) := opI fun i j _ _ _ _ _ hc q => by
  have h1 : (0 : Int) < j := hc.1
  have h2 : j < 1073741824 := hc.2
  exact floordiv_int (by omega) (by rw [Int.fdiv_eq_ediv_of_nonneg i (by omega)]; exact q) (.inl (PyProof.noPylong_small (by omega)))
theorem op_mod : OpR X (binaryOp .Mod) (rI (fun _ j => 0 < j) fun i j => .int (i % j)) := opI fun i j _ _ _ _ _ hc q => by
  have h1 : (0 : Int) < j := hc
  exact mod_int' (by omega) (by rw [Int.fmod_eq_emod_of_nonneg i (by omega)]; exact q)
theorem op_pow : OpR X (binaryOp .Pow) (rI CPow fun i j => .int (i ^ j.toNat)) := opI fun _ _ _ _ _ _ _ hc q => pow_int_small hc.1 hc.2.1 hc.2.2 q
theorem unI {f : Value → Sem Value} {g : Int → Int}
    (rule : ∀ (i : Int) (t : Tok) (s : Shared) (Q : Value → Shared → Prop) (E : Value → Shared → Prop), Q (.int (g i) s.toks) { s with toks := s.toks + 1 } → wpAny (model X.prog X.w) X.A (f (.int i t)) Q E s) :
    UnR X f (rU fun i => .int (g i)) := by
  intro pins s σ H x v Q I rx h
  obtain ⟨i, rfl, q⟩ := h
  obtain ⟨t, rfl⟩ := rx
  exact rule i t s _ _ ⟨.int (g i), H, I.tok _, ⟨_, rfl⟩, q⟩
theorem un_neg : UnR X (unaryOp .USub) (rU fun i => .int (-i)) := unI fun _ _ _ _ _ q => neg_int q
end

def scal : V → V → Bool
  | .non, .non => true | .non, .int _ => true | .int _, .non => true | .non, .bl _ => true | .bl _, .non => true | .non, .str _ => true | .str _, .non => true
  | .int _, .int _ => true | .bl _, .bl _ => true | .str _, .str _ => true | .byt _, .byt _ => true
  | .int _, .str _ => true | .str _, .int _ => true | .bl _, .str _ => true | .str _, .bl _ => true
  | _, _ => false
def rEq : R2 := fun x y H Q => scal x y = true ∧ Q (.bl (decide (x = y))) H
def rNe : R2 := fun x y H Q => scal x y = true ∧ Q (.bl (!decide (x = y))) H

theorem dec_int {i j : Int} : decide (V.int i = V.int j) = (i == j) := by
  rw [Bool.eq_iff_iff]
  simp
theorem dec_bl {i j : Bool} : decide (V.bl i = V.bl j) = (i == j) := by
  rw [Bool.eq_iff_iff]
  simp
theorem dec_str {i j : Str} : decide (V.str i = V.str j) = (i == j) := by
  rw [Bool.eq_iff_iff]
  simp
theorem dec_byt {i j : Array UInt8} : decide (V.byt i = V.byt j) = (i.toList == j.toList) := by
  rw [Bool.eq_iff_iff]
  cases i
  cases j
  simp

section
variable {X : Cx} {a b c : Expr} {ta tb tc : TE} {pos : Pos}
theorem fin_bl {pins : List (Addr × Obj)} {σ : St} {H : Hp} {s : Shared} {Q : VK} {k k' : Bool} (I : Inv X pins σ H s) (q : Q (.bl k) H) (e : k = k') : EP X pins σ Q (.bool k') s := by
  subst e
  exact ⟨.bl k, H, I, rfl, q⟩
theorem op_eq : OpR X (compareOp .Eq) rEq := by
  intro pins s σ H x y v u Q I rx ry h
  obtain ⟨hs, q⟩ := h
  cases x with
  | non =>
    cases rx
    cases y with
    | non => cases ry; exact PySem.EqNone.eq_none_none (fin_bl I q (by simp))
    | bl j => cases ry; exact PySem.EqNone.eq_none_bool (fin_bl I q (by simp))
    | int j => obtain ⟨t', rfl⟩ := ry; exact PySem.EqNone.eq_none_int (fin_bl I q (by simp))
    | str j => obtain ⟨t', rfl⟩ := ry; exact PySem.EqNone.eq_none_str (fin_bl I q (by simp))
    | _ => exact absurd (show false = true from hs) Bool.false_ne_true
  | bl i =>
    cases rx
    cases y with
    | non => cases ry; exact PySem.EqNone.eq_bool_none (fin_bl I q (by simp))
    | bl j => cases ry; exact eq_bool (fin_bl I q dec_bl)
    | str j => obtain ⟨t', rfl⟩ := ry; exact PySem.EqMixed.eq_bool_str (fin_bl I q (by simp))
    | _ => exact absurd (show false = true from hs) Bool.false_ne_true
  | int i =>
    obtain ⟨t, rfl⟩ := rx
    cases y with
    | non => cases ry; exact PySem.EqNone.eq_int_none (fin_bl I q (by simp))
    | int j => obtain ⟨t', rfl⟩ := ry; exact eq_int (fin_bl I q dec_int)
    | str j => obtain ⟨t', rfl⟩ := ry; exact PySem.EqMixed.eq_int_str (fin_bl I q (by simp))
    | _ => exact absurd (show false = true from hs) Bool.false_ne_true
  | str i =>
    obtain ⟨t, rfl⟩ := rx
    cases y with
    | non => cases ry; exact PySem.EqNone.eq_str_none (fin_bl I q (by simp))
    | bl j => cases ry; exact PySem.EqMixed.eq_str_bool (fin_bl I q (by simp))
    | int j => obtain ⟨t', rfl⟩ := ry; exact PySem.EqMixed.eq_str_int (fin_bl I q (by simp))
    | str j => obtain ⟨t', rfl⟩ := ry; exact eq_str (fin_bl I q dec_str)
    | _ => exact absurd (show false = true from hs) Bool.false_ne_true
  | byt i =>
    obtain ⟨t, rfl⟩ := rx
    cases y with
    | byt j => obtain ⟨t', rfl⟩ := ry; exact PySem.W.eq_bytes (fin_bl I q dec_byt)
    | _ => exact absurd (show false = true from hs) Bool.false_ne_true
  | _ => cases y <;> exact absurd (show false = true from hs) Bool.false_ne_true
theorem op_ne : OpR X (compareOp .NotEq) rNe := by
  intro pins s σ H x y v u Q I rx ry h
  obtain ⟨hs, q⟩ := h
  cases x with
  | non =>
    cases rx
    cases y with
    | non => cases ry; exact PySem.EqNone.ne_none_none (fin_bl I q (by simp))
    | bl j => cases ry; exact PySem.EqNone.ne_none_bool (fin_bl I q (by simp))
    | int j => obtain ⟨t', rfl⟩ := ry; exact PySem.EqNone.ne_none_int (fin_bl I q (by simp))
    | str j => obtain ⟨t', rfl⟩ := ry; exact PySem.EqNone.ne_none_str (fin_bl I q (by simp))
    | _ => exact absurd (show false = true from hs) Bool.false_ne_true
  | bl i =>
    cases rx
    cases y with
    | non => cases ry; exact PySem.EqNone.ne_bool_none (fin_bl I q (by simp))
    | bl j => cases ry; exact ne_bool (fin_bl I q (congrArg not dec_bl))
    | str j => obtain ⟨t', rfl⟩ := ry; exact PySem.EqMixed.ne_bool_str (fin_bl I q (by simp))
    | _ => exact absurd (show false = true from hs) Bool.false_ne_true
  | int i =>
    obtain ⟨t, rfl⟩ := rx
    cases y with
    | non => cases ry; exact PySem.EqNone.ne_int_none (fin_bl I q (by simp))
    | int j => obtain ⟨t', rfl⟩ := ry; exact ne_int (fin_bl I q (congrArg not dec_int))
    | str j => obtain ⟨t', rfl⟩ := ry; exact PySem.EqMixed.ne_int_str (fin_bl I q (by simp))
    | _ => exact absurd (show false = true from hs) Bool.false_ne_true
  | str i =>
    obtain ⟨t, rfl⟩ := rx
    cases y with
    | non => cases ry; exact PySem.EqNone.ne_str_none (fin_bl I q (by simp))
    | bl j => cases ry; exact PySem.EqMixed.ne_str_bool (fin_bl I q (by simp))
    | int j => obtain ⟨t', rfl⟩ := ry; exact PySem.EqMixed.ne_str_int (fin_bl I q (by simp))
    | str j => obtain ⟨t', rfl⟩ := ry; exact ne_str (fin_bl I q (congrArg not dec_str))
    | _ => exact absurd (show false = true from hs) Bool.false_ne_true
  | byt i =>
    obtain ⟨t, rfl⟩ := rx
    cases y with
    | byt j => obtain ⟨t', rfl⟩ := ry; exact PySem.W.ne_bytes (fin_bl I q (congrArg not dec_byt))
    | _ => exact absurd (show false = true from hs) Bool.false_ne_true
  | _ => cases y <;> exact absurd (show false = true from hs) Bool.false_ne_true

theorem op_lt : OpR X (compareOp .Lt) (rI0 fun i j => .bl (decide (i < j))) := opB0 fun _ _ _ _ _ _ _ q => lt_int q
theorem op_le : OpR X (compareOp .LtE) (rI0 fun i j => .bl (decide (i ≤ j))) := opB0 fun _ _ _ _ _ _ _ q => le_int q
theorem op_gt : OpR X (compareOp .Gt) (rI0 fun i j => .bl (decide (j < i))) := opB0 fun _ _ _ _ _ _ _ q => gt_int q
theorem op_ge : OpR X (compareOp .GtE) (rI0 fun i j => .bl (decide (j ≤ i))) := opB0 fun _ _ _ _ _ _ _ q => ge_int q
theorem op_isN : OpR X (compareOp .Is) (fun x y H Q => y = .non ∧ Q (.bl (decide (x = .non))) H) := by
  intro pins s σ H x y v u Q I rx ry h
  obtain ⟨rfl, q⟩ := h
  cases ry
  refine is_none_gen (fin_bl I q ?_)
  cases x <;> first
    | (cases rx; rfl)
    | (obtain ⟨t, rfl⟩ := rx; rfl)
theorem nomark (b : Expr) {op : CmpOp} (h : op ≠ .In := by decide) (h2 : op ≠ .NotIn := by decide) : behindInMarks op b = false := by
  have e1 : (op == CmpOp.In) = false := by cases op <;> first | rfl | exact absurd rfl h
  have e2 : (op == CmpOp.NotIn) = false := by cases op <;> first | rfl | exact absurd rfl h2
  cases b <;> simp [behindInMarks, e1, e2]
theorem pe_cmpR {op : CmpOp} {r : R2} (ho : OpR X (compareOp op) r) (ha : PE X a ta) (hb : PE X b tb) (hm : behindInMarks op b = false) : PE X (.Compare a [op] [b] pos) (tOp r ta tb) := by
  constructor
  intro pins s σ H Q I h
  exact wpAny_Compare1 (binT ha hb I h fun v u s2 x y H2 I2 rx ry q => ho pins s2 σ H2 x y v u Q I2 rx ry q) hm
def tTest (t : TE) : TT := fun σ H Q => t σ H fun x H' => ∃ k, x = .bl k ∧ Q k H'
theorem pt_cmpR {op : CmpOp} {r : R2} (ho : OpR X (compareOp op) r) (ha : PE X a ta) (hb : PE X b tb) (hm : behindInMarks op b = false) : PT X (.Compare a [op] [b] pos) (tTest (tOp r ta tb)) := by
  constructor
  intro pins s σ H Q I h
  refine wpAny_isTrue_Compare1 (thn (ha pins s σ H _ I h) fun v s1 ⟨x, H1, I1, r1, q1⟩ => thn (hb pins s1 σ H1 _ I1 q1) fun u s2 ⟨y, H2, I2, r2, q2⟩ =>
    thn (ho pins s2 σ H2 x y v u _ I2 r1 r2 q2) fun c s3 ⟨z, H3, I3, r3, k, e, q3⟩ => ?_) hm
  subst e
  cases r3
  exact wpAny_truthy_bool ⟨H3, I3, q3⟩
def tChain (r r' : R2) (ta tb tc : TE) : TE := fun σ H Q => ta σ H fun x H1 => tb σ H1 fun y H2 => r x y H2 fun z H3 => ∃ k, z = .bl k ∧
  (if k = true then tc σ H3 fun w' H4 => r' y w' H4 Q else Q (.bl false) H3)
theorem pe_chain {op op' : CmpOp} {r r' : R2} (ho : OpR X (compareOp op) r) (ho' : OpR X (compareOp op') r') (ha : PE X a ta) (hb : PE X b tb) (hc : PE X c tc)
    (hm : lastMarks [op, op'] [b, c] = false := by with_unfolding_all rfl) : PE X (.Compare a [op, op'] [b, c] pos) (tChain r r' ta tb tc) := by
  constructor
  intro pins s σ H Q I h
  refine Compare_chain (thn (ha pins s σ H _ I h) fun v s1 ⟨x, H1, I1, r1, q1⟩ => chain_link (thn (hb pins s1 σ H1 _ I1 q1) fun u s2 ⟨y, H2, I2, r2, q2⟩ =>
    thn (ho pins s2 σ H2 x y v u _ I2 r1 r2 q2) fun d s3 ⟨z, H3, I3, r3, k, e, q3⟩ => ?_)) hm
  subst e
  cases r3
  refine wpAny_truthy_bool ?_
  cases k with
  | false => exact ite_ff ⟨.bl false, H3, I3, rfl, q3⟩
  | true => exact ite_tt (chain_last (thn (hc pins s3 σ H3 _ I3 q3) fun w' s4 ⟨z', H4, I4, r4, q4⟩ => ho' pins s4 σ H4 y z' u w' Q I4 r2 r4 q4))
theorem pt_chain {op op' : CmpOp} {r r' : R2} (ho : OpR X (compareOp op) r) (ho' : OpR X (compareOp op') r') (ha : PE X a ta) (hb : PE X b tb) (hc : PE X c tc)
    (hm : lastMarks [op, op'] [b, c] = false := by with_unfolding_all rfl) : PT X (.Compare a [op, op'] [b, c] pos) (tTest (tChain r r' ta tb tc)) := by
  constructor
  intro pins s σ H Q I h
  refine isTrue_chain (thn (ha pins s σ H _ I h) fun v s1 ⟨x, H1, I1, r1, q1⟩ => test_link (thn (hb pins s1 σ H1 _ I1 q1) fun u s2 ⟨y, H2, I2, r2, q2⟩ =>
    thn (ho pins s2 σ H2 x y v u _ I2 r1 r2 q2) fun d s3 ⟨z, H3, I3, r3, k, e, q3⟩ => ?_)) hm
  subst e
  cases r3
  refine wpAny_truthy_bool ?_
  cases k with
  | false =>
    obtain ⟨k', e', q'⟩ := q3
    cases e'
    exact ite_ff ⟨H3, I3, q'⟩
  | true =>
    refine ite_tt (test_last (thn (hc pins s3 σ H3 _ I3 q3) fun w' s4 ⟨z', H4, I4, r4, q4⟩ => thn (ho' pins s4 σ H4 y z' u w' _ I4 r2 r4 q4) fun d' s5 ⟨z2, H5, I5, r5, k2, e2, q5⟩ => ?_))
    subst e2
    cases r5
    exact wpAny_truthy_bool ⟨H5, I5, q5⟩

def TruV (K : PySem.W.Frag) (x : V) (H : Hp) (k : Bool) : Prop :=
  match x with
  | .non => k = false
  | .bl b => k = b
  | .int i => k = (i != 0)
  | .str y => y.length ≤ sizeLine ∧ k = ((y.length : Int) != 0)
  | .byt y => y.size ≤ sizeLine ∧ k = ((y.size : Int) != 0)
  | .ref p => (∃ xs, SqL K H p xs ∧ k = !xs.isEmpty) ∨ (∃ xs, SqT K H p xs ∧ k = !xs.isEmpty) ∨ ∃ kvs, H p = some (.dK kvs) ∧ k = !kvs.isEmpty
  | _ => False
theorem isEmpty_kv {κ : Type} {kvs : List (κ × V)} {vs : List (κ × Value)} (r : KV kvs vs) : (!vs.isEmpty) = !kvs.isEmpty := by
  cases r <;> rfl
theorem isEmpty_of {xs : List V} {its : List Value} (r : Vals xs its) : (!its.toArray.isEmpty) = !xs.isEmpty := by
  cases r <;> simp
theorem line63 : (sizeLine : Nat) < 2 ^ 63 := by rw [sizeLine_eq]; decide
theorem tru_ok : TruR X (fun x H Q => ∃ k, TruV X.K x H k ∧ Q k H) := by
  intro pins s σ H x v Q I rx h
  obtain ⟨k, e, q⟩ := h
  have hl := line63
  have hs : sizeLine = 16777216 := sizeLine_eq
  cases x with
  | non =>
    cases rx
    have e' : k = false := e
    subst e'
    exact truthy_none ⟨H, I, q⟩
  | bl b =>
    cases rx
    have e' : k = b := e
    subst e'
    exact wpAny_truthy_bool ⟨H, I, q⟩
  | int i =>
    obtain ⟨t, rfl⟩ := rx
    have e' : k = (i != 0) := e
    subst e'
    exact PySem.P.truthy_int ⟨H, I, q⟩
  | str y =>
    obtain ⟨t, rfl⟩ := rx
    obtain ⟨hy, e'⟩ : y.length ≤ sizeLine ∧ k = ((y.length : Int) != 0) := e
    subst e'
    exact PySem.P.truthy_str (by omega) ⟨H, I.tok _, q⟩
  | byt y =>
    obtain ⟨t, rfl⟩ := rx
    obtain ⟨hy, e'⟩ : y.size ≤ sizeLine ∧ k = ((y.size : Int) != 0) := e
    subst e'
    exact PySem.W.truthy_bytes (by omega) ⟨H, I.tok _, q⟩
  | ref p =>
    cases rx
    have e' : (∃ xs, SqL X.K H p xs ∧ k = !xs.isEmpty) ∨ (∃ xs, SqT X.K H p xs ∧ k = !xs.isEmpty) ∨ ∃ kvs, H p = some (.dK kvs) ∧ k = !kvs.isEmpty := e
    rcases e' with ⟨xs, hx, e'⟩ | ⟨xs, hx, e'⟩ | ⟨kvs, hx, e'⟩
    · subst e'
      obtain ⟨its, r, pl, hz⟩ := I.list hx
      have hlen := r.length
      exact wpAny_truthy_list pl.isList (by simp only [List.size_toArray]; omega) ⟨H, I.tok _, by rw [isEmpty_of r]; exact q⟩
    · subst e'
      obtain ⟨its, r, pl, hz⟩ := I.tuple hx
      have hlen := r.length
      exact truthy_tuple pl (by simp only [List.size_toArray]; omega) ⟨H, I.tok _, by rw [isEmpty_of r]; exact q⟩
    · subst e'
      obtain ⟨hz, hS, vs, r, m⟩ : kvs.length ≤ sizeLine ∧ (p == sysModules) = false ∧ ∃ vs, KV kvs vs ∧ s.heap.DictOf (mixKind X.prog X.w) p vs := I.hok p _ hx
      have hlen : kvs.length = vs.length := Paired.length r
      exact wpAny_truthy_dict hS m (by omega) ⟨H, I.tok _, by rw [isEmpty_kv r]; exact q⟩
  | _ => exact (show False from e).elim
theorem pt_truth (ha : PE X a ta) (he : ∀ whole, isTrue a X.env whole = (do let v ← whole; standAt a.pos; holding [v] (truthy v))) :
    PT X a (fun σ H Q => ta σ H fun x H' => ∃ k, TruV X.K x H' k ∧ Q k H') := by
  constructor
  intro pins s σ H Q I h
  exact isTrue_plain (thn (ha pins s σ H _ I h) fun v s1 ⟨x, H1, I1, r1, q1⟩ => tru_ok pins s1 σ H1 x v Q I1 r1 q1) (he _)

theorem op_add_str : OpR X (binaryOp .Add) (fun x y H Q => ∃ i j, x = .str i ∧ y = .str j ∧ i.length + j.length ≤ sizeLine ∧ Q (.str (i ++ j)) H) := by
  intro pins s σ H x y v u Q I rx ry h
  obtain ⟨i, j, rfl, rfl, hz, q⟩ := h
  obtain ⟨t, rfl⟩ := rx
  obtain ⟨t', rfl⟩ := ry
  exact add_str (fun t' tk => ⟨.str (i ++ j), H, I.tok _, ⟨_, rfl⟩, q⟩) hz
theorem vals1 {x : V} {us : List Value} (r : Vals [x] us) : ∃ u, us = [u] ∧ RelV x u := by
  cases r with
  | cons r1 r2 => cases r2; exact ⟨_, rfl, r1⟩
theorem vals2 {x y : V} {us : List Value} (r : Vals [x, y] us) : ∃ u w', us = [u, w'] ∧ RelV x u ∧ RelV y w' := by
  cases r with
  | cons r1 r2 =>
    cases r2 with
    | cons r3 r4 => cases r4; exact ⟨_, _, rfl, r1, r3⟩
theorem call_abs : CallR X (.builtin "abs") (fun xs H Q => ∃ i, xs = [.int i] ∧ Q (.int (if i < 0 then -i else i)) H) := by
  intro pins s σ H xs us Q I r h
  obtain ⟨i, rfl, q⟩ := h
  obtain ⟨u, rfl, t, rfl⟩ := vals1 r
  exact call_abs_int fun u tk => ⟨.int (if i < 0 then -i else i), H, I.tok _, ⟨_, rfl⟩, q⟩
theorem call_min2 (hc : X.calm = true) : CallR X (.builtin "min") (fun xs H Q => ∃ i j, xs = [.int i, .int j] ∧ Q (.int (if j < i then j else i)) H) := by
  intro pins s σ H xs us Q I r h
  obtain ⟨i, j, rfl, q⟩ := h
  obtain ⟨u, w', rfl, ⟨t, rfl⟩, ⟨t', rfl⟩⟩ := vals2 r
  refine min_two_ints (I.ok.hd hc) fun h' tk k => ⟨_, H, I.kept k, ?_, q⟩
  by_cases hj : j < i
  · rw [if_pos hj, if_pos hj]; exact ⟨_, rfl⟩
  · rw [if_neg hj, if_neg hj]; exact ⟨_, rfl⟩
theorem call_int1 : CallR X (.type "int") (fun xs H Q => (∃ i, xs = [.int i] ∧ Q (.int i) H) ∨ ∃ k, xs = [.bl k] ∧ Q (.int (if k then 1 else 0)) H) := by
  intro pins s σ H xs us Q I r h
  rcases h with ⟨i, rfl, q⟩ | ⟨k, rfl, q⟩
  · obtain ⟨u, rfl, t, rfl⟩ := vals1 r
    exact call_int_int ⟨.int i, H, I, ⟨_, rfl⟩, q⟩
  · obtain ⟨u, rfl, r1⟩ := vals1 r
    cases r1
    exact call_int_bool ⟨.int (if k then 1 else 0), H, I.tok _, ⟨_, rfl⟩, q⟩
end
end L2

namespace L2
open PySem PySem.Spec PyProof.Rows

structure ObjM (h : Heap) (x dx C : Addr) (mA : Str → Option Value) : Prop where
  obj : h.get? x = some (PySem.W.instObj C dx)
  ns : h.Ns1 dx mA
  ne : dx ≠ x

theorem lookIn_ns {h : Heap} {dx : Addr} {mA : Str → Option Value} (n : h.Ns1 dx mA) : ∃ od, h.get? dx = some od ∧ ∀ name, PySem.W.lookIn name od = some (mA name) := by
  obtain ⟨o, es, ep, ho, hd, hk, _, hm⟩ := n
  refine ⟨o, ho, fun name => ?_⟩
  have e := hm name
  unfold nsFind findBy at e
  rw [← Array.find?_toList] at e
  unfold PySem.W.lookIn
  rw [hd]
  dsimp only
  split
  · rename_i y q
    rw [q] at e
    exact congrArg some e
  · rename_i q
    rw [q] at e
    have a : es.toList.any (·.refKey) = false := by
      rw [List.any_eq_false]
      intro y hy
      obtain ⟨z, t, hkey⟩ := hk y (Array.mem_toList_iff.mp hy)
      simp [DictEntry.refKey, hkey]
    have a' : ¬ es.toList.any (·.refKey) = true := by rw [a]; exact Bool.false_ne_true
    rw [if_neg a']
    exact congrArg some e

theorem ObjM.look {h : Heap} {x dx C : Addr} {mA : Str → Option Value} (I : ObjM h x dx C mA) : ∃ od, PySem.W.InstAt h x (PySem.W.instObj C dx) C (some od) ∧ ∀ name, PySem.W.lookIn name od = some (mA name) :=
  let ⟨od, ho, hl⟩ := lookIn_ns I.ns
  ⟨od, ⟨I.obj, rfl, rfl, ho⟩, hl⟩

section
variable {prog : Program} {w : World} {A : Around} {E : Value → Shared → Prop} {s : Shared} {K : PySem.W.Frag} {x dx C f : Addr} {mA : Str → Option Value} {name : Str} {v : Value}

end

theorem RelO.some_of {v : V} {o : Option Value} (r : RelO (some v) o) : ∃ u, o = some u ∧ RelV v u := by
  cases o with
  | none => exact (show False from r).elim
  | some u => exact ⟨u, rfl, r⟩
section
variable {P : Program} {w : World} {H H' : Hp} {h h' : Heap} {a C dx : Addr} {fs fs' : List (Str × V)}
theorem ins_get (hok : HOk P w H h) (e : H a = some (.ins C dx fs)) : ∃ mA, ObjM h a dx C mA ∧ (∀ f, RelO (fs.lookup f) (mA f)) ∧ PySem.Within mA (fs.map (·.1)) ∧ fs.length ≤ 1000 ∧ H dx = some (.own a) := by
  obtain ⟨d, z, ne, ob, mA, n, r, q⟩ := (show ObjOk P w H h a (.ins C dx fs) from hok a _ e)
  exact ⟨mA, ⟨ob, n, ne⟩, r, q, z, d⟩
end

structure Cls (K : PySem.W.Frag) (C : Addr) : Prop where
  pg : PySem.W.plainGet K C Str.empty = true
  hd : PySem.W.hasDictIn K C = true
  po : PySem.W.plainOver K C = true
  sa : PySem.W.findIn K (.ref C) "__setattr__" = some (some (.builtin "object.__setattr__"))
theorem Cls.get {K : PySem.W.Frag} {C : Addr} (c : Cls K C) (f : Str) : PySem.W.plainGet K C f = true := c.pg
structure Con (K : PySem.W.Frag) (C : Addr) (f : Str) (v : V) (u : Value) : Prop where
  at_ : PySem.W.findIn K (.ref C) f = some (some u)
  rel : RelV v u
  get : PySem.W.specialIn K u "__get__" = some none
  cp : PySem.W.copiedNames.contains f = false
structure Meth (K : PySem.W.Frag) (C : Addr) (m : Str) (f : Addr) : Prop where
  at_ : PySem.W.findIn K (.ref C) m = some (some (.ref f))
  fn : PySem.W.isFn K (.ref f) = true
  kp : PySem.W.keepIn K (.ref f) = true

section
variable {X : Cx} {pins : List (Addr × Obj)} {σ : St} {H : Hp} {s : Shared} {a C dx : Addr} {fs : List (Str × V)} {f : Str} {v : V} {A : Around} {E : Value → Shared → Prop}

theorem Inv.made (I : Inv X pins σ H s) : Inv X pins σ (upd (upd H s.heap.objs.size (.own (s.heap.objs.size + 1))) (s.heap.objs.size + 1) (.ins C s.heap.objs.size []))
    { s with heap := (s.heap.push PySem.W.emptyDict).push (PySem.W.instObj C s.heap.objs.size) } := by
  have e1 : (s.heap.push PySem.W.emptyDict).get? s.heap.objs.size = some PySem.W.emptyDict := Heap.get?_push_size s.heap rfl
  have e2 : ((s.heap.push PySem.W.emptyDict).push (PySem.W.instObj C s.heap.objs.size)).get? (s.heap.objs.size + 1) = some (PySem.W.instObj C s.heap.objs.size) := by
    have := Heap.get?_push_size (s.heap.push PySem.W.emptyDict) (o := PySem.W.instObj C s.heap.objs.size) rfl
    rwa [Heap.size_push] at this
  have e3 : (s.heap.push PySem.W.emptyDict).Ns s.heap.objs.size (fun _ => none) := ⟨PySem.W.emptyDict, #[], _, e1, rfl, (fun e he => absurd he (by simp)), fun _ => rfl⟩
  have I1 := I.laid (a := s.heap.objs.size) (o := .own (s.heap.objs.size + 1)) (h' := s.heap.push PySem.W.emptyDict) (t' := s.toks) (fun b u q => Heap.get?_push_of_some _ q) (Nat.le_refl _) ⟨_, e1⟩
  refine I1.laid (a := s.heap.objs.size + 1) (o := .ins C s.heap.objs.size []) (t' := s.toks) (fun b u q => Heap.get?_push_of_some _ q) (Nat.le_of_eq (Heap.size_push _ _)) ?_
  have ne : s.heap.objs.size ≠ s.heap.objs.size + 1 := Nat.ne_of_lt (Nat.lt_succ_self _)
  refine ⟨by rw [upd_ne ne, upd_same], Nat.zero_le _, ne, e2, fun _ => none, (Heap.Ns1.of_empty e3).at fun o q => Heap.get?_push_of_some _ q, fun _ => True.intro, fun y hy => absurd rfl hy⟩

end

section
variable {X : Cx} {o e value : Expr} {f : Str} {pos pos' tpos : Pos} {ta tv : TE}
end

section
variable {X : Cx} {pins : List (Addr × Obj)} {σ : St} {H : Hp} {s : Shared} {A : Around} {E : Value → Shared → Prop} {Q : Value → Shared → Prop} {c : Value} {b : Bool}
inductive TyOf (K : PySem.W.Frag) (H : Hp) : V → Value → Prop where
  | non : TyOf K H .non (.type "NoneType")
  | bl (x : Bool) : TyOf K H (.bl x) (.type "bool")
  | int (i : Int) : TyOf K H (.int i) (.type "int")
  | str (x : Str) : TyOf K H (.str x) (.type "str")
  | flt (x : UInt64) : TyOf K H (.flt x) (.type "float")
  | lst {a : Addr} {xs : List V} (e : H a = some (.lst xs)) : TyOf K H (.ref a) (.type "list")
  | frz {a : Addr} {o : Obj} {xs : List V} (e : H a = some (.frz o (.lst xs))) : TyOf K H (.ref a) (.type "list")
  | tup {a : Addr} {xs : List V} (e : H a = some (.tup xs)) : TyOf K H (.ref a) (.type "tuple")
  | dK {a : Addr} {kvs : List (Key × V)} (e : H a = some (.dK kvs)) : TyOf K H (.ref a) (.type "dict")
  | dT {a : Addr} {kvs : List (List Key × V)} (e : H a = some (.dT kvs)) : TyOf K H (.ref a) (.type "dict")
  | ins {a C dx : Addr} {fs : List (Str × V)} (e : H a = some (.ins C dx fs)) (cl : Cls K C) (ha : PySem.W.findIn K (.ref C) "__class__" = some (some (.builtin "object.__class__")))
      (hn : PySem.W.specialIn K (.builtin "object.__class__") "__get__" = some (some (.builtin "getset_descriptor.__get__"))) (htk : PySem.W.takesIn K (.builtin "object.__class__") = some true)
      (hm : PySem.W.mroIn K C (.type "object") = some true) : TyOf K H (.ref a) (.ref C)
theorem isinst_ok {x : V} {u t : Value} (I : Inv X pins σ H s) (rx : RelV x u) (ty : TyOf X.K H x t) (e : PySem.W.kitOne X.K t c = some b) (h : ∀ tk, Q (.bool b) { s with toks := tk }) :
    wpAny (model X.prog X.w) A (call (.builtin "isinstance") [u, c]) Q E s := by
  cases ty with
  | non => cases (show u = Value.none from rx); exact PySem.W.kia_one PySem.W.kitx_none I.kIn True.intro e (fun z => nomatch z) h
  | bl y => cases (show u = Value.bool y from rx); exact PySem.W.kia_one PySem.W.kitx_bool I.kIn True.intro e (fun z => nomatch z) h
  | int i => obtain ⟨t, q⟩ := (show ∃ t, u = Value.int i t from rx); cases q; exact PySem.W.kia_one PySem.W.kitx_int I.kIn True.intro e (fun z => nomatch z) h
  | str y => obtain ⟨t, q⟩ := (show ∃ t, u = Value.str y t from rx); cases q; exact PySem.W.kia_one PySem.W.kitx_str I.kIn True.intro e (fun z => nomatch z) h
  | flt y => obtain ⟨t, q⟩ := (show ∃ t, u = Value.float y t from rx); cases q; exact PySem.W.kia_one PySem.W.kitx_float I.kIn True.intro e (fun z => nomatch z) h
  | @lst a xs ea =>
    cases (show u = Value.ref a from rx)
    obtain ⟨_, _, n, _, h1⟩ := (show ObjOk X.prog X.w H s.heap a (.lst xs) from I.hok a _ ea)
    exact PySem.W.kia_one PySem.W.kitx_list I.kIn ⟨_, h1, rfl⟩ e (fun z => nomatch z) h
  | @frz a ob xs ea =>
    cases (show u = Value.ref a from rx)
    obtain ⟨_, _, _, n, _, h1⟩ := (show ObjOk X.prog X.w H s.heap a (.frz ob (.lst xs)) from I.hok a _ ea)
    exact PySem.W.kia_one PySem.W.kitx_list I.kIn ⟨_, h1, rfl⟩ e (fun z => nomatch z) h
  | @tup a xs ea =>
    cases (show u = Value.ref a from rx)
    obtain ⟨_, _, _, p⟩ := (show ObjOk X.prog X.w H s.heap a (.tup xs) from I.hok a _ ea)
    obtain ⟨o, h1, h2, _⟩ := p
    exact PySem.W.kia_one PySem.W.kitx_tuple I.kIn ⟨o, h1, h2⟩ e (fun z => nomatch z) h
  | @dK a kvs ea =>
    cases (show u = Value.ref a from rx)
    obtain ⟨_, _, vs, _, p⟩ := (show ObjOk X.prog X.w H s.heap a (.dK kvs) from I.hok a _ ea)
    obtain ⟨o, es, ep, h1, h2, _⟩ := p
    exact PySem.W.kia_one PySem.W.kitx_dict I.kIn ⟨o, h1, h2.1⟩ e (fun z => nomatch z) h
  | @dT a kvs ea =>
    cases (show u = Value.ref a from rx)
    obtain ⟨_, _, xs, _, o, es, ep, h1, h2, _⟩ := (show ObjOk X.prog X.w H s.heap a (.dT kvs) from I.hok a _ ea)
    exact PySem.W.kia_one PySem.W.kitx_dict I.kIn ⟨o, h1, h2.1⟩ e (fun z => nomatch z) h
  | @ins a C dx fs ea cl ha hn htk hm =>
    cases (show u = Value.ref a from rx)
    obtain ⟨mA, O, _⟩ := ins_get I.hok ea
    obtain ⟨od, J, _⟩ := O.look
    exact PySem.W.kia_one (PySem.W.kitx_own (cl.get _) cl.hd ha hn htk hm) I.kIn J e (fun z => nomatch z) h
end
end L2

namespace L2
open PySem PySem.Spec PyProof.Rows

structure Room (k : Nat) (A : Around) : Prop where
  hd : A.handled = none
  dp : A.depth + 3 * k + 5 < recursionLimit
  un : A.units + 16 * k + 200 < cLine
  gd : A.guards = some []
theorem Room.mono {j k : Nat} {A : Around} (r : Room k A) (h : j ≤ k) : Room j A := ⟨r.hd, by have := r.dp; omega, by have := r.un; omega, r.gd⟩
theorem Room.deeper {k : Nat} {A : Around} (r : Room (k + 1) A) (env : Env) : Room k (A.deeper env) :=
  ⟨r.hd, by have := r.dp; show A.depth + 1 + 3 * k + 5 < _; omega, by have := r.un; show A.units + 3 + 16 * k + 200 < _; omega, r.gd⟩
theorem Room.in1 {k : Nat} {A : Around} (r : Room (k + 1) A) : Room k A.in1 :=
  ⟨r.hd, by have := r.dp; show A.depth + 3 * k + 5 < _; omega, by have := r.un; show A.units + 1 + 16 * k + 200 < _; omega, r.gd⟩
theorem Room.depth {k : Nat} {A : Around} (r : Room k A) : A.depth < recursionLimit := by have := r.dp; omega
theorem Room.units {k : Nat} {A : Around} (r : Room k A) : A.units + 64 < cLine := by have := r.un; omega
def tNil : TA := fun _ H Q => Q [] H
def tCons (ta : TE) (tr : TA) : TA := fun σ H Q => ta σ H fun x H1 => tr σ H1 fun xs H2 => Q (x :: xs) H2
section
variable {X : Cx} {e : Expr} {es : List Expr} {te : TE} {t : TA} {pos : Pos}
theorem pa_nil : PA X [] tNil := ⟨fun _ _ _ _ H Q I h => Calls.spliced_nil ⟨[], H, I, .nil, h⟩⟩
theorem pa_cons (ha : PE X e te) (hr : PA X es t) (hs : starEach (e :: es) X.env = (false, eval e X.env) :: starEach es X.env := by rfl) : PA X (e :: es) (tCons te t) := by
  constructor
  intro pos pins s σ H Q I h
  rw [hs]
  show wpAny _ _ (spliced ((false, eval e X.env) :: backTo pos (starEach es X.env))) _ _ s
  refine Calls.spliced_cons (thn (ha pins s σ H _ I h) fun u s1 ⟨x, H1, I1, r1, q1⟩ => ?_)
  exact thn (hr pos pins s1 σ H1 _ I1 q1) fun us s2 ⟨xs, H2, I2, r2, q2⟩ => ⟨x :: xs, H2, I2, .cons r1 r2, q2⟩

def tTup (t : TA) : TE := fun σ H Q => t σ H fun xs H1 => xs.length ≤ sizeLine ∧ ∀ p, H1 p = none → Q (.ref p) (upd H1 p (.tup xs))
def tLst (t : TA) : TE := fun σ H Q => t σ H fun xs H1 => xs.length ≤ sizeLine ∧ ∀ p, H1 p = none → Q (.ref p) (upd H1 p (.lst xs))
theorem pe_tup {x1} (h : PA X es t) : PE X (.Tuple es x1 pos) (tTup t) := by
  constructor
  intro pins s σ H Q I hq
  refine wpAny_Tuple_spliced (thn (h pos pins s σ H _ I hq) fun us s1 ⟨xs, H1, I1, r, z, q⟩ => ⟨by rw [← r.length]; exact z, ?_⟩)
  have hf : H1 s1.heap.objs.size = none := I1.hok.fresh (Nat.le_refl _)
  refine ⟨.ref s1.heap.objs.size, upd H1 s1.heap.objs.size (.tup xs), I1.laid (t' := s1.toks) (fun b u e => Heap.get?_push_of_some _ e) (Nat.le_refl _) ?_, rfl, q _ hf⟩
  exact ⟨z, us, r, ⟨_, Heap.get?_push_size _ rfl, rfl, _, rfl⟩⟩
theorem pe_lst (h : PA X es t) : PE X (.List es pos) (tLst t) := by
  constructor
  intro pins s σ H Q I hq
  refine wpAny_List_spliced (thn (h pos pins s σ H _ I hq) fun us s1 ⟨xs, H1, I1, r, z, q⟩ => ⟨by rw [← r.length]; exact z, ?_⟩)
  have hf : H1 s1.heap.objs.size = none := I1.hok.fresh (Nat.le_refl _)
  refine ⟨.ref s1.heap.objs.size, upd H1 s1.heap.objs.size (.lst xs), I1.laid (t' := s1.toks) (fun b u e => Heap.get?_push_of_some _ e) (Nat.le_refl _) ?_, rfl, q _ hf⟩
  exact ⟨z, us, 0, r, Heap.get?_push_size _ rfl⟩
end

abbrev Sp := List V → Hp → VK → XK → Prop
abbrev CXT := List Env → Hp → Shared → XK → Value → Shared → Prop

structure Env0 (P : Program) (w : World) (K : PySem.W.Frag) (mg : Str → Option Value) (base : Heap) (A : Around) (outer : List Env) (s : Shared) (H : Hp) : Prop where
  frames : A.frames = some outer
  mod : Mod K mg base
  bs : ∀ b o, base.get? b = some o → s.heap.get? b = some o ∧ H b = none
  bsz : base.objs.size ≤ s.heap.objs.size
  funs : s.heap.FunFrames base outer
  frf : ∀ b ∈ frs outer, H b = none
  hok : HOk P w H s.heap
  bare : AllBare s.gens
def CE (outer : List Env) (P : Program) (w : World) (H : Hp) (s : Shared) (Q : VK) (u : Value) (s' : Shared) : Prop :=
  ∃ v H', s'.os = s.os ∧ AllBare s'.gens ∧ Un (frs outer) [] H H' s.heap s'.heap ∧ HOk P w H' s'.heap ∧ RelV v u ∧ Q v H'
def CR (CX : CXT) (outer : List Env) (P : Program) (w : World) (H : Hp) (s : Shared) (Q : VK) (E : XK) (r : Result) (s' : Shared) : Prop :=
  match r with
  | .ok (.ret u) => CE outer P w H s Q u s'
  | .ok _ => False
  | .error e => CX outer H s E e s'
structure FnOk (P : Program) (w : World) (K : PySem.W.Frag) (mg : Str → Option Value) (base : Heap) (CX : CXT) (k : Nat) (f : Addr) (fd : FuncData) (ps : List Str) (sp : Sp) : Prop where
  len : ∀ vs H Q E, sp vs H Q E → vs.length = ps.length
  run : ∀ (A : Around) (outer : List Env) (s : Shared) (H : Hp) (args : Args) (us : List Value) (vs : List V) (Q : VK) (E : XK), Room k A → Env0 P w K mg base A outer s H → BindsTo s fd args (ps.zip us) → Vals vs us → sp vs H Q E →
    codeAny (model P w) A (.call (.ref f) args) (CR CX outer P w H s Q E) s
theorem FnOk.mono {P : Program} {w : World} {K : PySem.W.Frag} {mg : Str → Option Value} {base : Heap} {CX : CXT} {j k : Nat} {f : Addr} {fd : FuncData} {ps : List Str} {sp : Sp} (F : FnOk P w K mg base CX j f fd ps sp) (h : j ≤ k) :
    FnOk P w K mg base CX k f fd ps sp := ⟨F.len, fun A outer s H args us vs Q E hr => F.run A outer s H args us vs Q E (hr.mono h)⟩
theorem FnOk.imp {P : Program} {w : World} {K : PySem.W.Frag} {mg : Str → Option Value} {base : Heap} {CX : CXT} {k : Nat} {f : Addr} {fd : FuncData} {ps : List Str} {sp sp' : Sp} (F : FnOk P w K mg base CX k f fd ps sp)
    (h : ∀ vs H Q E, sp' vs H Q E → sp vs H Q E) : FnOk P w K mg base CX k f fd ps sp' :=
  ⟨fun vs H Q E q => F.len vs H Q E (h _ _ _ _ q), fun A outer s H args us vs Q E hr he hb hv hs => F.run A outer s H args us vs Q E hr he hb hv (h _ _ _ _ hs)⟩

theorem Env0.in1 {P : Program} {w : World} {K : PySem.W.Frag} {mg : Str → Option Value} {base : Heap} {A : Around} {outer : List Env} {s : Shared} {H : Hp} (e : Env0 P w K mg base A outer s H) :
    Env0 P w K mg base A.in1 outer s H := ⟨e.frames, e.mod, e.bs, e.bsz, e.funs, e.frf, e.hok, e.bare⟩

section
variable {X : Cx} {pins : List (Addr × Obj)} {σ : St} {H : Hp} {s s' : Shared}
theorem Inv.env0 (I : Inv X pins σ H s) : Env0 X.prog X.w X.K X.mg X.base X.A X.stack s H :=
  ⟨I.ok.frames, I.ok.mod, I.bs, Nat.le_trans I.ok.bsz I.sz, I.stack, I.stkFree, I.hok, I.bare⟩
theorem Inv.after {Q : VK} {u : Value} (I : Inv X pins σ H s) (h : CE X.stack X.prog X.w H s Q u s') : EP X pins σ Q u s' := by
  obtain ⟨v, H', os, bare, un, hok, r, q⟩ := h
  obtain ⟨hh, g, d, t, os'⟩ := s'
  obtain rfl : os' = s.os := os
  exact ⟨v, H', I.call (h' := hh) (g' := g) (d' := d) (t' := t) (ch := []) un hok bare (fun b z => absurd z (by simp)), r, q⟩
end

def tCall (sp : Sp) (dvs : List V) (E : XK) (t : TA) : TE := fun σ H Q => t σ H fun vs H1 => sp (vs ++ dvs) H1 Q E
def Binds (K : PySem.W.Frag) (fd : FuncData) (ps : List Str) (ds : List Value) : Prop :=
  ∀ (s : Shared) (us : List Value), K.In s.heap → (us ++ ds).length = ps.length → BindsTo s fd ⟨us, []⟩ (ps.zip (us ++ ds))
theorem Binds.all {K : PySem.W.Frag} {fd : FuncData} {ps : List Str} (h : ∀ us : List Value, us.length = ps.length → bindArgs fd ⟨us, []⟩ = pure (ps.zip us)) : Binds K fd ps [] := fun s us _ hl => by
  rw [List.append_nil] at hl ⊢
  exact .of_eq (h us hl)

def Passes (CX : CXT) (X : Cx) (E : XK) : Prop := ∀ (pins : List (Addr × Obj)) (σ : St) (H : Hp) (s : Shared) (e : Value) (s' : Shared), Inv X pins σ H s → CX X.stack H s E e s' → X.xe e s'

section
variable {X : Cx} {CX : CXT} {k : Nat} {f C : Addr} {fd : FuncData} {ps : List Str} {sp : Sp} {dvs : List V} {ds : List Value} {E : XK} {x m : Str} {p pos apos : Pos} {e o : Expr} {es : List Expr} {ta : TE} {t : TA}

theorem run_fn {pins : List (Addr × Obj)} {σ : St} {H : Hp} {s : Shared} {Q : VK} {us : List Value} {vs : List V} (F : FnOk X.prog X.w X.K X.mg X.base CX k f fd ps sp) (hr : Room k X.A) (hb : Binds X.K fd ps ds) (hd : Vals dvs ds) (hx : Passes CX X E)
    (I : Inv X pins σ H s) (r : Vals vs us) (h : sp (vs ++ dvs) H Q E) : wpAny (model X.prog X.w) X.A (call (.ref f) us) (EP X pins σ Q) X.xe s := by
  have r2 : Vals (vs ++ dvs) (us ++ ds) := r.append hd
  have hl : (us ++ ds).length = ps.length := by rw [← r2.length]; exact F.len _ _ _ _ h
  refine wpAny_call (codeAny_mono (F.run X.A X.stack s H ⟨us, []⟩ (us ++ ds) (vs ++ dvs) Q E hr I.env0 (hb s us I.kIn hl) r2 h) fun r s' hq => ?_)
  cases r with
  | error e => exact hx pins σ H s e s' I hq
  | ok fl =>
    cases fl with
    | ret u => exact I.after hq
    | next => exact False.elim hq
    | brk => exact False.elim hq
    | cont => exact False.elim hq

theorem pe_call (F : FnOk X.prog X.w X.K X.mg X.base CX k f fd ps sp) (hr : Room k X.A) (hg : Gl X x) (hm : X.mg x = some (.ref f)) (hk : PySem.W.keepIn X.K (.ref f) = true) (hb : Binds X.K fd ps ds) (hd : Vals dvs ds) (hx : Passes CX X E)
    (ha : PA X (e :: es) t) (hdb : (x == ("__debug__" : Str)) = false := by decide) (he : starEach (e :: es) X.env = (false, eval e X.env) :: starEach es X.env := by rfl) (hpl : (backTo pos (starEach es X.env)).any (·.1) = false := by rfl) :
    PE X (.Call (.Name x p) (e :: es) [] pos) (tCall sp dvs E t) := by
  constructor
  intro pins s σ H Q I h
  refine wpAny_Call_Name_kw (ld_glob I hg hm ?_ hdb)
  refine PySem.W.callWith_K (h₀ := X.base) I.ok.mod.kin hk (thn (ha pos pins s σ H _ I h) fun us s1 ⟨vs, H1, I1, r, q⟩ => ⟨I1.kIn, ?_⟩) he hpl
  exact run_fn F hr hb hd hx I1 r q
structure Mk (K : PySem.W.Frag) (C f : Addr) : Prop where
  makes : PySem.W.makesIn K C = true
  init : PySem.W.findIn K (.ref C) "__init__" = some (some (.ref f))
  fn : PySem.W.isFn K (.ref f) = true
  kp : PySem.W.keepIn K (.ref C) = true

end

structure PK (X : Cx) (kws : List Keyword) (t : TA) : Prop where
  run :
    ∀ (pos : Pos) (pins : List (Addr × Obj)) (s : Shared) (σ : St) (H : Hp) (Q : List V → Hp → Prop), Inv X pins σ H s → t σ H Q → wpAny (model X.prog X.w) X.A (evalAll ((backToKw pos (keywordEach kws X.env)).map (·.2))) (AP X pins σ Q) X.xe s
instance {X : Cx} {kws : List Keyword} {t : TA} : CoeFun (PK X kws t) (fun _ =>
  ∀ (pos : Pos) (pins : List (Addr × Obj)) (s : Shared) (σ : St) (H : Hp) (Q : List V → Hp → Prop), Inv X pins σ H s → t σ H Q → wpAny (model X.prog X.w) X.A (evalAll ((backToKw pos (keywordEach kws X.env)).map (·.2))) (AP X pins σ Q) X.xe s) := ⟨fun h => h.run⟩
section
variable {X : Cx} {CX : CXT} {k : Nat} {f C : Addr} {fd : FuncData} {ps ks : List Str} {sp : Sp} {E : XK} {x m : Str} {p pos apos kpos : Pos} {e o : Expr} {es : List Expr} {kws : List Keyword} {te ta : TE} {t tk : TA} {nm : Option Str}
structure KBinds (K : PySem.W.Frag) (fd : FuncData) (ps ks : List Str) (g : List Value → List Value → List Value) (gV : List V → List V → List V) : Prop where
  to : ∀ (s : Shared) (us ws : List Value), K.In s.heap → (g us ws).length = ps.length → BindsTo s fd ⟨us, ks.zip ws⟩ (ps.zip (g us ws))
  rel : ∀ {vs : List V} {us : List Value} {zs : List V} {ws : List Value}, Vals vs us → Vals zs ws → Vals (gV vs zs) (g us ws)
variable {g : List Value → List Value → List Value} {gV : List V → List V → List V}
end

structure FnScope (N P : List Str) (sc : Scope) : Prop where
  kind : sc.kind = .function
  co : sc.isCoroutine = false
  gen : sc.isGenerator = false
  nd : N.Nodup
  pre : N.take P.length = P
  par : ∀ x ∈ P, sc.names.lookup x = some .local ∨ sc.names.lookup x = some .cell
  nofree : ∀ y ∈ sc.names, y.2 ≠ .free

theorem bindL_out {kindOf : Str → Option NameKind} {x : Str} : ∀ {binds : List (Str × Value)} {m : Str → Option Value}, (∀ v, (x, v) ∉ binds) → bindL kindOf binds m x = m x
  | [], _, _ => rfl
  | (n, v) :: r, m, h => by
    unfold bindL
    rw [bindL_out fun w hw => h w (List.mem_cons_of_mem _ hw)]
    split
    · have : x ≠ n := by rintro rfl; exact h v List.mem_cons_self
      simp [this]
    · rfl
theorem bindC_out {kindOf : Str → Option NameKind} {x : Str} : ∀ {binds : List (Str × Value)} {m : Str → Option Value}, (∀ v, (x, v) ∉ binds) → bindC kindOf binds m x = m x
  | [], _, _ => rfl
  | (n, v) :: r, m, h => by
    unfold bindC
    rw [bindC_out fun w hw => h w (List.mem_cons_of_mem _ hw)]
    split
    · rfl
    · have : x ≠ n := by rintro rfl; exact h v List.mem_cons_self
      simp [this]
theorem bindL_get {kindOf : Str → Option NameKind} {x : Str} {v : Value} : ∀ {P : List Str} {vs : List Value} {i : Nat} {m : Str → Option Value}, P.Nodup → P[i]? = some x → vs[i]? = some v → kindOf x = some .local →
    bindL kindOf (P.zip vs) m x = some v
  | [], _, _, _, _, h, _, _ => by simp at h
  | _ :: _, [], _, _, _, _, h, _ => by simp at h
  | p :: P, w :: vs, 0, m, nd, h1, h2, hk => by
    simp at h1 h2; subst h1; subst h2
    show bindL kindOf ((p, w) :: P.zip vs) m p = _
    unfold bindL
    rw [bindL_out fun v hv => (List.nodup_cons.mp nd).1 (List.of_mem_zip hv).1, if_pos hk]
    simp
  | p :: P, w :: vs, i + 1, m, nd, h1, h2, hk => by
    show bindL kindOf ((p, w) :: P.zip vs) m x = _
    unfold bindL
    exact bindL_get (i := i) (List.nodup_cons.mp nd).2 (by simpa using h1) (by simpa using h2) hk
theorem bindC_get {kindOf : Str → Option NameKind} {x : Str} {v : Value} : ∀ {P : List Str} {vs : List Value} {i : Nat} {m : Str → Option Value}, P.Nodup → P[i]? = some x → vs[i]? = some v → kindOf x ≠ some .local →
    bindC kindOf (P.zip vs) m x = some v
  | [], _, _, _, _, h, _, _ => by simp at h
  | _ :: _, [], _, _, _, _, h, _ => by simp at h
  | p :: P, w :: vs, 0, m, nd, h1, h2, hk => by
    simp at h1 h2; subst h1; subst h2
    show bindC kindOf ((p, w) :: P.zip vs) m p = _
    unfold bindC
    rw [bindC_out fun v hv => (List.nodup_cons.mp nd).1 (List.of_mem_zip hv).1, if_neg hk]
    simp
  | p :: P, w :: vs, i + 1, m, nd, h1, h2, hk => by
    show bindC kindOf ((p, w) :: P.zip vs) m x = _
    unfold bindC
    exact bindC_get (i := i) (List.nodup_cons.mp nd).2 (by simpa using h1) (by simpa using h2) hk

def start (N : List Str) (vs : List V) : St := vs.map some ++ List.replicate (N.length - vs.length) none

def cxOf (CX : CXT) (P : Program) (w : World) (K : PySem.W.Frag) (mg : Str → Option Value) (base : Heap) (N : List Str) (qual : Str) (scope : Scope) (f : Addr) (cd : Value) (A : Around) (outer : List Env) (s : Shared) (H : Hp) (E : XK) : Cx where
  prog := P
  w := w
  K := K
  mg := mg
  base := base
  A := A.deeper (envOfC qual scope s.heap.objs.size f cd)
  N := N
  s₀ := s
  H₀ := H
  env := envOfC qual scope s.heap.objs.size f cd
  outer := outer
  stack := envOfC qual scope s.heap.objs.size f cd :: outer
  ex := []
  calm := true
  fn := fun _ => true
  pn := []
  xe := fun e s' => wpAny (model P w) (A.deeper (envOfC qual scope s.heap.objs.size f cd)) (leaving (envOfC qual scope s.heap.objs.size f cd) e) (fun _ s'' => CX outer H s E e s'') (fun e' s'' => CX outer H s E e' s'') s'

theorem cell_has {sc : Scope} {n : Nat} {x : Str} (h : sc.names.lookup x = some .cell) : ∃ c, (cellsFrom n sc.names []).lookup x = some c := by
  have q := PySem.W.cellsFrom_some sc.names n [] (.inl h)
  exact Option.isSome_iff_exists.mp q

theorem inv_start {CX : CXT} {P : Program} {w : World} {K : PySem.W.Frag} {mg : Str → Option Value} {base : Heap} {N ps : List Str} {qual : Str} {scope : Scope} {f : Addr} {cd : Value} {A : Around} {outer : List Env} {s s1 : Shared} {H : Hp} {E : XK} {us : List Value} {vs : List V}
    (S : FnScope N ps scope) (hd : A.handled = none) (e0 : Env0 P w K mg base A outer s H) (hl : vs.length = ps.length) (r : Vals vs us)
    (x : InCallC s s.heap.objs.size (bindL (envOfC qual scope s.heap.objs.size f cd).kindOf (ps.zip us) fun _ => none) (cellsFrom (s.heap.objs.size + 1) scope.names []) (bindC (envOfC qual scope s.heap.objs.size f cd).kindOf (ps.zip us) fun _ => none) s1) :
    Inv (cxOf CX P w K mg base N qual scope f cd A outer s H E) [] (start N vs) H s1 := by
  have hpl : ps.length ≤ N.length := by have := congrArg List.length S.pre; rw [List.length_take] at this; omega
  obtain ⟨h1, tk, rfl, hk⟩ := x.done
  have noA : ∀ b : Addr, b ∉ (cxOf CX P w K mg base N qual scope f cd A outer s H E).ex := fun b z => absurd (show b ∈ ([] : List Addr) from z) (by simp)
  refine ⟨⟨e0.mod, S.kind, rfl, rfl, Nat.le_refl _, fun y z c h1 h2 => ?_, fun y hy => ?_, fun y c _ h => ?_, fun _ => hd, Around.frames_deeper e0.frames, .inr ⟨rfl, rfl⟩, fun b z => absurd z (noA b), e0.bs, e0.bsz, fun b _ _ => noA b, fun b z => absurd z (noA b), e0.funs, e0.frf⟩,
    rfl, e0.bare, Un.kept hk, ⟨_, x.toInCall.ns, fun i y v h1 h2 h3 => ?_⟩, fun y c h => ⟨_, x.cell y c h⟩, e0.hok.fresh (Nat.le_refl _), fun y c h => ?_, fun p hp => absurd (show p ∈ ([] : List (Addr × Obj)) from hp) (by simp), e0.hok.kept hk, ?_⟩
  · exact name_of_addr x.apart (PySem.mem_of_lookup h1) (PySem.mem_of_lookup h2)
  · have hy : scope.names.lookup y = some .cell ∨ scope.names.lookup y = some .free := hy
    rcases hy with hy | hy
    · exact cell_has hy
    · exact absurd rfl (S.nofree _ (PySem.mem_of_lookup hy))
  · exact Nat.le_of_lt (x.above y c (PySem.mem_of_lookup h))
  · have hi : i < vs.length := by
      unfold start at h2
      by_cases hi : i < vs.length
      · exact hi
      · rw [List.getElem?_append_right (by simpa using hi)] at h2
        rw [List.getElem?_replicate] at h2
        split at h2 <;> cases h2
    have ha : vs[i]? = some v := by
      unfold start at h2
      rw [List.getElem?_append_left (by simpa using hi), List.getElem?_map] at h2
      cases e : vs[i]? with
      | none => rw [e] at h2; cases h2
      | some a => rw [e] at h2; cases h2; rfl
    obtain ⟨u, hu, rv⟩ := r.get ha
    have hp : ps[i]? = some y := by
      rw [← S.pre, List.getElem?_take_of_lt (by omega)]; exact h1
    have ndP : ps.Nodup := by rw [← S.pre]; exact S.nd.sublist (List.take_sublist _ _)
    refine ⟨u, rv, ?_⟩
    rcases S.par y (List.mem_of_getElem? hp) with k | k
    · exact .inl ⟨k, bindL_get ndP hp hu k⟩
    · obtain ⟨c, e⟩ := cell_has (n := s.heap.objs.size + 1) k
      refine .inr ⟨.inl k, c, e, ?_⟩
      have q := x.cell y c e
      rw [bindC_get ndP hp hu (by show scope.names.lookup y ≠ _; rw [k]; decide)] at q
      exact q
  · exact e0.hok.fresh (Nat.le_of_lt (x.above y c (PySem.mem_of_lookup h)))
  · unfold start
    show _ = N.length
    rw [List.length_append, List.length_map, List.length_replicate]
    omega

theorem fn_of {CX : CXT} {P : Program} {w : World} {K : PySem.W.Frag} {mg : Str → Option Value} {base : Heap} {k : Nat} {f : Addr} {name qual : Str} {params : Arguments} {body : List Stmt} {scope : Scope} {dV kV doc pm cdv ct oc : Value} {an od : Option Addr}
    {osl : Array (Option Value)} {N ps : List Str} {sp : Sp} (lk : K.lookup f = some ⟨oc, od, .func (PySem.W.fnOf name qual params body scope dV kV doc pm an cdv ct), osl⟩) (hcd : PySem.W.codeIn K cdv qual = true) (S : FnScope N ps scope)
    (len : ∀ vs H Q E, sp vs H Q E → vs.length = ps.length)
    (hbody : ∀ (A : Around) (outer : List Env) (s : Shared) (H : Hp) (vs : List V) (Q : VK) (E : XK), Room k (A.deeper (envOfC qual scope s.heap.objs.size f cdv)) → sp vs H Q E →
      ∃ t, PSs (cxOf CX P w K mg base N qual scope f cdv A outer s H E) body t ∧ t { nx := fun _ H' => Q .non H', rt := Q } (start N vs) H) :
    FnOk P w K mg base CX (k + 1) f (PySem.W.fnOf name qual params body scope dV kV doc pm an cdv ct) ps sp := by
  refine ⟨len, fun A outer s H args us vs Q E hr e0 hb r hsp => ?_⟩
  have hl := len _ _ _ _ hsp
  have KX : K.In s.heap := e0.mod.kin.keeps fun b o e => (e0.bs b o e).1
  have lim : s.heap.NoLimit := e0.mod.nolimit.keeps fun b o e => (e0.bs b o e).1
  have hkind : ∀ y ∈ ps.zip us, scope.names.lookup y.1 = some .local ∨ (scope.names.lookup y.1 = some .cell ∧ ((cellsFrom (s.heap.objs.size + 1) scope.names []).lookup y.1).isSome = true) := fun ⟨n, v⟩ hy => by
    rcases S.par n (List.of_mem_zip hy).1 with q | q
    · exact .inl q
    · exact .inr ⟨q, PySem.W.cellsFrom_some _ _ _ (.inl q)⟩
  refine codeAny_call_function hr.depth (KX _ _ lk) rfl S.co S.gen rfl (PySem.W.codeRec_of KX hcd) (hb _ _ _ _ ?_)
  refine wpAny_newFunctionEnv_cells S.kind hkind fun env he s1 x => ?_
  subst he
  refine ⟨lim.keeps x.toInCall.keep, codeAny_func ?_⟩
  obtain ⟨t, ht, hq⟩ := hbody A outer s H vs Q E (hr.deeper _) hsp
  have I : Inv (cxOf CX P w K mg base N qual scope f cdv A outer s H E) [] (start N vs) H s1 := inv_start S hr.hd e0 hl r x
  refine wpAny_mono (ht [] s1 (start N vs) H _ I hq) (fun fl s' hs => ?_) fun e s' hs => hs
  have fin : ∀ {σ' : St} {H' : Hp} {v : V} {u : Value}, Inv (cxOf CX P w K mg base N qual scope f cdv A outer s H E) [] σ' H' s' → RelV v u → Q v H' → CE outer P w H s Q u s' :=
    fun {σ' H' v u} J rv q => ⟨v, H', J.os, J.bare, J.base, J.hok, rv, q⟩
  cases fl with
  | ret u =>
    obtain ⟨v, σ', H', J, rv, q⟩ := hs
    exact fin J rv q
  | next =>
    obtain ⟨σ', H', J, q⟩ := hs
    exact fin (v := V.non) (u := Value.none) J rfl q
  | brk =>
    obtain ⟨_, _, _, q⟩ := hs
    exact False.elim q
  | cont =>
    obtain ⟨_, _, _, q⟩ := hs
    exact False.elim q
end L2

namespace L2
open PySem PySem.Spec PyProof.Rows
section
variable {X : Cx} {x : Str} {p pos : Pos} {e : Expr} {es : List Expr} {t : TA} {id T : String} {r : List V → Hp → VK → Prop}

def tCB (r : List V → Hp → VK → Prop) (t : TA) : TE := fun σ H Q => t σ H fun vs H1 => r vs H1 Q
theorem pe_callB (hc : CallR X (.builtin id) r) (hg : Gl X x) (hm : X.mg x = none) (hv : bootBuiltins x = some (.builtin id)) (ha : PA X (e :: es) t) (hn : x ≠ "__name__" := by decide) (hdb : (x == ("__debug__" : Str)) = false := by decide)
    (he : starEach (e :: es) X.env = (false, eval e X.env) :: starEach es X.env := by rfl) (hpl : (backTo pos (starEach es X.env)).any (·.1) = false := by rfl) : PE X (.Call (.Name x p) (e :: es) [] pos) (tCB r t) := by
  constructor
  intro pins s σ H Q I h
  refine wpAny_Call_Name_kw (ld_blt I hg hm hv ?_ hn hdb)
  exact PyProof.Rows.callWith_builtin1 (thn (ha pos pins s σ H _ I h) fun us s1 ⟨vs, H1, I1, r1, q1⟩ => hc pins s1 σ H1 vs us Q I1 r1 q1) he hpl
theorem pe_callTy (hc : CallR X (.type T) r) (hg : Gl X x) (hm : X.mg x = none) (hv : bootBuiltins x = some (.type T)) (ha : PA X (e :: es) t) (hn : x ≠ "__name__" := by decide) (hdb : (x == ("__debug__" : Str)) = false := by decide)
    (he : starEach (e :: es) X.env = (false, eval e X.env) :: starEach es X.env := by rfl) (hpl : (backTo pos (starEach es X.env)).any (·.1) = false := by rfl) : PE X (.Call (.Name x p) (e :: es) [] pos) (tCB r t) := by
  constructor
  intro pins s σ H Q I h
  refine wpAny_Call_Name_kw (ld_blt I hg hm hv ?_ hn hdb)
  exact PyProof.Rows.callWith_type1 (thn (ha pos pins s σ H _ I h) fun us s1 ⟨vs, H1, I1, r1, q1⟩ => hc pins s1 σ H1 vs us Q I1 r1 q1) he hpl
end
end L2

namespace HT
open PySem PyProof.Rows

section
open PySem.SeqAt
open PySem.AutoSeq1 (wpAny_loadPart')
open PySem.MeetsSeq PySem.MeetsSeq2 PySem.MeetsSeq3

end

section
variable {prog : Program} {w : World} {A : Around} {E : Value → Shared → Prop} {s : Shared}

theorem cat_tup {t b : Addr} {vs ws : List Value} {Q : Value → Shared → Prop} (ht : IsTup s.heap t vs.toArray) (hb : IsTup s.heap b ws.toArray) (hv : vs ≠ [])
    (h1 : ws = [] → Q (.ref t) s) (h2 : ws ≠ [] → Q (.ref s.heap.objs.size) { s with heap := s.heap.push { cls := .type "tuple", data := .seq (vs ++ ws).toArray } })
    (hsz : vs.length + ws.length ≤ sizeLine) : wpAny (model prog w) A (binaryOp .Add (.ref t) (.ref b)) Q E s := by
  obtain ⟨⟨cls, dd, data, sl⟩, ho, hc, n, hd⟩ := id ht
  obtain ⟨⟨cls2, dd2, data2, sl2⟩, ho2, hc2, n2, hd2⟩ := id hb
  simp only at hc hd hc2 hd2
  subst hc hd hc2 hd2
  have e : vs.toArray ++ ws.toArray = (vs ++ ws).toArray := by simp
  by_cases hw : ws = []
  · exact concat_meets ⟨_, ho, rfl⟩ ⟨_, ho2, rfl⟩ noFill_tuple_add seq_tuple_add PySem.F.slot_tuple_add PySem.F.entry_tuple_add (PySem.F.args_tuple_add_2 _ _)
      (tuple_addW1 t b vs.toArray ws.toArray n n2 dd dd2 sl sl2 (by simpa using hv) (by simp [hw])) ⟨ho, ho2, h1 hw⟩
  · refine concat_meets ⟨_, ho, rfl⟩ ⟨_, ho2, rfl⟩ noFill_tuple_add seq_tuple_add PySem.F.slot_tuple_add PySem.F.entry_tuple_add (PySem.F.args_tuple_add_2 _ _)
      (tuple_addW2 t b vs.toArray ws.toArray n n2 dd dd2 sl sl2 (by simpa using hv) (by simpa using hw) (by rw [List.size_toArray, List.size_toArray]; exact hsz)) ⟨ho, ho2, ?_⟩
    rw [e]
    exact h2 hw

def sIx (n d : Nat) : Option Int → Nat
  | none => d
  | some v => if v < 0 then (v + (n : Int)).toNat else min v.toNat n
theorem sIx_none (n d : Nat) : sIx n d none = d := rfl
theorem sIx_nat (n d k : Nat) : sIx n d (some (k : Int)) = min k n := by
  show (if (k : Int) < 0 then ((k : Int) + (n : Int)).toNat else min (k : Int).toNat n) = min k n
  rw [if_neg (by omega), Int.toNat_natCast]
end
end HT

namespace L2
open PySem PySem.Spec PyProof.Rows

abbrev TO := St → Hp → (Option Int → Hp → Prop) → Prop
structure PO (X : Cx) (e : Option Expr) (t : TO) : Prop where
  run :
    ∀ (pins : List (Addr × Obj)) (s : Shared) (σ : St) (H : Hp) (Q : Option Int → Hp → Prop), Inv X pins σ H s → t σ H Q →
      wpAny (model X.prog X.w) X.A (evalPart e X.env) (fun u s' => ∃ o H', Inv X pins σ H' s' ∧ IsPart u o ∧ Q o H') X.xe s
instance {X : Cx} {e : Option Expr} {t : TO} : CoeFun (PO X e t) (fun _ =>
  ∀ (pins : List (Addr × Obj)) (s : Shared) (σ : St) (H : Hp) (Q : Option Int → Hp → Prop), Inv X pins σ H s → t σ H Q →
    wpAny (model X.prog X.w) X.A (evalPart e X.env) (fun u s' => ∃ o H', Inv X pins σ H' s' ∧ IsPart u o ∧ Q o H') X.xe s) := ⟨fun h => h.run⟩
def tNoPart : TO := fun _ H Q => Q none H
def tPart (t : TE) : TO := fun σ H Q => t σ H fun x H1 => ∃ i, x = .int i ∧ Q (some i) H1

section
variable {X : Cx} {e : Expr} {te : TE} {lo hi : Option Expr} {tl th : TO} {pos p2 : Pos}

theorem po_none : PO X none tNoPart := by
  constructor
  intro pins s σ H Q I h
  rw [evalPart_none]
  exact wpAny_pure ⟨none, H, I, .none, h⟩
theorem po_some (h : PE X e te) : PO X (some e) (tPart te) := by
  constructor
  intro pins s σ H Q I hw
  rw [evalPart_some]
  refine thn (h pins s σ H _ I hw) fun u s1 ⟨x, H1, I1, r1, q1⟩ => ?_
  obtain ⟨i, rfl, q⟩ := q1
  obtain ⟨t, rfl⟩ := r1
  exact ⟨some i, H1, I1, .int i t, q⟩

def SlR (X : Cx) (r : V → Option Int → Option Int → Hp → VK → Prop) : Prop :=
  ∀ (pins : List (Addr × Obj)) (s : Shared) (σ : St) (H : Hp) (x : V) (v vl vu : Value) (lo hi : Option Int) (sl : Addr) (Q : VK), Inv X pins σ H s → RelV x v → s.heap.IsSliceOf sl vl vu .none → IsPart vl lo → IsPart vu hi → r x lo hi H Q →
    ∃ T id, typeLookup (.type T) "__getitem__" = pure (some (.builtin id)) ∧ s.TypeIs v T ∧ wpAny (model X.prog X.w) X.A (getItem v (.ref sl)) (EP X pins σ Q) X.xe s
def tSl (r : V → Option Int → Option Int → Hp → VK → Prop) (te : TE) (tl th : TO) : TE := fun σ H Q => te σ H fun x H1 => tl σ H1 fun l H2 => th σ H2 fun u H3 => r x l u H3 Q
theorem pe_slice {r : V → Option Int → Option Int → Hp → VK → Prop} (hr : SlR X r) (he : PE X e te) (hl : PO X lo tl) (hu : PO X hi th) : PE X (.Subscript e (.Slice lo hi none p2) pos) (tSl r te tl th) := by
  constructor
  intro pins s σ H Q I h
  refine Subscript_ (thn (he pins s σ H _ I h) fun v s1 ⟨x, H1, I1, r1, q1⟩ => ?_)
  refine wpAny_Slice (thn (hl pins s1 σ H1 _ I1 q1) fun vl s2 ⟨l, H2, I2, pl, q2⟩ => thn (hu pins s2 σ H2 _ I2 q2) fun vu s3 ⟨u, H3, I3, pu, q3⟩ => ?_)
  rw [evalPart_none]
  refine wpAny_pure ?_
  have I4 : Inv X pins σ H3 { s3 with heap := s3.heap.push { cls := .type "slice", data := .fields #[vl, vu, .none] } } := I3.kept (t' := s3.toks) fun b ob q => Heap.get?_push_of_some _ q
  obtain ⟨T, id, hT, ht, hg⟩ := hr pins { s3 with heap := s3.heap.push { cls := .type "slice", data := .fields #[vl, vu, .none] } } σ H3 x v vl vu l u s3.heap.objs.size Q I4 r1 (Heap.IsSliceOf.new ..) pl pu q3
  show wpAny (model X.prog X.w) X.A (subscriptTail e (.Slice lo hi none p2) v (.ref s3.heap.objs.size)) (EP X pins σ Q) X.xe { s3 with heap := s3.heap.push { cls := .type "slice", data := .fields #[vl, vu, .none] } }
  exact tail_any (ops := [.ref s3.heap.objs.size, v]) ht hT hg (by with_unfolding_all rfl)

def cutV (xs : List V) (lo hi : Option Int) : List V := (xs.drop (HT.sIx xs.length 0 lo)).take (HT.sIx xs.length xs.length hi - HT.sIx xs.length 0 lo)
theorem cutV_length (xs : List V) (lo hi : Option Int) : (cutV xs lo hi).length ≤ xs.length := by
  unfold cutV
  rw [List.length_take, List.length_drop]
  omega
def rCatT (K : PySem.W.Frag) : R2 := fun x y H Q => ∃ a b xs ys, x = .ref a ∧ y = .ref b ∧ SqT K H a xs ∧ SqT K H b ys ∧ xs ≠ [] ∧ xs.length + ys.length ≤ sizeLine ∧
  (ys = [] → Q (.ref a) H) ∧ (ys ≠ [] → ∀ p, H p = none → Q (.ref p) (upd H p (.tup (xs ++ ys))))
theorem Vals.nil_iff {xs : List V} {us : List Value} (r : Vals xs us) : us = [] ↔ xs = [] := by
  cases r with
  | nil => simp
  | cons _ _ => simp
theorem op_catT : OpR X (binaryOp .Add) (rCatT X.K) := by
  intro pins s σ H x y v u Q I rx ry h
  obtain ⟨a, b, xs, ys, rfl, rfl, ha, hb, hx, hz, q1, q2⟩ := h
  cases rx
  cases ry
  obtain ⟨its, r1, p1, _⟩ := I.tuple ha
  obtain ⟨its2, r2, p2, _⟩ := I.tuple hb
  refine HT.cat_tup p1 p2 (fun z => hx (r1.nil_iff.mp z)) (fun z => ⟨.ref a, H, I, rfl, q1 (r2.nil_iff.mp z)⟩) (fun z => ?_) (by rw [← r1.length, ← r2.length]; exact hz)
  refine ⟨.ref s.heap.objs.size, _, I.laid (t' := s.toks) (o := .tup (xs ++ ys)) (fun b ob q => Heap.get?_push_of_some _ q) (Nat.le_refl _) ?_, rfl, q2 (fun w => z (r2.nil_iff.mpr w)) _ (I.hok.fresh (Nat.le_refl _))⟩
  exact ⟨by rw [List.length_append]; exact hz, _, r1.append r2, IsTup.new _ _⟩
end
end L2

namespace L2
open PySem PySem.Spec PyProof.Rows

def ixN (n : Nat) (i : Int) : Option Nat := if 0 ≤ i then (if i < n then some i.toNat else none) else if -(n : Int) ≤ i then some (i + n).toNat else none
def atI {α : Type} (xs : List α) (i : Int) : Option α := (ixN xs.length i).bind fun j => xs[j]?
theorem ixN_seq {n : Nat} {i : Int} {j : Nat} (h : ixN n i = some j) : seqIndex? i n = some j ∧ j < n ∧ -(n : Int) ≤ i ∧ i < n := by
  unfold ixN at h
  by_cases h0 : 0 ≤ i
  · rw [if_pos h0] at h
    by_cases h1 : i < n
    · rw [if_pos h1] at h
      have e : i.toNat = j := Option.some.inj h
      exact ⟨by rw [seqIndex_of h0 h1, e], by omega, by omega, h1⟩
    · rw [if_neg h1] at h; cases h
  · rw [if_neg h0] at h
    by_cases h1 : -(n : Int) ≤ i
    · rw [if_pos h1] at h
      have e : (i + n).toNat = j := Option.some.inj h
      exact ⟨by rw [seqIndex_neg (by omega) h1, e], by omega, h1, by omega⟩
    · rw [if_neg h1] at h; cases h
theorem atI_get {α : Type} {xs : List α} {i : Int} {v : α} (h : atI xs i = some v) : ∃ j, seqIndex? i xs.length = some j ∧ xs[j]? = some v ∧ j < xs.length ∧ -(xs.length : Int) ≤ i ∧ i < xs.length := by
  unfold atI at h
  cases e : ixN xs.length i with
  | none => rw [e] at h; cases h
  | some j =>
    rw [e] at h
    obtain ⟨h1, h2, h3, h4⟩ := ixN_seq e
    exact ⟨j, h1, h, h2, h3, h4⟩
theorem atI_nat {α : Type} {xs : List α} {j : Nat} {v : α} (h : xs[j]? = some v) : atI xs (j : Int) = some v := by
  have hj : j < xs.length := (List.getElem?_eq_some_iff.mp h).1
  have e : ixN xs.length (j : Int) = some j := by
    unfold ixN
    rw [if_pos (by omega), if_pos (by omega)]; simp
  unfold atI; rw [e]; exact h
def PlainIx (b : Expr) : Prop := ∀ o i, subscripted b false o i = operate [o, i] (getItem o i)
def IxR (X : Cx) (r : R2) : Prop :=
  ∀ (value slice : Expr) (pins : List (Addr × Obj)) (s : Shared) (σ : St) (H : Hp) (x y : V) (v u : Value) (Q : VK), Inv X pins σ H s → RelV x v → RelV y u → r x y H Q →
    subscripted slice false v u = operate [v, u] (getItem v u) → wpAny (model X.prog X.w) X.A (subscriptTail value slice v u) (EP X pins σ Q) X.xe s
def MtR (X : Cx) (id : String) (r : V → List V → Hp → VK → Prop) : Prop :=
  ∀ (pins : List (Addr × Obj)) (s : Shared) (σ : St) (H : Hp) (x : V) (xs : List V) (v : Value) (us : List Value) (Q : VK), Inv X pins σ H s → RelV x v → Vals xs us → r x xs H Q →
    wpAny (model X.prog X.w) X.A (call (.builtin id) (v :: us)) (EP X pins σ Q) X.xe s
section
variable {X : Cx} {a b : Expr} {ta tb : TE} {pos : Pos}
theorem pe_ix {r : R2} (hr : IxR X r) (ha : PE X a ta) (hb : PE X b tb) (hs : PlainIx b) : PE X (.Subscript a b pos) (tOp r ta tb) := by
  constructor
  intro pins s σ H Q I h
  exact Subscript_ (binT ha hb I h fun v u s2 x y H2 I2 rx ry q => hr a b pins s2 σ H2 x y v u Q I2 rx ry q (hs _ _))

def rIxL (K : PySem.W.Frag) : R2 := fun x y H Q => ∃ p xs i v, x = .ref p ∧ y = .int i ∧ SqL K H p xs ∧ atI xs i = some v ∧ Q v H
def rIxT (K : PySem.W.Frag) : R2 := fun x y H Q => ∃ p xs i v, x = .ref p ∧ y = .int i ∧ SqT K H p xs ∧ atI xs i = some v ∧ Q v H
def rIxS : R2 := fun x y H Q => ∃ z i c, x = .str z ∧ y = .int i ∧ z.length ≤ sizeLine ∧ atI z.cps.toList i = some c ∧ Q (.str ⟨#[c]⟩) H
theorem ix_list : IxR X (rIxL X.K) := by
  intro value slice pins s σ H x y v u Q I rx ry h hs
  obtain ⟨p, xs, i, z, rfl, rfl, hq, he, q⟩ := h
  cases rx
  obtain ⟨t, rfl⟩ := ry
  obtain ⟨its, r, pl, hz⟩ := I.list hq
  obtain ⟨j, h1, h2, h3, h4, h5⟩ := atI_get he
  obtain ⟨w, ew, rw'⟩ := r.get h2
  have hl := r.length
  have hn := line63
  have fin : EP X pins σ Q w s := ⟨z, H, I, rw', q⟩
  by_cases h0 : 0 ≤ i
  · have hj : i.toNat = j := by
      rw [seqIndex_of h0 h5] at h1
      exact Option.some.inj h1
    exact item_listR pl.isList h0 (by omega) (by rw [hj]; simpa using ew) fin hs
  · have hj : (i + (its.toArray.size : Int)).toNat = j := by
      rw [seqIndex_neg (by omega) h4] at h1
      rw [List.size_toArray, ← hl]
      exact Option.some.inj h1
    exact subscriptTail_builtinR (x := w) pl.isList.typeIs slot_list_getitem.lookup
      (wpAny_getItem_list_neg (Q := fun r s' => r = w ∧ EP X pins σ Q r s') pl.isList (by omega) (by rw [List.size_toArray] <;> omega) (by omega) (by rw [hj]; simpa using ew) ⟨rfl, fin⟩) hs
theorem ix_tup : IxR X (rIxT X.K) := by
  intro value slice pins s σ H x y v u Q I rx ry h hs
  obtain ⟨p, xs, i, z, rfl, rfl, hq, he, q⟩ := h
  cases rx
  obtain ⟨t, rfl⟩ := ry
  obtain ⟨its, r, pl, hz⟩ := I.tuple hq
  obtain ⟨j, h1, h2, h3, h4, h5⟩ := atI_get he
  obtain ⟨w, ew, rw'⟩ := r.get h2
  have hl := r.length
  have hn := line63
  have fin : EP X pins σ Q w s := ⟨z, H, I, rw', q⟩
  exact subscriptTail_builtinR (x := w) pl.typeIs slot_tuple_getitem.lookup
    (getItem_tuple (j := j) (Q := fun r s' => r = w ∧ EP X pins σ Q r s') pl (by omega) (by omega) (by rw [List.size_toArray, ← hl]; exact h1) (by simpa using ew) ⟨rfl, fin⟩) hs
theorem ix_str : IxR X rIxS := by
  intro value slice pins s σ H x y v u Q I rx ry h hs
  obtain ⟨z, i, c, rfl, rfl, hz, he, q⟩ := h
  obtain ⟨t, rfl⟩ := rx
  obtain ⟨t', rfl⟩ := ry
  obtain ⟨j, h1, h2, h3, h4, h5⟩ := atI_get he
  have hl : z.cps.toList.length = z.length := by simp [Str.length]
  rw [hl] at h1 h4 h5
  have hn := line63
  exact tail_any (typeIs_str s z t) slot_str_getitem.lookup (getItem_str (c := c) (by
    have e1 : decide (i < -(2 ^ 63 : Int)) = false := decide_eq_false (by omega)
    have e2 : decide (i ≥ 2 ^ 63) = false := decide_eq_false (by omega)
    rw [e1, e2, Bool.or_false]) (by rw [h1]; simpa using h2) ⟨.str ⟨#[c]⟩, H, I.tok _, ⟨_, rfl⟩, q⟩) hs
theorem mapSeq_set (its : List Value) (n j : Nat) (u : Value) : Obj.mapSeq (·.setIfInBounds j u) { cls := .type "list", data := .seq its.toArray n } = { cls := .type "list", data := .seq (its.set j u).toArray n } := by
  simp [Obj.mapSeq]
theorem Inv.lst {pins : List (Addr × Obj)} {σ : St} {H : Hp} {s : Shared} {p : Addr} {xs : List V} (I : Inv X pins σ H s) (h : H p = some (.lst xs)) :
    ∃ (its : List Value) (n : Nat), Vals xs its ∧ s.heap.get? p = some { cls := .type "list", data := .seq its.toArray n } ∧ xs.length ≤ sizeLine := by
  obtain ⟨z, its, n, r, e⟩ := I.hok p _ h
  exact ⟨its, n, r, e, z⟩
theorem Inv.lstUpd {pins : List (Addr × Obj)} {σ : St} {H : Hp} {s : Shared} {p : Addr} {xs ys : List V} {its its' : List Value} {n n' : Nat} {f : Obj → Obj} (I : Inv X pins σ H s) (h : H p = some (.lst xs))
    (ho : s.heap.get? p = some { cls := .type "list", data := .seq its.toArray n }) (hf : f { cls := .type "list", data := .seq its.toArray n } = { cls := .type "list", data := .seq its'.toArray n' }) (r : Vals ys its') (hz : ys.length ≤ sizeLine) (t : Nat) :
    Inv X pins σ (upd H p (.lst ys)) { s with heap := s.heap.update p f, toks := t } := by
  have e : (s.heap.update p f).get? p = some { cls := .type "list", data := .seq its'.toArray n' } := by
    rw [Heap.get?_update_self f ho (by rw [hf] <;> rfl), hf]
  refine I.write (x := p) (e := p) (by rw [h]; trivial) (.inl rfl) (fun b u hb q => (Heap.get?_update_other _ _ (Ne.symm hb)).trans q) ⟨_, e⟩ ?_
  exact ⟨hz, its', n', r, e⟩
def rSetL : V → V → V → Hp → (Hp → Prop) → Prop := fun o i v H Q => ∃ p xs k j, o = .ref p ∧ i = .int k ∧ H p = some (.lst xs) ∧ ixN xs.length k = some j ∧ Q (upd H p (.lst (xs.set j v)))
theorem set_list : PSet X rSetL := by
  intro pins s σ H o i v ov iv u Q I ro ri rv h
  obtain ⟨p, xs, k, j, rfl, rfl, hp, hj, q⟩ := h
  cases ro
  obtain ⟨t, rfl⟩ := ri
  obtain ⟨its, n, r, ho, hz⟩ := I.lst hp
  obtain ⟨h1, h2, h3, h4⟩ := ixN_seq hj
  have hl := r.length
  have hn := line63
  have I' : Inv X pins σ (upd H p (.lst (xs.set j v))) { s with heap := s.heap.update p (Obj.mapSeq (·.setIfInBounds j u)) } :=
    I.lstUpd hp ho (mapSeq_set its n j u) (r.set rv j) (by rw [List.length_set]; exact hz) s.toks
  by_cases h0 : 0 ≤ k
  · have hk : k.toNat = j := by
      rw [seqIndex_of h0 h4] at h1
      exact Option.some.inj h1
    exact PySem.W.ki_setAt ho h0 (by omega) (by rw [List.size_toArray, ← hl]; exact h4) (by rw [hk]; exact ⟨_, I', q⟩)
  · have hk : (k + (its.toArray.size : Int)).toNat = j := by
      rw [seqIndex_neg (by omega) h3] at h1
      rw [List.size_toArray, ← hl]
      exact Option.some.inj h1
    exact PySem.W.ki_setBack ho (by omega) (by rw [List.size_toArray, ← hl]; exact h3) (by omega) (by rw [hk]; exact ⟨_, I', q⟩)

theorem slice_bounds (lo hi : Option Int) (n : Nat) : (sliceBounds lo hi none n).1 = ((HT.sIx n 0 lo : Nat) : Int) ∧ (sliceBounds lo hi none n).2.1 = ((HT.sIx n n hi : Nat) : Int) ∧ (sliceBounds lo hi none n).2.2 = 1 := by
  refine ⟨?_, ?_, rfl⟩
  · cases lo with
    | none => simp [sliceBounds, HT.sIx]
    | some i =>
      simp only [sliceBounds, HT.sIx, Option.getD_none, show (1 : Int) > 0 by decide, if_true]
      by_cases h : i < 0
      · simp only [h, if_true] <;> omega
      · simp only [h, if_false] <;> omega
  · cases hi with
    | none => simp [sliceBounds, HT.sIx]
    | some i =>
      simp only [sliceBounds, HT.sIx, Option.getD_none, show (1 : Int) > 0 by decide, if_true]
      by_cases h : i < 0
      · simp only [h, if_true] <;> omega
      · simp only [h, if_false] <;> omega
theorem slicePick_cut (its : List Value) (lo hi : Option Int) : slicePick its.toArray lo hi none = ((its.drop (HT.sIx its.length 0 lo)).take (HT.sIx its.length its.length hi - HT.sIx its.length 0 lo)).toArray := by
  obtain ⟨h1, h2, h3⟩ := slice_bounds lo hi its.toArray.size
  unfold slicePick
  rw [h1, h2, h3]
  simp only [sliceRange_one, pick_run, List.size_toArray] <;> rfl
def rSlL (K : PySem.W.Frag) : V → Option Int → Option Int → Hp → VK → Prop := fun x lo hi H Q => ∃ a xs, x = .ref a ∧ SqL K H a xs ∧ ∀ p, H p = none → Q (.ref p) (upd H p (.lst (cutV xs lo hi)))
theorem sl_list : SlR X (rSlL X.K) := by
  intro pins s σ H x v vl vu lo hi sl Q I rx hs pl pu h
  obtain ⟨a, xs, rfl, hx, q⟩ := h
  cases rx
  obtain ⟨its, r, ht, hz⟩ := I.list hx
  have hlen := r.length
  refine ⟨"list", _, slot_list_getitem.lookup, ht.isList.typeIs, ?_⟩
  refine wpAny_getItem_list_slice ht.isList hs pl pu .none (by simp) ?_ (by rw [List.size_toArray] <;> omega)
  rw [slicePick_cut, ← hlen]
  refine ⟨.ref s.heap.objs.size, _, I.laid (t' := s.toks) (o := .lst (cutV xs lo hi)) (fun b ob q => Heap.get?_push_of_some _ q) (Nat.le_refl _) ?_, rfl, q _ (I.hok.fresh (Nat.le_refl _))⟩
  exact ⟨Nat.le_trans (cutV_length xs lo hi) hz, _, 0, (r.drop (HT.sIx xs.length 0 lo)).take (HT.sIx xs.length xs.length hi - HT.sIx xs.length 0 lo), Heap.get?_push_size _ rfl⟩

def flatV : V → Bool
  | .non => true
  | .bl _ => true
  | .int _ => true
  | .str _ => true
  | _ => false
def eqV : V → V → Bool
  | .non, .non => true
  | .bl a, .bl b => a == b
  | .bl a, .int b => (if a then 1 else 0) == b
  | .int a, .bl b => a == (if b then 1 else 0)
  | .int a, .int b => a == b
  | .str a, .str b => a == b
  | _, _ => false
theorem eqAt_V {A : Around} {s : Shared} {y x : V} {u v : Value} (ry : RelV y u) (rx : RelV x v) (fy : flatV y = true) (fx : flatV x = true) : SeqAt.EqAt A s u v (eqV y x) := by
  cases y with
  | non =>
    cases ry
    cases x with
    | non => cases rx; exact SeqAt.EqAt.same _
    | bl b => cases rx; exact SeqAt.EqAt.none_bool b
    | int b => obtain ⟨t, rfl⟩ := rx; exact SeqAt.EqAt.none_int b t
    | str b => obtain ⟨t, rfl⟩ := rx; exact SeqAt.EqAt.none_str b t
    | _ => exact absurd (show false = true from fx) Bool.false_ne_true
  | bl a =>
    cases ry
    cases x with
    | non => cases rx; exact SeqAt.EqAt.bool_none a
    | bl b => cases rx; exact SeqAt.EqAt.bool_bool a b
    | int b => obtain ⟨t, rfl⟩ := rx; exact SeqAt.EqAt.bool_int a b t
    | str b => obtain ⟨t, rfl⟩ := rx; exact SeqAt.EqAt.bool_str a b t
    | _ => exact absurd (show false = true from fx) Bool.false_ne_true
  | int a =>
    obtain ⟨t', rfl⟩ := ry
    cases x with
    | non => cases rx; exact SeqAt.EqAt.int_none a t'
    | bl b => cases rx; exact SeqAt.EqAt.int_bool a t' b
    | int b => obtain ⟨t, rfl⟩ := rx; exact SeqAt.EqAt.int_int a t' b t
    | str b => obtain ⟨t, rfl⟩ := rx; exact SeqAt.EqAt.int_str a t' b t
    | _ => exact absurd (show false = true from fx) Bool.false_ne_true
  | str a =>
    obtain ⟨t', rfl⟩ := ry
    cases x with
    | non => cases rx; exact SeqAt.EqAt.str_none a t'
    | bl b => cases rx; exact SeqAt.EqAt.str_bool a t' b
    | int b => obtain ⟨t, rfl⟩ := rx; exact SeqAt.EqAt.str_int a t' b t
    | str b => obtain ⟨t, rfl⟩ := rx; exact SeqAt.EqAt.str_str a t' b t
    | _ => exact absurd (show false = true from fx) Bool.false_ne_true
  | _ => exact absurd (show false = true from fy) Bool.false_ne_true
def eqU (x : V) (u : Value) : Bool := match u with
  | .none => eqV .non x
  | .bool b => eqV (.bl b) x
  | .int i _ => eqV (.int i) x
  | .str z _ => eqV (.str z) x
  | _ => false
theorem eqU_of {x y : V} {u : Value} (r : RelV y u) (f : flatV y = true) : eqU x u = eqV y x := by
  cases y with
  | non => cases r; rfl
  | bl b => cases r; rfl
  | int i => obtain ⟨t, rfl⟩ := r; rfl
  | str z => obtain ⟨t, rfl⟩ := r; rfl
  | _ => exact absurd (show false = true from f) Bool.false_ne_true
theorem any_eqU {x : V} : ∀ {xs : List V} {us : List Value}, Vals xs us → xs.all flatV = true → us.any (eqU x) = xs.any fun y => eqV y x
  | _, _, .nil, _ => rfl
  | y :: xs, u :: us, .cons r t, f => by
    rw [List.all_cons, Bool.and_eq_true] at f
    rw [List.any_cons, List.any_cons, eqU_of r f.1, any_eqU t f.2]
theorem mem_eqAt {A : Around} {s : Shared} {x : V} {v : Value} (rx : RelV x v) (fx : flatV x = true) : ∀ {xs : List V} {us : List Value}, Vals xs us → xs.all flatV = true → ∀ u ∈ us, SeqAt.EqAt A s u v (eqU x u)
  | _, _, .nil, _ => fun u hu => by cases hu
  | y :: xs, u :: us, .cons r t, f => fun u' hu => by
    rw [List.all_cons, Bool.and_eq_true] at f
    rcases List.mem_cons.mp hu with rfl | hu
    · rw [eqU_of r f.1]; exact eqAt_V r rx f.1 fx
    · exact mem_eqAt rx fx t f.2 u' hu
def inV (x : V) (xs : List V) : Bool := xs.any fun y => eqV y x
def rIn (K : PySem.W.Frag) (neg : Bool) : R2 := fun x y H Q => ∃ p xs, y = .ref p ∧ (SqL K H p xs ∨ SqT K H p xs) ∧ flatV x = true ∧ xs.all flatV = true ∧ Q (.bl (if neg then !inV x xs else inV x xs)) H
theorem op_notIn_seq : OpR X (compareOp .NotIn) (rIn X.K true) := by
  intro pins s σ H x y v u Q I rx ry h
  obtain ⟨p, xs, rfl, hq, fx, fs, q⟩ := h
  cases ry
  rcases hq with hq | hq
  · obtain ⟨its, r, pl, hz⟩ := I.list hq
    refine SeqAt.notIn_listAt (eqU x) pl.isList (fun w hw => mem_eqAt rx fx r fs w (by simpa using hw)) ⟨.bl _, H, I, rfl, ?_⟩
    rw [show its.toArray.any (eqU x) = its.any (eqU x) by simp, any_eqU r fs]
    exact q
  · obtain ⟨its, r, pl, hz⟩ := I.tuple hq
    refine SeqAt.notIn_tupleAt (eqU x) pl (fun w hw => mem_eqAt rx fx r fs w (by simpa using hw)) ⟨.bl _, H, I, rfl, ?_⟩
    rw [show its.toArray.any (eqU x) = its.any (eqU x) by simp, any_eqU r fs]
    exact q
theorem call_len_seq : CallR X (.builtin "len") (fun xs H Q => ∃ p ys, xs = [.ref p] ∧ (SqL X.K H p ys ∨ SqT X.K H p ys) ∧ Q (.int ys.length) H) := by
  intro pins s σ H xs us Q I r h
  obtain ⟨p, ys, rfl, hq, q⟩ := h
  obtain ⟨u, rfl, rx⟩ := vals1 r
  cases rx
  have hn := line63
  rcases hq with hq | hq
  · obtain ⟨its, r', pl, hz⟩ := I.list hq
    have hlen := r'.length
    exact Calls.call_len_list pl.isList (by simp only [List.size_toArray] <;> omega) ⟨.int ys.length, H, I.tok _, ⟨s.toks + 1, by rw [List.size_toArray, hlen]⟩, q⟩
  · obtain ⟨its, r', pl, hz⟩ := I.tuple hq
    have hlen := r'.length
    exact len_tuple pl (by simp only [List.size_toArray] <;> omega) ⟨.int ys.length, H, I.tok _, ⟨s.toks + 1, by rw [List.size_toArray, hlen]⟩, q⟩
theorem call_len_str : CallR X (.builtin "len") (fun xs H Q => ∃ z, xs = [.str z] ∧ z.length ≤ sizeLine ∧ Q (.int z.length) H) := by
  intro pins s σ H xs us Q I r h
  obtain ⟨z, rfl, hz, q⟩ := h
  obtain ⟨u, rfl, t, rfl⟩ := vals1 r
  have hn := line63
  exact len_str (by omega) ⟨.int z.length, H, I.tok _, ⟨_, rfl⟩, q⟩
theorem call_list_of : CallR X (.type "list") (fun xs H Q => ∃ p ys, xs = [.ref p] ∧ (SqL X.K H p ys ∨ SqT X.K H p ys) ∧ ∀ l, H l = none → Q (.ref l) (upd H l (.lst ys))) := by
  intro pins s σ H xs us Q I r h
  obtain ⟨p, ys, rfl, hq, q⟩ := h
  obtain ⟨u, rfl, rx⟩ := vals1 r
  cases rx
  have fin : ∀ (its : List Value), Vals ys its → ys.length ≤ sizeLine → ∀ (h' : Heap) (c' : Nat), (∀ b o', s.heap.get? b = some o' → h'.get? b = some o') →
      h'.get? s.heap.objs.size = some { cls := .type "list", dict := none, data := .seq its.toArray c', slots := #[] } → EP X pins σ Q (.ref s.heap.objs.size) { s with heap := h' } := fun its r' hz h' c' kp e =>
    ⟨.ref s.heap.objs.size, _, I.laid (t' := s.toks) kp (Nat.le_refl _) (show ObjOk X.prog X.w _ h' _ (.lst ys) from ⟨hz, its, c', r', e⟩), rfl, q _ (I.hok.fresh (Nat.le_refl _))⟩
  rcases hq with hq | hq
  · obtain ⟨its, r', pl, hz⟩ := I.list hq
    have hlen := r'.length
    obtain ⟨o, ho, hc, n, hd⟩ := pl.isList
    exact call_list_seq p (.inl rfl) ho hc hd (fun h' c' kp e => fin its r' hz h' c' kp e) (by simp only [List.size_toArray] <;> omega)
  · obtain ⟨its, r', pl, hz⟩ := I.tuple hq
    have hlen := r'.length
    obtain ⟨o, ho, hc, n, hd⟩ := pl
    exact call_list_seq p (.inr rfl) ho hc hd (fun h' c' kp e => fin its r' hz h' c' kp e) (by simp only [List.size_toArray] <;> omega)
def tyV (K : PySem.W.Frag) (T : String) (x : V) (H : Hp) : Prop := match x with
  | .str _ => T = "str"
  | .int _ => T = "int"
  | .ref p => (T = "list" ∧ ∃ xs, SqL K H p xs) ∨ (T = "tuple" ∧ ∃ o, K.lookup p = some o ∧ o.cls = .type "tuple" ∧ o.dict = none) ∨
      (T = "dict" ∧ ((∃ kvs, H p = some (.dK kvs)) ∨ ∃ kvs, H p = some (.dT kvs))) ∨ (T = "set" ∧ ∃ S n, H p = some (.set S n))
  | _ => False
theorem tyV_is {pins : List (Addr × Obj)} {σ : St} {H : Hp} {s : Shared} {T : String} {x : V} {v : Value} (I : Inv X pins σ H s) (r : RelV x v) (ty : tyV X.K T x H) :
    s.TypeIs v T ∧ ∀ a, v = .ref a → ∃ ob, s.heap.get? a = some ob ∧ ob.dict = none := by
  cases x with
  | str z =>
    obtain ⟨t, rfl⟩ := r
    cases (show T = "str" from ty)
    exact ⟨typeIs_str s z t, fun _ e => nomatch e⟩
  | int i =>
    obtain ⟨t, rfl⟩ := r
    cases (show T = "int" from ty)
    exact ⟨typeIs_int s i t, fun _ e => nomatch e⟩
  | ref p =>
    cases r
    rcases ty with ⟨rfl, xs, hq⟩ | ⟨rfl, o, hk, hc, hd⟩ | ⟨rfl, hk⟩ | ⟨rfl, S, n, hk⟩
    · obtain ⟨its, _, pl, _⟩ := I.list hq
      refine ⟨pl.isList.typeIs, fun a e => ?_⟩
      cases e
      obtain ⟨o, n, e, c, hd, _⟩ := pl
      exact ⟨o, e, hd⟩
    · refine ⟨⟨o, I.kIn p o hk, hc⟩, fun a e => ?_⟩
      cases e
      exact ⟨o, I.kIn _ o hk, hd⟩
    · have z : ∃ o, s.heap.get? p = some o ∧ o.ExactDict := by
        rcases hk with ⟨kvs, hk⟩ | ⟨kvs, hk⟩
        · obtain ⟨_, _, _, _, o, _, _, e, ex, _⟩ := I.hok p _ hk
          exact ⟨o, e, ex⟩
        · obtain ⟨_, _, _, _, o, _, _, e, ex, _⟩ := I.hok p _ hk
          exact ⟨o, e, ex⟩
      obtain ⟨o, e, ex⟩ := z
      refine ⟨⟨o, e, ex.1⟩, fun a e2 => ?_⟩
      cases e2
      exact ⟨o, e, ex.2.1⟩
    · obtain ⟨o, _, _, _, e, ex, _⟩ := I.hok p _ hk
      refine ⟨⟨o, e, ex.1⟩, fun a e2 => ?_⟩
      cases e2
      exact ⟨o, e, ex.2.1⟩
  | _ => exact False.elim ty
def tBM0 (K : PySem.W.Frag) (T : String) (r : V → List V → Hp → VK → Prop) (to : TE) : TE := fun σ H Q => to σ H fun x H1 => tyV K T x H1 ∧ r x [] H1 Q
def tBM (K : PySem.W.Frag) (T : String) (r : V → List V → Hp → VK → Prop) (to : TE) (t : TA) : TE := fun σ H Q => to σ H fun x H1 => tyV K T x H1 ∧ t σ H1 fun xs H2 => r x xs H2 Q
variable {o e : Expr} {es : List Expr} {to : TE} {t : TA} {name : Str} {apos cpos : Pos} {T id : String} {r : V → List V → Hp → VK → Prop}
theorem pe_bm0 (pa : PlainAttrs T) (slot : Slot T name id) (hty : typeOf (.builtin id) = pure (.type "method_descriptor")) (hm : MtR X id r) (ho : PE X o to)
    (hbase : attributeBase o name X.env (eval o X.env) = eval o X.env := by rfl) (hline : (apos.endLine == cpos.line) = true := by rfl) : PE X (.Call (.Attribute o name apos) [] [] cpos) (tBM0 X.K T r to) := by
  constructor
  intro pins s σ H Q I h
  refine wpAny_Call_method0_late hbase hline (thn (ho pins s σ H _ I h) fun v s1 ⟨x, H1, I1, r1, ty, q1⟩ => ?_)
  obtain ⟨h1, h2⟩ := tyV_is I1 r1 ty
  exact ⟨T, id, pa, slot, hty, h1, h2, Calls.callWith_builtin rfl (PySem.evalArgs_none (hm pins s1 σ H1 x [] v [] Q I1 r1 .nil q1))⟩
theorem pe_bm (pa : PlainAttrs T) (slot : Slot T name id) (hty : typeOf (.builtin id) = pure (.type "method_descriptor")) (hm : MtR X id r) (ho : PE X o to) (ha : PA X (e :: es) t)
    (hbase : attributeBase o name X.env (eval o X.env) = eval o X.env := by rfl)
    (hfew : ((backTo cpos (starEach (e :: es) X.env)).all (fun x => !x.1) && (backToKw cpos (keywordEach [] X.env)).all (fun x => x.1.isSome)
      && decide ((e :: es).length + ([] : List Keyword).length + (if ([] : List Keyword).isEmpty then 0 else 1) < 30)) = true := by rfl)
    (hline : (apos.endLine == cpos.line) = true := by rfl) (hs : starEach (e :: es) X.env = (false, eval e X.env) :: starEach es X.env := by rfl) (hplain : (backTo cpos (starEach es X.env)).any (·.1) = false := by rfl) :
    PE X (.Call (.Attribute o name apos) (e :: es) [] cpos) (tBM X.K T r to t) := by
  constructor
  intro pins s σ H Q I h
  refine wpAny_Call_method_late hbase hfew hline rfl (thn (ho pins s σ H _ I h) fun v s1 ⟨x, H1, I1, r1, ty, q1⟩ => ?_)
  obtain ⟨h1, h2⟩ := tyV_is I1 r1 ty
  refine ⟨T, id, pa, slot, hty, h1, h2, ?_⟩
  have hA := ha cpos pins s1 σ H1 _ I1 q1
  rw [hs] at hA ⊢
  refine Calls.callWith_builtin (by show (false || (backTo cpos (starEach es X.env)).any (·.1)) = false; rw [hplain] <;> rfl) (Calls.evalArgs_plain ?_)
  exact thn hA fun us s2 ⟨vs, H2, I2, r2, q2⟩ => hm pins s2 σ H2 x vs v us Q I2 r1 r2 q2
/- xs.append(e), list.index on a module's tuple .. are MtR facts of 06m -/
end
end L2

namespace L2
open PySem PySem.Spec PyProof.Rows

def MtM (X : Cx) (id : String) (r : V → List V → Hp → VK → Prop) : Prop :=
  ∀ (pins : List (Addr × Obj)) (s : Shared) (σ : St) (H : Hp) (x : V) (xs : List V) (v : Value) (us : List Value) (Q : VK), Inv X pins σ H s → RelV x v → Vals xs us → r x xs H Q →
    wpAny (model X.prog X.w) X.A (call (.builtin id) (v :: us)) (EP X pins σ Q) X.xe s

theorem Vals.one : ∀ {x : V} {us : List Value}, Vals [x] us → ∃ u, us = [u] ∧ RelV x u
  | _, _, .cons r .nil => ⟨_, rfl, r⟩
theorem Vals.zero : ∀ {us : List Value}, Vals [] us → us = []
  | _, .nil => rfl
theorem Vals.eraseIdx : ∀ {xs : List V} {us : List Value} (i : Nat), Vals xs us → Vals (xs.eraseIdx i) (us.eraseIdx i)
  | _, _, _, .nil => .nil
  | _, _, 0, .cons _ t => t
  | _, _, i + 1, .cons r t => .cons r (Vals.eraseIdx i t)
theorem Vals.reverse {xs : List V} {us : List Value} (h : Vals xs us) : Vals xs.reverse us.reverse := by
  induction h with
  | nil => exact .nil
  | cons r t ih => rw [List.reverse_cons, List.reverse_cons]; exact Vals.append ih (.cons r .nil)
section
variable {X : Cx} {pins : List (Addr × Obj)} {σ : St} {H : Hp} {s : Shared} {l b : Addr} {xs ys zs : List V}

theorem Inv.lset {its its' : List Value} {n : Nat} {f : Array Value → Array Value} {t' : Nat} (I : Inv X pins σ H s) (hH : H l = some (.lst xs))
    (e : s.heap.get? l = some { cls := .type "list", data := .seq its.toArray n }) (hf : f its.toArray = its'.toArray) (hv : Vals ys its') (hz : ys.length ≤ sizeLine) :
    Inv X pins σ (upd H l (.lst ys)) { s with heap := s.heap.update l (Obj.mapSeq f), toks := t' } := by
  have q := PySem.IsL.update e f
  rw [hf] at q
  refine I.write (x := l) (e := l) (by rw [hH]; exact trivial) (.inl rfl) (fun b' u hb hu => (Heap.get?_update_other s.heap (Obj.mapSeq f) (Ne.symm hb)).trans hu) ⟨_, q⟩ ?_
  exact ⟨hz, its', _, hv, q⟩
theorem Inv.lnew {its : List Value} {t' : Nat} (I : Inv X pins σ H s) (hv : Vals ys its) (hz : ys.length ≤ sizeLine) :
    Inv X pins σ (upd H s.heap.objs.size (.lst ys)) { s with heap := s.heap.push { cls := .type "list", data := .seq its.toArray }, toks := t' } :=
  I.laid (fun _ _ q => Heap.get?_push_of_some _ q) (Nat.le_refl _) ⟨hz, its, 0, hv, Heap.get?_push_size _ rfl⟩
theorem Inv.fresh (I : Inv X pins σ H s) : H s.heap.objs.size = none := I.hok.fresh (Nat.le_refl _)
theorem Inv.lstM (I : Inv X pins σ H s) (hH : H l = some (.lst xs)) : xs.length ≤ sizeLine ∧ ∃ (its : List Value) (n : Nat), Vals xs its ∧ xs.length = its.length ∧ s.heap.get? l = some { cls := .type "list", data := .seq its.toArray n } := by
  obtain ⟨z, its, n, r, e⟩ := I.hok l _ hH
  exact ⟨z, its, n, r, r.length, e⟩

theorem notLongL {n : Nat} (h : n ≤ sizeLine) : Builtin.List.listTooLong n = false := by
  unfold Builtin.List.listTooLong
  exact decide_eq_false (by omega)
end

section
variable {X : Cx}

def rAppend : V → List V → Hp → VK → Prop := fun x vs H Q => ∃ l xs y, x = .ref l ∧ vs = [y] ∧ H l = some (.lst xs) ∧ xs.length < sizeLine ∧ Q .non (upd H l (.lst (xs ++ [y])))
theorem mt_append : MtM X "list.append" rAppend := by
  intro pins s σ H x vs v us Q I rx rv h
  obtain ⟨l, xs, y, rfl, rfl, hH, hz, q⟩ := h
  cases rx
  obtain ⟨u, rfl, ru⟩ := rv.one
  obtain ⟨z, its, n, r, hl, e⟩ := I.lstM hH
  refine call_meets F.slot_list_append ⟨_, e, rfl⟩ F.entry_list_append (F.args_list_append_2 _ _) (PySem.list_append l its.toArray n u (by rw [List.size_toArray]; omega)) ⟨e, ?_⟩
  refine ⟨.non, _, I.lset (its' := its ++ [u]) hH e (by simp) (r.append (.cons ru .nil)) ?_, rfl, q⟩
  rw [List.length_append, List.length_singleton]
  omega

def rExtend : V → List V → Hp → VK → Prop := fun x vs H Q => ∃ l b xs zs, x = .ref l ∧ vs = [.ref b] ∧ H l = some (.lst xs) ∧ H b = some (.lst zs) ∧ xs.length + zs.length ≤ sizeLine ∧ Q .non (upd H l (.lst (xs ++ zs)))
theorem mt_extend : MtM X "list.extend" rExtend := by
  intro pins s σ H x vs v us Q I rx rv h
  obtain ⟨l, b, xs, zs, rfl, rfl, hH, hB, hz, q⟩ := h
  cases rx
  obtain ⟨u, rfl, ru⟩ := rv.one
  cases ru
  obtain ⟨z, its, n, r, hl, e⟩ := I.lstM hH
  obtain ⟨z2, its2, n2, r2, hl2, e2⟩ := I.lstM hB
  have hsz : its.toArray.size + its2.toArray.size ≤ sizeLine := by rw [List.size_toArray, List.size_toArray]; omega
  have hlong : ¬ (!its.toArray.isEmpty && Builtin.List.listTooLong (its.toArray.size + its2.toArray.size)) = true := by
    rw [notLongL hsz, Bool.and_false]
    exact Bool.false_ne_true
  refine call_meets F.slot_list_extend ⟨_, e, rfl⟩ F.entry_list_extend (F.args_list_extend_2 _ _)
    (AutoSeq1.list_extend_list_list_0 l its.toArray n b its2.toArray n2 hlong (by rw [List.size_toArray]; omega) (by omega)) ⟨e, e2, ?_⟩
  refine ⟨.non, _, I.lset (its' := its ++ its2) hH e (by simp) (r.append r2) ?_, rfl, q⟩
  rw [List.length_append]
  omega

def rClear : V → List V → Hp → VK → Prop := fun x vs H Q => ∃ l xs, x = .ref l ∧ vs = [] ∧ H l = some (.lst xs) ∧ Q .non (upd H l (.lst []))
theorem mt_clear : MtM X "list.clear" rClear := by
  intro pins s σ H x vs v us Q I rx rv h
  obtain ⟨l, xs, rfl, rfl, hH, q⟩ := h
  cases rx
  have hus := rv.zero
  subst hus
  obtain ⟨z, its, n, r, hl, e⟩ := I.lstM hH
  refine call_meets F.slot_list_clear ⟨_, e, rfl⟩ F.entry_list_clear (F.args_list_clear_1 _) (AutoSeq1.list_clear_list_0 l its.toArray n (by rw [List.size_toArray]; omega)) ⟨e, ?_⟩
  exact ⟨.non, _, I.lset (its' := []) (ys := []) hH e rfl .nil (Nat.zero_le _), rfl, q⟩

def rCat : R2 := fun x y H Q => ∃ l b xs zs, x = .ref l ∧ y = .ref b ∧ H l = some (.lst xs) ∧ H b = some (.lst zs) ∧ xs.length + zs.length ≤ sizeLine ∧ ∀ p, H p = none → Q (.ref p) (upd H p (.lst (xs ++ zs)))
theorem op_cat : OpR X (binaryOp .Add) rCat := by
  intro pins s σ H x y v u Q I rx ry h
  obtain ⟨l, b, xs, zs, rfl, rfl, hH, hB, hz, q⟩ := h
  cases rx
  cases ry
  obtain ⟨z, its, n, r, hl, e⟩ := I.lstM hH
  obtain ⟨z2, its2, n2, r2, hl2, e2⟩ := I.lstM hB
  refine PySem.P.add_list e e2 ?_ (by rw [List.size_toArray, List.size_toArray]; omega)
  have ea : its.toArray ++ its2.toArray = (its ++ its2).toArray := by simp
  rw [ea]
  exact ⟨.ref _, _, I.lnew (t' := s.toks) (r.append r2) (by rw [List.length_append]; omega), rfl, q _ I.fresh⟩
end

section
variable {prog : Program} {w : World} {A : Around} {E : Value → Shared → Prop} {s : Shared}
end

section
variable {X : Cx}
end
end L2

namespace L2
open PySem PySem.Spec PyProof.Rows

section
variable {κ : Type} [DecidableEq κ]
def valV (kvs : List (κ × V)) (k : κ) : Option V := (kvs.find? fun kv => decide (kv.1 = k)).map (·.2)
def putK (kvs : List (κ × V)) (k : κ) (v : V) : List (κ × V) :=
  if (kvs.any fun kv => decide (kv.1 = k)) = true then kvs.map (fun kv => if kv.1 = k then (kv.1, v) else kv) else kvs ++ [(k, v)]
def dropK (kvs : List (κ × V)) (k : κ) : List (κ × V) := kvs.filter fun kv => decide (kv.1 ≠ k)

theorem valV_nil {k : κ} : valV ([] : List (κ × V)) k = none := rfl
theorem valV_pos {p : κ × V} {r : List (κ × V)} {k : κ} (e : p.1 = k) : valV (p :: r) k = some p.2 := by simp [valV, List.find?_cons, e]
theorem valV_neg {p : κ × V} {r : List (κ × V)} {k : κ} (e : ¬ p.1 = k) : valV (p :: r) k = valV r k := by simp [valV, List.find?_cons, e]
theorem valV_any (k : κ) : ∀ kvs : List (κ × V), (kvs.any fun kv => decide (kv.1 = k)) = (valV kvs k).isSome
  | [] => rfl
  | p :: r => by
    rw [List.any_cons]
    by_cases e : p.1 = k
    · simp only [valV_pos e, decide_eq_true e, Bool.true_or, Option.isSome_some]
    · rw [valV_neg e, decide_eq_false e, Bool.false_or]; exact valV_any k r
theorem length_putK (kvs : List (κ × V)) (k : κ) (v : V) : (putK kvs k v).length ≤ kvs.length + 1 := by
  unfold putK
  split
  · rw [List.length_map]; omega
  · rw [List.length_append, List.length_cons, List.length_nil]; omega
theorem putK_new {kvs : List (κ × V)} {k : κ} (v : V) (h : valV kvs k = none) : putK kvs k v = kvs ++ [(k, v)] := by
  unfold putK
  rw [valV_any, h]
  exact if_neg (by decide)

theorem RelO.isSome_eq {o : Option V} {u : Option Value} (r : RelO o u) : o.isSome = u.isSome := by
  cases o with
  | none => cases u with
    | none => rfl
    | some _ => exact (show False from r).elim
  | some _ => cases u with
    | none => exact (show False from r).elim
    | some _ => rfl
theorem RelO.getD {o : Option V} {u : Option Value} {d : V} {d' : Value} (r : RelO o u) (rd : RelV d d') : RelV (o.getD d) (u.getD d') := by
  cases o with
  | none => cases u with
    | none => exact rd
    | some _ => exact (show False from r).elim
  | some _ => cases u with
    | none => exact (show False from r).elim
    | some _ => exact r

theorem KV.val {kvs : List (κ × V)} {vs : List (κ × Value)} (r : KV kvs vs) (k : κ) : RelO (valV kvs k) (valueAt vs k) := by
  unfold KV at r
  induction r with
  | nil => exact True.intro
  | @cons p q ps qs h t ih =>
    obtain ⟨h1, h2⟩ := h
    by_cases e : p.1 = k
    · have e' : q.1 = k := h1.symm.trans e
      have b : valueAt (q :: qs) k = some q.2 := by simp [valueAt, List.find?_cons, e']
      rw [valV_pos e, b]; exact h2
    · have e' : ¬ q.1 = k := fun z => e (h1.trans z)
      have b : valueAt (q :: qs) k = valueAt qs k := by simp [valueAt, List.find?_cons, e']
      rw [valV_neg e, b]; exact ih
theorem KV.any {kvs : List (κ × V)} {vs : List (κ × Value)} (r : KV kvs vs) (k : κ) : (kvs.any fun kv => decide (kv.1 = k)) = vs.any fun kv => decide (kv.1 = k) := by
  unfold KV at r
  induction r with
  | nil => rfl
  | cons h t ih => rw [List.any_cons, List.any_cons, ih, h.1]
theorem KV.repl {kvs : List (κ × V)} {vs : List (κ × Value)} (r : KV kvs vs) (k : κ) {y : V} {u : Value} (ry : RelV y u) :
    KV (kvs.map fun kv => if kv.1 = k then (kv.1, y) else kv) (vs.map fun kv => if kv.1 = k then (kv.1, u) else kv) := by
  unfold KV at r ⊢
  induction r with
  | nil => exact .nil
  | @cons p q ps qs h t ih =>
    rw [List.map_cons, List.map_cons]
    refine .cons ?_ ih
    obtain ⟨h1, h2⟩ := h
    by_cases e : p.1 = k
    · rw [if_pos e, if_pos (h1.symm.trans e)]; exact ⟨h1, ry⟩
    · rw [if_neg e, if_neg (fun z => e (h1.trans z))]; exact ⟨h1, h2⟩
theorem KV.put {kvs : List (κ × V)} {vs : List (κ × Value)} (r : KV kvs vs) (k : κ) {y : V} {u : Value} (ry : RelV y u) : KV (putK kvs k y) (stored vs k u) := by
  unfold putK stored
  rw [r.any k]
  by_cases e : (vs.any fun kv => decide (kv.1 = k)) = true
  · rw [if_pos e, if_pos e]; exact r.repl k ry
  · rw [if_neg e, if_neg e]; exact Paired.snoc r ⟨rfl, ry⟩
theorem KV.drop {kvs : List (κ × V)} {vs : List (κ × Value)} (r : KV kvs vs) (k : κ) : KV (dropK kvs k) (without vs k) := by
  unfold KV at r ⊢
  unfold dropK without
  induction r with
  | nil => exact .nil
  | @cons p q ps qs h t ih =>
    obtain ⟨h1, h2⟩ := h
    rw [List.filter_cons, List.filter_cons]
    by_cases e : p.1 = k
    · have a : ¬ decide (p.1 ≠ k) = true := by simp [e]
      have b : ¬ decide (q.1 ≠ k) = true := by simp [h1.symm.trans e]
      rw [if_neg a, if_neg b]; exact ih
    · have e' : ¬ q.1 = k := fun z => e (h1.trans z)
      have a : decide (p.1 ≠ k) = true := by simp [e]
      have b : decide (q.1 ≠ k) = true := by simp [e']
      rw [if_pos a, if_pos b]; exact .cons ⟨h1, h2⟩ ih
theorem KV.keys {kvs : List (κ × V)} {vs : List (κ × Value)} (r : KV kvs vs) : kvs.map (·.1) = vs.map (·.1) := by
  unfold KV at r
  induction r with
  | nil => rfl
  | cons h t ih => rw [List.map_cons, List.map_cons, ih, h.1]
theorem KV.length {kvs : List (κ × V)} {vs : List (κ × Value)} (r : KV kvs vs) : kvs.length = vs.length := Paired.length r
end


theorem kV_is {P : Program} {w : World} {k : Key} {u : Value} (r : RelV (kV k) u) : (mixKind P w).is k u = true := by
  cases k with
  | inl i => obtain ⟨t, e⟩ := (show ∃ t, u = Value.int i t from r); subst e; exact mixKind_int P w i t
  | inr x => obtain ⟨t, e⟩ := (show ∃ t, u = Value.str x t from r); subst e; exact mixKind_str P w x t
theorem items_are {P : Program} {w : World} : ∀ {ks : List Key} {us : List Value}, Vals (ks.map kV) us → ItemsAre (mixKind P w) ks us
  | [], _, r => by rw [List.map_nil] at r; cases r; exact .nil
  | k :: ks, _, r => by
    rw [List.map_cons] at r
    cases r with
    | cons h t => exact .cons (kV_is h) (items_are t)

abbrev KT (H : Hp) : List (List Key × V) → List (List Key × Addr × Value) → Prop := Paired fun p q => p.1 = q.1 ∧ H q.2.1 = some (.tup (p.1.map kV)) ∧ RelV p.2 q.2.2
theorem KT.val {H : Hp} {kvs : List (List Key × V)} {xs : List (List Key × Addr × Value)} (r : KT H kvs xs) (k : List Key) : RelO (valV kvs k) ((atKey xs k).map (·.2)) := by
  induction r with
  | nil => exact True.intro
  | @cons p q ps qs h t ih =>
    obtain ⟨h1, _, h2⟩ := h
    by_cases e : p.1 = k
    · have e' : q.1 = k := h1.symm.trans e
      have b : atKey (q :: qs) k = some q.2 := by simp [atKey, List.find?_cons, e']
      rw [valV_pos e, b]; exact h2
    · have e' : ¬ q.1 = k := fun z => e (h1.trans z)
      have b : atKey (q :: qs) k = atKey qs k := by simp [atKey, List.find?_cons, e']
      rw [valV_neg e, b]; exact ih
theorem KT.repl {H : Hp} {kvs : List (List Key × V)} {xs : List (List Key × Addr × Value)} (r : KT H kvs xs) (k : List Key) {y : V} {u : Value} (ry : RelV y u) :
    KT H (kvs.map fun kv => if kv.1 = k then (kv.1, y) else kv) (xs.map (putAt k u)) := by
  induction r with
  | nil => exact .nil
  | @cons p q ps qs h t ih =>
    rw [List.map_cons, List.map_cons]
    refine .cons ?_ ih
    obtain ⟨h1, h2, h3⟩ := h
    unfold putAt
    by_cases e : p.1 = k
    · rw [if_pos e, if_pos (h1.symm.trans e)]; exact ⟨h1, h2, ry⟩
    · rw [if_neg e, if_neg (fun z => e (h1.trans z))]; exact ⟨h1, h2, h3⟩
theorem KT.put {H : Hp} {kvs : List (List Key × V)} {xs : List (List Key × Addr × Value)} (r : KT H kvs xs) (k : List Key) {b : Addr} {y : V} {u : Value} (hb : H b = some (.tup (k.map kV))) (ry : RelV y u) :
    KT H (putK kvs k y) (storedH xs k b u) := by
  have e : (kvs.any fun kv => decide (kv.1 = k)) = (atKey xs k).isSome := by
    rw [valV_any, (r.val k).isSome_eq, Option.isSome_map]
  unfold putK storedH
  rw [e]
  by_cases q : (atKey xs k).isSome = true
  · rw [if_pos q, if_pos q]; exact r.repl k ry
  · rw [if_neg q, if_neg q]; exact Paired.snoc r ⟨rfl, hb, ry⟩
theorem KT.keeps {H H' : Hp} {kvs : List (List Key × V)} {xs : List (List Key × Addr × Value)} (r : KT H kvs xs) (ht : ∀ b ys, H b = some (.tup ys) → H' b = some (.tup ys)) : KT H' kvs xs :=
  Paired.mapP r fun _ _ z => ⟨z.1, ht _ _ z.2.1, z.2.2⟩

section
variable {P : Program} {w : World} {H : Hp} {h : Heap} {a : Addr}
theorem rd_of {u : HO} (ok : HOk P w H h) (e : Rd H a u) : ObjOk P w H h a u := e.ok ok
theorem dk_rd {kvs : List (Key × V)} (ok : HOk P w H h) (e : Rd H a (.dK kvs)) : kvs.length ≤ sizeLine ∧ (a == sysModules) = false ∧ ∃ vs, KV kvs vs ∧ h.DictOf (mixKind P w) a vs :=
  show ObjOk P w H h a (.dK kvs) from rd_of ok e
theorem dk_of {kvs : List (Key × V)} (ok : HOk P w H h) (e : H a = some (.dK kvs)) : kvs.length ≤ sizeLine ∧ (a == sysModules) = false ∧ ∃ vs, KV kvs vs ∧ h.DictOf (mixKind P w) a vs := dk_rd ok (.inl e)
theorem key_of {ks : List Key} (ok : HOk P w H h) (e : H a = some (.tup (ks.map kV))) : (tupleKind (mixKind P w)).is h ks a := by
  obtain ⟨_, its, r, o, h1, h2, n, h3⟩ := (show ObjOk P w H h a (.tup (ks.map kV)) from ok a _ e)
  exact ⟨o, its.toArray, n, h1, h2, h3, by simpa using items_are r⟩
theorem dt_rd {kvs : List (List Key × V)} (ok : HOk P w H h) (e : Rd H a (.dT kvs)) : kvs.length ≤ sizeLine ∧ (a == sysModules) = false ∧
    ∃ xs, KT H kvs xs ∧ h.DictOfH (tupleKind (mixKind P w)) a xs := by
  obtain ⟨z, y, xs, r, o, es, ep, h1, h2, h3, h4, h5⟩ := (show ObjOk P w H h a (.dT kvs) from rd_of ok e)
  refine ⟨z, y, xs, r, o, es, ep, h1, h2, h3, h4, fun x hx => ?_, h5⟩
  have all : ∀ {l : List (List Key × V)} {m : List (List Key × Addr × Value)}, KT H l m → ∀ x ∈ m, (tupleKind (mixKind P w)).is h x.1 x.2.1 := by
    intro l m q
    induction q with
    | nil => intro x hx; exact nomatch hx
    | @cons p q ps qs hq t ih =>
      intro x hx
      rcases List.mem_cons.mp hx with e | hx
      · subst e
        exact key_of ok (by rw [← hq.1]; exact hq.2.1)
      · exact ih x hx
  exact all r x hx
theorem dt_of {kvs : List (List Key × V)} (ok : HOk P w H h) (e : H a = some (.dT kvs)) : kvs.length ≤ sizeLine ∧ (a == sysModules) = false ∧
    ∃ xs, KT H kvs xs ∧ h.DictOfH (tupleKind (mixKind P w)) a xs := dt_rd ok (.inl e)
end

def DGet (H : Hp) (a : Addr) (y : V) (r : Option V) : Prop :=
  (∃ kvs k, Rd H a (.dK kvs) ∧ y = kV k ∧ r = valV kvs k) ∨ ∃ kvs k b, Rd H a (.dT kvs) ∧ y = .ref b ∧ H b = some (.tup (k.map kV)) ∧ r = valV kvs k
def DPut (H : Hp) (a : Addr) (y v : V) (H' : Hp) : Prop :=
  (∃ kvs k, H a = some (.dK kvs) ∧ y = kV k ∧ kvs.length < sizeLine ∧ H' = upd H a (.dK (putK kvs k v))) ∨
  ∃ kvs k b, H a = some (.dT kvs) ∧ y = .ref b ∧ H b = some (.tup (k.map kV)) ∧ kvs.length < sizeLine ∧ H' = upd H a (.dT (putK kvs k v))
theorem DGet.k {H : Hp} {a : Addr} {kvs : List (Key × V)} {k : Key} (e : H a = some (.dK kvs)) : DGet H a (kV k) (valV kvs k) := .inl ⟨kvs, k, .inl e, rfl, rfl⟩
theorem DGet.t {H : Hp} {a b : Addr} {kvs : List (List Key × V)} {k : List Key} (e : H a = some (.dT kvs)) (eb : H b = some (.tup (k.map kV))) : DGet H a (.ref b) (valV kvs k) := .inr ⟨kvs, k, b, .inl e, rfl, eb, rfl⟩
theorem DPut.k {H : Hp} {a : Addr} {kvs : List (Key × V)} {k : Key} {v : V} (e : H a = some (.dK kvs)) (hl : kvs.length < sizeLine) : DPut H a (kV k) v (upd H a (.dK (putK kvs k v))) := .inl ⟨kvs, k, e, rfl, hl, rfl⟩
theorem DPut.t {H : Hp} {a b : Addr} {kvs : List (List Key × V)} {k : List Key} {v : V} (e : H a = some (.dT kvs)) (eb : H b = some (.tup (k.map kV))) (hl : kvs.length < sizeLine) :
    DPut H a (.ref b) v (upd H a (.dT (putK kvs k v))) := .inr ⟨kvs, k, b, e, rfl, eb, hl, rfl⟩


section
variable {X : Cx} {pins : List (Addr × Obj)} {σ : St} {H : Hp} {s : Shared} {a : Addr} {y v : V} {u r : Value} {o : Option V} {A : Around} {E : Value → Shared → Prop}

theorem Inv.big (I : Inv X pins σ H s) : sysModules < s.heap.objs.size := by
  have h : mainGlobals < s.heap.objs.size := (I.mod.glob.keeps I.bk).lt
  exact Nat.lt_trans (by decide) h

theorem d_getItem {Q : Value → Shared → Prop} (hu : A.units + 1 < cLine) (I : Inv X pins σ H s) (g : DGet H a y (some v)) (ry : RelV y u) (h : ∀ w' s', Inv X pins σ H s' → RelV v w' → Q w' s') :
    wpAny (model X.prog X.w) A (getItem (.ref a) u) Q E s := by
  rcases g with ⟨kvs, k, e, ey, l⟩ | ⟨kvs, k, b, e, ey, eb, l⟩
  · subst ey
    obtain ⟨z, hd, vs, rel, dd⟩ := dk_rd I.hok e
    obtain ⟨w', hw, rw'⟩ := RelO.some_of (v := v) (o := valueAt vs k) (by rw [l]; exact rel.val k)
    exact wpAny_getItem_of (kV_is ry) dd.mapOf hw (h w' _ (I.tok _) rw')
  · subst ey
    cases (show u = Value.ref b from ry)
    obtain ⟨z, hd, xs, rel, dd⟩ := dt_rd I.hok e
    obtain ⟨w', hw, rw'⟩ := RelO.some_of (v := v) (o := (atKey xs k).map (·.2)) (by rw [l]; exact rel.val k)
    obtain ⟨p, hp, hp2⟩ := Option.map_eq_some_iff.mp hw
    refine wpAny_getItem_heap (tupleKind_room_in1 hu) (key_of I.hok eb) dd hp ?_
    rw [hp2]
    exact h w' _ (I.tok _) rw'
theorem d_write {h' : Heap} {t' : Nat} {ob : HO} (I : Inv X pins σ H s) (mu : Mut (H a)) (hs : Heap.SameBut a s.heap h') (he : ∃ q, h'.get? a = some q) (new : ObjOk X.prog X.w (upd H a ob) h' a ob) :
    Inv X pins σ (upd H a ob) { s with heap := h', toks := t' } :=
  I.write (x := a) (e := a) mu (.inl rfl) (fun b q hb z => (hs.2 b hb).trans z) he new
theorem dk_new {P : Program} {w : World} {H' : Hp} {h' : Heap} {kvs : List (Key × V)} {vs : List (Key × Value)} (z : kvs.length ≤ sizeLine) (hd : (a == sysModules) = false) (rel : KV kvs vs) (dd : h'.DictOf (mixKind P w) a vs) :
    ObjOk P w H' h' a (.dK kvs) := ⟨z, hd, vs, rel, dd⟩
theorem d_setItem {H' : Hp} {Q : Unit → Shared → Prop} (hu : A.units + 1 < cLine) (I : Inv X pins σ H s) (g : DPut H a y v H') (ry : RelV y u) (rv : RelV v r) (h : ∀ s', Inv X pins σ H' s' → Q () s') :
    wpAny (model X.prog X.w) A (setItem (.ref a) u r) Q E s := by
  rcases g with ⟨kvs, k, e, ey, l, eH⟩ | ⟨kvs, k, b, e, ey, eb, l, eH⟩
  · subst ey eH
    obtain ⟨z, hd, vs, rel, dd⟩ := dk_of I.hok e
    have hz : vs.length ≤ sizeLine := by rw [← rel.length]; exact z
    have hl : (putK kvs k v).length ≤ sizeLine := by have := length_putK kvs k v; omega
    refine wpAny_setItem_pairs (hsz := hz) (kV_is ry) dd fun h' dd' hs => h _ ?_
    have he : ∃ q, h'.get? a = some q := let ⟨q, _, _, hq, _⟩ := dd'; ⟨q, hq⟩
    exact d_write I (by rw [e]; exact True.intro) hs he (dk_new hl hd (rel.put k rv) dd')
  · subst ey eH
    cases (show u = Value.ref b from ry)
    obtain ⟨z, hd, xs, rel, dd⟩ := dt_of I.hok e
    have hz : xs.length ≤ sizeLine := by rw [← Paired.length rel]; exact z
    have hl : (putK kvs k v).length ≤ sizeLine := by have := length_putK kvs k v; omega
    refine wpAny_setItem_heap (hsz := hz) (tupleKind_room_in1 hu) (key_of I.hok eb) dd fun h' dd' hs => h _ ?_
    obtain ⟨q, es, ep, hq, h2, h3, h4, _, h5⟩ := dd'
    refine d_write I (by rw [e]; exact True.intro) hs ⟨q, hq⟩ ⟨hl, hd, _, (rel.put k eb rv).keeps fun c ys ec => ?_, q, es, ep, hq, h2, h3, h4, h5⟩
    rw [upd_ne (ne_of ec e (fun z => nomatch z))]
    exact ec
end

section
variable {X : Cx} {pins : List (Addr × Obj)} {σ : St} {H : Hp} {s : Shared} {a : Addr} {kvs : List (Key × V)} {k : Key} {u : Value} {A : Around} {E : Value → Shared → Prop}
end


def NoSl (i : Expr) : Prop := ∀ ov iv, subscripted i false ov iv = operate [ov, iv] (getItem ov iv)
theorem subD_of {prog : Program} {w : World} {A : Around} {E : Value → Shared → Prop} {s : Shared} {env : Env} {value slice : Expr} {pos : Pos} {T id : String} {Q : Value → Shared → Prop}
    (hl : typeLookup (.type T) "__getitem__" = pure (some (.builtin id))) (hs : NoSl slice)
    (h : wpAny (model prog w) A (eval value env) (fun o s₁ => wpAny (model prog w) A (eval slice env) (fun i s₂ => s₂.TypeIs o T ∧ wpAny (model prog w) A (getItem o i) Q E s₂) E s₁) E s) :
    wpAny (model prog w) A (eval (.Subscript value slice pos) env) Q E s := by
  refine Subscript_ (wpAny_mono h (fun o s₁ h₁ => wpAny_mono h₁ (fun i s₂ h₂ => ?_) fun _ _ x => x) fun _ _ x => x)
  obtain ⟨hT, h₂⟩ := h₂
  unfold subscriptTail
  refine wpAny_bind ?_
  rw [getitemInPython_of_ne hT.not_modules]
  refine wpAny_bind (wpAny_specialOf hT hl ?_)
  have fin : wpAny (model prog w) A (subscripted slice false o i) (fun r s₃ => wpAny (model prog w) A (letTemporaryGo value o r >>= fun _ => pure r) Q E s₃) E s₂ := by
    rw [hs o i]
    exact wpAny_operating (wpAny_mono h₂ (fun r s₃ h₃ => wpAny_bind (wpAny_letTemporaryGo (wpAny_pure h₃))) fun _ _ x => x)
  first
    | exact wpAny_pure (wpAny_bind fin)
    | exact wpAny_bind (wpAny_pure (wpAny_bind fin))
    | exact wpAny_bind fin

theorem dict_typeIs {X : Cx} {pins : List (Addr × Obj)} {σ : St} {H : Hp} {s : Shared} {a : Addr} {y : V} {o : Option V} (I : Inv X pins σ H s) (g : DGet H a y o) : s.TypeIs (.ref a) "dict" := by
  rcases g with ⟨kvs, k, e, _, _⟩ | ⟨kvs, k, b, e, _, _, _⟩
  · obtain ⟨_, _, vs, _, dd⟩ := dk_rd I.hok e
    exact dd.typeIs
  · obtain ⟨_, _, xs, _, dd⟩ := dt_rd I.hok e
    exact dd.typeIs
def tDGet (td ty : TE) : TE := fun σ H Q => td σ H fun x H1 => ty σ H1 fun y H2 => ∃ a v, x = .ref a ∧ DGet H2 a y (some v) ∧ Q v H2
def sDPut (td ty tv : TE) : TS := fun D σ H => tv σ H fun v H1 => td σ H1 fun x H2 => ty σ H2 fun y H3 => ∃ a H4, x = .ref a ∧ DPut H3 a y v H4 ∧ D.nx σ H4
section
variable {X : Cx} {o i e value : Expr} {pos pos' tpos : Pos} {td ty tv : TE}
theorem pe_dget (hu : X.A.units + 1 < cLine) (ho : PE X o td) (hi : PE X i ty) (hs : NoSl i) : PE X (.Subscript o i pos) (tDGet td ty) := by
  constructor
  intro pins s σ H Q I h
  refine subD_of PySem.F.slot_dict_getitem.lookup hs (thn (ho pins s σ H _ I h) fun u s1 ⟨x, H1, I1, rx, q1⟩ => thn (hi pins s1 σ H1 _ I1 q1) fun iv s2 ⟨y, H2, I2, ry, a, v, ex, g, q2⟩ => ?_)
  subst ex
  obtain rfl : u = Value.ref a := rx
  exact ⟨dict_typeIs I2 g, d_getItem hu I2 g ry fun w' s3 I3 rw' => ⟨v, H2, I3, rw', q2⟩⟩
theorem ps_dput (hu : X.A.units + 1 < cLine) (ho : PE X o td) (hi : PE X i ty) (hv : PE X value tv) (hs : swapsWith value (some (.Subscript o i pos')) pos.line X.env = pure false) :
    PS X (.Assign [.Subscript o i pos'] value pos) (sDPut td ty tv) := by
  constructor
  intro pins s σ H D I h
  refine wpAny_Assign_Subscript (thn (hv pins s σ H _ I h) fun r s1 ⟨v, H1, I1, rv, q1⟩ => thn (ho pins s1 σ H1 _ I1 q1) fun u s2 ⟨x, H2, I2, rx, q2⟩ => thn (hi pins s2 σ H2 _ I2 q2) fun iv s3 ⟨y, H3, I3, ry, a, H4, ex, g, q3⟩ => ?_) hs
  subst ex
  obtain rfl : u = Value.ref a := rx
  exact d_setItem hu I3 g ry rv fun s4 I4 => ⟨σ, H4, I4, q3⟩
end


theorem dk_empty {P : Program} {w : World} {H : Hp} (h : Heap) (hb : sysModules < h.objs.size) : ObjOk P w H (h.push { cls := .type "dict", data := .dict #[] }) h.objs.size (.dK []) :=
  ⟨Nat.zero_le _, beq_eq_false_iff_ne.mpr (Ne.symm (Nat.ne_of_lt hb)), [], .nil, Heap.DictOf.new h⟩
theorem dt_empty {P : Program} {w : World} {H : Hp} (h : Heap) (hb : sysModules < h.objs.size) : ObjOk P w H (h.push { cls := .type "dict", data := .dict #[] }) h.objs.size (.dT []) :=
  ⟨Nat.zero_le _, beq_eq_false_iff_ne.mpr (Ne.symm (Nat.ne_of_lt hb)), [], .nil, _, #[], 0, Heap.get?_push_size _ rfl, ⟨rfl, rfl, rfl⟩, rfl, rfl, List.nodup_nil⟩
def tDNewT : TE := fun _ H Q => ∀ p, H p = none → Q (.ref p) (upd H p (.dT []))
section
variable {X : Cx} {pos : Pos}
theorem pe_dnewT : PE X (.Dict [] [] pos) tDNewT := ⟨fun pins s σ H Q I h =>
  wpAny_Dict_empty ⟨.ref s.heap.objs.size, _, I.laid (a := s.heap.objs.size) (o := .dT []) (t' := s.toks) (fun _ _ q => Heap.get?_push_of_some _ q) (Nat.le_refl _) (dt_empty s.heap I.big), rfl, h _ (I.hok.fresh (Nat.le_refl _))⟩⟩
end

def tPairs : List (TE × TE) → St → Hp → (List (V × V) → Hp → Prop) → Prop
  | [], _, H, Q => Q [] H
  | (tk, tv) :: r, σ, H, Q => tk σ H fun x H1 => tv σ H1 fun y H2 => tPairs r σ H2 fun ps H3 => Q ((x, y) :: ps) H3
abbrev VV : List (V × V) → List (Value × Value) → Prop := Paired fun p q => RelV p.1 q.1 ∧ RelV p.2 q.2
def PPs (X : Cx) (pos : Pos) (keys : List (Option Expr)) (values : List Expr) (trs : List (TE × TE)) : Prop :=
  ∀ (pins : List (Addr × Obj)) (s : Shared) (σ : St) (H : Hp) (Q : List (V × V) → Hp → Prop), Inv X pins σ H s → tPairs trs σ H Q →
    wpAny (model X.prog X.w) X.A (evalPairs (pairTrees keys values X.env pos)) (fun vs s' => ∃ ps H', Inv X pins σ H' s' ∧ VV ps vs ∧ Q ps H') X.xe s
theorem pps_nil {X : Cx} {pos : Pos} : PPs X pos [] [] [] := fun pins s σ H Q I h => pairTrees_nil_walk ⟨[], H, I, .nil, h⟩
theorem pps_cons {X : Cx} {pos : Pos} {k v : Expr} {ks : List (Option Expr)} {vs : List Expr} {tk tv : TE} {trs : List (TE × TE)} (hk : PE X k tk) (hv : PE X v tv) (hr : PPs X pos ks vs trs) :
    PPs X pos (some k :: ks) (v :: vs) ((tk, tv) :: trs) := fun pins s σ H Q I h =>
  pairTrees_cons_walk (thn (hk pins s σ H _ I h) fun u s1 ⟨x, H1, I1, rx, q1⟩ => thn (hv pins s1 σ H1 _ I1 q1) fun w2 s2 ⟨y, H2, I2, ry, q2⟩ =>
    thn (hr pins s2 σ H2 _ I2 q2) fun ws s3 ⟨ps, H3, I3, rel, q3⟩ => ⟨(x, y) :: ps, H3, I3, .cons ⟨rx, ry⟩ rel, q3⟩)

def mergeK (kvs more : List (Key × V)) : List (Key × V) := more.foldl (fun acc kv => putK acc kv.1 kv.2) kvs
theorem KV.merge : ∀ {more : List (Key × V)} {rs : List (Key × Value)} {kvs : List (Key × V)} {vs : List (Key × Value)}, KV more rs → KV kvs vs → KV (mergeK kvs more) (merged vs rs) := by
  intro more rs kvs vs r
  unfold KV at r
  induction r generalizing kvs vs with
  | nil => intro q; exact q
  | @cons p q ps qs h t ih =>
    intro r0
    have e : KV (putK kvs p.1 p.2) (stored vs q.1 q.2) := by
      have := r0.put p.1 h.2
      rw [← h.1]; exact this
    exact ih e
theorem length_mergeK : ∀ (more kvs : List (Key × V)), (mergeK kvs more).length ≤ kvs.length + more.length
  | [], kvs => by show kvs.length ≤ kvs.length + 0; omega
  | p :: r, kvs => by
    have h1 := length_mergeK r (putK kvs p.1 p.2)
    have h2 := length_putK kvs p.1 p.2
    show (mergeK (putK kvs p.1 p.2) r).length ≤ _
    rw [List.length_cons]; omega
theorem carries_of {P : Program} {w : World} : ∀ {kvs : List (Key × V)} {ws : List (Value × Value)}, VV (kvs.map fun kv => (kV kv.1, kv.2)) ws → ∃ rs, Carries (mixKind P w) ws rs ∧ KV kvs rs
  | [], _, r => by rw [List.map_nil] at r; cases r; exact ⟨[], True.intro, .nil⟩
  | p :: kvs, _, r => by
    rw [List.map_cons] at r
    cases r with
    | @cons a b as bs h t =>
      obtain ⟨rs, c, q⟩ := carries_of (P := P) (w := w) t
      obtain ⟨b1, b2⟩ := b
      exact ⟨(p.1, b2) :: rs, ⟨kV_is h.1, rfl, c⟩, .cons ⟨rfl, h.2⟩ q⟩
def tDisp (trs : List (TE × TE)) : TE := fun σ H Q => ∀ p, H p = none → tPairs trs σ (upd H p (.dK [])) fun ps H2 => H2 p = some (.dK []) ∧ ∃ kvs : List (Key × V), ps = kvs.map (fun kv => (kV kv.1, kv.2)) ∧ kvs.length ≤ 15 ∧ Q (.ref p) (upd H2 p (.dK (mergeK [] kvs)))
theorem pe_disp {X : Cx} {pos : Pos} {keys : List (Option Expr)} {values : List Expr} {trs : List (TE × TE)} (h : PPs X pos keys values trs) (hall : keys.all (·.isSome) = true) (hl : keys.length = values.length) (h0 : keys ≠ [])
    (h15 : keys.length ≤ 15) : PE X (.Dict keys values pos) (tDisp trs) := by
  constructor
  intro pins s σ H Q I q
  have hn := I.hok.fresh (Nat.le_refl s.heap.objs.size)
  have I1 := I.laid (a := s.heap.objs.size) (o := .dK []) (h' := s.heap.push { cls := .type "dict", data := .dict #[] }) (t' := s.toks) (fun _ _ q => Heap.get?_push_of_some _ q) (Nat.le_refl _) (dk_empty s.heap I.big)
  refine wpAny_Dict_walk (knd := mixKind X.prog X.w) hall hl h0 h15 (thn (h pins _ σ _ _ I1 (q _ hn)) fun ws s2 ⟨ps, H2, I2, rel, e, kvs, ep, lk, q2⟩ => ?_)
  subst ep
  obtain ⟨rs, c, rk⟩ := carries_of (P := X.prog) (w := X.w) rel
  obtain ⟨z, hd, vs0, r0, dd⟩ := dk_of I2.hok e
  cases r0
  refine ⟨rs, c, dd, fun h' dd' hs => ⟨.ref s.heap.objs.size, _, ?_, rfl, q2⟩⟩
  have hz : (mergeK [] kvs).length ≤ sizeLine := by
    have h1 := length_mergeK kvs []
    rw [List.length_nil] at h1
    rw [sizeLine_eq]; omega
  have he : ∃ q, h'.get? s.heap.objs.size = some q := let ⟨q, _, _, hq, _⟩ := dd'; ⟨q, hq⟩
  exact d_write I2 (by rw [e]; exact True.intro) hs he (dk_new hz hd (rk.merge .nil) dd')


structure M1 (X : Cx) (o : Expr) (m : Str) (apos : Pos) (e : Expr) (cpos : Pos) : Prop where
  base : attributeBase o m X.env (eval o X.env) = eval o X.env
  few : ((backTo cpos (starEach [e] X.env)).all (fun x => !x.1) && (backToKw cpos (keywordEach [] X.env)).all (fun x => x.1.isSome)
    && decide (([e] : List Expr).length + ([] : List Keyword).length + (if ([] : List Keyword).isEmpty then 0 else 1) < 30)) = true
  line : (apos.endLine == cpos.line) = true
  trees : backTo cpos (starEach [e] X.env) = [(false, eval e X.env)]
structure M2 (X : Cx) (o : Expr) (m : Str) (apos : Pos) (e f : Expr) (cpos : Pos) : Prop where
  base : attributeBase o m X.env (eval o X.env) = eval o X.env
  few : ((backTo cpos (starEach [e, f] X.env)).all (fun x => !x.1) && (backToKw cpos (keywordEach [] X.env)).all (fun x => x.1.isSome)
    && decide (([e, f] : List Expr).length + ([] : List Keyword).length + (if ([] : List Keyword).isEmpty then 0 else 1) < 30)) = true
  line : (apos.endLine == cpos.line) = true
  trees : backTo cpos (starEach [e, f] X.env) = [(false, eval e X.env), (false, eval f X.env)]

section
variable {X : Cx} {pins : List (Addr × Obj)} {σ : St} {H : Hp} {s : Shared} {a : Addr} {y d : V} {u r : Value} {o : Option V} {A : Around} {E : Value → Shared → Prop}
end

section
variable {X : Cx} {o e f : Expr} {apos cpos : Pos} {td ty tx : TE}
end

section
variable {X : Cx} {pins : List (Addr × Obj)} {σ : St} {H : Hp} {s : Shared} {a : Addr} {kvs : List (Key × V)} {A : Around} {E : Value → Shared → Prop}
end


section
variable {X : Cx} {pins : List (Addr × Obj)} {σ : St} {H : Hp} {s : Shared} {a : Addr} {y : V} {u : Value} {A : Around} {E : Value → Shared → Prop}
end
end L2

namespace Att
open PySem PySem.W PySem.Calls PyProof.Rows

theorem ints_of_wellAll {P : Params} {h : Heap} : ∀ (ns : List Int) (vs : List Value), WellAll P h vs (ns.map WData.int) → IntsAre vs ns := by
  intro ns
  induction ns with
  | nil =>
    intro vs w
    rw [List.map_nil] at w
    cases w
    exact .nil
  | cons n ns ih =>
    intro vs w
    rw [List.map_cons] at w
    cases w with
    | cons a b =>
      cases a
      exact .cons _ _ (ih _ b)

theorem script_of {l : OpenLaw} {n : Nat} (hn : l.most = some n) {P : Params} {h : Heap} {args : List WData} {vals : List Value}
    (hpre : l.row.toRowW.claim.pre args = true) (hwl : WellAll P h vals args) :
    ∃ a vs ns, vals = [Value.ref a] ∧ args = [WData.list (ns.map WData.int)] ∧ h.get? a = some { cls := .type "list", data := .seq vs.toArray } ∧ IntsAre vs ns ∧ ns.length ≤ n := by
  have hsh : WShape.hasAll [] args [.list .int] = true := (pre_splitW hpre).1
  have hc : l.pre.holds [] { args := args } = true := (pre_splitW hpre).2
  obtain ⟨d, r, rfl, h1, h2⟩ := hasAllW_cons hsh
  obtain rfl := hasAllW_nil h2
  obtain ⟨xs, rfl, h3⟩ := hasW_list h1
  obtain ⟨ns, rfl⟩ := items_int h3
  have hlen : ns.length ≤ n := by
    unfold OpenLaw.pre at hc
    have h4 : (WTm.not (.lt (.lit (.int (n : Int))) (.len (.arg 0)))).holds [] { args := [.list (ns.map .int)] } = true := by
      have h4 := (holds_andW hc).1
      rw [hn] at h4
      exact h4
    have h5 := condW_of h4 (w_not (w_lt w_lit (w_len_list (w_arg rfl))))
    rw [List.length_map] at h5
    refine Nat.le_of_not_lt fun q => ?_
    have q' : (n : Int) < ((ns.length : Nat) : Int) := by omega
    first
      | (rw [decide_eq_true q'] at h5; exact absurd h5 (by decide))
      | (simp at h5; omega)
  cases hwl with
  | cons w1 w2 =>
    cases w2
    cases w1 with
    | list ho hall => exact ⟨_, _, ns, rfl, rfl, ho, ints_of_wellAll ns _ hall, hlen⟩

theorem post_true (l : OpenLaw) (args : List WData) : l.row.toRowW.claim.post args (.bool true) args = true :=
  postW_of (r := l.row.toRowW) (X := (true == true))
    (show WShape.has [] (.bool true) .bool = true by first | rfl | decide | simp [WShape.has, WShape.arms, WShape.armsAll])
    (show (WTm.eq .res (.lit (.bool true))).value [] { args := args, res := some (.bool true), after := args } = some (.bool (true == true)) from w_eq_bool (w_res rfl) w_lit) rfl

theorem attach_call {l : OpenLaw} {n : Nat} {q : Program} {loose : List Str} {XP : (Str → Option Value) → Heap → Prop} {YP : World → Heap → Prop} {d : DefRec}
    (hn : l.most = some n) (hdf : d.params.defaults = [])
    (call : ∀ (w : World) (s₀ s₁ : Shared) (mg mb : Str → Option Value) (fa : Addr) (o : Obj) (pm cd doc : Value) (a : Addr) (vs : List Value) (ns : List Int),
      Ground q loose [] XP w s₀ mg mb s₁.heap → YP w s₁.heap →
      s₁.heap.get? fa = some o → o.data = .func (docDef d.name d.params d.body d.scope pm cd doc) → s₁.heap.CodeRec cd d.name → mg d.name = some (.ref fa) →
      s₁.heap.get? a = some { cls := .type "list", data := .seq vs.toArray } → IntsAre vs ns → ns.length ≤ n → s₁.gens = #[] →
      codeAny (model l.prog w) callerA (.call (.ref fa) ⟨[.ref a], []⟩) (fun r s' => r = .ok (.ret (.bool true)) ∧ OldK s₁.heap s'.heap ∧ s'.os = s₁.os ∧ AllBare s'.gens) s₁) :
    WalkO q loose XP YP l.row.toRowW d [] (fun f vs => PySem.call f vs) := by
  intro w s₀ s₁ mg mb G Y fa o pm cd doc dV kV ho hd hcd hD hmg hg args vals as hpre hlay hrd hwl hlo
  obtain rfl : dV = .none := Dflts.none hD hdf
  obtain rfl : kV = .none := Dflts.noKw hD
  obtain ⟨a, vs, ns, rfl, rfl, hobj, hints, hlen⟩ := script_of hn hpre hwl
  refine enter_call (codeAny_mono (call w s₀ s₁ mg mb fa o pm cd doc a vs ns G Y ho (fd_plain hd) hcd hmg hobj hints hlen hg) fun r s' hq => ?_)
  obtain ⟨rfl, h2, h3, h4⟩ := hq
  exact ⟨.inl ⟨.bool true, .bool true, [], rfl, fun _ => rfl, .bool true, post_true l _, fun _ => ⟨List.Pairwise.nil, fun _ hm => (nomatch hm)⟩⟩, h2, h3, h4⟩

section
variable {prog : Program} {w : World} {A : Around} {E : Value → Shared → Prop} {s : Shared} {K : Frag}

end
end Att

namespace L2
open PySem PySem.Spec PyProof.Rows

theorem vals_ints : ∀ {vs : List Value} {ns : List Int}, IntsAre vs ns → Vals (ns.map V.int) vs
  | _, _, .nil => .nil
  | _, _, .cons n t h => .cons ⟨t, rfl⟩ (vals_ints h)

def Only (H : Hp) : Prop := ∀ b, H b = none ∨ ∃ o xs, H b = some (.frz o (.lst xs))

theorem law_call {P : Program} {w : World} {K : PySem.W.Frag} {mg mb : Str → Option Value} {CX : CXT} {k : Nat} {fa a : Addr} {fd : FuncData} {x : Str} {sp : Sp} {s₁ : Shared} {vs : List Value} {ns : List Int}
    (KX : K.In s₁.heap) (hns : s₁.heap.Ns mainGlobals mg) (hb : s₁.heap.Ns builtinsNs mb) (hbb : ∀ x : Str, x ≠ "__name__" → mb x = bootBuiltins x) (hlim : s₁.heap.NoLimit) (hg : s₁.gens = #[])
    (ha : s₁.heap.get? a = some { cls := .type "list", data := .seq vs.toArray }) (hi : IntsAre vs ns) (hl : ns.length ≤ sizeLine) (hr : Room k callerA)
    (F : ∀ base : Heap, K.In base → base.Ns mainGlobals mg → FnOk P w K mg base CX k fa fd [x] sp) (hbind : ∀ (s : Shared) (u : Value), BindsTo s fd ⟨[u], []⟩ [(x, u)])
    (hsp : ∀ H : Hp, Only H → SqL K H a (ns.map V.int) → sp [.ref a] H (fun v _ => v = .bl true) fun _ _ _ => False)
    (hCX : ∀ H e s', CX [] H s₁ (fun _ _ _ => False) e s' → False) :
    codeAny (model P w) callerA (.call (.ref fa) ⟨[.ref a], []⟩) (fun r s' => r = .ok (.ret (.bool true)) ∧ OldK s₁.heap s'.heap ∧ s'.os = s₁.os ∧ AllBare s'.gens) s₁ := by
  have rv := vals_ints hi
  have lenV := hi.length
  -- from an abstract heap in which nothing but the script may be tracked
  have core : ∀ H : Hp, Only H → SqL K H a (ns.map V.int) → HOk P w H s₁.heap → (∀ b, H b ≠ none → b = a) → (H a ≠ none → K.lookup a = none) →
      codeAny (model P w) callerA (.call (.ref fa) ⟨[.ref a], []⟩) (fun r s' => r = .ok (.ret (.bool true)) ∧ OldK s₁.heap s'.heap ∧ s'.os = s₁.os ∧ AllBare s'.gens) s₁ := by
    intro H hO hS hok hA hK
    have base_of : ∀ {b : Addr} {o : Obj}, s₁.heap.get? b = some o → H b = none → (hidT s₁.heap H).get? b = some o := fun e n => hidT_get e n
    have noA : ∀ {b : Addr} {o : Obj} {es : Array DictEntry} {ep : Nat}, s₁.heap.get? b = some o → o.data = .dict es ep → H b = none := fun {b o es ep} e d => by
      cases q : H b with
      | none => rfl
      | some u =>
        have e' : b = a := hA b (by rw [q]; simp)
        subst e'
        rw [ha] at e; cases e
        have d' : Data.seq vs.toArray _ = Data.dict es ep := d
        cases d'
    have nsK : ∀ {b : Addr} {m : Str → Option Value}, s₁.heap.Ns b m → (hidT s₁.heap H).Ns b m := fun {b m} ⟨o, es, ep, e, d, r⟩ => ⟨o, es, ep, base_of e (noA e d), d, r⟩
    have hKb : K.In (hidT s₁.heap H) := fun b o e => base_of (KX b o e) (by
      cases q : H b with
      | none => rfl
      | some u =>
        have e' : b = a := hA b (by rw [q]; simp)
        subst e'
        rw [hK (by rw [q]; simp)] at e; cases e)
    have hM : Mod K mg (hidT s₁.heap H) := ⟨hKb, nsK hns, ⟨mb, nsK hb, hbb⟩, let ⟨mc, h1, h2⟩ := hlim; ⟨mc, nsK h1, h2⟩⟩
    have e0 : Env0 P w K mg (hidT s₁.heap H) callerA [] s₁ H := ⟨rfl, hM, fun b o e => of_hidT e, Nat.le_of_eq (hidT_size _ _), trivial, fun b hb => absurd (show b ∈ ([] : List Addr) from hb) (by simp), hok, .of_eq hg⟩
    refine codeAny_mono ((F _ hKb (nsK hns)).run callerA [] s₁ H ⟨[.ref a], []⟩ [.ref a] [.ref a] _ _ hr e0 (hbind s₁ (.ref a)) (.cons rfl .nil) (hsp H hO hS)) fun r s' h => ?_
    cases r with
    | error e => exact (hCX H e s' h).elim
    | ok fl =>
      cases fl with
      | next => exact False.elim h
      | brk => exact False.elim h
      | cont => exact False.elim h
      | ret u =>
        obtain ⟨v, H', os, bare, un, hok', r', q⟩ := h
        have q' : v = .bl true := q
        subst q'
        obtain rfl : u = Value.bool true := r'
        refine ⟨rfl, OldK.of_keep fun b o e => ?_, os, bare⟩
        cases q : H b with
        | none => exact un.keep b o e q (by intro z; exact absurd (show b ∈ ([] : List Addr) from z) (by simp)) (by simp)
        | some u =>
          rcases hO b with z | ⟨ob, xs, z⟩
          · rw [q] at z; cases z
          · have z2 := un.frzs b ob _ z
            obtain ⟨e1, _⟩ := hok b _ z
            obtain ⟨e2, _⟩ := hok' b _ z2
            rw [e] at e1; cases e1
            exact e2
  cases hk : K.lookup a with
  | some o =>
    -- the script is one of the module's own objects
    have e := KX a o hk
    rw [ha] at e
    cases e
    refine core (fun _ => none) (fun _ => .inl rfl) (.inr ⟨_, vs.toArray, _, hk, rfl, rfl, rfl, by rw [List.size_toArray, lenV]; exact hl, by simpa using rv⟩) (fun b u z => by have z' : (none : Option HO) = some u := z; cases z') (fun b z => absurd rfl z) fun z => absurd rfl z
  | none =>
    refine core (fun b => if b = a then some (.frz { cls := .type "list", data := .seq vs.toArray } (.lst (ns.map V.int))) else none) (fun b => ?_) (.inl (.inr ⟨{ cls := .type "list", data := .seq vs.toArray }, if_pos rfl⟩)) (fun b u z => ?_) (fun b z => ?_) fun _ => hk
    · by_cases hb : b = a
      · exact .inr ⟨_, _, if_pos hb⟩
      · exact .inl (if_neg hb)
    · by_cases hb : b = a
      · have z' := (if_pos hb).symm.trans z
        cases z'
        subst hb
        exact ⟨ha, by rw [List.length_map]; exact hl, vs, _, rv, ha⟩
      · have z' := (if_neg hb).symm.trans z
        cases z'
    · by_cases hb : b = a
      · exact hb
      · exact absurd (if_neg hb) z
end L2

namespace L2
open PySem PySem.Spec PyProof.Rows

abbrev KOf {K : PySem.W.Frag} {h : Heap} (_ : K.In h) : PySem.W.Frag := K

theorem walk_of {l : PySem.W.OpenLaw} {n k : Nat} {q : Program} {loose : List Str} {XP : (Str → Option Value) → Heap → Prop} {YP : World → Heap → Prop} {d : DefRec} {K : Params → PySem.W.Frag} {CX : World → CXT} {sp : World → Sp} {x : Str}
    (hn : l.most = some n) (hn2 : n ≤ sizeLine) (hdf : d.params.defaults = []) (hr : Room k callerA)
    (hY : ∀ (w : World) (h : Heap), YP w h → (K w.params).In h)
    (F : ∀ (w : World) (mg : Str → Option Value) (fa : Addr) (h : Heap), (K w.params).In h → h.Ns mainGlobals mg → mg d.name = some (.ref fa) →
      ∃ fd : FuncData, (∀ (s : Shared) (u : Value), BindsTo s fd ⟨[u], []⟩ [(x, u)]) ∧
        ∀ base : Heap, (K w.params).In base → base.Ns mainGlobals mg → FnOk l.prog w (K w.params) mg base (CX w) k fa fd [x] (sp w))
    (hsp : ∀ (w : World) (H : Hp) (a : Addr) (ns : List Int), ns.length ≤ n → Only H → SqL (K w.params) H a (ns.map V.int) → sp w [.ref a] H (fun v _ => v = .bl true) fun _ _ _ => False)
    (hCX : ∀ (w : World) (H : Hp) (s : Shared) (e : Value) (s' : Shared), CX w [] H s (fun _ _ _ => False) e s' → False) :
    PySem.W.WalkO q loose XP YP l.row.toRowW d [] (fun f vs => PySem.call f vs) := by
  refine Att.attach_call hn hdf fun w s₀ s₁ mg mb fa o pm cd doc a vs ns G Y ho hd hcd hmg hobj hints hlen hg => ?_
  have KX := hY w _ Y
  obtain ⟨fd, hb, hF⟩ := F w mg fa _ KX G.T.g hmg
  exact law_call KX G.T.g G.T.b G.T.builtins G.T.nolimit hg hobj hints (Nat.le_trans hlen hn2) hr hF hb (fun H hO hS => hsp w H a ns hlen hO hS) fun H e s' => hCX w H s₁ e s'
end L2

/- THE LAST THEOREM (shape; LID, My.* are yours):
   My.Adr: a structure of the addresses that your layer names (classes, functions); My.Txt K t: a structure (Prop) of the equations over K;
   My.txt_mk : {K} {implicit addresses ..} (e1 : nsIn K mainGlobals "law" = some (some (.ref f))) (e2 : K.lookup f = some ⟨oc, od, .func (fnOf "law" "law" params body scope dV kV doc pm an cdv ct), sl⟩) (e3 : codeIn K cdv "law" = true) .. : ∃ t, My.Txt K t

set_option maxRecDepth 100000 in
set_option maxHeartbeats 0 in
theorem PySem.Challenge.cw_LID_holds : PySem.Challenge.rw_LID.Holds := by
  w_on; o_law; k_head; (case hw => w_witness2)
  k_fill
  refine L2.walk_of (l := PySem.Challenge.rw_LID) (n := 63) (k := 40) (x := "script") (CX := fun w => ..) (sp := fun _ => My.sp_law) rfl (by decide) rfl ⟨rfl, by decide, by decide⟩ (fun w h Y => PySem.W.kIn_of Y) ?F ?S ?C
  case F =>
    intro w mg fa h KX G hmg
    have T : ∃ t, My.Txt (L2.KOf KX) t := by
      dsimp only [L2.KOf]                          -- K must stand as «<heap const> w.params» for k_is
      refine' My.txt_mk ?e1 ?e2 ?e3 ..
      (case e1 => PySem.W.k_is)                    -- in the order: a name -> its address -> its object -> its parts
      (case e2 => PySem.W.k_is)
      ..
    obtain ⟨t, T⟩ := T
    have e0 := hmg.symm.trans (PySem.W.mg_of KX G T.law)
    cases e0                                       -- fa is the law's own address
    exact ⟨_, fun s u => .of_eq rfl, fun base kb nb => My.law_fn T kb nb⟩     -- if «.of_eq rfl» comes too early: refine' ⟨_, ?b, fun base kb nb => My.law_fn T kb nb⟩; exact fun s u => .of_eq rfl
  case S => exact fun w H a ns hl hO hS => ..
  case C => exact ..
(the tactic k_is has no namespace: write k_is) -/

namespace L2
open PySem PySem.Spec PyProof.Rows

def defArgs (s : Stmt) : Arguments := match s with
  | .FunctionDef _ a _ _ _ _ _ _ _ _ => a
  | _ => { posonlyargs := [], args := [], vararg := none, kwonlyargs := [], kw_defaults := [], kwarg := none, defaults := [] }
def defBody (s : Stmt) : List Stmt := match s with
  | .FunctionDef _ _ b _ _ _ _ _ _ _ => b
  | _ => []
def defScope (s : Stmt) : Scope := match s with
  | .FunctionDef _ _ _ _ _ _ sc _ _ _ => sc
  | _ => { kind := .function, names := [], isGenerator := false, isCoroutine := false }

abbrev CX0 : CXT := fun _ _ _ _ _ _ => False
abbrev E0 : XK := fun _ _ _ => False
theorem pass0 {X : Cx} : Passes CX0 X E0 := fun _ _ _ _ _ _ _ h => h.elim

structure Fun (K : PySem.W.Frag) (x qual : Str) (st : Stmt) (f : Addr) (fd : FuncData) : Prop where
  ex : ∃ (oc : Value) (od : Option Addr) (kV doc pm : Value) (an : Option Addr) (cdv ct : Value) (osl : Array (Option Value)),
    fd = PySem.W.fnOf x qual (defArgs st) (defBody st) (defScope st) .none kV doc pm an cdv ct ∧ K.lookup f = some ⟨oc, od, .func fd, osl⟩ ∧ PySem.W.codeIn K cdv qual = true
  kp : PySem.W.keepIn K (.ref f) = true
section
variable {P : Program} {w : World} {K : PySem.W.Frag} {mg : Str → Option Value} {base : Heap}
theorem Fun.ok {x qual : Str} {st : Stmt} {f : Addr} {fd : FuncData} {N ps : List Str} {k : Nat} {sp : Sp} (F : Fun K x qual st f fd) (S : FnScope N ps (defScope st)) (len : ∀ vs H Q E, sp vs H Q E → vs.length = ps.length)
    (hbody : ∀ (cdv : Value) (A : Around) (outer : List Env) (s : Shared) (H : Hp) (vs : List V) (Q : VK) (E : XK), Room k (A.deeper (envOfC qual (defScope st) s.heap.objs.size f cdv)) → sp vs H Q E →
      ∃ t, PSs (cxOf CX0 P w K mg base N qual (defScope st) f cdv A outer s H E).nox (defBody st) t ∧ t { nx := fun _ H' => Q .non H', rt := Q } (start N vs) H) : FnOk P w K mg base CX0 (k + 1) f fd ps sp := by
  obtain ⟨oc, od, kV, doc, pm, an, cdv, ct, osl, rfl, lk, hcd⟩ := F.ex
  refine fn_of lk hcd S len fun A outer s H vs Q E hr hsp => ?_
  obtain ⟨t, h, q⟩ := hbody cdv A outer s H vs Q E hr hsp
  exact ⟨t, h.nox, q⟩
theorem Fun.binds {x qual : Str} {st : Stmt} {f : Addr} {fd : FuncData} {ps : List Str} (F : Fun K x qual st f fd)
    (h : ∀ (kV doc pm : Value) (an : Option Addr) (cdv ct : Value) (us : List Value), us.length = ps.length → bindArgs (PySem.W.fnOf x qual (defArgs st) (defBody st) (defScope st) .none kV doc pm an cdv ct) ⟨us, []⟩ = pure (ps.zip us)) : Binds K fd ps [] := by
  obtain ⟨oc, od, kV, doc, pm, an, cdv, ct, osl, rfl, lk, hcd⟩ := F.ex
  exact .all (h kV doc pm an cdv ct)
theorem fun_mk {x qual : Str} {st : Stmt} {f : Addr} {oc : Value} {od an : Option Addr} {osl : Array (Option Value)} {kV doc pm cdv ct : Value} (l : K.lookup f = some ⟨oc, od, .func (PySem.W.fnOf x qual (defArgs st) (defBody st) (defScope st) .none kV doc pm an cdv ct), osl⟩)
    (c : PySem.W.codeIn K cdv qual = true) (k : PySem.W.keepIn K (.ref f) = true) : Fun K x qual st f (PySem.W.fnOf x qual (defArgs st) (defBody st) (defScope st) .none kV doc pm an cdv ct) := ⟨⟨oc, od, kV, doc, pm, an, cdv, ct, osl, rfl, l, c⟩, k⟩
end
theorem hu_of {A : Around} {k : Nat} (hr : Room k A) : A.units + 1 < cLine := Nat.lt_of_le_of_lt (Nat.add_le_add_left (by decide : 1 ≤ 64) _) hr.units
theorem small1000 {n : Nat} (h : n ≤ 1000) : n < sizeLine := Nat.lt_of_le_of_lt h (by decide)

section
variable {X : Cx}
theorem pv (i : Nat) {x : Str} {pos : Pos} (hN : X.N[i]? = some x := by rfl) (hv : Vis X.env.scope x := by first | exact Or.inl rfl | exact Or.inr (Or.inl rfl) | exact Or.inr (Or.inr rfl)) (hd : (x == ("__debug__" : Str)) = false := by decide)
    (hcd : (x == ("__classdict__" : Str)) = false := by decide) : PE X (.Name x pos) (tVar i) := pe_var hN hv hd hcd
end

theorem iteF {A B : Prop} (h : B) : if false = true then A else B := by
  rw [if_neg Bool.false_ne_true]
  exact h
theorem iteT {A B : Prop} (h : A) : if true = true then A else B := by
  rw [if_pos rfl]
  exact h
theorem ite2 {c A B : Prop} [Decidable c] (h1 : c → A) (h2 : ¬ c → B) : if c then A else B := by
  by_cases h : c
  · rw [if_pos h]
    exact h1 h
  · rw [if_neg h]
    exact h2 h
def Same (H H' : Hp) : Prop := ∀ b o, H b = some o → H' b = some o
theorem Same.refl (H : Hp) : Same H H := fun _ _ h => h
theorem Same.trans {H H1 H2 : Hp} (a : Same H H1) (b : Same H1 H2) : Same H H2 := fun c o h => b c o (a c o h)
theorem Same.free {H H' : Hp} (e : Same H H') {l : Addr} (h : H' l = Option.none) : H l = Option.none := by
  cases q : H l with
  | none => rfl
  | some o =>
    rw [e l o q] at h
    cases h
theorem Same.seq {K : PySem.W.Frag} {H H' : Hp} {a : Addr} {xs : List V} (e : Same H H') (h : SqL K H a xs) : SqL K H' a xs := by
  rcases h with (h | ⟨o, h⟩) | h
  · exact .inl (.inl (e _ _ h))
  · exact .inl (.inr ⟨o, e _ _ h⟩)
  · exact .inr h

end L2

namespace L2
open PySem PySem.Spec PyProof.Rows
section
variable {X : Cx}
end
section
variable {κ : Type} [DecidableEq κ]
end
end L2


set_option linter.all false
set_option maxRecDepth 100000
set_option Elab.async false
namespace L2
open PySem PySem.Spec PyProof.Rows

section
variable {X : Cx} {pins : List (Addr × Obj)} {σ : St} {H : Hp} {s : Shared}
theorem Inv.track {D : Addr} {ob : HO} (I : Inv X pins σ H s) (hf : FpOk X pins H D) (new : ObjOk X.prog X.w (upd H D ob) s.heap D ob) : Inv X pins σ (upd H D ob) s := by
  obtain ⟨hn, hL, hfs, hex, hce, hpi⟩ := hf
  have nD : ∀ b u, H b = some u → b ≠ D := fun b u e => ne_of_none e hn
  refine I.step (g' := s.gens) (t' := s.toks) (d' := s.drawn) (h' := s.heap) (H' := upd H D ob) (ch := [D]) (fun b hb => ?_) (fun b o _ _ _ e _ => e) (fun b o _ _ _ e _ => ⟨o.slots, e⟩) (fun b o hc e n => ?_)
    (fun b o _ e => ⟨o, e⟩) (fun b xs e => by rw [upd_ne (nD b _ e)]; exact e) (fun b o u e => by rw [upd_ne (nD b _ e)]; exact e) (fun b ps e => ⟨#[], by rw [upd_ne (nD b _ e), e]; simp⟩) (fun m hm => hm) (fun b u e => ?_) I.bare
  · have e : b = D := by simpa using hb
    subst e
    exact ⟨hex, hL, hce, hpi⟩
  · rw [upd_ne (fun z => hc (by simp [z]))]
    exact n
  · by_cases hb : b = D
    · subst hb
      rw [upd_same] at e
      cases e
      exact new
    · rw [upd_ne hb] at e
      exact (I.hok b u e).stay (fun c v _ q => q) (fun c q => by rw [upd_ne (nD c _ q)]; exact q) fun c xs q => by rw [upd_ne (nD c _ q)]; exact q
end

def closL (env : Env) : List (Str × NameKind) → List (Str × Addr) → List (Str × Addr)
  | [], cs => cs
  | (n, k) :: r, cs => closL env r (if k = .free then (match env.cells.lookup n with | some c => (n, c) :: cs | none => cs) else cs)
theorem forIn_pure {α β : Type} (f : α → β → Sem (ForInStep β)) (g : α → β → β) : ∀ (l : List α) (b : β), (∀ y ∈ l, ∀ b, f y b = pure (.yield (g y b))) → (forIn l b f : Sem β) = pure (l.foldl (fun b y => g y b) b)
  | [], b, _ => rfl
  | a :: r, b, h => by
    rw [List.forIn_cons, h a List.mem_cons_self b]
    exact forIn_pure f g r (g a b) fun y hy => h y (List.mem_cons_of_mem _ hy)
def closG (env : Env) (y : Str × NameKind) (cs : List (Str × Addr)) : List (Str × Addr) := if y.2 = .free then (match env.cells.lookup y.1 with | some c => (y.1, c) :: cs | none => cs) else cs
theorem closL_fold (env : Env) : ∀ (l : List (Str × NameKind)) (cs : List (Str × Addr)), l.foldl (fun b y => closG env y b) cs = closL env l cs
  | [], cs => rfl
  | (n, k) :: r, cs => by
    rw [List.foldl_cons, closL_fold env r]
    rfl
theorem closureFor_L {scope : Scope} {env : Env} (h : ∀ y ∈ scope.names, y.2 = .free → ∃ c, env.cells.lookup y.1 = some c) : closureFor scope env = pure (closL env scope.names []) := by
  simp only [closureFor]
  rw [forIn_pure _ (closG env) scope.names [] (fun y hy b => ?_)]
  · rw [closL_fold]
    rfl
  · obtain ⟨n, k⟩ := y
    by_cases hk : k = .free
    · obtain ⟨c, hc⟩ := h (n, k) hy hk
      subst hk
      have e : cellOf env n = pure c := by unfold cellOf; rw [hc]
      have e2 : closG env (n, NameKind.free) b = (n, c) :: b := by unfold closG; rw [if_pos rfl, hc]
      simp only [e, e2]
      rfl
    · have e : (k == NameKind.free) = false := by simpa using hk
      have e2 : closG env (n, k) b = b := by unfold closG; rw [if_neg hk]
      simp only [e, e2, Bool.false_eq_true, if_false]
theorem closL_sub {env : Env} : ∀ (l : List (Str × NameKind)) (cs : List (Str × Addr)), (∀ x c, cs.lookup x = some c → env.cells.lookup x = some c) → ∀ x c, (closL env l cs).lookup x = some c → env.cells.lookup x = some c
  | [], cs, h, x, c, e => h x c e
  | (n, k) :: r, cs, h, x, c, e => by
    unfold closL at e
    refine closL_sub r _ (fun x c e => ?_) x c e
    by_cases hk : k = .free
    · rw [if_pos hk] at e
      cases hc : env.cells.lookup n with
      | none => rw [hc] at e; exact h x c e
      | some d =>
        rw [hc] at e
        by_cases hx : x = n
        · subst hx
          simp at e
          rw [← e]; exact hc
        · have : (x == n) = false := by simpa using hx
          rw [List.lookup_cons, this] at e
          exact h x c e
    · rw [if_neg hk] at e
      exact h x c e
theorem closL_has {env : Env} : ∀ (l : List (Str × NameKind)) (cs : List (Str × Addr)) (x : Str), (∀ y ∈ l, y.2 = .free → ∃ c, env.cells.lookup y.1 = some c) → ((∃ c, cs.lookup x = some c) ∨ (x, NameKind.free) ∈ l) → ∃ c, (closL env l cs).lookup x = some c
  | [], cs, x, _, h => by
    rcases h with h | h
    · exact h
    · simp at h
  | (n, k) :: r, cs, x, hc, h => by
    unfold closL
    refine closL_has r _ x (fun y hy => hc y (List.mem_cons_of_mem _ hy)) ?_
    rcases h with ⟨c, h⟩ | h
    · refine .inl ?_
      split
      · split
        · rename_i d _
          by_cases hx : x = n
          · subst hx; exact ⟨d, by simp⟩
          · have : (x == n) = false := by simpa using hx
            exact ⟨c, by rw [List.lookup_cons, this]; exact h⟩
        · exact ⟨c, h⟩
      · exact ⟨c, h⟩
    · rcases List.mem_cons.mp h with h | h
      · cases h
        obtain ⟨d, hd⟩ := hc (n, NameKind.free) List.mem_cons_self rfl
        refine .inl ⟨d, ?_⟩
        rw [if_pos rfl]
        have hd' : env.cells.lookup n = some d := hd
        rw [hd']
        simp
      · exact .inr h
theorem relabel_cf {env : Env} : ∀ {names : List (Str × NameKind)} {x : Str}, (∀ y ∈ names, y.2 ≠ .cell) → 
    ((names.map fun (n, k) => if (k == NameKind.free && env.scope.kind == .function && env.kindOf n == some .cell) then (n, NameKind.cell) else (n, k)).lookup x = some .cell ∨
     (names.map fun (n, k) => if (k == NameKind.free && env.scope.kind == .function && env.kindOf n == some .cell) then (n, NameKind.cell) else (n, k)).lookup x = some .free) → names.lookup x = some .free
  | [], x, _, h => by simp at h
  | (n, k) :: r, x, hc, h => by
    have ih := @relabel_cf env r x fun y hy => hc y (List.mem_cons_of_mem _ hy)
    have hk := hc (n, k) List.mem_cons_self
    rw [List.map_cons] at h
    by_cases hx : x = n
    · subst hx
      rw [List.lookup_cons, beq_self_eq_true]
      simp only
      by_cases hcond : (k == NameKind.free && env.scope.kind == .function && env.kindOf x == some .cell) = true
      · have : (k == NameKind.free) = true := by
          rw [Bool.and_eq_true, Bool.and_eq_true] at hcond
          exact hcond.1.1
        simpa using this
      · simp only [if_neg hcond, List.lookup_cons, beq_self_eq_true] at h
        rcases h with h | h
        · exact absurd (Option.some.inj h) hk
        · exact h
    · have e : (x == n) = false := by simpa using hx
      rw [List.lookup_cons, e]
      refine ih ?_
      by_cases hcond : (k == NameKind.free && env.scope.kind == .function && env.kindOf n == some .cell) = true
      · simp only [if_pos hcond, List.lookup_cons, e] at h
        exact h
      · simp only [if_neg hcond, List.lookup_cons, e] at h
        exact h
theorem relabel_free {env : Env} : ∀ {names : List (Str × NameKind)} {x : Str}, names.lookup x = some .free →
    ((names.map fun (n, k) => if (k == NameKind.free && env.scope.kind == .function && env.kindOf n == some .cell) then (n, NameKind.cell) else (n, k)).lookup x = some .cell ∨
     (names.map fun (n, k) => if (k == NameKind.free && env.scope.kind == .function && env.kindOf n == some .cell) then (n, NameKind.cell) else (n, k)).lookup x = some .free)
  | [], x, h => by simp at h
  | (n, k) :: r, x, h => by
    have ih := @relabel_free env r x
    rw [List.map_cons]
    by_cases hx : x = n
    · subst hx
      rw [List.lookup_cons, beq_self_eq_true] at h
      simp only at h
      cases h
      by_cases hcond : (NameKind.free == NameKind.free && env.scope.kind == .function && env.kindOf x == some .cell) = true
      · refine .inl ?_
        show List.lookup x ((if (NameKind.free == NameKind.free && env.scope.kind == .function && env.kindOf x == some .cell) = true then (x, NameKind.cell) else (x, NameKind.free)) :: _) = _
        rw [if_pos hcond, List.lookup_cons, beq_self_eq_true]
      · refine .inr ?_
        show List.lookup x ((if (NameKind.free == NameKind.free && env.scope.kind == .function && env.kindOf x == some .cell) = true then (x, NameKind.cell) else (x, NameKind.free)) :: _) = _
        rw [if_neg hcond, List.lookup_cons, beq_self_eq_true]
    · have e : (x == n) = false := by simpa using hx
      rw [List.lookup_cons, e] at h
      have := ih h
      by_cases hcond : (k == NameKind.free && env.scope.kind == .function && env.kindOf n == some .cell) = true
      · simp only [if_pos hcond, List.lookup_cons, e]
        exact this
      · simp only [if_neg hcond, List.lookup_cons, e]
        exact this

def blk (X : Cx) (N : List Str) (scope : Scope) (cl : List (Str × Addr)) (s : Shared) (H : Hp) (fp : List Addr) (pins : List (Addr × Obj)) (C : Addr) : Cx where
  prog := X.prog
  w := X.w
  K := X.K
  mg := X.mg
  base := X.base
  A := X.A
  N := N
  s₀ := s
  H₀ := H
  env := compEnvC scope cl C X.env
  outer := X.stack
  stack := X.stack
  ex := fp
  fn := fun _ => false
  calm := X.calm
  pn := X.pn ++ pins
  xe := fun _ _ => False
def srcOk (N : List Str) (src : List (Option Nat)) (scope : Scope) (oN : List Str) : Bool :=
  (N.zip src).all fun p => match p.2 with | none => true | some j => (oN[j]? == some p.1) && (scope.names.lookup p.1 == some .free)
structure BlkOk (N : List Str) (src : List (Option Nat)) (scope osc : Scope) (oN : List Str) : Prop where
  kind : scope.kind = .function
  nocell : ∀ y ∈ scope.names, y.2 ≠ .cell
  names : ∀ y ∈ scope.names, y.2 = .local → scope.names.lookup y.1 = some .local
  fr : ∀ y ∈ scope.names, y.2 = .free → osc.names.lookup y.1 = some .cell ∨ osc.names.lookup y.1 = some .free
  len : src.length = N.length
  srcs : srcOk N src scope oN = true
def sub (src : List (Option Nat)) (σ : St) : St := src.map fun o => match o with | none => none | some j => (σ[j]?).getD none
theorem srcOk_at {N : List Str} {src : List (Option Nat)} {scope : Scope} {oN : List Str} (h : srcOk N src scope oN = true) {i j : Nat} {x : Str} (h1 : N[i]? = some x) (h2 : src[i]? = some (some j)) : oN[j]? = some x ∧ scope.names.lookup x = some .free := by
  have hm : (x, some j) ∈ N.zip src := by
    refine List.mem_of_getElem? (i := i) ?_
    rw [List.getElem?_zip_eq_some]
    exact ⟨h1, h2⟩
  have := List.all_eq_true.mp h _ hm
  simp only [Bool.and_eq_true, beq_iff_eq] at this
  exact this
theorem sub_at {src : List (Option Nat)} {σ : St} {i : Nat} {v : V} (h : (sub src σ)[i]? = some (some v)) : ∃ j, src[i]? = some (some j) ∧ σ[j]? = some (some v) := by
  unfold sub at h
  rw [List.getElem?_map] at h
  cases e : src[i]? with
  | none => rw [e] at h; simp at h
  | some o =>
    rw [e] at h
    cases o with
    | none => simp at h
    | some j =>
      refine ⟨j, rfl, ?_⟩
      cases e2 : σ[j]? with
      | none => simp [e2] at h
      | some o2 =>
        simp [e2] at h
        rw [h]
structure PTs (X : Cx) (ifs : List Expr) (t : TT) : Prop where
  run :
    ∀ (pins : List (Addr × Obj)) (s : Shared) (σ : St) (H : Hp) (Q : Bool → Hp → Prop), Inv X pins σ H s → t σ H Q →
      wpAny (model X.prog X.w) X.A (forIn ifs true fun c r => if r = true then do let ok ← isTrue c X.env (eval c X.env); pure (ForInStep.yield ok) else pure (ForInStep.yield r)) (TP X pins σ Q) X.xe s
instance {X : Cx} {ifs : List Expr} {t : TT} : CoeFun (PTs X ifs t) (fun _ =>
  ∀ (pins : List (Addr × Obj)) (s : Shared) (σ : St) (H : Hp) (Q : Bool → Hp → Prop), Inv X pins σ H s → t σ H Q →
    wpAny (model X.prog X.w) X.A (forIn ifs true fun c r => if r = true then do let ok ← isTrue c X.env (eval c X.env); pure (ForInStep.yield ok) else pure (ForInStep.yield r)) (TP X pins σ Q) X.xe s) := ⟨fun h => h.run⟩
theorem pts_nil {X : Cx} : PTs X [] (fun _ H Q => Q true H) := ⟨fun _ _ _ H _ I h => wpAny_tests_nil ⟨H, I, h⟩⟩
section
variable {X : Cx} {pins : List (Addr × Obj)} {σ : St} {H : Hp} {s : Shared}
theorem Inv.clos {N : List Str} {src : List (Option Nat)} {scope : Scope} (B : BlkOk N src scope X.env.scope X.N) (I : Inv X pins σ H s) : ∀ y ∈ scope.names, y.2 = .free → ∃ c, X.env.cells.lookup y.1 = some c :=
  fun y hy hf => I.ok.has y.1 (B.fr y hy hf)
theorem Inv.block {N : List Str} {src : List (Option Nat)} {scope : Scope} {fp : List Addr} {s1 : Shared} {C : Addr} {m : Str → Option Value} (B : BlkOk N src scope X.env.scope X.N) (I : Inv X pins σ H s)
    (hf : ∀ b ∈ fp, FpOk X pins H b) (hfo : ∀ b ∈ fp, b < s.heap.objs.size) (hC : s.heap.objs.size ≤ C) (ho : s1.os = s.os) (hb : AllBare s1.gens) (hk : ∀ b o, s.heap.get? b = some o → s1.heap.get? b = some o) (hn : s1.heap.Ns C m) :
    Inv (blk X N scope (closL X.env scope.names []) s H fp pins C) [] (sub src σ) H s1 := by
  have hclos := I.clos B
  have cl_sub : ∀ x c, (closL X.env scope.names []).lookup x = some c → X.env.cells.lookup x = some c := closL_sub _ _ (fun x c e => by simp at e)
  have fsub : ∀ b ∈ frs X.stack, b < s.heap.objs.size := fun b hb => by
    obtain ⟨_, o, ho, _⟩ := I.stack.mem hb
    exact Heap.lt_size ho
  refine ⟨⟨I.ok.mod, B.kind, I.ok.glob, I.ok.blt, hC, fun x y c e1 e2 => I.ok.inj x y c (cl_sub x c e1) (cl_sub y c e2), fun x hx => ?_, fun x c hx => absurd hx Bool.false_ne_true, I.ok.hd, I.ok.frames, .inl rfl, fun b hb => ⟨?_, fun x c e => ?_⟩, fun b o e => ?_, Nat.le_trans I.ok.bsz I.sz, fun b o e hb => ?_, fun b hb hz => ?_, I.stack, I.stkFree⟩,
    ho, hb, Un.kept hk, ⟨m, hn, fun i x v e1 e2 e3 => ?_⟩, fun x c e => ?_, ?_, fun x c e => I.freeC x c (cl_sub x c e), fun p hp => ?_, I.hok.kept hk, ?_⟩
  · have hx' := relabel_cf (env := X.env) B.nocell hx
    exact closL_has _ _ x hclos (.inr (PySem.mem_of_lookup hx'))
  · exact Nat.ne_of_lt (Nat.lt_of_lt_of_le (hfo b hb) hC)
  · exact (hf b hb).2.2.2.2.1 x c (cl_sub x c e)
  · exact I.bs b o e
  · rcases (hf b hb).2.2.2.1 with z | z
    · exact I.ok.noex b o e z
    · exact absurd (Nat.lt_of_lt_of_le (Heap.lt_size e) (Nat.le_trans I.ok.bsz z)) (Nat.lt_irrefl _)
  · rcases List.mem_cons.mp (I.stkSub b hz) with e | z
    · exact (hf b hb).2.1 e
    · exact (hf b hb).2.2.1 z
  · obtain ⟨j, ej, ev⟩ := sub_at e2
    obtain ⟨oj, fj⟩ := srcOk_at B.srcs e1 ej
    have hvis := B.fr _ (PySem.mem_of_lookup fj) rfl
    obtain ⟨m0, hn0, hl0⟩ := id I.loc
    obtain ⟨u, ru, lk⟩ := hl0 j x v oj ev (.inr hvis)
    refine ⟨u, ru, .inr ⟨relabel_free fj, ?_⟩⟩
    rcases lk with ⟨k, _⟩ | ⟨k, c, hc, hcell⟩
    · have k' : X.env.scope.names.lookup x = some .local := k
      rcases hvis with z | z <;> (rw [k'] at z; cases z)
    · obtain ⟨c', hc'⟩ := closL_has (env := X.env) scope.names [] x hclos (.inr (PySem.mem_of_lookup fj))
      have e := cl_sub x c' hc'
      rw [hc] at e
      cases e
      obtain ⟨o, ho, hd⟩ := hcell
      exact ⟨c, hc', o, hk _ _ ho, hd⟩
  · obtain ⟨v, o, ho, hd⟩ := I.cell x c (cl_sub x c e)
    exact ⟨v, o, hk _ _ ho, hd⟩
  · exact I.hok.fresh hC
  · have hp' : p ∈ X.pn ++ pins := by
      rcases List.mem_append.mp hp with z | z
      · exact z
      · simp at z
    obtain ⟨q1, q2, q3, q4, q5⟩ := I.pin p hp'
    refine ⟨hk _ _ q1, q2, Nat.ne_of_lt (Nat.lt_of_lt_of_le (Heap.lt_size q1) hC), fun z => ?_, q5⟩
    rcases List.mem_cons.mp (I.stkSub _ z) with e | z
    · exact q3 e
    · exact q4 z
  · show (sub src σ).length = N.length
    unfold sub
    rw [List.length_map]
    exact B.len
end

section
variable {prog : Program} {w : World} {A : Around} {R : Result → Shared → Prop} {s : Shared}
theorem compLoop_go {elt target iter : Expr} {ifs : List Expr} {scope : Scope} {pos : Pos} {it acc : Value} {env : Env} (I : Nat → Shared → Prop)
    (turn : ∀ n s, I n s → wpAny (model prog w) A (pyNext it) (fun r s₁ => match r with
      | none => R (.ok .next) s₁
      | some v => wpAny (model prog w) A (letOwnedTupleGo target it v) (fun _ s₁' => wpAny (model prog w) A (assign target env v) (fun _ s₂ =>
          wpAny (model prog w) A (forIn ifs true fun c r => if r = true then do let ok ← isTrue c env (eval c env); pure (ForInStep.yield ok) else pure (ForInStep.yield r)) (fun ok s₃ =>
            if ok = true then wpAny (model prog w) A (eval elt env) (fun x s₄ =>
              wpAny (model prog w) A (call (.builtin "list.append") [acc, x]) (fun _ s₅ => ∃ m, m < n ∧ I m s₅) (fun _ _ => False) s₄) (fun _ _ => False) s₃
            else ∃ m, m < n ∧ I m s₃) (fun _ _ => False) s₂) (fun _ _ => False) s₁') (fun _ _ => False) s₁) (fun _ _ => False) s)
    (n : Nat) (h : I n s) :
    codeAny (model prog w) A (.compLoop (.ListComp elt [⟨target, iter, ifs, 0⟩] scope pos) 0 it acc env) R s := by
  have nv : ∀ {α : Type} {t : Sem α} {Q : α → Shared → Prop} {E : Value → Shared → Prop} {s : Shared}, wpAny (model prog w) A t Q (fun _ _ => False) s → wpAny (model prog w) A t Q E s := fun h => wpAny_mono h (fun _ _ x => x) fun _ _ x => x.elim
  refine codeAny_loop rfl I (fun n s hI => ?_) n h
  show wpAny _ A ((compTurn (.ListComp elt [⟨target, iter, ifs, 0⟩] scope pos) 0 it acc env).onRaise (fun x => do noteFrame x env; theTreesLotGoes x)) _ _ s
  refine wpAny_noted ?_
  rw [compTurn_list]
  refine wpAny_bind (wpAny_standAt (wpAny_bind (nv (thn (turn n s hI) (fun r s₁ h₁ => ?_)))))
  cases r with
  | none => exact wpAny_pure h₁
  | some v =>
    refine wpAny_bind (wpAny_mono h₁ (fun _ s₁' h₁' => ?_) fun _ _ x => x.elim)
    refine wpAny_bind (wpAny_mono h₁' (fun _ s₂ h₂ => wpAny_bind (wpAny_mono h₂ (fun ok s₃ h₃ => ?_) fun _ _ h' => h'.elim)) fun _ _ h' => h'.elim)
    cases ok with
    | false => exact wpAny_pure ⟨rfl, h₃⟩
    | true =>
      exact wpAny_bind (wpAny_bind (wpAny_mono h₃ (fun x s₄ h₄ => wpAny_bind (wpAny_mono h₄ (fun _ s₅ h₅ => wpAny_pure (wpAny_pure ⟨rfl, h₅⟩)) fun _ _ h' => h'.elim)) fun _ _ h' => h'.elim))
end

def CompW (J : It) (g : TG) (tt : TT) (te : TE) (σ₀ : St) (H₀ : Hp) (Q : VK) : Prop :=
  ∃ W : Nat → Nat → List V → St → Hp → Prop, (∃ m, W 0 m [] σ₀ H₀) ∧ ∀ i m ys σ H, W i m ys σ H → ys.length ≤ sizeLine ∧
    ((J.stop i H ∧ ∀ D, H D = none → Q (.ref D) (upd H D (.lst ys))) ∨
     (J.go i H ∧ ∃ N : List V → St → Hp → Prop, (∀ zs σ' H', N zs σ' H' → ∃ m', m' < m ∧ W (i + 1) m' zs σ' H') ∧
       ∀ x H', J.yld i H x H' → g x σ H' fun σ2 H2 => tt σ2 H2 fun b H3 => if b = true then te σ2 H3 fun v H4 => N (ys ++ [v]) σ2 H4 else N ys σ2 H3))

section
variable {X : Cx} {pins : List (Addr × Obj)} {σ : St}
theorem comp_core {tg iter elt : Expr} {ifs : List Expr} {scope : Scope} {pos : Pos} {N : List Str} {src : List (Option Nat)} {g : TG} {tt : TT} {te : TE} {J : It} {fp : List Addr} {it : Addr} {tn : Nat → Heap → Prop} {H2 : Hp} {s2 : Shared} {Q : VK} {E : Value → Shared → Prop}
    {RR : Value → Addr → Result → Shared → Prop} (B : BlkOk N src scope X.env.scope X.N) (hc : X.calm = true)
    (hb : ∀ cl s H fp pins C, PG (blk X N scope cl s H fp pins C) tg g ∧ PTs (blk X N scope cl s H fp pins C) ifs tt ∧ PE (blk X N scope cl s H fp pins C) elt te)
    (I2 : Inv X pins σ H2 s2) (T : Turn X.prog X.w X.K tg J fp it tn) (st2 : tn 0 s2.heap) (f2 : ∀ b ∈ fp, FpOk X pins H2 b) (cw : CompW J g tt te (sub src σ) H2 Q)
    (hRR : ∀ D C H' m s', Inv X pins σ H' s' → s'.heap.Ns C m → FpOk X pins H' C → D ≠ C → Q (.ref D) H' → RR (.ref D) C (.ok .next) s') :
    wpAny (model X.prog X.w) X.A (newList []) (fun acc s₃ => wpAny (model X.prog X.w) X.A (newFunctionEnv scope X.env.globals (closL X.env scope.names []) [] X.env.qual none .none (some X.env)) (fun cenv s₄ =>
      codeAny (model X.prog X.w) X.A (.compStart (.ListComp elt [⟨tg, iter, ifs, 0⟩] scope pos) 0 (.ref it) acc { cenv with scope := relabel scope X.env }) (RR acc cenv.locals) s₄) E s₃) E s2 := by
  refine wpAny_newObj_type (wpAny_newFunctionEnv B.nocell (by intro y hy; simp at hy) (fun h₁ hns₁ hsb₁ => ?_) B.kind)
  dsimp only at hns₁ hsb₁ ⊢
  generalize hH2 : s2.heap.push { cls := .type "list", dict := none, data := .seq ([] : List Value).toArray } = HH at hns₁ hsb₁ ⊢
  have hCs : HH.objs.size = s2.heap.objs.size + 1 := by rw [← hH2, Heap.size_push]
  have hDC : s2.heap.objs.size ≠ HH.objs.size := by rw [hCs]; exact Nat.ne_of_lt (Nat.lt_succ_self _)
  have hCle : s2.heap.objs.size ≤ HH.objs.size := by rw [hCs]; exact Nat.le_succ _
  have fpo : ∀ b ∈ fp, b < s2.heap.objs.size := fun b hb => by
    obtain ⟨o, e, _⟩ := T.obj _ _ st2 b hb
    exact Heap.lt_size e
  have old : ∀ b o, s2.heap.get? b = some o → h₁.get? b = some o := fun b o e =>
    hsb₁.extBut b o (by rw [hCs]; exact Nat.ne_of_lt (Nat.lt_succ_of_lt (Heap.lt_size e))) (Heap.get?_push_of_some _ (hH2 ▸ Heap.get?_push_of_some _ e))
  have hacc : h₁.PlainList s2.heap.objs.size #[] := ⟨_, hsb₁.extBut _ _ hDC (Heap.get?_push_of_some _ (hH2 ▸ Heap.get?_push_size _ rfl))⟩
  have st1 : tn 0 h₁ := T.keep _ _ _ st2 fun b _ o e => old b o e
  obtain ⟨W, ⟨m0, w0⟩, turn⟩ := cw
  have fsub : ∀ b ∈ frs X.stack, b < s2.heap.objs.size := fun b hb => by
    obtain ⟨_, o, ho, _⟩ := I2.stack.mem hb
    exact Heap.lt_size ho
  -- the block
  generalize hXb : blk X N scope (closL X.env scope.names []) s2 H2 fp pins HH.objs.size = Xb
  have hbl := hb (closL X.env scope.names []) s2 H2 fp pins HH.objs.size
  rw [hXb] at hbl
  have eP : Xb.prog = X.prog := by rw [← hXb]; rfl
  have eW : Xb.w = X.w := by rw [← hXb]; rfl
  have eK : Xb.K = X.K := by rw [← hXb]; rfl
  have eA : Xb.A = X.A := by rw [← hXb]; rfl
  have eE : Xb.env = compEnvC scope (closL X.env scope.names []) HH.objs.size X.env := by rw [← hXb]; rfl
  have eL : Xb.env.locals = HH.objs.size := by rw [eE]; rfl
  have eF : Xb.fs = frs X.stack := by rw [← hXb]; rfl
  have eX : Xb.ex = fp := by rw [← hXb]; rfl
  have eS : Xb.s₀ = s2 := by rw [← hXb]; rfl
  have eH : Xb.H₀ = H2 := by rw [← hXb]; rfl
  have eC : Xb.calm = true := by rw [← hXb]; exact hc
  have ePn : Xb.pn = X.pn ++ pins := by rw [← hXb]; rfl
  have eXe : Xb.xe = fun _ _ => False := by rw [← hXb]; rfl
  have cl_sub : ∀ x c, Xb.env.cells.lookup x = some c → X.env.cells.lookup x = some c := fun x c e => by
    rw [eE] at e
    exact closL_sub scope.names [] (fun x c e => by simp at e) x c e
  have cells_lt : ∀ x c, Xb.env.cells.lookup x = some c → c < s2.heap.objs.size := fun x c e => by
    obtain ⟨v, o, ho, _⟩ := I2.cell x c (cl_sub x c e)
    exact Heap.lt_size ho
  have pins_lt : ∀ p ∈ X.pn ++ pins, p.1 < s2.heap.objs.size := fun p hp => Heap.lt_size (I2.pin p hp).1
  generalize hD : s2.heap.objs.size = D at *
  generalize hCC : HH.objs.size = C at *
  have loop : ∀ s₃ : Shared, s₃ = { s2 with heap := h₁, toks := s2.toks + ([] : List (Str × Value)).length } →
      codeAny (model X.prog X.w) X.A (.compLoop (.ListComp elt [⟨tg, iter, ifs, 0⟩] scope pos) 0 (.ref it) (.ref D) (compEnvC scope (closL X.env scope.names []) C X.env)) (RR (.ref D) C) s₃ := by
    rintro s₃ rfl
    have I3 : Inv Xb [] (sub src σ) H2 { s2 with heap := h₁, toks := s2.toks + ([] : List (Str × Value)).length } := by
      rw [← hXb]
      exact I2.block B f2 (by rw [hD]; exact fpo) (by rw [hD]; exact hCle) rfl I2.bare old hns₁
    have nD2 : H2 D = none := I2.hok.fresh (Nat.le_of_eq hD)
    -- the gathering list, pinned
    have dfs : D ∉ Xb.fs := fun z => by rw [eF] at z; exact absurd (fsub D z) (Nat.lt_irrefl _)
    have dpin : ∀ {σ' : St} {H' : Hp} {s' : Shared} {pl : List (Addr × Obj)} {its : List Value} {n : Nat}, Inv Xb pl σ' H' s' → H' D = none → s'.heap.get? D = some { cls := .type "list", data := .seq its.toArray n } →
        Inv Xb ((D, { cls := .type "list", data := .seq its.toArray n }) :: pl) σ' H' s' := fun {σ' H' s' pl its n} I' hn hg =>
      I'.pins_of fun p hp => by
        rcases List.mem_cons.mp hp with e | hp
        · subst e
          exact ⟨hg, hn, by rw [eL]; exact hDC, dfs, fun v z => by cases z⟩
        · exact I'.pin p (List.mem_append_right _ hp)
    obtain ⟨n0, hg0⟩ := hacc
    have I3' := dpin (its := []) I3 nD2 hg0
    -- what is true of the iterator's records in the block
    have fpb : ∀ {H' : Hp} {pl : List (Addr × Obj)}, (∀ p ∈ pl, p.1 = D) → (∀ b ∈ fp, H' b = none) → ∀ b ∈ fp, FpOk Xb pl H' b := fun {H' pl} hpl hn b hb => by
      refine ⟨hn b hb, by rw [eL]; exact Nat.ne_of_lt (Nat.lt_of_lt_of_le (fpo b hb) hCle), fun z => ?_, .inl (by rw [eX]; exact hb), fun x c e => (f2 b hb).2.2.2.2.1 x c (cl_sub x c e), fun p hp => ?_⟩
      · rw [eF] at z
        rcases List.mem_cons.mp (I2.stkSub b z) with e | z
        · exact (f2 b hb).2.1 e
        · exact (f2 b hb).2.2.1 z
      · rw [ePn] at hp
        rcases List.mem_append.mp hp with z | z
        · exact (f2 b hb).2.2.2.2.2 p z
        · rw [hpl p z]; exact Nat.ne_of_gt (fpo b hb)
    refine compLoop_go (fun n s' => ∃ i ys its nn σ' H', Inv Xb [(D, { cls := .type "list", data := .seq its.toArray nn })] σ' H' s' ∧ tn i s'.heap ∧ (∀ b ∈ fp, H' b = none) ∧ Vals ys its ∧ W i n ys σ' H') ?_ m0
      ⟨0, [], [], n0, sub src σ, H2, I3', st1, fun b hb => (f2 b hb).1, .nil, w0⟩
    rintro n s4 ⟨i, ys, its, nn, σ4, H4, I4, st4, fr4, vs4, w4⟩
    obtain ⟨hsz, hcase⟩ := turn i n ys σ4 H4 w4
    have one : ∀ {o : Obj}, ∀ p ∈ [(D, o)], p.1 = D := fun {o} p hp => by
      have := List.mem_singleton.mp hp
      rw [this]
    rcases hcase with ⟨stop, qn⟩ | ⟨go, Nx, hN, step⟩
    · have hdone := T.done Xb eP eW eK eC i _ s4 σ4 H4 (fun _ _ => False) I4 (fpb one fr4) st4 stop
      rw [eA] at hdone
      refine thn hdone fun r s5 ⟨hr, I5⟩ => ?_
      subst hr
      -- back in the frame
      have pd := I5.pin _ (List.mem_append_right _ List.mem_cons_self)
      have hb5 : Un (frs X.stack) fp H2 H4 s2.heap s5.heap := by
        have := I5.base
        rw [eF, eX, eS, eH] at this
        exact this
      have hok5 : HOk X.prog X.w H4 s5.heap := by
        have := I5.hok
        rw [eP, eW] at this
        exact this
      have os5 : s5.os = s2.os := by
        have := I5.os
        rw [eS] at this
        exact this
      have J5 : Inv X pins σ H4 s5 := I2.call' os5 hb5 hok5 I5.bare fun b hb => ⟨(f2 b hb).2.2.2.1, (f2 b hb).2.1, (f2 b hb).2.2.2.2.1, (f2 b hb).2.2.2.2.2⟩
      have fD : FpOk X pins H4 D := I2.fpOk (Nat.le_of_eq hD) pd.2.1
      have J6 : Inv X pins σ (upd H4 D (.lst ys)) s5 := J5.track fD ⟨hsz, its, nn, vs4, pd.1⟩
      obtain ⟨mm, nsC, _⟩ := I5.loc
      rw [eL] at nsC
      have hC4 : H4 C = none := by
        have := I5.free
        rw [eL] at this
        exact this
      have fC : FpOk X pins (upd H4 D (.lst ys)) C := I2.fpOk (by rw [hD]; exact hCle) (by rw [upd_ne (Ne.symm hDC)]; exact hC4)
      exact hRR D C _ mm s5 J6 nsC fC hDC (qn D pd.2.1)
    · have hitem := T.item Xb eP eW eK eC i _ s4 σ4 H4 (fun _ _ => False) I4 (fpb one fr4) st4 go
      rw [eA] at hitem
      refine thn hitem fun r s5 ⟨u, hr, h5⟩ => ?_
      subst hr
      refine thn h5 fun _ s6 ⟨x, H6, I6, r6, y6, st6, fr6⟩ => ?_
      have I6' := I6.pinned (fpb one fr6) (T.obj _ _ st6)
      obtain ⟨hg, ht, he⟩ := hbl
      have e1 := hg _ s6 σ4 H6 x u _ I6' r6 (step x H6 y6)
      rw [eP, eW, eA, eE, eXe] at e1
      refine thn e1 fun _ s7 ⟨σ7, H7, I7, q7⟩ => ?_
      have e2 := ht _ s7 σ7 H7 _ I7 q7
      rw [eP, eW, eA, eE, eXe] at e2
      refine thn e2 fun ok s8 ⟨H8, I8, q8⟩ => ?_
      have fin : ∀ {σ' : St} {H' : Hp} {s' : Shared} {its' : List Value} {nn' : Nat} {zs : List V}, Inv Xb ([(D, { cls := .type "list", data := .seq its'.toArray nn' })] ++ pinsAt fp s6.heap) σ' H' s' → Vals zs its' → Nx zs σ' H' →
          ∃ m, m < n ∧ ∃ i ys its nn σ' H', Inv Xb [(D, { cls := .type "list", data := .seq its.toArray nn })] σ' H' s' ∧ tn i s'.heap ∧ (∀ b ∈ fp, H' b = none) ∧ Vals ys its ∧ W i m ys σ' H' := fun {σ' H' s' its' nn' zs} I' vs' n' => by
        obtain ⟨m', hm, w'⟩ := hN zs σ' H' n'
        refine ⟨m', hm, i + 1, zs, its', nn', σ', H', I'.unpinned, T.keep _ _ _ st6 fun b hb o e => (I'.pin (b, o) (List.mem_append_right _ (List.mem_append_right _ (mem_pinsAt hb e)))).1, fun b hb => ?_, vs', w'⟩
        obtain ⟨o, e, d⟩ := T.obj _ _ st6 b hb
        exact (I'.pin (b, o) (List.mem_append_right _ (List.mem_append_right _ (mem_pinsAt hb e)))).2.1
      cases ok with
      | false =>
        simp only [Bool.false_eq_true, if_false] at q8 ⊢
        exact fin I8 vs4 q8
      | true =>
        simp only [if_true] at q8 ⊢
        have e3 := he _ s8 σ7 H8 _ I8 q8
        rw [eP, eW, eA, eE, eXe] at e3
        refine thn e3 fun v s9 ⟨y, H9, I9, r9, q9⟩ => ?_
        have pd := I9.pin _ (List.mem_append_right _ (List.mem_append_left _ List.mem_cons_self))
        have hlen := vs4.length
        refine wpAny_list_append_plain (hsz := by simp only [List.size_toArray]; omega) (⟨nn, pd.1⟩ : s9.heap.PlainList D its.toArray) fun h' ⟨nn', hg'⟩ hs' => ?_
        have I10 : Inv Xb (pinsAt fp s6.heap) σ7 H9 s9 := I9.pins_of fun p hp => I9.pin p (List.mem_append_right _ (List.mem_append_right _ hp))
        have I11 : Inv Xb (pinsAt fp s6.heap) σ7 H9 { s9 with heap := h' } := I10.turned (t' := s9.toks) (it := D) (fun b o hb e => (hs'.2 b hb).trans e) pd.2.1 (by rw [eL]; exact hDC) (.inr (by rw [eS]; exact Nat.le_of_eq hD))
          (fun x c e => Nat.ne_of_lt (cells_lt x c e)) fun p hp => by
            rw [ePn] at hp
            rcases List.mem_append.mp hp with z | z
            · exact Nat.ne_of_lt (pins_lt p z)
            · exact Nat.ne_of_lt (fpo _ (of_pinsAt z).1)
        have hg'' : h'.get? D = some { cls := .type "list", data := .seq (its ++ [v]).toArray nn' } := by
          rw [hg']
          simp
        exact fin (dpin (s' := { s9 with heap := h' }) I11 pd.2.1 hg'') (vs4.append (.cons r9 .nil)) q9
  exact codeAny_compStart_list (loop _ rfl) (T.self X.A 0 _ _ _ st1 (loop _ rfl))
end

def tComp (src : List (Option Nat)) (wi : TI) (g : TG) (tt : TT) (te : TE) : TE := fun σ H Q => wi σ H fun J H1 => CompW J g tt te (sub src σ) H1 Q
section
variable {X : Cx}
theorem pe_comp {tg iter elt : Expr} {ifs : List Expr} {scope osc : Scope} {pos : Pos} {N oN : List Str} {src : List (Option Nat)} {wi : TI} {g : TG} {tt : TT} {te : TE} (B : BlkOk N src scope osc oN) (hi : PI X tg iter wi)
    (hb : ∀ cl s H fp pins C, PG (blk X N scope cl s H fp pins C) tg g ∧ PTs (blk X N scope cl s H fp pins C) ifs tt ∧ PE (blk X N scope cl s H fp pins C) elt te)
    (hc : X.calm = true := by rfl) (eo : X.env.scope = osc := by rfl) (eN : X.N = oN := by rfl)
    (hs : ∀ x, foldedSetIterable iter X.env x = pure x := by intro _; rfl) : PE X (.ListComp elt [⟨tg, iter, ifs, 0⟩] scope pos) (tComp src wi g tt te) := by
  subst eo eN
  constructor
  intro pins s σ H Q I h
  rw [eval_ListComp]
  refine wpAny_comprehension_free (use := none) (cl := closL X.env scope.names []) rfl hs (closureFor_L (I.clos B)) B.kind B.names (thn (hi pins s σ H _ I h) fun xv s1 h1 => thn h1 fun itv s2 h2 => ?_)
  obtain ⟨it, fp, tn, J, H2, e, I2, T, st2, f2, cw⟩ := h2
  subst e
  refine comp_core B hc hb I2 T st2 f2 cw fun D C H' m s' J' nsC fC hDC q => ?_
  refine ⟨m, nsC, fun h' sb => ⟨.ref D, H', ?_, rfl, q⟩⟩
  obtain ⟨f0, f1, _, f3, f4, f5⟩ := fC
  exact J'.turned (t' := s'.toks) (fun b o hb e => (sb.2 b hb).trans e) f0 f1 f3 f4 f5
theorem ps_setComp {tg iter elt : Expr} {ifs : List Expr} {scope osc : Scope} {pos ps py : Pos} {y : Str} {i : Nat} {N oN : List Str} {src : List (Option Nat)} {wi : TI} {g : TG} {tt : TT} {te : TE} (B : BlkOk N src scope osc oN) (hN : X.N.Nodup) (hy : X.N[i]? = some y) (hi : PI X tg iter wi)
    (hb : ∀ cl s H fp pins C, PG (blk X N scope cl s H fp pins C) tg g ∧ PTs (blk X N scope cl s H fp pins C) ifs tt ∧ PE (blk X N scope cl s H fp pins C) elt te)
    (hloc : X.env.scope.names.lookup y = some .local := by rfl)
    (hsw : swapsWith (.ListComp elt [⟨tg, iter, ifs, 0⟩] scope pos) (some (.Name y py)) ps.line X.env = pure true := by rfl)
    (hc : X.calm = true := by rfl) (eo : X.env.scope = osc := by rfl) (eN : X.N = oN := by rfl)
    (hs : ∀ x, foldedSetIterable iter X.env x = pure x := by intro _; rfl) : PS X (.Assign [.Name y py] (.ListComp elt [⟨tg, iter, ifs, 0⟩] scope pos) ps) (tAsg (tComp src wi g tt te) (gName i)) := by
  subst eo eN
  constructor
  intro pins s σ H D I h
  rw [exec_Assign_Name_used _ _ _ _ hsw]
  refine wpAny_bind (wpAny_standAt (wpAny_bind ?_))
  show wpAny _ _ (evalThenUse (.ListComp elt [⟨tg, iter, ifs, 0⟩] scope pos) X.env (assign (.Name y py) X.env)) _ _ s
  have e : evalThenUse (.ListComp elt [⟨tg, iter, ifs, 0⟩] scope pos) X.env (assign (.Name y py) X.env) = (do
      let _ ← comprehension (.ListComp elt [⟨tg, iter, ifs, 0⟩] scope pos) scope X.env (firstIterPos [⟨tg, iter, ifs, 0⟩] pos) (newList []) (firstAsync [⟨tg, iter, ifs, 0⟩]) (firstIter [⟨tg, iter, ifs, 0⟩] X.env) (some (assign (.Name y py) X.env))) := rfl
  rw [e]
  refine wpAny_bind ?_
  refine wpAny_comprehension_free (use := some (assign (.Name y py) X.env)) (cl := closL X.env scope.names []) rfl hs (closureFor_L (I.clos B)) B.kind B.names (thn (hi pins s σ H _ I h) fun xv s1 h1 => thn h1 fun itv s2 h2 => ?_)
  obtain ⟨it, fp, tn, J, H2, e, I2, T, st2, f2, cw⟩ := h2
  subst e
  refine comp_core B hc hb I2 T st2 f2 cw fun D' C H' m s' J' nsC fC hDC q => ?_
  obtain ⟨f0, f1, _, f3, f4, f5⟩ := fC
  refine wpAny_assign_Name (store_ok2 J' hN hy (.inl hloc) (v := .ref D') rfl (fun s'' J'' ⟨a, sb, ha⟩ => ?_) (.inr hloc))
  have haC : C ≠ a := by
    rcases ha with rfl | ha
    · exact f1
    · exact fun z => f4 y a ha z.symm
  refine ⟨m, nsC.sameBut sb haC, fun h' sb' => wpAny_pure (wpAny_pure ⟨_, H', J''.turned (t' := s''.toks) (fun b o hb e => (sb'.2 b hb).trans e) f0 f1 f3 f4 f5, q⟩)⟩
end
end L2

set_option linter.all false
set_option maxRecDepth 100000
set_option Elab.async false
namespace L2
open PySem PySem.Spec PyProof.Rows

section
variable {X : Cx}
theorem call_isinst : CallR X (.builtin "isinstance") (fun xs H Q => ∃ x n t b, xs = [x, .ty n] ∧ TyOf X.K H x t ∧ PySem.W.kitOne X.K t (.type n) = some b ∧ Q (.bl b) H) := by
  intro pins s σ H xs us Q I r h
  obtain ⟨x, n, t, b, rfl, ty, e, q⟩ := h
  obtain ⟨u, w', rfl, r1, r2⟩ := vals2 r
  cases r2
  exact isinst_ok I r1 ty e fun tk => ⟨.bl b, H, I.tok _, rfl, q⟩
theorem op_le_str : OpR X (compareOp .LtE) (fun x y H Q => ∃ i j, x = .str i ∧ y = .str j ∧ Q (.bl (!decide (j.cps.toList < i.cps.toList))) H) := by
  intro pins s σ H x y v u Q I rx ry h
  obtain ⟨i, j, rfl, rfl, q⟩ := h
  obtain ⟨t, rfl⟩ := rx
  obtain ⟨t', rfl⟩ := ry
  exact PySem.P.le_str ⟨.bl _, H, I, rfl, q⟩
def CDivL (i j : Int) : Prop := 0 < j ∧ j.natAbs.log2 < 9000
theorem CDivL.of {i j : Int} (h : 0 < j) (h2 : j < 2 ^ 512) : CDivL i j := by
  refine ⟨h, ?_⟩
  have h0 : j.natAbs ≠ 0 := by omega
  have : j.natAbs.log2 < 512 := (Nat.log2_lt h0).mpr (by
    have e : ((2 : Int) ^ 512) = ((2 ^ 512 : Nat) : Int) := by decide +kernel
    rw [e] at h2
    omega)
  omega
theorem op_fdivL : OpR X (binaryOp .FloorDiv) (rI CDivL fun i j => .int (i / j)) := opI fun i j _ _ _ _ _ hc q => by
  have h1 : (0 : Int) < j := hc.1
  refine floordiv_int (by omega) ?_ (Or.inl (PyProof.noPylong_of_log2 hc.2))
  rw [Int.fdiv_eq_ediv_of_nonneg i (by omega)]
  exact q
def Its (x : Str) : It := ⟨fun i _ => i < x.cps.size, fun i H v H' => H' = H ∧ ∃ c, x.cps[i]? = some c ∧ v = .str ⟨#[c]⟩, fun i _ => x.cps.size ≤ i⟩
theorem turn_str {P : Program} {w : World} {K : PySem.W.Frag} {tg : Expr} (it : Addr) (x : Str) (t : Tok) (nm : String) (hnm : nm = "str_ascii_iterator" ∨ nm = "str_iterator")
    (W : ∀ A' : Around, A'.handled = none → Walks P w A' it [it] [it] x.cps.size (SignAt x) (fun i h => h.IsStrIter it nm x t i))
    (hself : ∀ (A : Around) (i : Nat) (s : Shared) (Q : Value → Shared → Prop) (E : Value → Shared → Prop), s.heap.IsStrIter it nm x t i → Q (.ref it) s → wpAny (model P w) A (pyIter (.ref it)) Q E s) :
    Turn P w K tg (Its x) [it] it (fun i h => i ≤ x.cps.size ∧ h.IsStrIter it nm x t i) where
  mem := by simp
  obj := fun i h st b hb => by
    have e : b = it := by simpa using hb
    subst e
    obtain ⟨_, o, e, c, d⟩ := st
    exact ⟨o, e, fun v z => by rw [d] at z; cases z⟩
  keep := fun i h h' st k => ⟨st.1, by obtain ⟨_, o, e, c, d⟩ := st; exact ⟨o, k it (by simp) o e, c, d⟩⟩
  item := by
    intro X hP hw hK hc i pins s σ H E I hf st hg
    subst hP hw hK
    obtain ⟨f0, f1, f2, f3, f4, f5⟩ := hf it (by simp)
    refine (W X.A (I.ok.hd hc)).item i s _ _ hg st.2 fun v h' tk hv st' kk => ?_
    obtain ⟨c, u, ec, rfl⟩ := hv
    have I1 : Inv X pins σ H { s with heap := h', toks := tk } := I.turned (fun b o hb e => kk b o (by simpa using hb) e) f0 f1 f3 f4 f5
    obtain ⟨o, e, c', d⟩ := id st'
    refine ⟨_, rfl, go_of (s := { s with heap := h', toks := tk }) e c' d (by rcases hnm with rfl | rfl <;> decide) ⟨.str ⟨#[c]⟩, H, I1, ⟨u, rfl⟩, ⟨rfl, c, ec, rfl⟩, ⟨hg, st'⟩, fun b hb => (hf b hb).1⟩⟩
  done := by
    intro X hP hw hK hc i pins s σ H E I hf st hg
    subst hP hw hK
    obtain ⟨f0, f1, f2, f3, f4, f5⟩ := hf it (by simp)
    have e : i = x.cps.size := Nat.le_antisymm st.1 hg
    subst e
    exact (W X.A (I.ok.hd hc)).done s _ _ st.2 fun h' tk kk => ⟨rfl, I.turned (fun b o hb e => kk b o (by simpa using hb) e) f0 f1 f3 f4 f5⟩
  self := fun A i s Q E st h => hself A i s Q E st.2 h
def iStr (tl : TE) : TI := fun σ H R => tl σ H fun x H1 => ∃ z, x = .str z ∧ R (Its z) H1
theorem pi_str {tg l : Expr} {tl : TE} (hl : PE X l tl) : PI X tg l (iStr tl) := by
  constructor
  intro pins s σ H R I h
  refine thn (hl pins s σ H _ I h) fun v s1 ⟨x, H1, I1, r1, q1⟩ => ?_
  obtain ⟨z, rfl, q⟩ := q1
  obtain ⟨t, rfl⟩ := r1
  have fin : ∀ (nm : String) (hnm : nm = "str_ascii_iterator" ∨ nm = "str_iterator")
      (W : ∀ A' : Around, A'.handled = none → Walks X.prog X.w A' s1.heap.objs.size [s1.heap.objs.size] [s1.heap.objs.size] z.cps.size (SignAt z) (fun i h => h.IsStrIter s1.heap.objs.size nm z t i))
      (hself : ∀ (A : Around) (i : Nat) (s : Shared) (Q : Value → Shared → Prop) (E : Value → Shared → Prop), s.heap.IsStrIter s1.heap.objs.size nm z t i → Q (.ref s1.heap.objs.size) s → wpAny (model X.prog X.w) A (pyIter (.ref s1.heap.objs.size)) Q E s),
      PIE X pins σ tg R (.ref s1.heap.objs.size) { s1 with heap := s1.heap.push { cls := .type nm, data := .fields #[.str z t, .int 0 0] } } := fun nm hnm W hself => by
    refine ⟨s1.heap.objs.size, [s1.heap.objs.size], _, _, H1, rfl, I1.kept (t' := s1.toks) fun b o e => Heap.get?_push_of_some _ e, turn_str s1.heap.objs.size z t nm hnm W hself, ⟨Nat.zero_le _, _, Heap.get?_push_size _ rfl, rfl, rfl⟩, fun b hb => ?_, q⟩
    have e : b = s1.heap.objs.size := by simpa using hb
    subst e
    exact I1.fpOk (Nat.le_refl _) (I1.hok.fresh (Nat.le_refl _))
  cases ha : z.cps.all (· < 128)
  · exact wpAny_pyIter_wide ha (fin "str_iterator" (.inr rfl) (fun A' hA => Walks.strWide hA _ z t) fun A i s Q E st h => wpAny_pyIter_striter_wide st h)
  · exact wpAny_pyIter_ascii ha (fin "str_ascii_iterator" (.inl rfl) (fun A' hA => Walks.strAscii hA _ z t) fun A i s Q E st h => wpAny_pyIter_striter_ascii st h)
theorem sl_str : SlR X (fun x lo hi H Q => ∃ z, x = .str z ∧ z.length ≤ sizeLine ∧ Q (.str (Txt.slice z lo hi)) H) := by
  intro pins s σ H x v vl vu lo hi sl Q I rx hs pl pu h
  obtain ⟨z, rfl, hz, q⟩ := h
  obtain ⟨t, rfl⟩ := rx
  refine ⟨"str", _, F.slot_str_getitem.lookup, typeIs_str _ _ _, ?_⟩
  have fin : ∀ t' k, EP X pins σ Q (.str (Txt.slice z lo hi) t') { s with toks := k } := fun t' k => ⟨.str _, H, I.tok _, ⟨_, rfl⟩, q⟩
  obtain ⟨o, ho, hc, hd⟩ := hs
  cases pl with
  | none =>
    cases pu with
    | none => exact wpAny_getItem_str_slice (l := none) (u := none) (st := none) ⟨o, ho, hc, hd⟩ rfl (post_val_or_str ⟨Nat.le_trans (Txt.slice_le z _ _) hz, fin⟩)
    | int j uj => exact wpAny_getItem_str_slice (l := none) (u := some (j, uj)) (st := none) ⟨o, ho, hc, hd⟩ rfl (post_val_or_str ⟨Nat.le_trans (Txt.slice_le z _ _) hz, fin⟩)
  | int i ui =>
    cases pu with
    | none => exact wpAny_getItem_str_slice (l := some (i, ui)) (u := none) (st := none) ⟨o, ho, hc, hd⟩ rfl (post_val_or_str ⟨Nat.le_trans (Txt.slice_le z _ _) hz, fin⟩)
    | int j uj => exact wpAny_getItem_str_slice (l := some (i, ui)) (u := some (j, uj)) (st := none) ⟨o, ho, hc, hd⟩ rfl (post_val_or_str ⟨Nat.le_trans (Txt.slice_le z _ _) hz, fin⟩)
theorem strs_of : ∀ {ys : List Str} {us : List Value}, Vals (ys.map V.str) us → StrsAre us ys
  | [], _, .nil => .nil
  | y :: ys, _, .cons ⟨t, rfl⟩ r => .cons y t (strs_of r)
theorem mt_join : MtR X "str.join" (fun x xs H Q => ∃ z p ys, x = .str z ∧ xs = [.ref p] ∧ SqL X.K H p (ys.map V.str) ∧ (ys.map (·.length)).sum + ys.length * z.length ≤ 16777216 ∧ Q (.str (Txt.join z ys)) H) := by
  intro pins s σ H x xs v us Q I rx r h
  obtain ⟨z, p, ys, rfl, rfl, hx, hz, q⟩ := h
  obtain ⟨t, rfl⟩ := rx
  obtain ⟨u, rfl, ru⟩ := vals1 r
  cases ru
  obtain ⟨its, rv, pl, _⟩ := I.list hx
  exact join_list pl.isList (by simpa using strs_of rv) hz fun t' k => ⟨.str _, H, I.tok _, ⟨_, rfl⟩, q⟩
theorem bools_of : ∀ {bs : List Bool} {us : List Value}, Vals (bs.map V.bl) us → ∀ (i : Nat) v, us[i]? = some v → ∃ b, bs[i]? = some b ∧ v = .bool b
  | [], _, .nil, i, v, e => by simp at e
  | b :: bs, _, .cons rfl r, 0, v, e => by simp at e; exact ⟨b, rfl, e.symm⟩
  | b :: bs, _, .cons rfl r, i + 1, v, e => by
    obtain ⟨c, h1, h2⟩ := bools_of r i v (by simpa using e)
    exact ⟨c, by simpa using h1, h2⟩
theorem range_allB (bs : List Bool) : ((List.range bs.length).all fun i => (bs[i]?).getD true) = bs.all id := by
  rw [Bool.eq_iff_iff, List.all_eq_true, List.all_eq_true]
  constructor
  · intro h b hb
    obtain ⟨i, hi, e⟩ := List.mem_iff_getElem.mp hb
    have := h i (List.mem_range.mpr hi)
    rw [List.getElem?_eq_getElem hi] at this
    simpa [e] using this
  · intro h i hi
    have hi' := List.mem_range.mp hi
    rw [List.getElem?_eq_getElem hi']
    exact h _ (List.getElem_mem hi')
theorem call_all (hc : X.calm = true) : CallR X (.builtin "all") (fun xs H Q => ∃ (p : Addr) (bs : List Bool), xs = [.ref p] ∧ SqL X.K H p (bs.map V.bl) ∧ Q (.bl (bs.all id)) H) := by
  intro pins s σ H xs us Q I r h
  obtain ⟨p, bs, rfl, hx, q⟩ := h
  obtain ⟨u, rfl, ru⟩ := vals1 r
  cases ru
  obtain ⟨its, rv, pl, _⟩ := I.list hx
  have hl := pl.isList
  have hlen : its.length = bs.length := by have := rv.length; simpa using this.symm
  have hlt : p < s.heap.objs.size := by obtain ⟨_, e, _⟩ := hl; exact Heap.lt_size e
  refine call_all_walk (wpAny_pyIter_list hl ?_)
  refine ⟨s.heap.objs.size, [s.heap.objs.size, p], [s.heap.objs.size], its.toArray.size, _, _, fun i => (bs[i]?).getD true, rfl, Walks.list (A := X.A.in1) (I.ok.hd hc) _ p (Nat.ne_of_lt hlt) its.toArray,
    ⟨⟨_, Heap.get?_push_size _ rfl, rfl, rfl⟩, hl.push _⟩, fun i v s' Q' E' hP hQ => ?_, fun h' tk hk => ?_⟩
  · obtain ⟨b, e, rfl⟩ := bools_of rv i v (by simpa using hP)
    simp only [e, Option.getD_some] at hQ
    exact wpAny_truthy_bool hQ
  · rw [List.size_toArray, hlen, range_allB]
    exact ⟨.bl _, H, I.kept fun b x e => hk b x (fun hm => by rw [List.mem_singleton.mp hm] at e; exact Nat.lt_irrefl _ (Heap.lt_size e)) (Heap.get?_push_of_some _ e), rfl, q⟩
def eqVs : List V → List V → Bool
  | [], [] => true
  | x :: xs, y :: ys => eqV x y && eqVs xs ys
  | _, _ => false
theorem eqVs_len : ∀ {xs ys : List V}, xs.length ≠ ys.length → eqVs xs ys = false
  | [], [], h => absurd rfl h
  | [], _ :: _, _ => rfl
  | _ :: _, [], _ => rfl
  | x :: xs, y :: ys, h => by
    show (eqV x y && eqVs xs ys) = false
    rw [eqVs_len (fun e => h (by simp [e])), Bool.and_false]
theorem eqVs_all : ∀ {xs ys : List V}, xs.length = ys.length → ((List.range xs.length).all fun i => eqV (xs[i]?.getD .non) (ys[i]?.getD .non)) = eqVs xs ys
  | [], [], _ => rfl
  | x :: xs, y :: ys, h => by
    have ih := eqVs_all (xs := xs) (ys := ys) (by simpa using h)
    rw [List.length_cons, List.range_succ_eq_map, List.all_cons, List.all_map]
    show (eqV x y && _) = (eqV x y && eqVs xs ys)
    rw [← ih]
    rfl
theorem eq_items {A : Around} {s : Shared} {xs ys : List V} {us ws : List Value} (r1 : Vals xs us) (r2 : Vals ys ws) (f1 : xs.all flatV = true) (f2 : ys.all flatV = true) (j : Nat) (h1 : j < us.toArray.size) (h2 : j < ws.toArray.size) :
    SeqAt.EqAt A s us.toArray[j] ws.toArray[j] (eqV (xs[j]?.getD .non) (ys[j]?.getD .non)) := by
  have l1 := r1.length
  have l2 := r2.length
  have h1' : j < xs.length := by simpa [l1] using h1
  have h2' : j < ys.length := by simpa [l2] using h2
  obtain ⟨u, eu, ru⟩ := r1.get (List.getElem?_eq_getElem h1')
  obtain ⟨w', ew, rw'⟩ := r2.get (List.getElem?_eq_getElem h2')
  have e1 : us.toArray[j] = u := by
    rw [List.getElem?_eq_getElem (by simpa using h1)] at eu
    simpa using eu
  have e2 : ws.toArray[j] = w' := by
    rw [List.getElem?_eq_getElem (by simpa using h2)] at ew
    simpa using ew
  rw [e1, e2, List.getElem?_eq_getElem h1', List.getElem?_eq_getElem h2']
  exact eqAt_V ru rw' (List.all_eq_true.mp f1 _ (List.getElem_mem h1')) (List.all_eq_true.mp f2 _ (List.getElem_mem h2'))
theorem op_eqL (hu : X.A.units < cLine) : OpR X (compareOp .Eq) (fun x y H Q => ∃ p q xs ys, x = .ref p ∧ y = .ref q ∧ SqL X.K H p xs ∧ SqL X.K H q ys ∧ xs.all flatV = true ∧ ys.all flatV = true ∧ Q (.bl (eqVs xs ys)) H) := by
  intro pins s σ H x y v u Q I rx ry h
  obtain ⟨p, q, xs, ys, rfl, rfl, h1, h2, f1, f2, hq⟩ := h
  cases rx
  cases ry
  obtain ⟨us, r1, p1, _⟩ := I.list h1
  obtain ⟨ws, r2, p2, _⟩ := I.list h2
  have l1 := r1.length
  have l2 := r2.length
  by_cases e : xs.length = ys.length
  · refine SeqAt.eq_listAt p1.isList p2.isList (by simp; omega) hu (eq_items r1 r2 f1 f2) ?_
    rw [List.size_toArray, ← l1, eqVs_all e]
    exact ⟨.bl _, H, I, rfl, hq⟩
  · refine SeqAt.eq_list_lengthsAt p1.isList p2.isList (by simp; omega) hu ?_
    rw [eqVs_len e] at hq
    exact ⟨.bl _, H, I, rfl, hq⟩
theorem op_neL (hu : X.A.units < cLine) : OpR X (compareOp .NotEq) (fun x y H Q => ∃ p q xs ys, x = .ref p ∧ y = .ref q ∧ SqL X.K H p xs ∧ SqL X.K H q ys ∧ xs.all flatV = true ∧ ys.all flatV = true ∧ Q (.bl (!eqVs xs ys)) H) := by
  intro pins s σ H x y v u Q I rx ry h
  obtain ⟨p, q, xs, ys, rfl, rfl, h1, h2, f1, f2, hq⟩ := h
  cases rx
  cases ry
  obtain ⟨us, r1, p1, _⟩ := I.list h1
  obtain ⟨ws, r2, p2, _⟩ := I.list h2
  have l1 := r1.length
  have l2 := r2.length
  by_cases e : xs.length = ys.length
  · refine SeqAt.RcNeAt.lists p1.isList p2.isList (by simp; omega) hu (eq_items r1 r2 f1 f2) X.prog X.w _ _ ?_
    rw [List.size_toArray, ← l1, eqVs_all e]
    exact ⟨.bl _, H, I, rfl, hq⟩
  · refine SeqAt.RcNeAt.lists_lengths p1.isList p2.isList (by simp; omega) hu X.prog X.w _ _ ?_
    rw [eqVs_len e] at hq
    exact ⟨.bl _, H, I, rfl, hq⟩
end
end L2

set_option linter.all false
set_option maxRecDepth 100000
set_option Elab.async false
namespace L2
open PySem PySem.Spec PyProof.Rows
theorem sizeLine_big {n : Nat} (h : n ≤ 1000000) : n ≤ sizeLine := by
  have : sizeLine = 16777216 := sizeLine_eq
  omega
theorem comp_by {J : It} {g : TG} {tt : TT} {te : TE} {σ₀ : St} {H₀ : Hp} {Q : VK} (n : Nat) (Pv : Nat → List V → St → Hp → Prop) (h0 : Pv 0 [] σ₀ H₀) (hn : n ≤ sizeLine) (hlen : ∀ i ys σ H, Pv i ys σ H → ys.length ≤ i)
    (hgo : ∀ i ys σ H, i < n → Pv i ys σ H → J.go i H) (hstop : ∀ ys σ H, Pv n ys σ H → J.stop n H)
    (hs : ∀ i ys σ H x H', i < n → Pv i ys σ H → J.yld i H x H' → g x σ H' fun σ2 H2 => tt σ2 H2 fun b H3 => if b = true then te σ2 H3 fun v H4 => Pv (i + 1) (ys ++ [v]) σ2 H4 else Pv (i + 1) ys σ2 H3)
    (hd : ∀ ys σ H, Pv n ys σ H → ∀ D, H D = none → Q (.ref D) (upd H D (.lst ys))) : CompW J g tt te σ₀ H₀ Q := by
  refine ⟨fun i m ys σ H => m = n - i ∧ i ≤ n ∧ Pv i ys σ H, ⟨n, by simp, Nat.zero_le _, h0⟩, ?_⟩
  rintro i m ys σ H ⟨rfl, hi, p⟩
  refine ⟨Nat.le_trans (hlen i ys σ H p) (Nat.le_trans hi hn), ?_⟩
  by_cases hlt : i < n
  · exact .inr ⟨hgo i ys σ H hlt p, Pv (i + 1), fun zs σ' H' p' => ⟨n - (i + 1), by omega, rfl, hlt, p'⟩, fun x H' y => hs i ys σ H x H' hlt p y⟩
  · have e : i = n := by omega
    subst e
    exact .inl ⟨hstop ys σ H p, hd ys σ H p⟩
theorem comp_str {x : Str} {g : TG} {tt : TT} {te : TE} {σ₀ : St} {H₀ : Hp} {Q : VK} (Pv : Nat → List V → St → Hp → Prop) (h0 : Pv 0 [] σ₀ H₀) (hn : x.cps.size ≤ sizeLine) (hlen : ∀ i ys σ H, Pv i ys σ H → ys.length ≤ i)
    (hs : ∀ i c ys σ H, x.cps[i]? = some c → Pv i ys σ H → g (.str ⟨#[c]⟩) σ H fun σ2 H2 => tt σ2 H2 fun b H3 => if b = true then te σ2 H3 fun v H4 => Pv (i + 1) (ys ++ [v]) σ2 H4 else Pv (i + 1) ys σ2 H3)
    (hd : ∀ ys σ H, Pv x.cps.size ys σ H → ∀ D, H D = none → Q (.ref D) (upd H D (.lst ys))) : CompW (Its x) g tt te σ₀ H₀ Q :=
  comp_by x.cps.size Pv h0 hn hlen (fun i _ _ _ h _ => h) (fun _ _ _ _ => Nat.le_refl _) (fun i ys σ H v H' hi p y => by
    obtain ⟨e, c, ec, rfl⟩ := y
    subst e
    exact hs i c ys σ _ ec p) hd
theorem comp_range {lo : Int} {n : Nat} {g : TG} {tt : TT} {te : TE} {σ₀ : St} {H₀ : Hp} {Q : VK} (Pv : Nat → List V → St → Hp → Prop) (h0 : Pv 0 [] σ₀ H₀) (hn : n ≤ sizeLine) (hlen : ∀ i ys σ H, Pv i ys σ H → ys.length ≤ i)
    (hs : ∀ i ys σ H, i < n → Pv i ys σ H → g (.int (lo + i)) σ H fun σ2 H2 => tt σ2 H2 fun b H3 => if b = true then te σ2 H3 fun v H4 => Pv (i + 1) (ys ++ [v]) σ2 H4 else Pv (i + 1) ys σ2 H3)
    (hd : ∀ ys σ H, Pv n ys σ H → ∀ D, H D = none → Q (.ref D) (upd H D (.lst ys))) : CompW (Itr lo n) g tt te σ₀ H₀ Q :=
  comp_by n Pv h0 hn hlen (fun i _ _ _ h _ => h) (fun _ _ _ _ => Nat.le_refl _) (fun i ys σ H v H' hi p y => by
    obtain ⟨e, rfl⟩ := y
    subst e
    exact hs i ys σ _ hi p) hd
theorem comp_list {K : PySem.W.Frag} {a : Addr} {xs : List V} {g : TG} {tt : TT} {te : TE} {σ₀ : St} {H₀ : Hp} {Q : VK} (Pv : Nat → List V → St → Hp → Prop) (h0 : Pv 0 [] σ₀ H₀) (hn : xs.length ≤ sizeLine) (hlen : ∀ i ys σ H, Pv i ys σ H → ys.length ≤ i)
    (hl : ∀ i ys σ H, Pv i ys σ H → SqL K H a xs)
    (hs : ∀ i x ys σ H, xs[i]? = some x → Pv i ys σ H → g x σ H fun σ2 H2 => tt σ2 H2 fun b H3 => if b = true then te σ2 H3 fun v H4 => Pv (i + 1) (ys ++ [v]) σ2 H4 else Pv (i + 1) ys σ2 H3)
    (hd : ∀ ys σ H, Pv xs.length ys σ H → ∀ D, H D = none → Q (.ref D) (upd H D (.lst ys))) : CompW (Itl K a) g tt te σ₀ H₀ Q :=
  comp_by xs.length Pv h0 hn hlen (fun i ys σ H h p => ⟨xs, xs[i], hl i ys σ H p, by simp [h]⟩) (fun ys σ H p => ⟨xs, hl _ ys σ H p, Nat.le_refl _⟩) (fun i ys σ H v H' hi p y => by
    obtain ⟨e, y⟩ := y
    subst e
    exact hs i v ys σ _ (y xs (hl i ys σ _ p)) p) hd
def KeepBut (p : Addr) (H H' : Hp) : Prop := ∀ b o, H b = some o → b ≠ p → H' b = some o
theorem KeepBut.refl (p : Addr) (H : Hp) : KeepBut p H H := fun _ _ e _ => e
theorem KeepBut.trans {p : Addr} {H H1 H2 : Hp} (a : KeepBut p H H1) (b : KeepBut p H1 H2) : KeepBut p H H2 := fun c o e h => b c o (a c o e h) h
theorem KeepBut.same {p : Addr} {H H1 H2 : Hp} (a : KeepBut p H H1) (b : Same H1 H2) : KeepBut p H H2 := fun c o e h => b c o (a c o e h)
theorem Same.but {p : Addr} {H H1 : Hp} (a : Same H H1) : KeepBut p H H1 := fun c o e _ => a c o e
theorem KeepBut.upd {p : Addr} {o : HO} {H H1 : Hp} (a : KeepBut p H H1) : KeepBut p H (upd H1 p o) := fun c u e h => by rw [upd_ne h]; exact a c u e h
theorem Same.new {p : Addr} {o : HO} {H : Hp} (h : H p = none) : Same H (upd H p o) := fun c u e => by rw [upd_ne (ne_of_none e h)]; exact e
section
variable {X : Cx}
end

section
variable {X : Cx}
def tMid (t : TS) : TS := fun D σ H => ∃ R : St → Hp → Prop, t { D with nx := R } σ H ∧ ∀ σ' H', R σ' H' → D.nx σ' H'
theorem ps_mid {st : Stmt} {t : TS} (h : PS X st t) : PS X st (tMid t) := by
  constructor
  intro pins s σ H D I q
  obtain ⟨R, q1, q2⟩ := q
  refine thn (h pins s σ H _ I q1) fun f s' z => ?_
  cases f with
  | next => obtain ⟨σ', H', I', r⟩ := z; exact ⟨σ', H', I', q2 _ _ r⟩
  | brk => exact z
  | cont => exact z
  | ret u => exact z
end
theorem flat_ints : ∀ ns : List Int, (ns.map V.int).all flatV = true
  | [] => rfl
  | _ :: r => flat_ints r
theorem kit_same {K : PySem.W.Frag} {T : String} : PySem.W.kitOne K (.type T) (.type T) = some true := by
  unfold PySem.W.kitOne
  rw [if_pos (by rw [beq_self_eq_true])]
theorem atI_in {xs : List V} {i : Int} (h0 : 0 ≤ i) (h1 : i < xs.length) : ∃ v, v ∈ xs ∧ atI xs i = some v := by
  have hlt : i.toNat < xs.length := by omega
  refine ⟨xs[i.toNat], List.getElem_mem hlt, ?_⟩
  have e := atI_nat (xs := xs) (j := i.toNat) (v := xs[i.toNat]) (List.getElem?_eq_getElem hlt)
  rw [Int.toNat_of_nonneg h0] at e
  exact e
def noStar : Expr → Bool
  | .Starred .. => false
  | _ => true
theorem star_cons {e : Expr} {es : List Expr} {env : Env} (h : noStar e = true) : starEach (e :: es) env = (false, eval e env) :: starEach es env := by
  cases e <;> first | rfl | cases h
theorem pa_c {X : Cx} {e : Expr} {es : List Expr} {te : TE} {t : TA} (ha : PE X e te) (hr : PA X es t) (hs : noStar e = true := by rfl) : PA X (e :: es) (tCons te t) := pa_cons ha hr (star_cons hs)
end L2

set_option linter.all false
set_option maxRecDepth 100000
set_option Elab.async false
namespace L2
open PySem PySem.Spec PyProof.Rows
section
variable {X : Cx}
def gLst (K : PySem.W.Frag) (n : Nat) (t : TGs) : TG := fun v σ H Q => ∃ a xs, v = .ref a ∧ SqL K H a xs ∧ xs.length = n ∧ t xs σ H Q
theorem pg_lst {es : List Expr} {k : Nat} {t : TGs} {n : Nat} {pos : Pos} (hc : X.calm = true) (h : PGs X es t)
    (hn : (assignEach es X.env).length = n := by rfl) (hst : (assignEach es X.env).findIdx? (·.1) = none := by rfl) : PG X (.Tuple es k pos) (gLst X.K n t) := by
  constructor
  intro pins s σ H v u Q I r hw
  obtain ⟨a, xs, e1, hq, hl, hw⟩ := hw
  subst e1
  cases r
  obtain ⟨its, rv, ht, hz⟩ := I.list hq
  rw [assign_Tuple]
  refine wpAny_bind (wpAny_standAt ?_)
  unfold unpack
  have e : (assignEach es X.env).length = its.toArray.size := by simp [hn, ← hl, rv.length]
  rw [e, hst]
  refine wpAny_bind (wpAny_holding (PySem.W.kun_itemsOf (I.ok.hd hc) ht.isList fun h' hx => ?_))
  have I1 : Inv X pins σ H { s with heap := h' } := I.kept (t' := s.toks) fun b o e => hx b o (Nat.ne_of_lt (Heap.lt_size e)) e
  exact h pins _ σ H xs _ Q I1 (by simpa using rv) hw
structure ZA (z TI TO i1 i2 : Addr) : Prop where
  a1 : TI ≠ z
  a2 : TO ≠ z
  a3 : i1 ≠ z
  a4 : i2 ≠ z
  a5 : TI ≠ TO
  a6 : TI ≠ i1
  a7 : TI ≠ i2
  a8 : TO ≠ i1
  a9 : TO ≠ i2
  a10 : i1 ≠ i2
end
end L2

set_option linter.all false
set_option maxRecDepth 100000
set_option Elab.async false
set_option maxHeartbeats 4000000
namespace L2
open PySem PyProof.Rows
def stepS (σ : List Str) (v : Str) : List Str := if v ∈ σ then σ else σ ++ [v]
def metS (val : Nat → Str) : Nat → List Str
  | 0 => []
  | i + 1 => stepS (metS val i) (val i)
theorem any_mem (σ : List Str) (k : Str) : (σ.any fun x => x == k) = decide (k ∈ σ) := by
  rw [Bool.eq_iff_iff, List.any_eq_true, decide_eq_true_iff]
  constructor
  · rintro ⟨x, hx, e⟩
    rw [beq_iff_eq] at e
    exact e ▸ hx
  · intro h
    exact ⟨k, h, beq_self_eq_true k⟩
theorem stepS_any (σ : List Str) (v k : Str) : ((stepS σ v).any fun x => x == k) = ((σ.any fun x => x == k) || decide (k = v)) := by
  rw [any_mem, any_mem]
  unfold stepS
  split
  · next h =>
    rw [Bool.eq_iff_iff]
    simp only [decide_eq_true_eq, Bool.or_eq_true]
    constructor
    · intro z; exact .inl z
    · rintro (z | z)
      · exact z
      · exact z ▸ h
  · rw [Bool.eq_iff_iff]
    simp
theorem stepS_length (σ : List Str) (v : Str) : (stepS σ v).length = if (σ.any fun x => x == v) = true then σ.length else σ.length + 1 := by
  rw [any_mem]
  unfold stepS
  by_cases h : v ∈ σ
  · rw [if_pos h, if_pos (decide_eq_true h)]
  · rw [if_neg h, if_neg (by simpa using h), List.length_append]; rfl
theorem metS_le (val : Nat → Str) : ∀ i, (metS val i).length ≤ i
  | 0 => Nat.le_refl _
  | i + 1 => by
    have ih := metS_le val i
    show (stepS _ _).length ≤ _
    rw [stepS_length]
    split <;> omega
end L2

set_option linter.all false
set_option maxRecDepth 100000
set_option Elab.async false
set_option maxHeartbeats 4000000
namespace L2
open PySem PyProof.Rows
section
variable {X : Cx}
theorem metS_sub (val : Nat → Str) : ∀ i k, k ∈ metS val i ↔ ∃ j, j < i ∧ val j = k
  | 0, k => by
    show k ∈ [] ↔ _
    simp
  | i + 1, k => by
    show k ∈ stepS (metS val i) (val i) ↔ _
    have ih := metS_sub val i
    unfold stepS
    by_cases h : val i ∈ metS val i
    · rw [if_pos h, ih k]
      constructor
      · rintro ⟨j, hj, e⟩; exact ⟨j, by omega, e⟩
      · rintro ⟨j, hj, e⟩
        by_cases z : j = i
        · subst z
          obtain ⟨j', hj', e'⟩ := (ih _).mp h
          exact ⟨j', hj', e'.trans e⟩
        · exact ⟨j, by omega, e⟩
    · rw [if_neg h, List.mem_append, ih k, List.mem_singleton]
      constructor
      · rintro (⟨j, hj, e⟩ | e)
        · exact ⟨j, by omega, e⟩
        · exact ⟨i, by omega, e.symm⟩
      · rintro ⟨j, hj, e⟩
        by_cases z : j = i
        · subst z; exact .inr e.symm
        · exact .inl ⟨j, by omega, e⟩
theorem metS_full (val : Nat → Str) : ∀ i, (metS val i).length = i ↔ ((List.range i).map val).Nodup
  | 0 => by simp [metS]
  | i + 1 => by
    have ih := metS_full val i
    have hle := metS_le val i
    show (stepS (metS val i) (val i)).length = _ ↔ _
    rw [stepS_length, any_mem, List.range_succ, List.map_append, List.nodup_append]
    have hm : val i ∈ metS val i ↔ val i ∈ (List.range i).map val := by
      rw [metS_sub, List.mem_map]
      constructor
      · rintro ⟨j, hj, e⟩; exact ⟨j, List.mem_range.mpr hj, e⟩
      · rintro ⟨j, hj, e⟩; exact ⟨j, List.mem_range.mp hj, e⟩
    by_cases h : val i ∈ metS val i
    · rw [if_pos (decide_eq_true h)]
      constructor
      · intro z; omega
      · rintro ⟨_, _, z⟩
        exact absurd rfl (z _ (hm.mp h) _ (by simp))
    · rw [if_neg (by simpa using h)]
      constructor
      · intro z
        refine ⟨ih.mp (by omega), by simp, fun a ha b hb e => ?_⟩
        have hb' : b = val i := by simpa using hb
        subst hb'
        exact h (hm.mpr (e ▸ ha))
      · rintro ⟨z, _, _⟩
        rw [ih.mpr z]
theorem set_count (ss : List Str) : decide (((metS (fun i => ss.getD i "") ss.length).length : Int) = (ss.length : Int)) = decide ss.Nodup := by
  have e : (List.range ss.length).map (fun i => ss.getD i "") = ss := by
    apply List.ext_getElem?
    intro j
    rw [List.getElem?_map]
    by_cases h : j < ss.length
    · rw [List.getElem?_range h, List.getElem?_eq_getElem h]
      simp [h]
    · rw [List.getElem?_eq_none (by rw [List.length_range]; omega), List.getElem?_eq_none (by omega)]
      rfl
  have := metS_full (fun i => ss.getD i "") ss.length
  rw [e] at this
  rw [decide_eq_decide, ← this]
  omega
def rCatT0 (K : PySem.W.Frag) : R2 := fun x y H Q => ∃ a b ys, x = .ref a ∧ y = .ref b ∧ SqT K H a [] ∧ SqT K H b ys ∧ Q (.ref b) H
theorem op_catT0 : OpR X (binaryOp .Add) (rCatT0 X.K) := by
  intro pins s σ H x y v u Q I rx ry h
  obtain ⟨a, b, ys, rfl, rfl, ha, hb, q⟩ := h
  cases rx
  cases ry
  obtain ⟨its, r1, p1, _⟩ := I.tuple ha
  obtain ⟨its2, r2, p2, _⟩ := I.tuple hb
  cases r1
  obtain ⟨⟨cls, dd, data, sl⟩, ho, hc, n, hd⟩ := id p1
  obtain ⟨⟨cls2, dd2, data2, sl2⟩, ho2, hc2, n2, hd2⟩ := id p2
  simp only at hc hd hc2 hd2
  subst hc hd hc2 hd2
  exact concat_meets ⟨_, ho, rfl⟩ ⟨_, ho2, rfl⟩ noFill_tuple_add seq_tuple_add PySem.F.slot_tuple_add PySem.F.entry_tuple_add (PySem.F.args_tuple_add_2 _ _)
      (tuple_addW0 a b _ _ n n2 dd dd2 sl sl2 (by simp)) ⟨ho, ho2, ⟨.ref b, H, I, rfl, q⟩⟩
end
end L2

set_option linter.all false
set_option maxRecDepth 100000
set_option Elab.async false
set_option maxHeartbeats 4000000
namespace L2
open PySem PySem.Spec PyProof.Rows
section
variable {prog : Program} {w : World} {A : Around} {E : Value → Shared → Prop} {s : Shared}
theorem pick_rev (l : List Value) : ((List.range l.length).filterMap fun (m : Nat) => l.toArray[((l.length : Int) - 1 + (m : Int) * (-1)).toNat]?).toArray = l.reverse.toArray := by
  congr 1
  have e : ∀ k, k ≤ l.length → ((List.range k).filterMap fun (m : Nat) => l.toArray[((l.length : Int) - 1 + (m : Int) * (-1)).toNat]?) = l.reverse.take k := by
    intro k
    induction k with
    | zero => intro _; simp
    | succ k ih =>
      intro hk
      rw [List.range_succ, List.filterMap_append, ih (by omega), List.take_add_one]
      congr 1
      have e1 : ((l.length : Int) - 1 + (k : Int) * (-1)).toNat = l.length - 1 - k := by omega
      have h1 : l.length - 1 - k < l.length := by omega
      rw [List.filterMap_cons, e1]
      have e3 : l.toArray[l.length - 1 - k]? = some (l[l.length - 1 - k]) := by simp [h1]
      have e4 : l.reverse[k]? = some (l[l.length - 1 - k]) := by
        rw [List.getElem?_reverse (by omega), List.getElem?_eq_getElem h1]
      rw [e3, e4]
      rfl
  rw [e l.length (Nat.le_refl _)]
  rw [← List.length_reverse, List.take_length]
end
section
variable {X : Cx} {e st : Expr} {te ts : TE} {pos p2 : Pos}
end
end L2

set_option linter.all false
set_option maxRecDepth 100000
set_option Elab.async false
set_option maxHeartbeats 4000000
namespace L2
open PySem PySem.Spec PyProof.Rows
section
variable {X : Cx}
end
end L2

set_option linter.all false
set_option maxRecDepth 100000
set_option Elab.async false
set_option maxHeartbeats 4000000
namespace L2
open PySem PySem.Spec PyProof.Rows
mutual
inductive RdV (m : Bool) (H : Hp) : V → PyData → Prop
  | non : RdV m H .non .none
  | bl (b : Bool) : RdV m H (.bl b) (.bool b)
  | int (i : Int) : RdV m H (.int i) (.int i)
  | str (z : Str) (h : z.length ≤ 1000) : RdV m H (.str z) (.str z)
  | lst {a : Addr} {xs : List V} {ds : List PyData} (hm : m = true) (e : H a = some (.lst xs)) (hl : xs.length ≤ 1000) (r : RdVs m H xs ds) : RdV m H (.ref a) (.list ds)
  | tup {a : Addr} {xs : List V} {ds : List PyData} (e : H a = some (.tup xs)) (hl : xs.length ≤ 1000) (r : RdVs m H xs ds) : RdV m H (.ref a) (.tuple ds)
  | dct {a : Addr} (hm : m = false) (e : H a = some (.dK [])) : RdV m H (.ref a) (.dict [])
inductive RdVs (m : Bool) (H : Hp) : List V → List PyData → Prop
  | nil : RdVs m H [] []
  | cons {x : V} {d : PyData} {xs : List V} {ds : List PyData} (a : RdV m H x d) (r : RdVs m H xs ds) : RdVs m H (x :: xs) (d :: ds)
end
mutual
theorem RdV.keep {m : Bool} {H H' : Hp} (k : ∀ a o, H a = some o → (∀ kv r, o ≠ .dK (kv :: r)) → H' a = some o) : ∀ {x : V} {d : PyData}, RdV m H x d → RdV m H' x d
  | _, _, .non => .non
  | _, _, .bl b => .bl b
  | _, _, .int i => .int i
  | _, _, .str z h => .str z h
  | _, _, .lst hm e hl r => .lst hm (k _ _ e (fun _ _ z => nomatch z)) hl (RdVs.keep k r)
  | _, _, .tup e hl r => .tup (k _ _ e (fun _ _ z => nomatch z)) hl (RdVs.keep k r)
  | _, _, .dct hm e => .dct hm (k _ _ e (fun _ _ z => nomatch z))
theorem RdVs.keep {m : Bool} {H H' : Hp} (k : ∀ a o, H a = some o → (∀ kv r, o ≠ .dK (kv :: r)) → H' a = some o) : ∀ {xs : List V} {ds : List PyData}, RdVs m H xs ds → RdVs m H' xs ds
  | _, _, .nil => .nil
  | _, _, .cons a r => .cons (RdV.keep k a) (RdVs.keep k r)
end
theorem RdV.same {m : Bool} {H H' : Hp} {x : V} {d : PyData} (h : RdV m H x d) (s : Same H H') : RdV m H' x d := h.keep fun a o e _ => s a o e
theorem RdVs.same {m : Bool} {H H' : Hp} {x : List V} {d : List PyData} (h : RdVs m H x d) (s : Same H H') : RdVs m H' x d := h.keep fun a o e _ => s a o e
theorem RdVs.len {m : Bool} {H : Hp} : ∀ {xs : List V} {ds : List PyData}, RdVs m H xs ds → xs.length = ds.length
  | _, _, .nil => rfl
  | _, _, .cons _ r => by rw [List.length_cons, List.length_cons, RdVs.len r]
theorem RdVs.app {m : Bool} {H : Hp} : ∀ {xs : List V} {ds : List PyData} {ys : List V} {es : List PyData}, RdVs m H xs ds → RdVs m H ys es → RdVs m H (xs ++ ys) (ds ++ es)
  | _, _, _, _, .nil, h => h
  | _, _, _, _, .cons a r, h => .cons a (RdVs.app r h)
theorem RdVs.at {m : Bool} {H : Hp} : ∀ {xs : List V} {ds : List PyData} {i : Nat} {x : V}, RdVs m H xs ds → xs[i]? = some x → ∃ d, ds[i]? = some d ∧ RdV m H x d
  | _, _, 0, _, .cons a r, e => by simp at e; subst e; exact ⟨_, rfl, a⟩
  | _, _, i + 1, _, .cons a r, e => by simp at e; simpa using RdVs.at r e
theorem RdVs.drop {m : Bool} {H : Hp} : ∀ {xs : List V} {ds : List PyData} (i : Nat), RdVs m H xs ds → RdVs m H (xs.drop i) (ds.drop i)
  | _, _, 0, h => h
  | _, _, i + 1, .nil => .nil
  | _, _, i + 1, .cons _ r => RdVs.drop i r
theorem RdVs.take {m : Bool} {H : Hp} : ∀ {xs : List V} {ds : List PyData} (i : Nat), RdVs m H xs ds → RdVs m H (xs.take i) (ds.take i)
  | _, _, 0, _ => by simpa using RdVs.nil
  | _, _, i + 1, .nil => .nil
  | _, _, i + 1, .cons a r => .cons a (RdVs.take i r)
theorem RdVs.rev {m : Bool} {H : Hp} : ∀ {xs : List V} {ds : List PyData}, RdVs m H xs ds → RdVs m H xs.reverse ds.reverse
  | _, _, .nil => .nil
  | _, _, .cons a r => by rw [List.reverse_cons, List.reverse_cons]; exact RdVs.app (RdVs.rev r) (.cons a .nil)
section
variable {X : Cx}
mutual
theorem RdV.reads {pins : List (Addr × Obj)} {σ : St} {m : Bool} {H : Hp} {s : Shared} (I : Inv X pins σ H s) : ∀ {x : V} {d : PyData} {v : Value}, RdV m H x d → RelV x v → ∃ as, Reads s.heap v d as ∧ (m = true → d.hasDict = false) ∧ (m = false → ¬ sysModules ∈ as)
  | _, _, _, .non, r => by cases r; exact ⟨[], .none, fun _ => rfl, fun _ => by simp⟩
  | _, _, _, .bl b, r => by cases r; exact ⟨[], .bool b, fun _ => rfl, fun _ => by simp⟩
  | _, _, _, .int i, r => by obtain ⟨t, rfl⟩ := r; exact ⟨[], .int i t, fun _ => rfl, fun _ => by simp⟩
  | _, _, _, .str z _, r => by obtain ⟨t, rfl⟩ := r; exact ⟨[], .str z t, fun _ => rfl, fun _ => by simp⟩
  | _, _, _, .lst hm e _ rs, r => by
    cases r
    obtain ⟨_, its, n, rv, eo⟩ : ObjOk X.prog X.w H s.heap _ (.lst _) := I.hok _ _ e
    obtain ⟨as, ra, h1, h2⟩ := RdVs.reads I rs rv
    exact ⟨_, .list eo rfl rfl (by simpa using ra), fun _ => h1 hm, fun z => by rw [hm] at z; cases z⟩
  | _, _, _, .tup e _ rs, r => by
    cases r
    obtain ⟨_, its, rv, pt⟩ : ObjOk X.prog X.w H s.heap _ (.tup _) := I.hok _ _ e
    obtain ⟨as, ra, h1, h2⟩ := RdVs.reads I rs rv
    obtain ⟨o, eo, hc, n, hd⟩ := pt
    exact ⟨as, .tuple eo hc hd (by simpa using ra), h1, h2⟩
  | _, _, _, .dct hm e, r => by
    cases r
    obtain ⟨_, hs, vs, kv, o, es, ep, eo, hx, hd, hk, hp, _⟩ : ObjOk X.prog X.w H s.heap _ (.dK []) := I.hok _ _ e
    cases kv
    have hes : es.toList = [] := by
      cases h : es.toList with
      | nil => rfl
      | cons y r => rw [h] at hp; cases hp
    refine ⟨_, Reads.dict (kvs := []) (as := []) (bs := []) eo hx.1 hd (by rw [hes]; exact .nil) (by rw [hes]; exact .nil), (fun z => by rw [hm] at z; cases z), fun _ => ?_⟩
    intro z
    simp at z
    rw [z] at hs
    simp at hs
theorem RdVs.reads {pins : List (Addr × Obj)} {σ : St} {m : Bool} {H : Hp} {s : Shared} (I : Inv X pins σ H s) : ∀ {xs : List V} {ds : List PyData} {vs : List Value}, RdVs m H xs ds → Vals xs vs → ∃ as, ReadsAll s.heap vs ds as ∧ (m = true → PyData.hasDictAll ds = false) ∧ (m = false → ¬ sysModules ∈ as)
  | _, _, _, .nil, .nil => ⟨[], .nil, fun _ => rfl, fun _ => by simp⟩
  | _, _, _, .cons a r, .cons ra rr => by
    obtain ⟨as, h1, h2, h3⟩ := RdV.reads I a ra
    obtain ⟨bs, g1, g2, g3⟩ := RdVs.reads I r rr
    refine ⟨as ++ bs, .cons h1 g1, fun z => ?_, fun z w => ?_⟩
    · unfold PyData.hasDictAll
      rw [h2 z, g2 z]
      rfl
    · rcases List.mem_append.mp w with w | w
      · exact h3 z w
      · exact g3 z w
end
theorem call_repr {k : Nat} (hr : Room k X.A) : CallR X (.builtin "repr") (fun xs H Q => ∃ (a : Addr) (m : Bool) (d : PyData), xs = [.ref a] ∧ RdV m H (.ref a) d ∧ d.showable = true ∧ d.depth ≤ 20 ∧ d.shown.length ≤ sizeLine ∧ Q (.str d.shown) H) := by
  intro pins s σ H xs us Q I r h
  obtain ⟨a, m, d, rfl, hx, hs, hd, hz, q⟩ := h
  obtain ⟨u, rfl, ru⟩ := vals1 r
  cases ru
  obtain ⟨as, hrd, h1, h2⟩ := RdV.reads I hx rfl
  refine repr_of_reads' hrd hs (fun z => ?_) hr.gd (by have := hr.un; omega) (fun b o e => e) (fun h' u tk hk => ⟨.str d.shown, H, I.kept (t' := tk) hk, ⟨u, rfl⟩, q⟩) hz
  cases m with
  | true => rw [h1 rfl] at z; cases z
  | false => exact h2 rfl
end
end L2

set_option linter.all false
set_option maxRecDepth 100000
set_option Elab.async false
set_option maxHeartbeats 4000000
namespace L2
open PySem PySem.Spec PyProof.Rows
section
variable {prog : Program} {w : World} {A : Around} {E : Value → Shared → Prop} {s : Shared}
end
section
variable {X : Cx}
def rCatA : R2 := fun x y H Q => ∃ a b xs ys, x = .ref a ∧ y = .ref b ∧ H a = some (.tup xs) ∧ H b = some (.tup ys) ∧ xs.length + ys.length ≤ 1000000 ∧ ∀ r H', Same H H' → H' r = some (.tup (xs ++ ys)) → Q (.ref r) H'
theorem op_catA : OpR X (binaryOp .Add) rCatA := by
  intro pins s σ H x y v u Q I rx ry h
  obtain ⟨a, b, xs, ys, rfl, rfl, ha, hb, hz, q⟩ := h
  by_cases h0 : xs = []
  · subst h0
    exact op_catT0 pins s σ H _ _ v u Q I rx ry ⟨a, b, ys, rfl, rfl, SqT.of ha, SqT.of hb, q b H (Same.refl H) hb⟩
  · refine op_catT pins s σ H _ _ v u Q I rx ry ⟨a, b, xs, ys, rfl, rfl, SqT.of ha, SqT.of hb, h0, sizeLine_big hz, fun h1 => ?_, fun h1 p hp => q p _ (Same.new hp) upd_same⟩
    subst h1
    exact q a H (Same.refl H) (by rw [List.append_nil]; exact ha)
theorem cut_to {α : Type} (xs : List V) (n : Nat) : cutV xs none (some (n : Int)) = xs.take n := by
  unfold cutV
  rw [HT.sIx_none, HT.sIx_nat, List.drop_zero, Nat.sub_zero]
  by_cases h : n ≤ xs.length
  · rw [Nat.min_eq_left h]
  · rw [Nat.min_eq_right (by omega), List.take_length, List.take_of_length_le (by omega)]
theorem cut_from {α : Type} (xs : List V) (n : Nat) : cutV xs (some (n : Int)) none = xs.drop n := by
  unfold cutV
  rw [HT.sIx_none, HT.sIx_nat]
  by_cases h : n ≤ xs.length
  · rw [Nat.min_eq_left h]
    exact List.take_of_length_le (by rw [List.length_drop]; exact Nat.le_refl _)
  · rw [Nat.min_eq_right (by omega), List.drop_eq_nil_of_le (Nat.le_refl _), List.drop_eq_nil_of_le (by omega), List.take_nil]
mutual
theorem RdV.flip {H : Hp} : ∀ {x : V} {d : PyData}, RdV false H x d → d.hasDict = false → ∀ m, RdV m H x d
  | _, _, .non, _, _ => .non
  | _, _, .bl b, _, _ => .bl b
  | _, _, .int i, _, _ => .int i
  | _, _, .str z h, _, _ => .str z h
  | _, _, .lst hm _ _ _, _, _ => nomatch hm
  | _, _, .tup e hl r, h, m => .tup e hl (RdVs.flip r (by unfold PyData.hasDict at h; exact h) m)
  | _, _, .dct _ _, h, _ => by unfold PyData.hasDict at h; cases h
theorem RdVs.flip {H : Hp} : ∀ {xs : List V} {ds : List PyData}, RdVs false H xs ds → PyData.hasDictAll ds = false → ∀ m, RdVs m H xs ds
  | _, _, .nil, _, _ => .nil
  | _, _, .cons a r, h, m => by
    unfold PyData.hasDictAll at h
    rw [Bool.or_eq_false_iff] at h
    exact .cons (RdV.flip a h.1 m) (RdVs.flip r h.2 m)
end
mutual
theorem RdV.keepF {H H' : Hp} (k : ∀ a o, H a = some o → (∀ kv r, o ≠ .dK (kv :: r)) → (∀ xs, o ≠ .lst xs) → H' a = some o) : ∀ {x : V} {d : PyData}, RdV false H x d → RdV false H' x d
  | _, _, .non => .non
  | _, _, .bl b => .bl b
  | _, _, .int i => .int i
  | _, _, .str z h => .str z h
  | _, _, .lst hm _ _ _ => nomatch hm
  | _, _, .tup e hl r => .tup (k _ _ e (fun _ _ z => nomatch z) (fun _ z => nomatch z)) hl (RdVs.keepF k r)
  | _, _, .dct hm e => .dct hm (k _ _ e (fun _ _ z => nomatch z) (fun _ z => nomatch z))
theorem RdVs.keepF {H H' : Hp} (k : ∀ a o, H a = some o → (∀ kv r, o ≠ .dK (kv :: r)) → (∀ xs, o ≠ .lst xs) → H' a = some o) : ∀ {xs : List V} {ds : List PyData}, RdVs false H xs ds → RdVs false H' xs ds
  | _, _, .nil => .nil
  | _, _, .cons a r => .cons (RdV.keepF k a) (RdVs.keepF k r)
end
end
end L2

set_option linter.all false
set_option maxRecDepth 100000
set_option Elab.async false
set_option maxHeartbeats 4000000
namespace L2
open PySem PySem.Spec PyProof.Rows PySem.W
def KAll {α : Type} (n : Nat) (P : α → Prop) : KasT α → Prop
  | .ret a => P a
  | .ask i j k => i < n ∧ j < n ∧ ∀ b, KAll n P (k b)
theorem KAll.bind {α β : Type} {n : Nat} {P : α → Prop} {Q : β → Prop} {f : α → KasT β} : ∀ {t : KasT α}, KAll n P t → (∀ a, P a → KAll n Q (f a)) → KAll n Q (t.bind f)
  | .ret a, h, g => by rw [KasT.bind.eq_1]; exact g a h
  | .ask i j k, h, g => by
    rw [KasT.bind.eq_2]
    exact ⟨h.1, h.2.1, fun b => KAll.bind (h.2.2 b) g⟩
def Pm (n : Nat) (p : Array Nat) : Prop := p.Perm (List.range n).toArray
theorem Pm.lt {n : Nat} {p : Array Nat} (h : Pm n p) (hn : 0 < n) (i : Nat) : p.getD i 0 < n := by
  by_cases hi : i < p.size
  · have hm : p[i] ∈ (List.range n).toArray := h.mem_iff.mp (Array.getElem_mem hi)
    have : p[i] < n := by simpa using hm
    rw [Array.getD_eq_getD_getElem?, Array.getElem?_eq_getElem hi]
    exact this
  · rw [Array.getD_eq_getD_getElem?, Array.getElem?_eq_none (by omega)]
    exact hn
theorem Pm.rev {n : Nat} {p : Array Nat} (h : Pm n p) (i j : Nat) : Pm n (kas_rev p i j) := (mirror_perm p i j _).trans h
theorem Pm.bub {n : Nat} {p : Array Nat} (h : Pm n p) (i j : Nat) : Pm n (bubble p i j) := (bubble_perm p i j).trans h
section
variable {n : Nat} (hn : 0 < n)
include hn
theorem kall_asc {p : Array Nat} (h : Pm n p) : ∀ (f x : Nat), KAll n (fun _ => True) (kas_asc p f x)
  | 0, x => by rw [kas_asc.eq_1]; trivial
  | f + 1, x => by
    rw [kas_asc.eq_2]
    refine ⟨h.lt hn _, h.lt hn _, fun b => ?_⟩
    cases b
    · exact kall_asc h f (x + 1)
    · exact trivial
theorem kall_desc : ∀ (f : Nat) {p : Array Nat} (x y : Nat), Pm n p → KAll n (fun r => Pm n r.1) (kas_desc f p x y)
  | 0, p, x, y, h => by rw [kas_desc.eq_1]; exact h
  | f + 1, p, x, y, h => by
    rw [kas_desc.eq_2]
    refine ⟨h.lt hn _, h.lt hn _, fun b => ?_⟩
    cases b
    · refine ⟨h.lt hn _, h.lt hn _, fun b => ?_⟩
      cases b
      · exact kall_desc f _ _ h
      · exact h
    · show KAll n _ (if y > 0 then _ else _)
      split
      · exact kall_desc f _ _ (h.rev _ _)
      · exact kall_desc f _ _ h
theorem kall_place {p : Array Nat} (h : Pm n p) (k : Nat) : ∀ (f x y : Nat), KAll n (fun _ => True) (kas_place p k f x y)
  | 0, x, y => by rw [kas_place.eq_1]; trivial
  | f + 1, x, y => by
    rw [kas_place.eq_2]
    split
    · trivial
    · refine ⟨h.lt hn _, h.lt hn _, fun b => ?_⟩
      cases b
      · exact kall_place h k f _ _
      · exact kall_place h k f _ _
theorem kall_bin : ∀ (f : Nat) {p : Array Nat} (x : Nat), Pm n p → KAll n (Pm n) (kas_bin f p x)
  | 0, p, x, h => by rw [kas_bin.eq_1]; exact h
  | f + 1, p, x, h => by
    rw [kas_bin.eq_2]
    exact (kall_place hn h x _ _ _).bind fun l _ => kall_bin f _ (h.bub _ _)
theorem kall_tail3 {p : Array Nat} (h : Pm n p) (a b : Nat) : KAll n (fun r => Pm n r.2) (kas_tail3 a b p) := by
  unfold kas_tail3
  exact (kall_asc hn (h.rev _ _) _ _).bind fun m _ => h.rev _ _
theorem kall_descPart {p : Array Nat} (h : Pm n p) (a b : Nat) : KAll n (fun r => Pm n r.2) (kas_descPart a b p) := by
  unfold kas_descPart
  refine (kall_desc hn _ _ _ h).bind fun r hr => ?_
  split
  · exact kall_tail3 hn (hr.rev _ _) _ _
  · exact kall_tail3 hn hr _ _
theorem kall_count {p : Array Nat} (h : Pm n p) (a : Nat) : KAll n (fun r => Pm n r.2) (kas_count a p) := by
  unfold kas_count
  refine (kall_asc hn h _ _).bind fun m _ => ?_
  split
  · exact h
  · split
    · refine ⟨h.lt hn _, h.lt hn _, fun b => ?_⟩
      cases b
      · exact kall_descPart hn (h.rev _ _) _ _
      · exact h
    · exact kall_descPart hn h _ _
theorem kall_sort : KAll n (Pm n) (kas_sort n) := by
  unfold kas_sort
  refine (kall_count hn (Array.Perm.refl _) n).bind fun r hr => ?_
  split
  · exact kall_bin hn _ _ hr
  · exact hr
end
end L2

set_option linter.all false
set_option maxRecDepth 100000
set_option Elab.async false
set_option maxHeartbeats 4000000
namespace L2
open PySem PySem.Spec PyProof.Rows PySem.W
section
variable {prog : Program} {w : World} {A : Around} {E : Value → Shared → Prop} {s : Shared}
theorem items_tup {x : Addr} {its : Array Value} {Q : Array Value → Shared → Prop} (hx : IsTup s.heap x its) (h : Q its s) : wpAny (model prog w) A (Builtin.List.listItems (Value.ref x)) Q E s := by
  obtain ⟨⟨cls, dd, data, sl⟩, ho, hc, n, hd⟩ := id hx
  simp only at hc hd
  subst hc hd
  unfold Builtin.List.listItems
  wp_walk
  exact h
end
end L2

set_option linter.all false
set_option maxRecDepth 100000
set_option Elab.async false
set_option maxHeartbeats 4000000
namespace L2
open PySem PySem.Spec PyProof.Rows PySem.W
section
variable {prog : Program} {w : World} {A : Around} {E : Value → Shared → Prop} {s : Shared}
theorem mapM_any {α β : Type} {f : α → Sem β} {R : α → β → Prop} : ∀ (l : List α) {Q : List β → Shared → Prop}, (∀ v ∈ l, ∃ r, R v r ∧ ∀ Q' : β → Shared → Prop, Q' r s → wpAny (model prog w) A (f v) Q' E s) → (∀ rs : List β, rs.length = l.length → (∀ r ∈ rs, ∃ v ∈ l, R v r) → Q rs s) → wpAny (model prog w) A (List.mapM f l) Q E s
  | [], Q, _, q => by
    rw [List.mapM_nil]
    exact wpAny_pure (q [] rfl fun r hr => by simp at hr)
  | a :: l, Q, h, q => by
    rw [List.mapM_cons]
    obtain ⟨r, hr, hw⟩ := h a List.mem_cons_self
    refine wpAny_bind (hw _ (wpAny_bind (mapM_any l (fun v hv => h v (List.mem_cons_of_mem _ hv)) fun rs hl hrs => wpAny_pure (q (r :: rs) (by rw [List.length_cons, List.length_cons, hl]) fun z hz => ?_))))
    rcases List.mem_cons.mp hz with rfl | hz
    · exact ⟨a, List.mem_cons_self, hr⟩
    · obtain ⟨v, hv, hR⟩ := hrs z hz
      exact ⟨v, List.mem_cons_of_mem _ hv, hR⟩
end
end L2

set_option linter.all false
set_option maxRecDepth 100000
set_option Elab.async false
set_option maxHeartbeats 4000000
namespace L2
open PySem PySem.Spec PyProof.Rows PySem.W
section
variable {prog : Program} {w : World} {A : Around} {E : Value → Shared → Prop} {s : Shared}
end
end L2

set_option linter.all false
set_option maxRecDepth 100000
set_option Elab.async false
set_option maxHeartbeats 4000000
namespace L2
open PySem PySem.Spec PyProof.Rows PySem.W
section
variable {X : Cx} {pins : List (Addr × Obj)} {σ : St}
def KeyH (H : Hp) (v : Value) : Prop := ∃ t a b c, v = .ref t ∧ H t = some (.tup [.int a, .int b, .str c])
theorem KeyH.same {H H' : Hp} {v : Value} (h : KeyH H v) (s : Same H H') : KeyH H' v := by
  obtain ⟨t, a, b, c, e, ht⟩ := h
  exact ⟨t, a, b, c, e, s _ _ ht⟩
end
end L2

set_option linter.all false
set_option maxRecDepth 100000
set_option Elab.async false
set_option maxHeartbeats 4000000
namespace L2
open PySem PySem.Spec PyProof.Rows PySem.W
section
variable {X : Cx} {pins : List (Addr × Obj)} {σ : St} {H : Hp} {s : Shared}
end
end L2

set_option linter.all false
set_option maxRecDepth 100000
set_option Elab.async false
set_option maxHeartbeats 4000000
namespace L2
open PySem PySem.Spec PyProof.Rows PySem.W
section
variable {X : Cx} {e : Expr} {ta : TA}
end
end L2

set_option linter.all false
set_option maxRecDepth 100000
set_option Elab.async false
set_option maxHeartbeats 4000000
namespace L2
open PySem PySem.Spec PyProof.Rows
open PySem.SeqAt
open PySem.AutoSeq1 (wpAny_loadPart')
open PySem.MeetsSeq PySem.MeetsSeq2 PySem.MeetsSeq3
end L2

set_option linter.all false
set_option maxRecDepth 100000
set_option Elab.async false
set_option maxHeartbeats 4000000
namespace L2
open PySem PySem.Spec PyProof.Rows
def FnV (X : Cx) (k : Nat) (ps : List Str) (f : Addr) (sp : Sp) : Prop := ∃ fd : FuncData, FnOk X.prog X.w X.K X.mg X.base CX0 k f fd ps sp ∧ PySem.W.keepIn X.K (.ref f) = true ∧ Binds X.K fd ps []
def tCallV (X : Cx) (k : Nat) (ps : List Str) (tv : TE) (t : TA) : TE := fun σ H Q => tv σ H fun v H1 => ∃ (f : Addr) (sp : Sp), v = .ref f ∧ FnV X k ps f sp ∧ t σ H1 fun vs H2 => sp vs H2 Q E0
theorem pe_callV {X : Cx} {k : Nat} {ps : List Str} {x : Str} {p pos : Pos} {e : Expr} {es : List Expr} {tv : TE} {t : TA} (hv : PE X (.Name x p) tv) (hr : Room k X.A) (ha : PA X (e :: es) t)
    (he : starEach (e :: es) X.env = (false, eval e X.env) :: starEach es X.env := by rfl) (hpl : (backTo pos (starEach es X.env)).any (·.1) = false := by rfl) :
    PE X (.Call (.Name x p) (e :: es) [] pos) (tCallV X k ps tv t) := by
  constructor
  intro pins s σ H Q I h
  refine wpAny_Call_Name_kw (thn (hv pins s σ H _ I h) fun u s1 ⟨y, H1, I1, ry, f, sp, ey, ⟨fd, F, hk, hb⟩, h2⟩ => ?_)
  subst ey
  cases ry
  refine PySem.W.callWith_K (h₀ := X.base) I1.ok.mod.kin hk (thn (ha pos pins s1 σ H1 _ I1 h2) fun us s2 ⟨vs, H2, I2, r, q⟩ => ⟨I2.kIn, ?_⟩) he hpl
  exact run_fn F hr hb .nil pass0 I2 r (by rw [List.append_nil]; exact q)
end L2

set_option linter.all false
set_option maxRecDepth 100000
set_option Elab.async false
set_option maxHeartbeats 4000000
namespace L2
open PySem PySem.Spec PyProof.Rows
section
variable {X : Cx} {pins : List (Addr × Obj)} {σ : St} {H : Hp} {s : Shared} {A : Around} {E : Value → Shared → Prop} {Q : Value → Shared → Prop} {b : Bool}
end
end L2

set_option linter.all false
set_option maxRecDepth 100000
set_option Elab.async false
set_option maxHeartbeats 8000000
namespace L2
open PySem PySem.Spec PyProof.Rows
theorem strsAre_of : ∀ {ss : List Str} {us : List Value}, Vals (ss.map V.str) us → StrsAre us ss
  | [], _, r => by rw [List.map_nil] at r; cases r; exact .nil
  | s :: ss, _, r => by
    rw [List.map_cons] at r
    cases r with
    | cons r1 r2 =>
      obtain ⟨t, e⟩ := r1
      subst e
      exact .cons s t (strsAre_of r2)
theorem vals_of_strs : ∀ {us : List Value} {ns : List Str}, StrsAre us ns → Vals (ns.map V.str) us
  | _, _, .nil => .nil
  | _, _, .cons i t r => .cons ⟨t, rfl⟩ (vals_of_strs r)
theorem call_sortedS {X : Cx} : CallR X (.builtin "sorted") (fun xs H Q => ∃ (p : Addr) (ns : List Str), xs = [.ref p] ∧ SqL X.K H p (ns.map V.str) ∧ ns.length < 64 ∧ ∀ (l : Addr) (ms : List Str), H l = none → ms.Perm ns → sortedS ms = true → Q (.ref l) (upd H l (.lst (ms.map V.str)))) := by
  intro pins s σ H xs us Q I r h
  obtain ⟨p, ns, rfl, hx, h64, q⟩ := h
  obtain ⟨u, rfl, ru⟩ := vals1 r
  cases ru
  obtain ⟨its, rv, pl, _⟩ := I.list hx
  have hi : StrsAre its ns := strsAre_of rv
  have hlen := rv.length
  rw [List.length_map] at hlen
  refine sorted_strs pl.isList hi (by omega) fun out ms hI hp hs => ?_
  have hk : ∀ b o, s.heap.get? b = some o → (sortedAll s.heap its out).get? b = some o := fun b o e => sortedAll_old e
  obtain ⟨e, he⟩ := sortedAll_at s.heap its out
  have hn : H (s.heap.objs.size + 1) = none := I.hok.fresh (Nat.le_succ _)
  have hms := hp.length_eq
  have hv : Vals (ms.map V.str) out.toList := vals_of_strs hI
  refine ⟨.ref (s.heap.objs.size + 1), _, I.laid (t' := s.toks) (o := .lst (ms.map V.str)) hk (Nat.le_succ _) ⟨sizeLine_big (by rw [List.length_map]; omega), out.toList, e, hv, by rw [he] <;> rfl⟩, rfl, q _ ms hn hp hs⟩
end L2

set_option linter.all false
set_option maxRecDepth 100000
set_option Elab.async false
set_option maxHeartbeats 4000000
namespace L2
open PySem PyProof.Rows
def SetTab (w : World) (es : Array (Int × Value)) (t : SetTable) : Prop := t.led = !w.params.followText "set-order" ∧ (es.size = 0 ∨ t.plain = false)
def SetP (prog : Program) (w : World) (h : Heap) (a : Addr) (S : Str → Bool) (n : Nat) : Prop :=
  ∃ o es ep t, h.get? a = some o ∧ o.ExactSet ∧ o.data = .set es ep t ∧ ElemsOf (PySem.strKind prog w) es.toList ∧ (∀ k, S k = true ↔ ∃ e ∈ es.toList, (PySem.strKind prog w).is k e.2 = true)
    ∧ es.size < scanBound ∧ t.fits es.size = true ∧ es.size = n ∧ SetTab w es t
theorem SetP.of {prog : Program} {w : World} {h : Heap} {a : Addr} {S : Str → Bool} {n : Nat} (x : SetP prog w h a S n) : Heap.SetOf (PySem.strKind prog w) h a S n := by
  obtain ⟨o, es, ep, t, h1, h2, h3, h4, h5, h6, h7, h8, _⟩ := x
  exact ⟨o, es, ep, t, h1, h2, h3, h4, h5, h6, h7, h8⟩
theorem SetP.at {prog : Program} {w : World} {h h' : Heap} {a : Addr} {S : Str → Bool} {n : Nat} (x : SetP prog w h a S n) (e : ∀ o, h.get? a = some o → h'.get? a = some o) : SetP prog w h' a S n := by
  obtain ⟨o, es, ep, t, h1, r⟩ := x
  exact ⟨o, es, ep, t, e o h1, r⟩
theorem SetP.congr {prog : Program} {w : World} {h : Heap} {a : Addr} {S S' : Str → Bool} {n n' : Nat} (x : SetP prog w h a S n) (e : ∀ k, S k = S' k) (en : n = n') : SetP prog w h a S' n' := by
  have e' : S = S' := funext e
  subst e' en
  exact x
theorem orStandIn_led (t : SetTable) (n : Nat) : (t.orStandIn n).led = t.led := by
  unfold SetTable.orStandIn
  split <;> rfl
theorem layNew_led (t : SetTable) (es : Array (Int × Value)) (h : Int) (x : Value) : (layNew t es h x).2.1.led = t.led := by
  unfold layNew
  split
  · exact orStandIn_led _ _
  · rfl
theorem relayAll_kept (t : SetTable) (es : Array (Int × Value)) (n : Nat) (hp : t.plain = false) : (relayAll t es n).2.1.led = t.led ∧ (relayAll t es n).2.1.plain = false := by
  unfold relayAll
  split
  · next t' ord e =>
    dsimp only
    split
    · dsimp only
      unfold SetTable.relaid SetTable.laid at e
      cases hL : SetTable.layClean (SetTable.sizeAbove n - 1) (es.map (·.1)) with
      | none => rw [hL] at e; cases e
      | some ow =>
        rw [hL] at e
        cases e
        exact ⟨rfl, hp⟩
    · exact ⟨rfl, rfl⟩
  · exact ⟨rfl, rfl⟩
theorem SetP.stored {prog : Program} {w : World} {h : Heap} {a : Addr} {o : Obj} {es : Array (Int × Value)} {ep : Nat} {t : SetTable} (ho : h.get? a = some o) (hex : o.ExactSet) (hd : o.data = .set es ep t)
    {es' : Array (Int × Value)} {t' : SetTable} {S' : Str → Bool} (hel : ElemsOf (PySem.strKind prog w) es'.toList) (hmem : ∀ k, S' k = true ↔ ∃ e ∈ es'.toList, (PySem.strKind prog w).is k e.2 = true) (hb : es'.size < scanBound) (hf : t'.fits es'.size = true) (hT : SetTab w es' t') :
    (h.update a (Obj.putSet es' t')).get? a = some { o with data := .set es' (ep + 1) t' } ∧ SetP prog w (h.update a (Obj.putSet es' t')) a S' es'.size := by
  obtain ⟨hg, _⟩ := SetOf_store (knd := PySem.strKind prog w) (S' := S') ho hex hd hel hmem hb hf
  exact ⟨hg, _, es', ep + 1, t', hg, hex, rfl, hel, hmem, hb, hf, rfl, hT⟩
theorem add_P {prog : Program} {w : World} {A : Around} {E : Value → Shared → Prop} {s : Shared} {a : Addr} {S : Str → Bool} {n : Nat} {k : Str} {tk : Tok} {Q : Bool → Shared → Prop} (hS : SetP prog w s.heap a S n) (hroom : n + 1 < scanBound)
    (h : ∀ h', Heap.SameBut a s.heap h' → SetP prog w h' a (fun k' => S k' || decide (k' = k)) (if S k then n else n + 1) → Q (!S k) { s with heap := h' }) :
    wpAny (model prog w) A (setAddHashed a (.str k tk) ((PySem.strKind prog w).hash k)) Q E s := by
  have hkey := strKind_is prog w k tk
  obtain ⟨o, es, ep, t, ho, hex, hd, hel, hmem, hb, hf, hn, hTab⟩ := hS
  have hbS : es.size + 1 < scanBound := by rw [hn]; exact hroom
  unfold setAddHashed setAddHashedIn
  refine wpAny_holding (wpAny_bind (wpAny_setState_of ho hd hf ?_))
  dsimp only
  rw [byScan_of (x := Value.str k tk) rfl hb hel, if_pos rfl]
  unfold setAddByScan
  refine wpAny_bind (wpAny_bind (wpAny_rule (wpAny_bind (wpAny_setScan_of hkey ho hd hf hel ?_))))
  cases hr : List.findIdx? (fun e => (PySem.strKind prog w).is k e.2) es.toList with
  | some j =>
    dsimp only
    obtain ⟨hj, hpj, _⟩ := List.findIdx?_eq_some_iff_getElem.mp hr
    have hSk : S k = true := (hmem k).mpr ⟨es.toList[j], List.getElem_mem hj, hpj⟩
    refine wpAny_pure (wpAny_pure ?_)
    have q := h s.heap (Heap.SameBut.refl a s.heap) ⟨o, es, ep, t, ho, hex, hd, hel, fun z => by
      rw [Bool.or_eq_true, decide_eq_true_eq, ← hmem z]
      exact ⟨fun hz => hz.elim id (fun e => e ▸ hSk), .inl⟩, hb, hf, by rw [hSk]; exact hn, hTab⟩
    rw [hSk] at q
    exact q
  | none =>
    dsimp only
    have hSk : S k = false := by
      cases hz : S k with
      | false => rfl
      | true =>
        obtain ⟨e, he, hp⟩ := (hmem k).mp hz
        have z := List.findIdx?_eq_none_iff.mp hr e he
        rw [hp] at z
        exact Bool.noConfusion z
    have hperm := layNew_perm t es ((PySem.strKind prog w).hash k) (Value.str k tk)
    have hfits := layNew_fits t es ((PySem.strKind prog w).hash k) (Value.str k tk)
    have hled := layNew_led t es ((PySem.strKind prog w).hash k) (Value.str k tk)
    generalize hL : layNew t es ((PySem.strKind prog w).hash k) (Value.str k tk) = L at hperm hfits hled ⊢
    obtain ⟨es1, t1, wasD, gave⟩ := L
    dsimp only at hperm hfits hled ⊢
    rw [Array.toList_push] at hperm
    have hel1 : ElemsOf (PySem.strKind prog w) es1.toList := (hel.push hkey rfl).perm hperm
    have hmem1 := mem_push_iff hkey hmem hperm
    have hsz1 : es1.size = n + 1 := by rw [← Array.length_toList, hperm.length_eq, List.length_append, Array.length_toList, hn]; rfl
    have hb1 : es1.size < scanBound := by rw [hsz1]; exact hroom
    have gw : ∀ (b : Bool) {s₁ : Shared} {Q' : Unit → Shared → Prop}, Q' () s₁ → wpAny (model prog w) A (match b with | true => rule "set.scan.the-table-gave-way" | false => pure ()) Q' E s₁ := fun b s₁ Q' hq => by cases b <;> first | exact wpAny_pure hq | exact wpAny_rule hq
    have hend : ∀ h', Heap.SameBut a s.heap h' → SetP prog w h' a (fun k' => S k' || decide (k' = k)) es1.size → Q true { s with heap := h' } := fun h' x1 x2 => by
      have q := h h' x1
      rw [hSk] at q
      rw [hsz1] at x2
      exact q x2
    -- behind the place: the table is plain no more
    have tail : ∀ t2 : SetTable, t2.led = t.led → t2.plain = false → t2.fits es1.size = true →
        wpAny (model prog w) A (do
          storeSet a es1 t2
          if (!wasD && t2.tooFull) = true then do
              (match (relayAll t2 es1 (SetTable.grown es1.size)).2.2 with | true => rule "set.scan.the-table-gave-way" | false => pure ())
              storeSet a (relayAll t2 es1 (SetTable.grown es1.size)).1 (relayAll t2 es1 (SetTable.grown es1.size)).2.1
              pure (some true)
            else pure (some true)) (fun r s' => wpAny (model prog w) A (match r with | some added => pure added | none => setAddHashedIn a (.str k tk) ((PySem.strKind prog w).hash k) 99999) Q E s') E s := by
      intro t2 l2 p2 f2
      refine wpAny_bind (wpAny_storeSet_of ho hd ?_ (fits_of_scanBound hb1))
      obtain ⟨ho1, hS1⟩ := SetP.stored (prog := prog) (w := w) ho hex hd hel1 hmem1 hb1 f2 ⟨by rw [l2]; exact hTab.1, .inr p2⟩
      have sb1 := Heap.SameBut.update s.heap a (Obj.putSet es1 t2)
      split
      · have hp := relayAll_perm t2 es1 (SetTable.grown es1.size)
        have hfr := relayAll_fits t2 es1 (SetTable.grown es1.size)
        obtain ⟨rl, rp⟩ := relayAll_kept t2 es1 (SetTable.grown es1.size) p2
        generalize relayAll t2 es1 (SetTable.grown es1.size) = R at hp hfr rl rp ⊢
        obtain ⟨es2, t3, g2⟩ := R
        dsimp only at hp hfr rl rp ⊢
        have hel2 : ElemsOf (PySem.strKind prog w) es2.toList := hel1.perm hp
        have hmem2 : ∀ z, (S z || decide (z = k)) = true ↔ ∃ e ∈ es2.toList, (PySem.strKind prog w).is z e.2 = true := fun z => (hmem1 z).trans ⟨fun ⟨e, he, q⟩ => ⟨e, hp.mem_iff.mpr he, q⟩, fun ⟨e, he, q⟩ => ⟨e, hp.mem_iff.mp he, q⟩⟩
        have hsz2 : es2.size = es1.size := by rw [← Array.length_toList, hp.length_eq, Array.length_toList]
        have hb2 : es2.size < scanBound := by rw [hsz2]; exact hb1
        refine wpAny_bind (gw _ (wpAny_bind (wpAny_storeSet_of ho1 rfl ?_ (fits_of_scanBound hb2))))
        obtain ⟨_, hS2⟩ := SetP.stored (prog := prog) (w := w) ho1 hex rfl hel2 hmem2 hb2 hfr ⟨by rw [rl, l2]; exact hTab.1, .inr rp⟩
        rw [hsz2] at hS2
        exact wpAny_pure (wpAny_pure (hend _ (sb1.trans (Heap.SameBut.update _ a _)) hS2))
      · exact wpAny_pure (wpAny_pure (hend _ sb1 hS1))
    refine wpAny_bind (gw _ ?_)
    split
    · next hpl =>
      rw [hashByValue_scannable 8 (x := Value.str k tk) rfl]
      refine wpAny_bind (wpAny_pure ?_)
      exact tail { t1 with plain := false } hled rfl (SetTable.fits_plain_off hfits)
    · next hpl =>
      refine wpAny_bind (wpAny_pure ?_)
      exact tail t1 hled (by simpa using hpl) hfits
end L2

set_option linter.all false
set_option maxRecDepth 100000
set_option Elab.async false
set_option maxHeartbeats 4000000
namespace L2
open PySem PyProof.Rows
theorem tuple_push {h : Heap} {a : Addr} {items : Array Value} (x : h.IsTuple a items) (o : Obj) : (h.push o).IsTuple a items := by
  obtain ⟨u, hu, r⟩ := x
  exact ⟨u, Heap.get?_push_of_some o hu, r⟩
theorem loop_P {prog : Program} {w : World} {A : Around} {R : Result → Shared → Prop} {I : Addr} {fp wr : List Addr} {G : Array GenState → Array GenState → Prop} {n : Nat} {P : Nat → Value → Prop} {St : Nat → Shared → Prop}
    (W : WalksS prog w A.in1 I fp wr G n P St) (S : Addr) (hSf : ¬ S ∈ fp) (val : Nat → Str) (hval : ∀ (i : Nat) (v : Value), P i v → ∃ t, v = Value.str (val i) t) (hb : n + 1 < scanBound) :
    ∀ (k i : Nat) (s : Shared), n - i = k → i ≤ n → St i s → SetP prog w s.heap S (fun k' => (metS val i).any fun x => x == k') (metS val i).length →
      (∀ s' : Shared, Moved (S :: wr) G s s' → SetP prog w s'.heap S (fun k' => (metS val n).any fun x => x == k') (metS val n).length → R (Except.ok (Flow.ret Value.none)) s') →
      codeAny (model prog w) A (Code.builtin "set.update.loop" { pos := [Value.ref S, Value.ref I] }) R s := by
  have hSw : ¬ S ∈ wr := fun h => hSf (W.sub S h)
  have hsub : ∀ b, b ∈ wr → b ∈ S :: wr := fun b hb => List.mem_cons_of_mem S hb
  intro k
  induction k with
  | zero =>
    intro i s hk hi hst hS hR
    have hin : i = n := by omega
    subst hin
    refine codeAny_builtin PyProof.Rows.F.entry_set_update_loop ?_
    rw [Around.under_plainId PyProof.Rows.F.plain_set_update_loop]
    refine wpAny_bind (W.done s _ _ hst fun s' hm => ?_)
    refine wpAny_pure (hR s' (Moved.mono hm hsub) ?_)
    exact hS.at fun o ho => hm.heap S o hSw ho
  | succ k ih =>
    intro i s hk hi hst hS hR
    have hlt : i < n := by omega
    refine codeAny_builtin PyProof.Rows.F.entry_set_update_loop ?_
    rw [Around.under_plainId PyProof.Rows.F.plain_set_update_loop]
    refine wpAny_bind (W.item i s _ _ hlt hst fun v s' hP hst' hm => ?_)
    obtain ⟨t, rfl⟩ := hval i v hP
    have hS' : SetP prog w s'.heap S (fun k' => (metS val i).any fun x => x == k') (metS val i).length := by
      exact hS.at fun o ho => hm.heap S o hSw ho
    have hroom : (metS val i).length + 1 < scanBound := by
      have := metS_le val i
      omega
    refine wpAny_bind (wpAny_holding (wpAny_holding (wpAny_bind ((PySem.strKind prog w).pyHash (strKind_is prog w (val i) t) ?_))))
    refine add_P hS' hroom fun h' hsb hS2 => ?_
    refine wpAny_pure ⟨plainId_quiet PyProof.Rows.F.plain_set_update_loop _, ?_⟩
    refine ih (i + 1) _ (by omega) hlt (W.frame (i + 1) s' h' _ hst' (Nat.le_succ s'.toks) fun b hb o e => ?_) ?_ fun s'' hm'' hS'' => ?_
    · rw [hsb.right b fun h => hSf (h ▸ hb)]
      exact e
    · refine hS2.congr (fun k' => ?_) ?_
      · show _ = ((stepS _ _).any _)
        rw [stepS_any]
      · show _ = (stepS _ _).length
        rw [stepS_length]
    · refine hR s'' (Moved.trans W.gtrans (Moved.then_heap (Moved.mono hm hsub) (Nat.le_succ s'.toks) fun b o hb e => ?_) hm'') hS''
      rw [hsb.right b fun h => hb (h ▸ List.mem_cons_self)]
      exact e
theorem new_P {prog : Program} {w : World} {A : Around} {E : Value → Shared → Prop} {s : Shared} (a : Value) {Q₁ : Value → Shared → Prop}
    (h : Q₁ (.ref s.heap.objs.size) { s with heap := s.heap.push { cls := .type "set", dict := none, data := .set #[] 0 (.fresh 0 0 (!w.params.followText "set-order")) } }) :
    codeAny (model prog w) A (.call (.builtin "set.__new__") ⟨[.type "set", a], []⟩) (wants Q₁ E) s := by
  apply codeAny_of_tree
  show wpAny (model prog w) A.in1 (checkBuiltinCall "set.__new__" ⟨[.type "set", a], []⟩ >>= fun _ => again (.builtin "set.__new__" ⟨[.type "set", a], []⟩)) _ _ s
  apply wpAny_bind
  refine wpAny_of_eq (F.newCall_set_1 a) (wpAny_pure ⟨plainId_quiet F.plain_set_new _, ?_⟩)
  apply codeAny_builtin F.entry_set_new
  rw [Around.under_plainId F.plain_set_new]
  unfold Builtin.«set.__new__» Builtin.Frozenset.newClass
  have hself := sub_set_self
  obtain ⟨hp, gs, dr, tk, os⟩ := s
  dsimp only
  wp_walk
  apply wpAny_askSetting
  apply wpAny_pure
  dsimp only
  simp only [newObj]
  apply wpAny_bind
  apply wpAny_alloc
  exact wpAny_pure (wpAny_pure h)
theorem call_set_PL {prog : Program} {w : World} {A : Around} {E : Value → Shared → Prop} {s : Shared} {l : Addr} {items : Array Value} {val : Nat → Str} {Q : Value → Shared → Prop} (hh : A.handled = none) (hl : s.heap.IsList l items)
    (hi : ∀ (i : Nat) (v : Value), items[i]? = some v → ∃ t, v = Value.str (val i) t) (hb : items.size + 1 < scanBound)
    (h : ∀ (h' : Heap) (tk : Nat), SetP prog w h' s.heap.objs.size (fun k' => (metS val items.size).any fun x => x == k') (metS val items.size).length →
      (∀ (b : Nat) (o : Obj), b < s.heap.objs.size → s.heap.get? b = some o → h'.get? b = some o) → Q (Value.ref s.heap.objs.size) { s with heap := h', toks := tk }) :
    wpAny (model prog w) A (call (Value.type "set") [Value.ref l]) Q E s := by
  obtain ⟨c, tl, hmro⟩ := F.called_set.mro
  have hmade := F.called_set.made
  have hsub := F.called_set.sub
  have hct := F.typeCall_set_1 (Value.ref l)
  refine wpAny_call (codeAny_of_tree (wpAny_pure ⟨Code.quiet_builtin _ (by decide +kernel), codeAny_builtin F.entry_type_call ?_⟩))
  rw [Around.under_plain (weight_type_call_type "set" [Value.ref l] []) rfl]
  unfold Builtin.«type.__call__»
  dsimp only
  refine wpAny_ite_false (by first | rfl | decide +kernel) ?_
  refine wpAny_ite_false (by first | rfl | decide +kernel) ?_
  refine wpAny_bind (wpAny_of_eq hct ?_)
  refine wpAny_bind (wpAny_of_eq hmro ?_)
  refine wpAny_ite_false (by first | rfl | decide +kernel) ?_
  refine wpAny_bind (wpAny_of_eq hmade ?_)
  refine wpAny_bind (wpAny_pure ?_)
  refine wpAny_bind (wpAny_holding (wpAny_call (codeAny_mono (new_P (Q₁ := fun obj s₁ => ∃ led, led = (!w.params.followText "set-order") ∧ obj = Value.ref s.heap.objs.size ∧ s₁ = { s with heap := s.heap.push { cls := Value.type "set", data := Data.set #[] 0 (SetTable.fresh 0 0 led) } }) (E := E) (Value.ref l) ⟨_, rfl, rfl, rfl⟩) fun r s₁ hr => ?_)))
  cases r with
  | error e => exact hr
  | ok fl =>
    cases fl with
    | next => exact hr.elim
    | brk => exact hr.elim
    | cont => exact hr.elim
    | ret v =>
      obtain ⟨led, hled, rfl, rfl⟩ := hr
      have hS := Heap.get?_push_size s.heap (o := { cls := Value.type "set", data := Data.set #[] 0 (SetTable.fresh 0 0 led) }) rfl
      have hT : Shared.TypeIs { s with heap := s.heap.push { cls := Value.type "set", data := Data.set #[] 0 (SetTable.fresh 0 0 led) } } (Value.ref s.heap.objs.size) "set" := ⟨_, hS, rfl⟩
      have hli := F.called_set.init.lookup
      have hbi := F.called_set.init.bind (Value.ref s.heap.objs.size)
      obtain ⟨ol, hol, hcl, nl, hdl⟩ := hl
      have hol' := Heap.get?_push_of_some { cls := Value.type "set", data := Data.set #[] 0 (SetTable.fresh 0 0 led) } hol
      have hl1 : Heap.IsList (s.heap.push { cls := Value.type "set", data := Data.set #[] 0 (SetTable.fresh 0 0 led) }) l items := ⟨ol, hol', hcl, nl, hdl⟩
      refine wpAny_bind (wpAny_isInstance hT hsub ?_)
      refine wpAny_ite_false (by first | rfl | decide +kernel) ?_
      refine wpAny_bind (wpAny_holding ?_)
      unfold callSpecial?
      refine wpAny_bind (wpAny_specialOf hT hli ?_)
      dsimp only
      refine wpAny_holding ?_
      refine wpAny_bind (wpAny_of_eq hbi ?_)
      refine wpAny_bind (wpAny_call (codeAny_mono (codeAny_call_builtin F.called_set.init.plain F.entry_set_init (R := fun r s' => match r with | .ok (.ret v) => v = .none ∧ Q (.ref s.heap.objs.size) s' | _ => False) (check_set_init_1 hT ?_)) fun r s₁ hr => ?_))
      · unfold Builtin.«set.__init__»
        refine wpAny_bind (wpAny_ite_true (by first | rfl | decide +kernel) (wpAny_pure ?_))
        refine wpAny_bind (wpAny_bind (wpAny_bind (wpAny_typeOf hT (wpAny_ite_false (by first | rfl | decide +kernel) (wpAny_pure ?_)))))
        refine wpAny_pure ?_
        refine wpAny_bind ?_
        unfold checkCount
        refine wpAny_ite_false (by first | rfl | decide +kernel) ?_
        refine wpAny_ite_false (by first | rfl | decide +kernel) ?_
        refine wpAny_ite_false (by first | rfl | decide +kernel) (wpAny_pure ?_)
        refine wpAny_bind (wpAny_pure ?_)
        refine wpAny_bind ?_
        unfold setUsed setState
        refine wpAny_bind (wpAny_bind (wpAny_load' hS ?_))
        dsimp only
        refine wpAny_ite_false (by first | rfl | decide +kernel) (wpAny_pure ?_)
        refine wpAny_pure ?_
        refine wpAny_ite_false (by first | rfl | decide +kernel) ?_
        show wpAny _ _ (do let __r ← Builtin.Frozenset.updateFrom "set.__init__" s.heap.objs.size (Value.ref l); ret Value.none) _ _ _
        refine wpAny_bind ?_
        unfold Builtin.Frozenset.updateFrom
        refine wpAny_bind ?_
        have hTl : Shared.TypeIs { s with heap := s.heap.push { cls := Value.type "set", data := Data.set #[] 0 (SetTable.fresh 0 0 led) } } (Value.ref l) "list" := ⟨ol, hol', hcl⟩
        unfold Builtin.Frozenset.isAnySet
        refine wpAny_bind (wpAny_isInstance hTl F.sub_list_set ?_)
        refine wpAny_isInstance hTl F.sub_list_frozenset ?_
        refine wpAny_ite_false (by first | rfl | decide +kernel) ?_
        refine wpAny_bind (wpAny_typeOf hTl ?_)
        refine wpAny_ite_false (by first | rfl | decide +kernel) ?_
        refine wpAny_bind (wpAny_pyIter_list hl1 ?_)
        refine wpAny_bind (wpAny_runValue ?_)
        have hlS : l < s.heap.objs.size := Heap.lt_size hol
        have hsz : (s.heap.push { cls := Value.type "set", data := Data.set #[] 0 (SetTable.fresh 0 0 led) }).objs.size = s.heap.objs.size + 1 := Heap.size_push _ _
        have hneI : l ≠ (s.heap.push { cls := Value.type "set", data := Data.set #[] 0 (SetTable.fresh 0 0 led) }).objs.size := by rw [hsz]; exact Nat.ne_of_lt (Nat.lt_succ_of_lt hlS)
        have hSf : ¬ s.heap.objs.size ∈ [(s.heap.push { cls := Value.type "set", data := Data.set #[] 0 (SetTable.fresh 0 0 led) }).objs.size, l] := by
          rw [hsz]
          simp only [List.mem_cons, List.not_mem_nil, or_false, not_or]
          exact ⟨Nat.ne_of_lt (Nat.lt_succ_self _), Nat.ne_of_gt hlS⟩
        have hh3 : A.in1.in1.in1.handled = none := hh
        refine loop_P (Walks.toS (Walks.list hh3 _ l hneI items)) s.heap.objs.size hSf val hi hb (items.size - 0) 0 _ rfl (Nat.zero_le _) ⟨⟨_, Heap.get?_push_size _ rfl, rfl, rfl⟩, Heap.IsList.push hl1 _⟩ ?_ ?_
        · have hget := Heap.get?_push_of_some { cls := Value.type "list_iterator", data := Data.fields #[Value.ref l, Value.int 0 0] } hS
          exact ⟨_, #[], 0, _, hget, ⟨rfl, rfl, rfl⟩, rfl, (fun e he => by simp at he), (fun k => by show (false = true) ↔ _; simp), (by decide), rfl, rfl, hled, .inl rfl⟩
        · rintro ⟨h', g', d', tk', os'⟩ hm hS'
          refine wpAny_pure (wpAny_pure ⟨rfl, ?_⟩)
          have e1 := hm.gens
          have e2 := hm.drawn
          have e3 := hm.os
          dsimp only at e1 e2 e3
          subst e1 e2 e3
          refine h h' tk' hS' fun b o hb e => hm.heap b o ?_ ?_
          · simp only [List.mem_cons, List.not_mem_nil, or_false, not_or]
            rw [hsz]
            exact ⟨Nat.ne_of_lt hb, Nat.ne_of_lt (Nat.lt_succ_of_lt hb)⟩
          · exact Heap.get?_push_of_some _ (Heap.get?_push_of_some _ e)
      · cases r with
        | error e => exact hr.elim
        | ok fl =>
          cases fl with
          | next => exact hr.elim
          | brk => exact hr.elim
          | cont => exact hr.elim
          | ret v =>
            obtain ⟨rfl, q⟩ := hr
            refine wpAny_pure ?_
            refine wpAny_ite_false (by first | rfl | decide +kernel) ?_
            exact wpAny_pure q
theorem call_set_PT {prog : Program} {w : World} {A : Around} {E : Value → Shared → Prop} {s : Shared} {l : Addr} {items : Array Value} {val : Nat → Str} {Q : Value → Shared → Prop} (hh : A.handled = none) (hl : s.heap.IsTuple l items)
    (hi : ∀ (i : Nat) (v : Value), items[i]? = some v → ∃ t, v = Value.str (val i) t) (hb : items.size + 1 < scanBound)
    (h : ∀ (h' : Heap) (tk : Nat), SetP prog w h' s.heap.objs.size (fun k' => (metS val items.size).any fun x => x == k') (metS val items.size).length →
      (∀ (b : Nat) (o : Obj), b < s.heap.objs.size → s.heap.get? b = some o → h'.get? b = some o) → Q (Value.ref s.heap.objs.size) { s with heap := h', toks := tk }) :
    wpAny (model prog w) A (call (Value.type "set") [Value.ref l]) Q E s := by
  obtain ⟨c, tl, hmro⟩ := F.called_set.mro
  have hmade := F.called_set.made
  have hsub := F.called_set.sub
  have hct := F.typeCall_set_1 (Value.ref l)
  refine wpAny_call (codeAny_of_tree (wpAny_pure ⟨Code.quiet_builtin _ (by decide +kernel), codeAny_builtin F.entry_type_call ?_⟩))
  rw [Around.under_plain (weight_type_call_type "set" [Value.ref l] []) rfl]
  unfold Builtin.«type.__call__»
  dsimp only
  refine wpAny_ite_false (by first | rfl | decide +kernel) ?_
  refine wpAny_ite_false (by first | rfl | decide +kernel) ?_
  refine wpAny_bind (wpAny_of_eq hct ?_)
  refine wpAny_bind (wpAny_of_eq hmro ?_)
  refine wpAny_ite_false (by first | rfl | decide +kernel) ?_
  refine wpAny_bind (wpAny_of_eq hmade ?_)
  refine wpAny_bind (wpAny_pure ?_)
  refine wpAny_bind (wpAny_holding (wpAny_call (codeAny_mono (new_P (Q₁ := fun obj s₁ => ∃ led, led = (!w.params.followText "set-order") ∧ obj = Value.ref s.heap.objs.size ∧ s₁ = { s with heap := s.heap.push { cls := Value.type "set", data := Data.set #[] 0 (SetTable.fresh 0 0 led) } }) (E := E) (Value.ref l) ⟨_, rfl, rfl, rfl⟩) fun r s₁ hr => ?_)))
  cases r with
  | error e => exact hr
  | ok fl =>
    cases fl with
    | next => exact hr.elim
    | brk => exact hr.elim
    | cont => exact hr.elim
    | ret v =>
      obtain ⟨led, hled, rfl, rfl⟩ := hr
      have hS := Heap.get?_push_size s.heap (o := { cls := Value.type "set", data := Data.set #[] 0 (SetTable.fresh 0 0 led) }) rfl
      have hT : Shared.TypeIs { s with heap := s.heap.push { cls := Value.type "set", data := Data.set #[] 0 (SetTable.fresh 0 0 led) } } (Value.ref s.heap.objs.size) "set" := ⟨_, hS, rfl⟩
      have hli := F.called_set.init.lookup
      have hbi := F.called_set.init.bind (Value.ref s.heap.objs.size)
      obtain ⟨ol, hol, hcl, nl, hdl⟩ := hl
      have hol' := Heap.get?_push_of_some { cls := Value.type "set", data := Data.set #[] 0 (SetTable.fresh 0 0 led) } hol
      have hl1 : Heap.IsTuple (s.heap.push { cls := Value.type "set", data := Data.set #[] 0 (SetTable.fresh 0 0 led) }) l items := ⟨ol, hol', hcl, nl, hdl⟩
      refine wpAny_bind (wpAny_isInstance hT hsub ?_)
      refine wpAny_ite_false (by first | rfl | decide +kernel) ?_
      refine wpAny_bind (wpAny_holding ?_)
      unfold callSpecial?
      refine wpAny_bind (wpAny_specialOf hT hli ?_)
      dsimp only
      refine wpAny_holding ?_
      refine wpAny_bind (wpAny_of_eq hbi ?_)
      refine wpAny_bind (wpAny_call (codeAny_mono (codeAny_call_builtin F.called_set.init.plain F.entry_set_init (R := fun r s' => match r with | .ok (.ret v) => v = .none ∧ Q (.ref s.heap.objs.size) s' | _ => False) (check_set_init_1 hT ?_)) fun r s₁ hr => ?_))
      · unfold Builtin.«set.__init__»
        refine wpAny_bind (wpAny_ite_true (by first | rfl | decide +kernel) (wpAny_pure ?_))
        refine wpAny_bind (wpAny_bind (wpAny_bind (wpAny_typeOf hT (wpAny_ite_false (by first | rfl | decide +kernel) (wpAny_pure ?_)))))
        refine wpAny_pure ?_
        refine wpAny_bind ?_
        unfold checkCount
        refine wpAny_ite_false (by first | rfl | decide +kernel) ?_
        refine wpAny_ite_false (by first | rfl | decide +kernel) ?_
        refine wpAny_ite_false (by first | rfl | decide +kernel) (wpAny_pure ?_)
        refine wpAny_bind (wpAny_pure ?_)
        refine wpAny_bind ?_
        unfold setUsed setState
        refine wpAny_bind (wpAny_bind (wpAny_load' hS ?_))
        dsimp only
        refine wpAny_ite_false (by first | rfl | decide +kernel) (wpAny_pure ?_)
        refine wpAny_pure ?_
        refine wpAny_ite_false (by first | rfl | decide +kernel) ?_
        show wpAny _ _ (do let __r ← Builtin.Frozenset.updateFrom "set.__init__" s.heap.objs.size (Value.ref l); ret Value.none) _ _ _
        refine wpAny_bind ?_
        unfold Builtin.Frozenset.updateFrom
        refine wpAny_bind ?_
        have hTl : Shared.TypeIs { s with heap := s.heap.push { cls := Value.type "set", data := Data.set #[] 0 (SetTable.fresh 0 0 led) } } (Value.ref l) "tuple" := ⟨ol, hol', hcl⟩
        unfold Builtin.Frozenset.isAnySet
        refine wpAny_bind (wpAny_isInstance hTl F.sub_tuple_set ?_)
        refine wpAny_isInstance hTl F.sub_tuple_frozenset ?_
        refine wpAny_ite_false (by first | rfl | decide +kernel) ?_
        refine wpAny_bind (wpAny_typeOf hTl ?_)
        refine wpAny_ite_false (by first | rfl | decide +kernel) ?_
        refine wpAny_bind (wpAny_pyIter_tuple hl1 ?_)
        refine wpAny_bind (wpAny_runValue ?_)
        have hlS : l < s.heap.objs.size := Heap.lt_size hol
        have hsz : (s.heap.push { cls := Value.type "set", data := Data.set #[] 0 (SetTable.fresh 0 0 led) }).objs.size = s.heap.objs.size + 1 := Heap.size_push _ _
        have hneI : l ≠ (s.heap.push { cls := Value.type "set", data := Data.set #[] 0 (SetTable.fresh 0 0 led) }).objs.size := by rw [hsz]; exact Nat.ne_of_lt (Nat.lt_succ_of_lt hlS)
        have hSf : ¬ s.heap.objs.size ∈ [(s.heap.push { cls := Value.type "set", data := Data.set #[] 0 (SetTable.fresh 0 0 led) }).objs.size, l] := by
          rw [hsz]
          simp only [List.mem_cons, List.not_mem_nil, or_false, not_or]
          exact ⟨Nat.ne_of_lt (Nat.lt_succ_self _), Nat.ne_of_gt hlS⟩
        have hh3 : A.in1.in1.in1.handled = none := hh
        refine loop_P (Walks.toS (Walks.tuple hh3 _ l hneI items)) s.heap.objs.size hSf val hi hb (items.size - 0) 0 _ rfl (Nat.zero_le _) ⟨⟨_, Heap.get?_push_size _ rfl, rfl, rfl⟩, tuple_push hl1 _⟩ ?_ ?_
        · have hget := Heap.get?_push_of_some { cls := Value.type "tuple_iterator", data := Data.fields #[Value.ref l, Value.int 0 0] } hS
          exact ⟨_, #[], 0, _, hget, ⟨rfl, rfl, rfl⟩, rfl, (fun e he => by simp at he), (fun k => by show (false = true) ↔ _; simp), (by decide), rfl, rfl, hled, .inl rfl⟩
        · rintro ⟨h', g', d', tk', os'⟩ hm hS'
          refine wpAny_pure (wpAny_pure ⟨rfl, ?_⟩)
          have e1 := hm.gens
          have e2 := hm.drawn
          have e3 := hm.os
          dsimp only at e1 e2 e3
          subst e1 e2 e3
          refine h h' tk' hS' fun b o hb e => hm.heap b o ?_ ?_
          · simp only [List.mem_cons, List.not_mem_nil, or_false, not_or]
            rw [hsz]
            exact ⟨Nat.ne_of_lt hb, Nat.ne_of_lt (Nat.lt_succ_of_lt hb)⟩
          · exact Heap.get?_push_of_some _ (Heap.get?_push_of_some _ e)
      · cases r with
        | error e => exact hr.elim
        | ok fl =>
          cases fl with
          | next => exact hr.elim
          | brk => exact hr.elim
          | cont => exact hr.elim
          | ret v =>
            obtain ⟨rfl, q⟩ := hr
            refine wpAny_pure ?_
            refine wpAny_ite_false (by first | rfl | decide +kernel) ?_
            exact wpAny_pure q
end L2

set_option linter.all false
set_option maxRecDepth 100000
set_option Elab.async false
set_option maxHeartbeats 4000000
namespace L2
open PySem PyProof.Rows
theorem erase_permL {α : Type} : ∀ (l : List α) (j : Nat) (y : α), l[j]? = some y → (y :: l.eraseIdx j).Perm l
  | [], j, y, h => by simp at h
  | x :: r, 0, y, h => by
    simp at h
    subst h
    simp
  | x :: r, j + 1, y, h => by
    simp at h
    rw [List.eraseIdx_cons_succ]
    exact (List.Perm.swap x y _).trans ((erase_permL r j y h).cons x)
theorem wp_draw {M : Model} {A : Around} {Q : Nat → Shared → Prop} {E : Value → Shared → Prop} {s : Shared} {src : Source} {n : Nat} (hn : n ≠ 0) (h : ∀ i d, i < n → Q i { s with drawn := d }) : wpAny M A (choose src n) Q E s :=
  fun _ _ _ => ⟨hn, h _ _ (Nat.mod_lt _ (Nat.pos_of_ne_zero hn))⟩
theorem draw_order {α : Type} {M : Model} {A : Around} {E : Value → Shared → Prop} : ∀ (n : Nat) (xs : List α) (s : Shared) (Q : List α → Shared → Prop), xs.length = n → (∀ ys d, ys.Perm xs → Q ys { s with drawn := d }) → wpAny M A (drawOrder n xs) Q E s := by
  intro n
  induction n with
  | zero =>
    intro xs s Q hl h
    obtain rfl : xs = [] := List.eq_nil_of_length_eq_zero hl
    exact wpAny_pure (h [] s.drawn (List.Perm.refl _))
  | succ n ih =>
    intro xs s Q hl h
    cases xs with
    | nil => simp at hl
    | cons x r =>
      unfold drawOrder
      refine wpAny_bind (wp_draw (by simp) fun i d hi => ?_)
      obtain ⟨y, hy⟩ : ∃ y, (x :: r)[i]? = some y := ⟨_, List.getElem?_eq_getElem hi⟩
      rw [hy]
      dsimp only
      refine wpAny_bind (ih _ _ _ (by rw [List.length_eraseIdx_of_lt hi]; simp at hl ⊢; exact hl) fun ys d' hp => wpAny_pure (h _ _ ((hp.cons y).trans (erase_permL _ i y hy))))
theorem slot_si_next : Slot "set_iterator" "__next__" "set_iterator.__next__" :=
  .of (owner := "set_iterator") (n := "__next__") (by rw [typeLookup_type, builtinLookup_eq_fast]; kernel_rfl) (by decide +kernel) (by decide +kernel) (by decide +kernel) (by first | exact .inl (by decide +kernel) | exact .inr (by decide +kernel)) (by rw [isSubtype_type]; kernel_rfl)
theorem slot_si_iter : Slot "set_iterator" "__iter__" "set_iterator.__iter__" :=
  .of (owner := "set_iterator") (n := "__iter__") (by rw [typeLookup_type, builtinLookup_eq_fast]; kernel_rfl) (by decide +kernel) (by decide +kernel) (by decide +kernel) (by first | exact .inl (by decide +kernel) | exact .inr (by decide +kernel)) (by rw [isSubtype_type]; kernel_rfl)
theorem entry_si_next : entryFor table "set_iterator.__next__" = some Builtin.«set_iterator.__next__» := entryFor_of_tree (by kernel_rfl)
theorem entry_si_iter : entryFor table "set_iterator.__iter__" = some Builtin.«dict_keyiterator.__iter__» := entryFor_alias (id' := "dict_keyiterator.__iter__") (by kernel_rfl) rfl (by decide +kernel) (by kernel_rfl)
theorem entry_set_iterF : entryFor table "set.__iter__" = some Builtin.«frozenset.__iter__» := entryFor_alias (id' := "frozenset.__iter__") (by kernel_rfl) rfl (by decide +kernel) (by kernel_rfl)
theorem owner_si : Manifest.owners.lookup (String.ofList ("set_iterator".toList.reverse).reverse) = some Manifest.sig_set_iterator := by kernel_rfl
theorem args_si_next (a : Value) : argsOk "set_iterator.__next__" ⟨[a], []⟩ := by
  unfold argsOk
  rw [signature?_of (id := "set_iterator.__next__") (n := "__next__".toList.reverse) (o := "set_iterator".toList.reverse) (by kernel_rfl) owner_si]
  kernel_rfl
theorem args_si_iter (a : Value) : argsOk "set_iterator.__iter__" ⟨[a], []⟩ := by
  unfold argsOk
  rw [signature?_of (id := "set_iterator.__iter__") (n := "__iter__".toList.reverse) (o := "set_iterator".toList.reverse) (by kernel_rfl) owner_si]
  kernel_rfl
def siObj (first : Value) (i : Nat) (S : Addr) (n ep : Nat) : Obj := { cls := .type "set_iterator", dict := none, data := .fields #[first, .int i 0, .ref S, .int n 0, .int ep 0], slots := #[] }
section
variable {prog : Program} {w : World} {A : Around} {E : Value → Shared → Prop} {s : Shared} {I S T : Addr} {i m ep : Nat} {o ot : Obj} {es : Array (Int × Value)} {t : SetTable} {places : Array Value} {x : Value}
theorem raise_stop {M : Model} {B : Around} {E' : Value → Shared → Prop} {Q : Fin → Shared → Prop} {s : Shared} (hh : B.handled = none) (h : ∀ (e : Value) (h' : Heap), (∀ b u, s.heap.get? b = some u → h'.get? b = some u) → Shared.TypeIs { s with heap := h' } e "StopIteration" → E' e { s with heap := h' }) :
    wpAny M B (newExc (.type "StopIteration") [] >>= fun e => raiseNew e) Q E' s := by
  refine wpAny_bind ?_
  simp only [newExc, newTuple]
  apply wpAny_bind
  refine wpAny_newObj_type ?_ (by size_fits)
  apply wpAny_bind (m := firstArgMember _ _)
  refine wpAny_of_eq (a := Value.none) (by first | rfl | (simp only [firstArgMember]; rfl)) ?_
  refine wpAny_newObj_type (h := ?_) (by size_fits)
  simp only [raiseNew]
  refine wpAny_bind (wpAny_handled ?_)
  rw [hh]
  refine wpAny_bind (wpAny_pure (wpAny_throw (h (.ref _) _ (fun b u e => Heap.get?_push_of_some _ (Heap.get?_push_of_some _ e)) ⟨_, Heap.get?_push_size _ rfl, rfl⟩)))
theorem si_item_D (hI : s.heap.get? I = some (siObj (.ref T) i S es.size ep)) (hS : s.heap.get? S = some o) (hd : o.data = .set es ep t) (hf : t.fits es.size = true) (hT : s.heap.get? T = some ot) (hTd : ot.data = .seq places m) {p : Nat} {tk : Tok} {hs : Int} (hp : places[i]? = some (.int p tk)) (hx : es[p]? = some (hs, x)) {Q : Option Value → Shared → Prop}
    (hQ : ∀ h', h'.get? I = some (siObj (.ref T) (i + 1) S es.size ep) → Heap.SameBut I s.heap h' → Q (some x) { s with heap := h' }) : wpAny (model prog w) A (pyNext (.ref I)) Q E s := by
  have hty : s.TypeIs (.ref I) "set_iterator" := ⟨_, hI, rfl⟩
  unfold pyNext
  apply wpAny_bind
  apply wpAny_attempt
  refine wpAny_callSpecial?_slot (name := Str.ofString "__next__") hty slot_si_next (wpAny_call_entry slot_si_next hty entry_si_next ?_ (args_si_next _))
  unfold Builtin.«set_iterator.__next__»
  refine wpAny_bind (wpAny_pure ?_)
  refine wpAny_bind (wpAny_fieldsOf hI rfl ?_)
  dsimp only
  refine wpAny_bind (wpAny_setEntries_of hS hd hf ?_)
  rw [if_neg (show ¬ ((((es.size : Nat) : Int) != ((es.size : Nat) : Int)) = true) by simp)]
  refine wpAny_bind (wpAny_seqItems hT hTd ?_)
  dsimp only
  rw [show ((i : Nat) : Int).toNat = i from Int.toNat_natCast i, hp]
  dsimp only
  unfold setNextDrawn
  refine wpAny_bind (wpAny_bind (wpAny_setState_of hS hd hf ?_))
  dsimp only
  rw [if_neg (show ¬ ((ep != ((ep : Nat) : Int).toNat) = true) by simp)]
  rw [show ((p : Nat) : Int).toNat = p from Int.toNat_natCast p, hx]
  refine wpAny_pure ?_
  refine wpAny_bind (wpAny_setField hI rfl (by simp [siObj]) (wpAny_pure ⟨x, rfl, wpAny_pure (hQ _ ?_ (Heap.SameBut.update ..))⟩))
  rw [Heap.get?_update_self _ hI (Obj.isFreed_of_fields (Obj.data_mapFields rfl _))]
  rfl
theorem si_end_D (hh : A.handled = none) (hI : s.heap.get? I = some (siObj (.ref T) i S es.size ep)) (hS : s.heap.get? S = some o) (hd : o.data = .set es ep t) (hf : t.fits es.size = true) (hT : s.heap.get? T = some ot) (hTd : ot.data = .seq places m) (hp : places[i]? = none) {Q : Option Value → Shared → Prop}
    (hQ : ∀ h', (∀ b u, b ≠ I → s.heap.get? b = some u → h'.get? b = some u) → Q none { s with heap := h' }) : wpAny (model prog w) A (pyNext (.ref I)) Q E s := by
  have hty : s.TypeIs (.ref I) "set_iterator" := ⟨_, hI, rfl⟩
  unfold pyNext
  apply wpAny_bind
  apply wpAny_attempt
  refine wpAny_callSpecial?_slot (name := Str.ofString "__next__") hty slot_si_next (wpAny_call_entry slot_si_next hty entry_si_next ?_ (args_si_next _))
  unfold Builtin.«set_iterator.__next__»
  refine wpAny_bind (wpAny_pure ?_)
  refine wpAny_bind (wpAny_fieldsOf hI rfl ?_)
  dsimp only
  refine wpAny_bind (wpAny_setEntries_of hS hd hf ?_)
  rw [if_neg (show ¬ ((((es.size : Nat) : Int) != ((es.size : Nat) : Int)) = true) by simp)]
  refine wpAny_bind (wpAny_seqItems hT hTd ?_)
  dsimp only
  rw [show ((i : Nat) : Int).toNat = i from Int.toNat_natCast i, hp]
  dsimp only
  refine wpAny_bind (wpAny_setField hI rfl (by simp [siObj]) ?_)
  have hI2 := Heap.get?_update_self (Obj.mapFields (·.setIfInBounds 0 (rawInt 0))) hI (Obj.isFreed_of_fields (Obj.data_mapFields rfl _))
  refine wpAny_bind (wpAny_setField hI2 (Obj.data_mapFields rfl _) (by simp [siObj]) ?_)
  refine raise_stop (show A.in1.handled = none from hh) fun e h' k hE => ?_
  refine wpAny_bind (wpAny_isInstance (T := "StopIteration") (b := true) hE isSubtype_stop ?_)
  refine wpAny_pure (hQ h' fun b u nb hb => k b u ?_)
  exact (Heap.SameBut.update _ I _).extBut b u nb ((Heap.SameBut.update _ I _).extBut b u nb hb)
theorem si_item_N {sl nx : Nat} (hI : s.heap.get? I = some (siObj (rawInt sl) i S es.size ep)) (hS : s.heap.get? S = some o) (hd : o.data = .set es ep t) (hf : t.fits es.size = true)
    (hN : ∀ (B : Around) (E' : Value → Shared → Prop) (Q' : Option (Value × Nat) → Shared → Prop), Q' (some (x, nx)) s → wpAny (model prog w) B (setNext S sl i ep) Q' E' s) {Q : Option Value → Shared → Prop}
    (hQ : ∀ h', h'.get? I = some (siObj (rawInt nx) (i + 1) S es.size ep) → Heap.SameBut I s.heap h' → Q (some x) { s with heap := h' }) : wpAny (model prog w) A (pyNext (.ref I)) Q E s := by
  have hty : s.TypeIs (.ref I) "set_iterator" := ⟨_, hI, rfl⟩
  unfold pyNext
  apply wpAny_bind
  apply wpAny_attempt
  refine wpAny_callSpecial?_slot (name := Str.ofString "__next__") hty slot_si_next (wpAny_call_entry slot_si_next hty entry_si_next ?_ (args_si_next _))
  unfold Builtin.«set_iterator.__next__»
  refine wpAny_bind (wpAny_pure ?_)
  refine wpAny_bind (wpAny_fieldsOf hI rfl ?_)
  dsimp only
  refine wpAny_bind (wpAny_setEntries_of hS hd hf ?_)
  rw [if_neg (show ¬ ((((es.size : Nat) : Int) != ((es.size : Nat) : Int)) = true) by simp)]
  dsimp only [rawInt]
  refine wpAny_bind ?_
  rw [show ((i : Nat) : Int).toNat = i from Int.toNat_natCast i, show ((sl : Nat) : Int).toNat = sl from Int.toNat_natCast sl, show ((ep : Nat) : Int).toNat = ep from Int.toNat_natCast ep]
  refine hN _ _ _ ?_
  dsimp only
  refine wpAny_bind (wpAny_setField hI rfl (by simp [siObj]) ?_)
  have hI2 := Heap.get?_update_self (Obj.mapFields (·.setIfInBounds 0 (rawInt nx))) hI (Obj.isFreed_of_fields (Obj.data_mapFields rfl _))
  refine wpAny_bind (wpAny_setField hI2 (Obj.data_mapFields rfl _) (by simp [siObj]) (wpAny_pure ⟨x, rfl, wpAny_pure (hQ _ ?_ ((Heap.SameBut.update ..).trans (Heap.SameBut.update ..)))⟩))
  exact (Heap.get?_update_self _ hI2 (Obj.isFreed_of_fields (Obj.data_mapFields (Obj.data_mapFields rfl _) _))).trans rfl
theorem si_end_N {sl : Nat} (hh : A.handled = none) (hI : s.heap.get? I = some (siObj (rawInt sl) i S es.size ep)) (hS : s.heap.get? S = some o) (hd : o.data = .set es ep t) (hf : t.fits es.size = true)
    (hN : ∀ (B : Around) (E' : Value → Shared → Prop) (Q' : Option (Value × Nat) → Shared → Prop), Q' none s → wpAny (model prog w) B (setNext S sl i ep) Q' E' s) {Q : Option Value → Shared → Prop}
    (hQ : ∀ h', (∀ b u, b ≠ I → s.heap.get? b = some u → h'.get? b = some u) → Q none { s with heap := h' }) : wpAny (model prog w) A (pyNext (.ref I)) Q E s := by
  have hty : s.TypeIs (.ref I) "set_iterator" := ⟨_, hI, rfl⟩
  unfold pyNext
  apply wpAny_bind
  apply wpAny_attempt
  refine wpAny_callSpecial?_slot (name := Str.ofString "__next__") hty slot_si_next (wpAny_call_entry slot_si_next hty entry_si_next ?_ (args_si_next _))
  unfold Builtin.«set_iterator.__next__»
  refine wpAny_bind (wpAny_pure ?_)
  refine wpAny_bind (wpAny_fieldsOf hI rfl ?_)
  dsimp only
  refine wpAny_bind (wpAny_setEntries_of hS hd hf ?_)
  rw [if_neg (show ¬ ((((es.size : Nat) : Int) != ((es.size : Nat) : Int)) = true) by simp)]
  dsimp only [rawInt]
  refine wpAny_bind ?_
  rw [show ((i : Nat) : Int).toNat = i from Int.toNat_natCast i, show ((sl : Nat) : Int).toNat = sl from Int.toNat_natCast sl, show ((ep : Nat) : Int).toNat = ep from Int.toNat_natCast ep]
  refine hN _ _ _ ?_
  dsimp only
  refine wpAny_bind (wpAny_setField hI rfl (by simp [siObj]) ?_)
  refine raise_stop (show A.in1.handled = none from hh) fun e h' k hE => ?_
  refine wpAny_bind (wpAny_isInstance (T := "StopIteration") (b := true) hE isSubtype_stop ?_)
  refine wpAny_pure (hQ h' fun b u nb hb => k b u ?_)
  exact (Heap.SameBut.update _ I _).extBut b u nb hb
theorem si_self {first : Value} (hI : s.heap.get? I = some (siObj first i S es.size ep)) {Q : Value → Shared → Prop} (h : Q (.ref I) s) : wpAny (model prog w) A (pyIter (.ref I)) Q E s := by
  have hty : s.TypeIs (.ref I) "set_iterator" := ⟨_, hI, rfl⟩
  refine wpAny_pyIter_slot hty slot_si_iter (wpAny_call_entry slot_si_iter hty entry_si_iter ?_ (args_si_iter _))
  exact wpAny_pure ⟨_, rfl, "set_iterator", _, hty, slot_si_next.lookup, h⟩
end
end L2

set_option linter.all false
set_option maxRecDepth 100000
set_option Elab.async false
set_option maxHeartbeats 4000000
namespace L2
open PySem PyProof.Rows
theorem pick_perm {α : Type} (next : Nat → Nat) : ∀ (fuel k : Nat) (left : List α) (out : Array α), left.length = fuel → (pickOrder.go next fuel k left out).toList.Perm (out.toList ++ left)
  | 0, k, [], out, _ => by
    unfold pickOrder.go
    rw [List.append_nil]
  | fuel + 1, k, x :: r, out, hl => by
    unfold pickOrder.go
    have hi : next k % (x :: r).length < (x :: r).length := Nat.mod_lt _ (by simp)
    obtain ⟨y, hy⟩ : ∃ y, (x :: r)[next k % (x :: r).length]? = some y := ⟨_, List.getElem?_eq_getElem hi⟩
    rw [hy]
    dsimp only
    refine (pick_perm next fuel (k + 1) _ _ (by rw [List.length_eraseIdx_of_lt hi]; simp at hl ⊢; exact hl)).trans ?_
    rw [Array.toList_push, List.append_assoc]
    exact List.Perm.append_left _ (erase_permL _ _ y hy)
theorem pickOrder_perm {α : Type} (next : Nat → Nat) (xs : Array α) : (pickOrder next xs).toList.Perm xs.toList := by
  unfold pickOrder
  have h := pick_perm next xs.size 0 xs.toList #[] (by simp)
  simpa using h
section
variable {prog : Program} {w : World} {A : Around} {I S T : Addr} {m ep : Nat} {o ot : Obj} {es : Array (Int × Value)} {t : SetTable} {places : Array Value}
theorem walk_D (hh : A.handled = none) (hS : S ≠ I) (hT : T ≠ I) (hd : o.data = .set es ep t) (hf : t.fits es.size = true) (hTd : ot.data = .seq places m) (hp : ∀ i, i < places.size → ∃ (p : Nat) (tk : Tok) (z : Int × Value), places[i]? = some (.int p tk) ∧ es[p]? = some z) :
    Walks prog w A I [I, S, T] [I] places.size (fun i v => ∃ (p : Nat) (tk : Tok) (z : Int), places[i]? = some (.int p tk) ∧ es[p]? = some (z, v)) (fun i h => h.get? I = some (siObj (.ref T) i S es.size ep) ∧ h.get? S = some o ∧ h.get? T = some ot) where
  sub := fun b hb => by simp at hb; simp [hb]
  frame := fun _ _ _ st hk => ⟨hk I (by simp) _ st.1, hk S (by simp) _ st.2.1, hk T (by simp) _ st.2.2⟩
  item := fun i s Q E hi st hQ => by
    obtain ⟨p, tk, ⟨z, v⟩, h1, h2⟩ := hp i hi
    refine si_item_D st.1 st.2.1 hd hf st.2.2 hTd h1 h2 fun h' hI sb => ?_
    exact hQ v h' s.toks ⟨p, tk, z, h1, h2⟩ ⟨hI, sb.extBut S _ hS st.2.1, sb.extBut T _ hT st.2.2⟩ fun b u nb e => sb.extBut b u (by simpa using nb) e
  done := fun s Q E st hQ => si_end_D hh st.1 st.2.1 hd hf st.2.2 hTd (by simp) fun h' k => hQ h' s.toks fun b u nb e => k b u (by simpa using nb) e
  self := fun i s Q E st hQ => si_self st.1 hQ
theorem walk_N (hh : A.handled = none) (hS : S ≠ I) (hd : o.data = .set es ep t) (hf : t.fits es.size = true) (sl : Nat → Nat) (ord : List Value)
    (hN : ∀ (i : Nat) (s : Shared), s.heap.get? S = some o → i ≤ ord.length → ∀ (B : Around) (E' : Value → Shared → Prop) (Q' : Option (Value × Nat) → Shared → Prop), Q' ((ord[i]?).map fun v => (v, sl (i + 1))) s → wpAny (model prog w) B (setNext S (sl i) i ep) Q' E' s) :
    Walks prog w A I [I, S] [I] ord.length (fun i v => ord[i]? = some v) (fun i h => h.get? I = some (siObj (rawInt (sl i)) i S es.size ep) ∧ h.get? S = some o) where
  sub := fun b hb => by simp at hb; simp [hb]
  frame := fun _ _ _ st hk => ⟨hk I (by simp) _ st.1, hk S (by simp) _ st.2⟩
  item := fun i s Q E hi st hQ => by
    obtain ⟨v, hv⟩ : ∃ v, ord[i]? = some v := ⟨_, List.getElem?_eq_getElem hi⟩
    refine si_item_N (x := v) (nx := sl (i + 1)) st.1 st.2 hd hf (fun B E' Q' q => hN i s st.2 (Nat.le_of_lt hi) B E' Q' (by rw [hv]; exact q)) fun h' hI sb => ?_
    exact hQ v h' s.toks hv ⟨hI, sb.extBut S _ hS st.2⟩ fun b u nb e => sb.extBut b u (by simpa using nb) e
  done := fun s Q E st hQ => si_end_N hh st.1 st.2 hd hf (fun B E' Q' q => hN _ s st.2 (Nat.le_refl _) B E' Q' (by rw [List.getElem?_eq_none (Nat.le_refl _)]; exact q)) fun h' k => hQ h' s.toks fun b u nb e => k b u (by simpa using nb) e
  self := fun i s Q E st hQ => si_self st.1 hQ
structure ItOk (prog : Program) (w : World) (A : Around) (S : Addr) (el : List Value) (s s2 : Shared) (I : Addr) : Prop where
  w : ∃ (fp : List Addr) (P : Nat → Value → Prop) (St : Nat → Heap → Prop), Walks prog w A I fp [I] el.length P St ∧ St 0 s2.heap ∧ I ∈ fp ∧ (∀ b ∈ fp, b < s2.heap.objs.size ∧ (b = S ∨ s.heap.objs.size ≤ b)) ∧ ∀ acc, ItemsOf P acc el.length → acc.toList.Perm el
  keep : ∀ b u, s.heap.get? b = some u → s2.heap.get? b = some u
  new : s.heap.objs.size ≤ I
  gens : s2.gens = s.gens
  os : s2.os = s.os
  toks : s2.toks = s.toks
theorem items_of {ord : List Value} {acc : Array Value} (h : ItemsOf (fun i v => ord[i]? = some v) acc ord.length) : acc.toList = ord := by
  obtain ⟨hl, h⟩ := h
  apply List.ext_getElem?
  intro j
  by_cases hj : j < acc.size
  · have := h j acc[j] (by simp [hj])
    rw [this]
    simp [hj]
  · rw [List.getElem?_eq_none (by simpa using hj), List.getElem?_eq_none (by omega)]
end
end L2

set_option linter.all false
set_option maxRecDepth 100000
set_option Elab.async false
set_option maxHeartbeats 4000000
namespace L2
open PySem PyProof.Rows
section
variable {prog : Program} {w : World} {A : Around} {S : Addr} {ep : Nat} {o : Obj} {es : Array (Int × Value)} {t : SetTable}
theorem walk_places {ys : List Nat} {n : Nat} (hp : ys.Perm (List.range n)) (hn : n = es.size) : ∀ i, i < (ys.map fun (i : Nat) => rawInt i).toArray.size → ∃ (p : Nat) (tk : Tok) (z : Int × Value), (ys.map fun (i : Nat) => rawInt i).toArray[i]? = some (.int p tk) ∧ es[p]? = some z := by
  intro i hi
  have hi' : i < ys.length := by simpa using hi
  have hm : ys[i] ∈ List.range n := hp.mem_iff.mp (List.getElem_mem hi')
  have hlt : ys[i] < es.size := by rw [← hn]; exact List.mem_range.mp hm
  exact ⟨ys[i], 0, es[ys[i]], by simp [hi', rawInt], by simp [hlt]⟩
theorem items_places {ys : List Nat} {n : Nat} (hp : ys.Perm (List.range n)) (hn : n = es.size) {acc : Array Value} (h : ItemsOf (fun i v => ∃ (p : Nat) (tk : Tok) (z : Int), (ys.map fun (i : Nat) => rawInt i).toArray[i]? = some (.int p tk) ∧ es[p]? = some (z, v)) acc ys.length) : acc.toList.Perm (es.toList.map (·.2)) := by
  have e : acc.toList = ys.map fun p => (es.toList.getD p (0, .none)).2 := by
    apply List.ext_getElem?
    intro j
    by_cases hj : j < ys.length
    · have hj' : j < acc.size := by rw [h.1]; exact hj
      obtain ⟨p, tk, z, h1, h2⟩ := h.2 j acc[j] (by simp [hj'])
      simp [hj, rawInt] at h1
      obtain ⟨h1, _⟩ := h1
      have h1' : ys[j] = p := by exact_mod_cast h1
      rw [List.getElem?_map, List.getElem?_eq_getElem hj, h1']
      have h2' : es.toList[p]? = some (z, acc[j]) := by simpa using h2
      simp [List.getD, h2, h2', hj']
    · rw [List.getElem?_eq_none (by have := h.1; simp; omega), List.getElem?_eq_none (by simpa using hj)]
  rw [e]
  refine (hp.map _).trans (List.Perm.of_eq ?_)
  apply List.ext_getElem?
  intro j
  rw [List.getElem?_map, List.getElem?_map]
  by_cases hj : j < n
  · rw [List.getElem?_range hj]
    have hj' : j < es.size := by omega
    simp [List.getD, hj']
  · rw [List.getElem?_eq_none (by simpa using hj), List.getElem?_eq_none (by simp; omega)]
    rfl
theorem set_iter (hh : A.handled = none) (hcls : o.cls = .type "set") (hd : o.data = .set es ep t) (hf : t.fits es.size = true) (hb : es.size < scanBound) (hTab : SetTab w es t) {E : Value → Shared → Prop} {s : Shared} {R : Value → Shared → Prop} (hS : s.heap.get? S = some o)
    (h : ∀ (I : Addr) (s2 : Shared), ItOk prog w A S (es.toList.map (·.2)) s s2 I → R (.ref I) s2) : wpAny (model prog w) A (pyIter (.ref S)) R E s := by
  have hty : s.TypeIs (.ref S) "set" := ⟨_, hS, hcls⟩
  have hlt := Heap.lt_size hS
  refine wpAny_pyIter_slot hty F.slot_set_iter (wpAny_call_entry F.slot_set_iter hty entry_set_iterF ?_ (F.args_set_iter_1 _))
  unfold Builtin.«frozenset.__iter__» Builtin.Frozenset.slot0 Builtin.Frozenset.sizeOf
  refine wpAny_bind (wpAny_bind (wpAny_pure (wpAny_pure ?_)))
  refine wpAny_bind (wpAny_bind (wpAny_setEntries_of hS hd hf (wpAny_pure ?_)))
  refine wpAny_bind ?_
  unfold setDrawn setsByText
  refine wpAny_bind (wpAny_setState_of hS hd hf (wpAny_bind (wpAny_bind (wpAny_askSetting (wpAny_pure (wpAny_pure ?_))))))
  have hlen : (es.toList.map (·.2)).length = es.size := by simp
  -- where no tuple is made
  have fin : (∀ (i : Nat) (s : Shared), s.heap.get? S = some o → i ≤ es.size → True) → ∀ (sl : Nat → Nat) (ord : List Value), sl 0 = 0 → ord.Perm (es.toList.map (·.2)) →
      (∀ (i : Nat) (s : Shared), s.heap.get? S = some o → i ≤ ord.length → ∀ (B : Around) (E' : Value → Shared → Prop) (Q' : Option (Value × Nat) → Shared → Prop), Q' ((ord[i]?).map fun v => (v, sl (i + 1))) s → wpAny (model prog w) B (setNext S (sl i) i ep) Q' E' s) →
      wpAny (model prog w) A.in1 (do ret (← newFields "set_iterator" [rawInt 0, rawInt 0, .ref S, rawInt es.size, rawInt (← setEpoch S)])) (fun fin s' => ∃ v, fin = .done (.ret v) ∧ ∃ T' r, s'.TypeIs v T' ∧ typeLookup (.type T') "__next__" = pure (some r) ∧ R v s') E s := by
    intro _ sl ord h0 hperm hN
    refine wpAny_bind (wpAny_setEpoch_of hS hd hf ?_)
    refine wpAny_bind (wpAny_newObj_type (wpAny_pure ⟨_, rfl, "set_iterator", _, ⟨_, Heap.get?_push_size _ rfl, rfl⟩, slot_si_next.lookup, h _ _ ?_⟩))
    have hol : ord.length = (es.toList.map (·.2)).length := hperm.length_eq
    refine ⟨⟨[s.heap.objs.size, S], _, _, hol ▸ walk_N hh (Nat.ne_of_lt hlt) hd hf sl ord hN, ⟨by rw [h0]; exact Heap.get?_push_size _ rfl, Heap.get?_push_of_some _ hS⟩, by simp, ?_, fun acc ha => ?_⟩, fun b u e => Heap.get?_push_of_some _ e, Nat.le_refl _, rfl, rfl, rfl⟩
    · intro b hb
      rw [Heap.size_push]
      simp at hb
      rcases hb with rfl | rfl
      · exact ⟨Nat.lt_succ_self _, .inr (Nat.le_refl _)⟩
      · exact ⟨Nat.lt_succ_of_lt hlt, .inl rfl⟩
    · rw [← hol] at ha
      rw [items_of ha]
      exact hperm
  dsimp only
  cases hft : (model prog w).w.params.followText "set-order" with
  | true =>
    rw [if_neg (by simp)]
    refine wpAny_bind (wpAny_pure ?_)
    refine fin (fun _ _ _ _ => trivial) (fun _ => 0) ((pickOrder ((model prog w).w.params.setOrder S ep) es).toList.map (·.2)) rfl ((pickOrder_perm _ es).map _) fun i s1 hS1 hi B E' Q' q => ?_
    unfold setNext setsByText setWalk setsByText
    refine wpAny_bind (wpAny_setState_of hS1 hd hf ?_)
    refine wpAny_bind (wpAny_bind (wpAny_askSetting (wpAny_pure ?_)))
    dsimp only
    rw [hft, if_pos rfl]
    rw [if_neg (show ¬ ((ep != ep) = true) by simp)]
    refine wpAny_bind (wpAny_bind (wpAny_setState_of hS1 hd hf ?_))
    refine wpAny_bind (wpAny_bind (wpAny_askSetting (wpAny_pure ?_)))
    dsimp only
    rw [hft, if_pos rfl]
    refine wpAny_bind (wpAny_askSetting (wpAny_pure (wpAny_pure ?_)))
    simpa [Function.comp_def] using q
  | false =>
    by_cases h1 : es.size > 1
    · have hpl : t.plain = false := hTab.2.resolve_left (by omega)
      refine wpAny_ite_true (decide_eq_true (show ((!false) && (!t.plain && decide (es.size > 1))) = true by rw [hpl]; simp [h1])) ?_
      refine wpAny_bind (draw_order es.size (List.range es.size) s _ (by simp) fun ys d hperm => ?_)
      have hyl : ys.length = es.size := by rw [hperm.length_eq]; simp
      refine wpAny_bind (wpAny_newTuple ?_ (by rw [List.length_map, hyl]; exact fits_of_scanBound hb))
      have hS1 : (s.heap.push { cls := .type "tuple", data := .seq (ys.map fun (i : Nat) => rawInt i).toArray }).get? S = some o := Heap.get?_push_of_some _ hS
      refine wpAny_bind (wpAny_setEpoch_of hS1 hd hf ?_)
      refine wpAny_bind (wpAny_newObj_type (wpAny_pure ⟨_, rfl, "set_iterator", _, ⟨_, Heap.get?_push_size _ rfl, rfl⟩, slot_si_next.lookup, h _ _ ?_⟩))
      have esz : (s.heap.push { cls := .type "tuple", data := .seq (ys.map fun (i : Nat) => rawInt i).toArray }).objs.size = s.heap.objs.size + 1 := Heap.size_push _ _
      have epl : (ys.map fun (i : Nat) => rawInt i).toArray.size = (es.toList.map (·.2)).length := by simp [hyl]
      have hw := walk_D (prog := prog) (w := w) (A := A) (I := (s.heap.push { cls := .type "tuple", data := .seq (ys.map fun (i : Nat) => rawInt i).toArray }).objs.size) (S := S) (T := s.heap.objs.size) (o := o) (ot := { cls := .type "tuple", data := .seq (ys.map fun (i : Nat) => rawInt i).toArray }) hh (by rw [esz]; exact Nat.ne_of_lt (Nat.lt_succ_of_lt hlt)) (by rw [esz]; exact Nat.ne_of_lt (Nat.lt_succ_self _)) hd hf rfl (walk_places hperm rfl)
      rw [epl] at hw
      refine ⟨⟨_, _, _, hw, ⟨Heap.get?_push_size _ rfl, Heap.get?_push_of_some _ hS1, Heap.get?_push_of_some _ (Heap.get?_push_size _ rfl)⟩, by simp, ?_, fun acc ha => ?_⟩, fun b u e => Heap.get?_push_of_some _ (Heap.get?_push_of_some _ e), by dsimp only; rw [esz]; exact Nat.le_succ _, rfl, rfl, rfl⟩
      · intro b hb
        have h3 : b = s.heap.objs.size + 1 ∨ b = S ∨ b = s.heap.objs.size := by
          rw [esz] at hb
          simpa using hb
        dsimp only
        rw [Heap.size_push, esz]
        rcases h3 with rfl | rfl | rfl
        · exact ⟨Nat.lt_succ_self _, .inr (Nat.le_succ _)⟩
        · exact ⟨Nat.lt_succ_of_lt (Nat.lt_succ_of_lt hlt), .inl rfl⟩
        · exact ⟨Nat.lt_succ_of_lt (Nat.lt_succ_self _), .inr (Nat.le_refl _)⟩
      · rw [← epl, List.size_toArray, List.length_map] at ha
        exact items_places hperm rfl ha
    · refine wpAny_ite_false (decide_eq_false (show ¬ (((!false) && (!t.plain && decide (es.size > 1))) = true) by simp [h1])) ?_
      refine wpAny_bind (wpAny_pure ?_)
      have hdr : (!t.plain && decide (es.size > 1)) = false := by simp [h1]
      have hled : t.led = true := by
        have z := hTab.1
        rw [show w.params.followText "set-order" = false from hft] at z
        exact z
      have hpz : t.place.size = es.size := by
        unfold SetTable.fits at hf
        simp at hf
        exact hf.1
      refine fin (fun _ _ _ _ => trivial) (fun i => if i = 0 then 0 else t.place.getD 0 0 + 1) (es.toList.map (·.2)) rfl (List.Perm.refl _) fun i s1 hS1 hi B E' Q' q => ?_
      unfold setNext setsByText
      refine wpAny_bind (wpAny_setState_of hS1 hd hf ?_)
      refine wpAny_bind (wpAny_bind (wpAny_askSetting (wpAny_pure ?_)))
      dsimp only
      rw [hft, if_neg (by simp)]
      refine wpAny_ite_false (decide_eq_false (show ¬ ((!t.plain && decide (es.size > 1)) = true) by rw [hdr]; simp)) ?_
      refine wpAny_bind (wpAny_ite_false (decide_eq_false (show ¬ ((!t.led && !es.isEmpty) = true) by rw [hled]; simp)) (wpAny_pure (wpAny_pure ?_)))
      have hcase : es.size = 0 ∨ es.size = 1 := by omega
      rcases hcase with hz | hz
      · have hes : es = #[] := Array.eq_empty_of_size_eq_zero hz
        have hpl : t.place = #[] := Array.eq_empty_of_size_eq_zero (by omega)
        subst hes
        have hi0 : i = 0 := by simpa using hi
        subst hi0
        rw [hpl]
        simpa [SetTable.below, SetTable.below.go] using q
      · obtain ⟨e, hes⟩ := Array.size_eq_one_iff.mp hz
        obtain ⟨j, hpl⟩ := Array.size_eq_one_iff.mp (hpz.trans hz)
        subst hes
        have hi1 : i = 0 ∨ i = 1 := by
          have : i ≤ 1 := by simpa using hi
          omega
        rw [hpl] at q ⊢
        rcases hi1 with rfl | rfl
        · simpa [SetTable.below, SetTable.below.go] using q
        · simpa [SetTable.below, SetTable.below.go] using q
end
end L2

set_option linter.all false
set_option maxRecDepth 100000
set_option Elab.async false
set_option maxHeartbeats 4000000
namespace L2
open PySem PyProof.Rows
section
variable {prog : Program} {w : World} {A : Around} {S : Addr} {ep : Nat} {o : Obj} {es : Array (Int × Value)} {t : SetTable}
theorem collect_set (hh : A.handled = none) (hcls : o.cls = .type "set") (hd : o.data = .set es ep t) (hf : t.fits es.size = true) (hb : es.size < scanBound) (hTab : SetTab w es t) {E : Value → Shared → Prop} {s : Shared} {Q : List Value → Shared → Prop} (hS : s.heap.get? S = some o)
    (h : ∀ (acc : List Value) (h' : Heap) (d : Drawn) (tk : Nat), acc.Perm (es.toList.map (·.2)) → (∀ b u, s.heap.get? b = some u → h'.get? b = some u) → s.heap.objs.size < h'.objs.size → Q acc { s with heap := h', drawn := d, toks := tk }) : wpAny (model prog w) A (collect (.ref S)) Q E s := by
  have hlt := Heap.lt_size hS
  unfold collect
  apply wpAny_bind
  apply wpAny_runValue
  apply codeAny_builtin F.entry_proto_collect
  rw [Around.under_plainId F.plain_proto_collect]
  show wpAny _ A.in1 (newList [] >>= fun l => again (.builtin "list.__iadd__" ⟨[l, .ref S], []⟩)) _ _ s
  apply wpAny_bind
  refine wpAny_newObj_type (wpAny_pure ⟨plainId_quiet F.plain_list_iadd _, codeAny_builtin F.entry_list_iadd ?_⟩)
  rw [Around.under_plainId F.plain_list_iadd]
  have hS1 : (s.heap.push { cls := .type "list", data := .seq ([] : List Value).toArray }).get? S = some o := Heap.get?_push_of_some _ hS
  have hL1 : (s.heap.push { cls := .type "list", data := .seq ([] : List Value).toArray }).get? s.heap.objs.size = some { cls := .type "list", data := .seq ([] : List Value).toArray } := Heap.get?_push_size _ rfl
  have e1 : Builtin.List.listSameRef (.ref s.heap.objs.size) (.ref S) = false := by
    show (s.heap.objs.size == S) = false
    simpa using Nat.ne_of_gt hlt
  show wpAny _ A.in1 (Builtin.List.listExtendWith (.ref s.heap.objs.size) (.ref S) (.ref s.heap.objs.size)) _ _ _
  unfold Builtin.List.listExtendWith
  refine wpAny_bind (wpAny_typeOf (T := "set") ⟨o, hS1, hcls⟩ ?_)
  rw [if_neg (by rw [e1]; decide)]
  refine wpAny_bind (set_iter (A := A.in1) hh hcls hd hf hb hTab hS1 fun I s2 it => ?_)
  have hS2 := it.keep S o hS1
  have hL2 := it.keep _ _ hL1
  refine wpAny_bind (wpAny_holding ?_)
  unfold Builtin.List.listLengthHint
  refine wpAny_bind (wpAny_specialOf (T := "set") ⟨o, hS2, hcls⟩ F.slot_set_len.lookup ?_)
  generalize hid : ("set.__len__" : String) = id0
  wp_delta
  rw [show splitId id0 = some ("set", "__len__") from by subst hid; decide +kernel]
  subst hid
  refine wpAny_bind (wpAny_isInstance (b := true) (T := "set") ⟨o, hS2, hcls⟩ sub_set_self ?_)
  refine wpAny_ite_false (by rfl) ?_
  refine wpAny_ite_true (by decide +kernel) ?_
  refine wpAny_bind (wpAny_typeOf (T := "set") ⟨o, hS2, hcls⟩ ?_)
  refine wpAny_pure ?_
  refine wpAny_ite_true (by decide +kernel) ?_
  refine wpAny_bind (wpAny_rule ?_)
  obtain ⟨fp, P, St, W, st0, hI, hfp, hit⟩ := it.w
  have esz : (s.heap.push { cls := .type "list", data := .seq ([] : List Value).toArray }).objs.size = s.heap.objs.size + 1 := Heap.size_push _ _
  have hLf : s.heap.objs.size ∉ fp := fun hm => by
    rcases (hfp _ hm).2 with z | z
    · exact absurd z (Nat.ne_of_gt hlt)
    · dsimp only at z
      rw [esz] at z
      exact absurd z (Nat.not_succ_le_self _)
  apply wpAny_bind
  show wpAny _ A.in1 (updateSeq s.heap.objs.size (·.push .none) >>= fun _ => updateSeq s.heap.objs.size (·.pop)) _ _ _
  apply wpAny_bind
  refine wpAny_updateSeq hL2 rfl ?_
  have hL3 := Heap.get?_update_self (Obj.mapSeq (·.push Value.none)) hL2 rfl
  refine wpAny_updateSeq hL3 rfl ?_
  have hL4 := Heap.get?_update_self (Obj.mapSeq (·.pop)) hL3 rfl
  have oth : ∀ b u, b ≠ s.heap.objs.size → s2.heap.get? b = some u → ((s2.heap.update s.heap.objs.size (Obj.mapSeq (·.push Value.none))).update s.heap.objs.size (Obj.mapSeq (·.pop))).get? b = some u :=
    fun b u nb e => (Heap.get?_update_other _ _ (Ne.symm nb)).trans ((Heap.get?_update_other _ _ (Ne.symm nb)).trans e)
  have hel : (es.toList.map (·.2)).length ≤ sizeLine := by
    rw [List.length_map, Array.length_toList]
    exact fits_of_scanBound hb
  refine wpAny_pure ⟨plainId_quiet F.plain_extend_loop _, codeAny_extend_loopS (Walks.toS W) hel s.heap.objs.size hLf _ _ 0 _ _ _ rfl (Nat.zero_le _) (W.frame 0 _ _ st0 fun b hb u e => oth b u (fun z => hLf (z ▸ hb)) e) hL4 (ItemsOf.nil P) fun s' acc' c' hm hS' hacc => ?_⟩
  show wpAny _ A (load s.heap.objs.size >>= _) _ _ s'
  apply wpAny_bind
  refine wpAny_load hS' (wpAny_pure ?_)
  obtain ⟨h', g', d', tk', os'⟩ := s'
  have g1 := hm.gens
  have g2 := hm.os
  dsimp only at g1 g2
  have g3 := it.gens
  have g4 := it.os
  rw [g3] at g1
  rw [g4] at g2
  dsimp only at g1 g2
  subst g1 g2
  refine h acc'.toList h' d' tk' (hit acc' hacc) (fun b u e => ?_) (Heap.lt_size hS')
  have hbl := Heap.lt_size e
  have nb : b ≠ s.heap.objs.size := Nat.ne_of_lt hbl
  have nI : b ≠ I := fun z => by
    have z2 := it.new
    dsimp only at z2
    rw [esz, ← z] at z2
    exact absurd (Nat.lt_trans hbl z2) (Nat.lt_irrefl _)
  refine hm.heap b u (by simp [nb, nI]) (oth b u nb (it.keep b u (Heap.get?_push_of_some _ e)))
end
end L2

set_option linter.all false
set_option maxRecDepth 100000
set_option Elab.async false
set_option maxHeartbeats 4000000
namespace L2
open PySem PyProof.Rows
theorem perm_of_full {α : Type} [DecidableEq α] : ∀ (L M : List α), L.Nodup → (∀ x ∈ L, x ∈ M) → M.length = L.length → M.Perm L
  | [], M, _, _, hl => by
    have : M = [] := List.eq_nil_of_length_eq_zero hl
    rw [this]
  | x :: r, M, hn, hm, hl => by
    obtain ⟨hx, hr⟩ := List.nodup_cons.mp hn
    have hxM := hm x (by simp)
    have ih := perm_of_full r (M.erase x) hr (fun y hy => (List.mem_erase_of_ne (show y ≠ x from fun z => hx (by rw [← z]; exact hy))).mpr (hm y (by simp [hy]))) (by rw [List.length_erase_of_mem hxM, hl]; simp)
    exact (List.perm_cons_erase hxM).trans (ih.cons x)
section
variable {prog : Program} {w : World} {A : Around} {S : Addr} {E : Value → Shared → Prop} {s : Shared}
theorem sorted_setP (hh : A.handled = none) {f : Str → Bool} {n : Nat} (hS : SetP prog w s.heap S f n) {L0 : List Str} (hnd : L0.Nodup) (hmem : ∀ k, f k = true ↔ k ∈ L0) (hn : n = L0.length) (h64 : n < 64) {Q : Value → Shared → Prop}
    (h : ∀ (l : Addr) (h' : Heap) (d : Drawn) (tk e : Nat) (out : Array Value) (ms : List Str), s.heap.objs.size ≤ l → (∀ b u, s.heap.get? b = some u → h'.get? b = some u) → h'.get? l = some (seqObj "list" out e) → StrsAre out.toList ms → ms.Perm L0 → sortedS ms = true → Q (.ref l) { s with heap := h', drawn := d, toks := tk }) :
    wpAny (model prog w) A (call (.builtin "sorted") [.ref S]) Q E s := by
  obtain ⟨o, es, ep, t, ho, hex, hd, hel, hm, hb, hf, hsz, hTab⟩ := hS
  refine Calls.call_function_entry kind_sorted plain_sorted entry_sorted (args_sorted1 _) ?_
  unfold Builtin.«sorted»
  apply wpAny_bind (m := checkCount "sorted" 1 1 _)
  apply wpAny_pure
  refine wpAny_bind (collect_set (A := A.in1) hh hex.1 hd hf hb hTab ho fun acc h1 d tk hp hk hgr => ?_)
  have hall : ∀ v, v ∈ acc → ∃ x t, v = .str x t := fun v hv => by
    obtain ⟨e, he, rfl⟩ := List.mem_map.mp (hp.mem_iff.mp hv)
    obtain ⟨⟨k, hk, _⟩, _⟩ := hel e he
    obtain ⟨t, ht⟩ := Value.isStrOf_shape hk
    exact ⟨k, t, ht⟩
  have hA := strsAre_map acc hall
  have hlen : acc.length = n := by rw [hp.length_eq, List.length_map, Array.length_toList]; exact hsz
  have hM : (acc.map strOf).Perm L0 := by
    refine ((hp.map strOf)).trans (perm_of_full L0 _ hnd (fun x hx => ?_) (by rw [List.length_map, List.length_map, Array.length_toList, hsz, hn]))
    obtain ⟨e, he, hk⟩ := (hm x).mp ((hmem x).mpr hx)
    obtain ⟨t, ht⟩ := Value.isStrOf_shape hk
    exact List.mem_map.mpr ⟨e.2, List.mem_map.mpr ⟨e, he, rfl⟩, by rw [ht]; rfl⟩
  have z64 : acc.length ≤ sizeLine := by rw [sizeLine_eq]; omega
  apply wpAny_bind
  refine wpAny_newList ?_ z64
  have hoL : (h1.push (seqObj "list" acc.toArray 0)).get? h1.objs.size = some (seqObj "list" acc.toArray 0) := Heap.get?_push_size _ rfl
  refine wpAny_bind (wpAny_holding (wpAny_call_entry slot_list_sort ⟨_, hoL, rfl⟩ entry_list_sort (list_sort_treeK strKind_oneLt hoL hA.keysOf (fun v₁ v₂ rest e => keyKind_strs (by rw [← e]; exact hA)) (by omega) fun st' a1 a2 => ⟨_, rfl, ?_⟩) (args_list_sort _)))
  obtain ⟨ms, b1, b2, b3⟩ := sorted_out_str hA a1 a2
  refine wpAny_pure ⟨_, rfl, ?_⟩
  obtain ⟨e, he⟩ := sortedHeap_at (vs := acc) (out := (arrOf st').map (·.2)) hoL
  have hszl : s.heap.objs.size ≤ h1.objs.size := Nat.le_of_lt hgr
  refine h _ _ d tk e _ ms hszl (fun b u eb => ?_) he b1 (b2.trans hM) b3
  have hbl := Heap.lt_size (hk b u eb)
  rw [sortedHeap_old (Nat.ne_of_lt hbl) (by rw [Heap.size_push]; exact Nat.lt_succ_of_lt hbl)]
  exact Heap.get?_push_of_some _ (hk b u eb)
end
end L2

set_option linter.all false
set_option maxRecDepth 100000
set_option Elab.async false
set_option maxHeartbeats 4000000
namespace L2
open PySem PySem.Spec PyProof.Rows
section
variable {X : Cx} {pins : List (Addr × Obj)} {σ : St} {H H' : Hp} {s : Shared} {h' : Heap}
theorem Inv.laidD {a : Addr} {o : HO} {t' : Nat} {d' : Drawn} (I : Inv X pins σ H s) (k : ∀ b u, s.heap.get? b = some u → h'.get? b = some u) (hp : s.heap.objs.size ≤ a) (new : ObjOk X.prog X.w (upd H a o) h' a o) :
    Inv X pins σ (upd H a o) { s with heap := h', drawn := d', toks := t' } := by
  have u : Un (frs X.stack) [] H (upd H a o) s.heap h' := Un.laid k hp (I.hok.fresh hp)
  exact I.call (g' := s.gens) (d' := d') u (I.hok.laid k hp new) I.bare (fun _ z => nomatch z)
theorem metS_nodup (val : Nat → Str) : ∀ i, (metS val i).Nodup
  | 0 => List.nodup_nil
  | i + 1 => by
    show (stepS (metS val i) (val i)).Nodup
    have ih := metS_nodup val i
    unfold stepS
    split
    · exact ih
    · next hne =>
      rw [List.nodup_append]
      exact ⟨ih, by simp, fun x hx y hy e => hne (by have : y = val i := by simpa using hy
                                                     rw [← this, ← e]; exact hx)⟩
def mets (ss : List Str) : List Str := metS (fun i => ss.getD i "") ss.length
theorem mets_mem (ss : List Str) (k : Str) : k ∈ mets ss ↔ k ∈ ss := by
  unfold mets
  rw [metS_sub]
  constructor
  · rintro ⟨j, hj, e⟩
    rw [← e, List.getD_eq_getElem?_getD, List.getElem?_eq_getElem hj]
    exact List.getElem_mem hj
  · intro hk
    obtain ⟨j, hj, e⟩ := List.mem_iff_getElem.mp hk
    exact ⟨j, hj, by rw [List.getD_eq_getElem?_getD, List.getElem?_eq_getElem hj]; exact e⟩
theorem mets_nodup (ss : List Str) : (mets ss).Nodup := metS_nodup _ _
def setQ (P : Program) (w : World) (a : Addr) (ss : List Str) : HO := .ext fun h => SetP P w h a (fun k => (mets ss).any fun x => x == k) (mets ss).length
theorem str_getD {ss : List Str} {its : List Value} (rv : Vals (ss.map V.str) its) {i : Nat} {v : Value} (hv : its.toArray[i]? = some v) : ∃ t, v = Value.str (ss.getD i "") t := by
  have hlen := rv.length
  rw [List.length_map] at hlen
  have hv' : its[i]? = some v := by simpa using hv
  have hi : i < ss.length := by
    rw [hlen]
    exact (List.getElem?_eq_some_iff.mp hv').1
  have e : (ss.map V.str)[i]? = some (V.str (ss.getD i "")) := by
    rw [List.getElem?_map, List.getElem?_eq_getElem hi]
    simp [hi]
  obtain ⟨u, hu, ru⟩ := rv.get e
  rw [hv'] at hu
  cases hu
  exact ru
theorem call_setQ (hc : X.calm = true) : CallR X (.type "set") (fun xs H Q => ∃ (p : Addr) (ss : List Str), xs = [.ref p] ∧ (H p = some (.lst (ss.map V.str)) ∨ H p = some (.tup (ss.map V.str))) ∧ ss.length ≤ 1000 ∧ ∀ a, H a = none → Q (.ref a) (upd H a (setQ X.prog X.w a ss))) := by
  intro pins s σ H xs us Q I r h
  obtain ⟨p, ss, rfl, hx, h1000, q⟩ := h
  obtain ⟨u, rfl, ru⟩ := vals1 r
  cases ru
  have fin : ∀ (its : List Value), its.length = ss.length → ∀ (h' : Heap) (tk : Nat), SetP X.prog X.w h' s.heap.objs.size (fun k' => (metS (fun i => ss.getD i "") its.toArray.size).any fun x => x == k') (metS (fun i => ss.getD i "") its.toArray.size).length →
      (∀ (b : Nat) (o : Obj), b < s.heap.objs.size → s.heap.get? b = some o → h'.get? b = some o) → EP X pins σ Q (Value.ref s.heap.objs.size) { s with heap := h', toks := tk } := by
    intro its hl h' tk hS hk
    have esz : its.toArray.size = ss.length := by rw [List.size_toArray, hl]
    rw [esz] at hS
    have hkk : ∀ b u, s.heap.get? b = some u → h'.get? b = some u := fun b u e => hk b u (Heap.lt_size e) e
    have hn : H s.heap.objs.size = none := I.hok.fresh (Nat.le_refl _)
    refine ⟨.ref s.heap.objs.size, _, I.laid (t' := tk) (o := setQ X.prog X.w s.heap.objs.size ss) hkk (Nat.le_refl _) ⟨hS, ?_, fun h1 h2 f g => ?_⟩, rfl, q _ hn⟩
    · obtain ⟨o, _, _, _, e, _⟩ := hS
      exact ⟨o, e⟩
    · exact f.at g
  rcases hx with hx | hx
  · obtain ⟨its, rv, pl, _⟩ := I.list (SqL.of hx)
    have hlen := rv.length
    rw [List.length_map] at hlen
    exact call_set_PL (val := fun i => ss.getD i "") (I.ok.hd hc) pl.isList (fun i v hv => str_getD rv hv) (by rw [List.size_toArray, ← hlen]; show _ < 4096; omega) (fin its hlen.symm)
  · obtain ⟨its, rv, pl, _⟩ := I.tuple (SqT.of hx)
    have hlen := rv.length
    rw [List.length_map] at hlen
    exact call_set_PT (val := fun i => ss.getD i "") (I.ok.hd hc) pl (fun i v hv => str_getD rv hv) (by rw [List.size_toArray, ← hlen]; show _ < 4096; omega) (fin its hlen.symm)
theorem call_sortedQ (hc : X.calm = true) : CallR X (.builtin "sorted") (fun xs H Q => ∃ (p : Addr) (ss : List Str), xs = [.ref p] ∧ H p = some (setQ X.prog X.w p ss) ∧ ss.length < 64 ∧ ∀ (l : Addr) (ms : List Str), H l = none → ms.Perm (mets ss) → sortedS ms = true → Q (.ref l) (upd H l (.lst (ms.map V.str)))) := by
  intro pins s σ H xs us Q I r h
  obtain ⟨p, ss, rfl, hx, h64, q⟩ := h
  obtain ⟨u, rfl, ru⟩ := vals1 r
  cases ru
  obtain ⟨hS, _, _⟩ : ObjOk X.prog X.w H s.heap p (setQ X.prog X.w p ss) := I.hok p _ hx
  have hle : (mets ss).length ≤ ss.length := metS_le (fun i => ss.getD i "") ss.length
  refine sorted_setP (I.ok.hd hc) hS (mets_nodup ss) (fun k => by rw [any_mem]; simp) rfl (by omega) fun l h' d tk e out ms hl hk ho ha hp hs => ?_
  have hv : Vals (ms.map V.str) out.toList := vals_of_strs ha
  have hml := hp.length_eq
  exact ⟨.ref l, _, I.laidD (t' := tk) (d' := d) (o := .lst (ms.map V.str)) hk hl ⟨sizeLine_big (by rw [List.length_map]; omega), out.toList, e, hv, by rw [ho] <;> rfl⟩, rfl, q l ms (I.hok.fresh hl) hp hs⟩
theorem risingS_pair : ∀ (p : Str) (l : List Str), risingS p l = true → (∀ x ∈ l, ¬ x.cps.toList < p.cps.toList) ∧ l.Pairwise fun a b => ¬ b.cps.toList < a.cps.toList
  | p, [], _ => ⟨fun x hx => by simp at hx, List.Pairwise.nil⟩
  | p, x :: r, h => by
    have h' : (!ltCps x.cps.toList p.cps.toList && risingS x r) = true := h
    rw [Bool.and_eq_true, ltCps_eq] at h'
    have hx : ¬ x.cps.toList < p.cps.toList := by simpa using h'.1
    obtain ⟨i1, i2⟩ := risingS_pair x r h'.2
    refine ⟨fun y hy => ?_, List.pairwise_cons.mpr ⟨i1, i2⟩⟩
    rcases List.mem_cons.mp hy with rfl | hy
    · exact hx
    · intro z
      have h1 := i1 y hy
      exact hx (List.lt_of_le_of_lt (List.not_lt.mp h1) z)
theorem sortedS_pair : ∀ (l : List Str), sortedS l = true → l.Pairwise fun a b => ¬ b.cps.toList < a.cps.toList
  | [], _ => List.Pairwise.nil
  | x :: r, h => List.pairwise_cons.mpr (risingS_pair x r h)
theorem cps_inj {a b : Str} (h : a.cps.toList = b.cps.toList) : a = b := by
  cases a; cases b
  congr
  exact Array.toList_inj.mp h
theorem sorted_uniq : ∀ {l m : List Str}, l.Perm m → (l.Pairwise fun a b => ¬ b.cps.toList < a.cps.toList) → (m.Pairwise fun a b => ¬ b.cps.toList < a.cps.toList) → l = m
  | [], m, h, _, _ => (List.Perm.eq_nil h.symm).symm
  | x :: r, [], h, _, _ => by simpa using h.length_eq
  | x :: r, y :: q, h, h1, h2 => by
    obtain ⟨a1, a2⟩ := List.pairwise_cons.mp h1
    obtain ⟨b1, b2⟩ := List.pairwise_cons.mp h2
    have e : x = y := by
      rcases List.mem_cons.mp (h.mem_iff.mp (List.mem_cons_self (a := x) (l := r))) with e | hx
      · exact e
      · rcases List.mem_cons.mp (h.mem_iff.mpr (List.mem_cons_self (a := y) (l := q))) with e | hy
        · exact e.symm
        · exact cps_inj (List.le_antisymm (List.not_lt.mp (a1 y hy)) (List.not_lt.mp (b1 x hx)))
    subst e
    rw [sorted_uniq ((List.perm_cons x).mp h) a2 b2]
end
end L2

set_option linter.all false
set_option maxRecDepth 100000
set_option Elab.async false
set_option maxHeartbeats 4000000
namespace L2
open PySem PySem.Spec PyProof.Rows PySem.W
def krun {α : Type} (o : Nat → Nat → Bool) : KasT α → α
  | .ret a => a
  | .ask i j k => krun o (k (o i j))
end L2

set_option linter.all false
set_option maxRecDepth 100000
set_option Elab.async false
set_option maxHeartbeats 4000000
namespace L2
open PySem PySem.Spec PyProof.Rows PySem.W
theorem krun_congr {α : Type} {n : Nat} {P : α → Prop} {o o' : Nat → Nat → Bool} (h : ∀ i j, i < n → j < n → o i j = o' i j) : ∀ {t : KasT α}, KAll n P t → krun o t = krun o' t
  | .ret a, _ => rfl
  | .ask i j k, z => by
    show krun o (k (o i j)) = krun o' (k (o' i j))
    rw [h i j z.1 z.2.1]
    exact krun_congr h (z.2.2 _)
theorem KAll.run {α : Type} {n : Nat} {P : α → Prop} (o : Nat → Nat → Bool) : ∀ {t : KasT α}, KAll n P t → P (krun o t)
  | .ret a, h => h
  | .ask i j k, h => by
    show P (krun o (k (o i j)))
    exact KAll.run o (h.2.2 (o i j))
theorem KAll.wpO {α : Type} {n : Nat} {P : α → Prop} {cmp : Nat → Nat → (Bool → Shared → Prop) → Shared → Prop} {Q : α → Shared → Prop} {s : Shared} {o : Nat → Nat → Bool} (hc : ∀ i j C, i < n → j < n → C (o i j) s → cmp i j C s) : ∀ {t : KasT α}, KAll n P t → Q (krun o t) s → t.kasWp cmp Q s
  | .ret a, _, q => by rw [KasT.kasWp.eq_1]; exact q
  | .ask i j k, h, q => by
    rw [KasT.kasWp.eq_2]
    exact hc i j _ h.1 h.2.1 (KAll.wpO hc (h.2.2 _) q)
abbrev P3 := Str × Str × Int
def PartT (h : Heap) (v : Value) (x : P3) : Prop := ∃ t u1 u2 u3, v = .ref t ∧ IsTup h t #[.str x.1 u1, .str x.2.1 u2, .int x.2.2 u3]
section
variable {prog : Program} {w : World} {A : Around} {E : Value → Shared → Prop} {s : Shared}
theorem ltX_str {a b : Str} {t u : Tok} {Q : Bool → Shared → Prop} (h : Q (decide (a.cps.toList < b.cps.toList)) s) : wpAny (model prog w) A (oneLt' false (Value.str a t) (Value.str b u)) Q E s := by
  rw [oneLt'_eq]
  show wpAny _ _ (compareOp .Lt (Value.str a t) (Value.str b u) >>= _) _ _ _
  apply wpAny_bind
  refine lt_str ?_
  wp_walk
  exact h
end
end L2

set_option linter.all false
set_option maxRecDepth 100000
set_option Elab.async false
set_option maxHeartbeats 4000000
namespace L2
open PySem PySem.Spec PyProof.Rows PySem.W
section
variable {prog : Program} {w : World} {A : Around} {E : Value → Shared → Prop} {s : Shared}
theorem PartT.keep {h h' : Heap} {v : Value} {x : P3} (p : PartT h v x) (k : ∀ b o, h.get? b = some o → o.cls = .type "tuple" → h'.get? b = some o) : PartT h' v x := by
  obtain ⟨t, u1, u2, u3, e, o, ho, hc, r⟩ := p
  exact ⟨t, u1, u2, u3, e, o, k t o ho hc, hc, r⟩
end
end L2

set_option linter.all false
set_option maxRecDepth 100000
set_option Elab.async false
set_option maxHeartbeats 4000000
namespace L2
open PySem PySem.Spec PyProof.Rows PySem.W
section
variable {prog : Program} {w : World} {A : Around} {E : Value → Shared → Prop} {s : Shared}
end
section
variable {X : Cx}
end
end L2

set_option linter.all false
set_option maxRecDepth 100000
set_option Elab.async false
set_option maxHeartbeats 4000000
namespace L2
open PySem PySem.Spec PyProof.Rows PySem.W
end L2

set_option linter.all false
set_option maxRecDepth 100000
set_option Elab.async false
set_option maxHeartbeats 4000000
namespace L2
open PySem PySem.Spec PyProof.Rows PySem.W
section
variable {n : Nat} {π : Nat → Nat}
abbrev Kp (π : Nat → Nat) (p : Array Nat) (j : Nat) : Nat := π (p.getD j 0)
abbrev ord (π : Nat → Nat) : Nat → Nat → Bool := fun i j => decide (π i < π j)
def KS (π : Nat → Nat) (p : Array Nat) (k : Nat) : Prop := ∀ i j, i < j → j < k → Kp π p i < Kp π p j
theorem krun_bind {α β : Type} (o : Nat → Nat → Bool) (f : α → KasT β) : ∀ t : KasT α, krun o (t.bind f) = krun o (f (krun o t))
  | .ret a => by rw [KasT.bind.eq_1]; rfl
  | .ask i j k => by
    rw [KasT.bind.eq_2]
    show krun o ((k (o i j)).bind f) = _
    rw [krun_bind o f (k (o i j))]
    rfl
theorem krun_ask {α : Type} (o : Nat → Nat → Bool) (i j : Nat) (k : Bool → KasT α) : krun o (.ask i j k) = krun o (k (o i j)) := rfl
theorem getD_get {p : Array Nat} {j v : Nat} (h : p[j]? = some v) : p.getD j 0 = v := by rw [Array.getD_eq_getD_getElem?, h]; rfl
theorem Pm.size {p : Array Nat} (h : Pm n p) : p.size = n := by rw [h.size_eq]; simp
theorem Pm.ne {p : Array Nat} (h : Pm n p) {i j : Nat} (hi : i < n) (hj : j < n) (hij : i ≠ j) : p.getD i 0 ≠ p.getD j 0 := by
  have hz := h.size
  have hnd : p.toList.Nodup := (Array.perm_iff_toList_perm.mp h).nodup_iff.mpr (by simpa using List.nodup_range)
  rw [getD_get (Array.getElem?_eq_getElem (by omega)), getD_get (Array.getElem?_eq_getElem (by omega))]
  intro e
  have e' : p.toList[i]'(by simpa using (by omega : i < p.size)) = p.toList[j]'(by simpa using (by omega : j < p.size)) := by simpa using e
  exact hij ((List.getElem_inj hnd).mp e')
variable (hn : 0 < n) (hπ : ∀ i j, i < n → j < n → π i = π j → i = j)
include hn hπ
theorem kp_ne {p : Array Nat} (h : Pm n p) {i j : Nat} (hi : i < n) (hj : j < n) (hij : i ≠ j) : Kp π p i ≠ Kp π p j := fun e => h.ne hi hj hij (hπ _ _ (h.lt hn i) (h.lt hn j) e)
theorem ks_step {p : Array Nat} (h : Pm n p) {k : Nat} (hk : 1 ≤ k) (hkn : k < n) (hs : KS π p k) (hl : ¬ Kp π p k < Kp π p (k - 1)) : KS π p (k + 1) := by
  intro i j hij hj
  by_cases e : j = k
  · subst e
    have h1 : Kp π p (j - 1) < Kp π p j := by
      have := kp_ne hn hπ h (i := j - 1) (j := j) (by omega) hkn (by omega)
      omega
    by_cases e2 : i = j - 1
    · rw [e2]; exact h1
    · exact Nat.lt_trans (hs i (j - 1) (by omega) (by omega)) h1
  · exact hs i j hij (by omega)
theorem run_asc {p : Array Nat} (h : Pm n p) : ∀ (f x : Nat), 1 ≤ x → x + f ≤ n → KS π p x → x ≤ krun (ord π) (kas_asc p f x) ∧ krun (ord π) (kas_asc p f x) ≤ x + f ∧ KS π p (krun (ord π) (kas_asc p f x))
  | 0, x, h1, h2, hs => by
    rw [kas_asc.eq_1]
    exact ⟨Nat.le_refl _, by show x ≤ x + 0; omega, hs⟩
  | f + 1, x, h1, h2, hs => by
    rw [kas_asc.eq_2, krun_ask]
    by_cases hl : Kp π p x < Kp π p (x - 1)
    · rw [show ord π (p.getD x 0) (p.getD (x - 1) 0) = true from decide_eq_true hl]
      show x ≤ krun (ord π) (.ret x) ∧ _
      exact ⟨Nat.le_refl _, by show x ≤ x + (f + 1); omega, hs⟩
    · rw [show ord π (p.getD x 0) (p.getD (x - 1) 0) = false from decide_eq_false hl]
      have ih := run_asc h f (x + 1) (by omega) (by omega) (ks_step hn hπ h h1 (by omega) hs hl)
      show x ≤ krun (ord π) (kas_asc p f (x + 1)) ∧ krun (ord π) (kas_asc p f (x + 1)) ≤ x + (f + 1) ∧ KS π p (krun (ord π) (kas_asc p f (x + 1)))
      exact ⟨by omega, by omega, ih.2.2⟩
def KF (π : Nat → Nat) (p : Array Nat) (k : Nat) : Prop := ∀ j, 1 ≤ j → j < k → Kp π p j < Kp π p (j - 1)
omit hn hπ in
theorem kf_all {p : Array Nat} {k : Nat} (h : KF π p k) : ∀ (d i : Nat), i + d + 1 < k → Kp π p (i + d + 1) < Kp π p i
  | 0, i, hk => h (i + 0 + 1) (by omega) hk
  | d + 1, i, hk => by
    have h1 := kf_all h d i (by omega)
    have h2 := h (i + (d + 1) + 1) (by omega) hk
    have e : i + (d + 1) + 1 - 1 = i + d + 1 := by omega
    rw [e] at h2
    exact Nat.lt_trans h2 h1
theorem run_desc {p : Array Nat} (h : Pm n p) : ∀ (f x : Nat), 1 ≤ x → x + f ≤ n → KF π p x → ∃ m, krun (ord π) (kas_desc f p x 0) = (p, m, 0) ∧ x ≤ m ∧ m ≤ x + f ∧ KF π p m
  | 0, x, h1, h2, hs => by
    rw [kas_desc.eq_1]
    exact ⟨x, rfl, Nat.le_refl _, by omega, hs⟩
  | f + 1, x, h1, h2, hs => by
    rw [kas_desc.eq_2, krun_ask]
    by_cases hl : Kp π p x < Kp π p (x - 1)
    · rw [show ord π (p.getD x 0) (p.getD (x - 1) 0) = true from decide_eq_true hl]
      have hs' : KF π p (x + 1) := fun j a b => by
        by_cases e : j = x
        · rw [e]; exact hl
        · exact hs j a (by omega)
      obtain ⟨m, e, a, b, c⟩ := run_desc h f (x + 1) (by omega) (by omega) hs'
      refine ⟨m, ?_, by omega, by omega, c⟩
      exact e
    · rw [show ord π (p.getD x 0) (p.getD (x - 1) 0) = false from decide_eq_false hl]
      refine ⟨x, ?_, Nat.le_refl _, by omega, hs⟩
      show krun (ord π) (.ask (p.getD (x - 1) 0) (p.getD x 0) _) = _
      rw [krun_ask]
      have hg : Kp π p (x - 1) < Kp π p x := by
        have := kp_ne hn hπ h (i := x - 1) (j := x) (by omega) (by omega) (by omega)
        omega
      rw [show ord π (p.getD (x - 1) 0) (p.getD x 0) = true from decide_eq_true hg]
      rfl
omit hn hπ in
theorem rev_at {p : Array Nat} {m k : Nat} (hm : m ≤ p.size) (hk : k < m) : (kas_rev p 0 m).getD k 0 = p.getD (m - 1 - k) 0 := by
  unfold kas_rev
  rw [Array.getD_eq_getD_getElem?, getElem?_mirror_all hm, if_pos ⟨Nat.zero_le _, hk⟩, Array.getD_eq_getD_getElem?]
  congr 2
  omega
theorem run_tail3 {p : Array Nat} (h : Pm n p) {m : Nat} (h1 : 1 ≤ m) (hm : m ≤ n) (hf : KF π p m) : ∃ r, krun (ord π) (kas_tail3 m n p) = r ∧ 1 ≤ r.1 ∧ r.1 ≤ n ∧ Pm n r.2 ∧ KS π r.2 r.1 := by
  have hz := h.size
  have hr : Pm n (kas_rev p 0 m) := h.rev 0 m
  have hs : KS π (kas_rev p 0 m) m := fun i j hij hj => by
    show π _ < π _
    rw [rev_at (by omega) (by omega), rev_at (by omega) hj]
    have := kf_all hf (j - i - 1) (m - 1 - j) (by omega)
    have e : m - 1 - j + (j - i - 1) + 1 = m - 1 - i := by omega
    rw [e] at this
    exact this
  have ha := run_asc hn hπ hr (n - m) m h1 (by omega) hs
  refine ⟨_, rfl, ?_⟩
  unfold kas_tail3
  rw [krun_bind]
  exact ⟨by show 1 ≤ krun (ord π) _; omega, by show krun (ord π) _ ≤ n; omega, hr, ha.2.2⟩
theorem run_count {p : Array Nat} (h : Pm n p) : ∃ r, krun (ord π) (kas_count n p) = r ∧ 1 ≤ r.1 ∧ r.1 ≤ n ∧ Pm n r.2 ∧ KS π r.2 r.1 := by
  unfold kas_count
  rw [krun_bind]
  have h0 : KS π p 1 := fun i j hij hj => by omega
  have ha := run_asc hn hπ h (n - 1) 1 (Nat.le_refl _) (by omega) h0
  generalize hm : krun (ord π) (kas_asc p (n - 1) 1) = m at ha ⊢
  by_cases e : m = n
  · rw [if_pos (by rw [e]; simp)]
    exact ⟨(m, p), rfl, by show 1 ≤ m; omega, by show m ≤ n; omega, h, ha.2.2⟩
  · rw [if_neg (by simpa using e)]
    by_cases hm1 : m > 1
    · rw [if_pos hm1, krun_ask]
      have hl : Kp π p 0 < Kp π p (m - 1) := ha.2.2 0 (m - 1) (by omega) (by omega)
      rw [show ord π (p.getD 0 0) (p.getD (m - 1) 0) = true from decide_eq_true hl]
      exact ⟨(m, p), rfl, by show 1 ≤ m; omega, by show m ≤ n; omega, h, ha.2.2⟩
    · rw [if_neg hm1]
      have em : m = 1 := by omega
      subst em
      unfold kas_descPart
      rw [krun_bind]
      -- the second is less than the first
      have hlt : Kp π p 1 < Kp π p 0 := by
        by_cases hc : Kp π p 1 < Kp π p 0
        · exact hc
        · exfalso
          obtain ⟨g, hg⟩ : ∃ g, n - 1 = g + 1 := ⟨n - 2, by omega⟩
          rw [hg, kas_asc.eq_2, krun_ask, show ord π (p.getD 1 0) (p.getD (1 - 1) 0) = false from decide_eq_false hc] at hm
          have := (run_asc hn hπ h g 2 (by omega) (by omega) (ks_step hn hπ h (Nat.le_refl _) (by omega) h0 hc)).1
          have hm' : krun (ord π) (kas_asc p g 2) = 1 := hm
          omega
      have hf2 : KF π p 2 := fun j a b => by
        have : j = 1 := by omega
        subst this
        exact hlt
      obtain ⟨m2, e2, a2, b2, c2⟩ := run_desc hn hπ h (n - 2) 2 (by omega) (by omega) hf2
      rw [show n - (1 + 1) = n - 2 from rfl, e2]
      dsimp only
      rw [if_neg (by omega)]
      exact run_tail3 hn hπ h (by omega) (by omega) c2
theorem run_place {p : Array Nat} (h : Pm n p) {k : Nat} (hk : k < n) (hs : KS π p k) : ∀ (f l r : Nat), l ≤ r → r ≤ k → r - l ≤ f → (∀ j, j < l → Kp π p j < Kp π p k) → (∀ j, r ≤ j → j < k → Kp π p k < Kp π p j) →
    ∃ m, krun (ord π) (kas_place p k f l r) = m ∧ m ≤ k ∧ (∀ j, j < m → Kp π p j < Kp π p k) ∧ ∀ j, m ≤ j → j < k → Kp π p k < Kp π p j
  | 0, l, r, h1, h2, h3, h4, h5 => by
    rw [kas_place.eq_1]
    have : l = r := by omega
    subst this
    exact ⟨l, rfl, h2, h4, h5⟩
  | f + 1, l, r, h1, h2, h3, h4, h5 => by
    rw [kas_place.eq_2]
    by_cases hge : l ≥ r
    · rw [if_pos hge]
      have : l = r := by omega
      subst this
      exact ⟨l, rfl, h2, h4, h5⟩
    · rw [if_neg hge, krun_ask]
      have hmid : (l + r) / 2 < r ∧ l ≤ (l + r) / 2 := by omega
      by_cases hc : Kp π p k < Kp π p ((l + r) / 2)
      · rw [show ord π (p.getD k 0) (p.getD ((l + r) / 2) 0) = true from decide_eq_true hc]
        show ∃ m, krun (ord π) (kas_place p k f l ((l + r) / 2)) = m ∧ _
        refine run_place h hk hs f l ((l + r) / 2) (by omega) (by omega) (by omega) h4 fun j a b => ?_
        by_cases e : j = (l + r) / 2
        · rw [e]; exact hc
        · exact Nat.lt_trans hc (hs _ _ (by omega) b)
      · rw [show ord π (p.getD k 0) (p.getD ((l + r) / 2) 0) = false from decide_eq_false hc]
        show ∃ m, krun (ord π) (kas_place p k f ((l + r) / 2 + 1) r) = m ∧ _
        have hg : Kp π p ((l + r) / 2) < Kp π p k := by
          have := kp_ne hn hπ h (i := (l + r) / 2) (j := k) (by omega) hk (by omega)
          omega
        refine run_place h hk hs f ((l + r) / 2 + 1) r (by omega) h2 (by omega) (fun j a => ?_) h5
        by_cases e : j = (l + r) / 2
        · rw [e]; exact hg
        · exact Nat.lt_trans (hs _ _ (by omega) (by omega)) hg
theorem run_bin : ∀ (f : Nat) {p : Array Nat} (k : Nat), Pm n p → k + f = n → KS π p k → Pm n (krun (ord π) (kas_bin f p k)) ∧ KS π (krun (ord π) (kas_bin f p k)) n
  | 0, p, k, h, hk, hs => by
    rw [kas_bin.eq_1]
    have : k = n := by omega
    subst this
    exact ⟨h, hs⟩
  | f + 1, p, k, h, hk, hs => by
    rw [kas_bin.eq_2, krun_bind]
    obtain ⟨m, e, a, b, c⟩ := run_place hn hπ h (by omega) hs k 0 k (by omega) (Nat.le_refl _) (by omega) (fun j z => by omega) (fun j z y => by omega)
    rw [e]
    refine run_bin f (k + 1) (h.bub _ _) (by omega) fun i j hij hj => ?_
    have hz := h.size
    have at' : ∀ x, Kp π (bubble p k (k - m)) x = if x = m then Kp π p k else if m < x ∧ x ≤ k then Kp π p (x - 1) else Kp π p x := fun x => by
      show π _ = _
      rw [Array.getD_eq_getD_getElem?, getElem?_bubble (by omega) (k - m) (by omega)]
      have em : k - (k - m) = m := by omega
      rw [em]
      repeat' split
      all_goals (rw [← Array.getD_eq_getD_getElem?])
    rw [at' i, at' j]
    have hss : ∀ x y, x ≤ y → y < k → Kp π p x ≤ Kp π p y := fun x y h1 h2 => by
      rcases Nat.lt_or_ge x y with z | z
      · exact Nat.le_of_lt (hs x y z h2)
      · have : x = y := by omega
        rw [this]
        exact Nat.le_refl _
    by_cases i1 : i = m
    · rw [if_pos i1, if_neg (by omega), if_pos (by omega)]
      exact c _ (by omega) (by omega)
    · rw [if_neg i1]
      by_cases i2 : m < i ∧ i ≤ k
      · rw [if_pos i2, if_neg (by omega), if_pos (by omega)]
        exact hs _ _ (by omega) (by omega)
      · rw [if_neg i2]
        by_cases j1 : j = m
        · rw [if_pos j1]
          exact b _ (by omega)
        · rw [if_neg j1]
          by_cases j2 : m < j ∧ j ≤ k
          · rw [if_pos j2]
            have hi : i < m := by omega
            rcases Nat.lt_or_ge i (j - 1) with z | z
            · exact hs _ _ z (by omega)
            · omega
          · rw [if_neg j2]
            exact hs _ _ hij (by omega)
theorem run_sort : Pm n (krun (ord π) (kas_sort n)) ∧ KS π (krun (ord π) (kas_sort n)) n := by
  unfold kas_sort
  rw [krun_bind]
  obtain ⟨r, e, a, b, c, d⟩ := run_count hn hπ (p := (List.range n).toArray) (Array.Perm.refl _)
  rw [e]
  by_cases hlt : r.1 < n
  · rw [if_pos hlt]
    have em : max r.1 1 = r.1 := by omega
    rw [em]
    exact run_bin hn hπ _ _ c (by omega) d
  · rw [if_neg hlt]
    have : r.1 = n := by omega
    rw [this] at d
    exact ⟨c, d⟩
end
end L2

set_option linter.all false
set_option maxRecDepth 100000
set_option Elab.async false
set_option maxHeartbeats 4000000
namespace L2
open PySem PySem.Spec PyProof.Rows PySem.W
theorem countP_lt {α : Type} {p q : α → Bool} : ∀ {l : List α}, (∀ x ∈ l, p x = true → q x = true) → (∃ x ∈ l, q x = true ∧ p x = false) → l.countP p < l.countP q
  | [], _, h => by obtain ⟨x, hx, _⟩ := h; simp at hx
  | a :: l, h1, h2 => by
    have le : l.countP p ≤ l.countP q := List.countP_mono_left fun x hx => h1 x (List.mem_cons_of_mem _ hx)
    rw [List.countP_cons, List.countP_cons]
    obtain ⟨x, hx, hq, hp⟩ := h2
    rcases List.mem_cons.mp hx with rfl | hx
    · rw [if_pos hq, if_neg (by rw [hp]; simp)]
      omega
    · have ih := countP_lt (fun x hx => h1 x (List.mem_cons_of_mem _ hx)) ⟨x, hx, hq, hp⟩
      by_cases ha : p a = true
      · rw [if_pos ha, if_pos (h1 a List.mem_cons_self ha)]
        omega
      · rw [if_neg ha]
        omega
theorem rank_of {n : Nat} {o : Nat → Nat → Bool} (ir : ∀ i, o i i = false) (tr : ∀ i j k, o i j = true → o j k = true → o i k = true) (to : ∀ i j, i < n → j < n → i ≠ j → o i j = true ∨ o j i = true) :
    ∃ π : Nat → Nat, (∀ i j, i < n → j < n → o i j = ord π i j) ∧ ∀ i j, i < n → j < n → π i = π j → i = j := by
  let π : Nat → Nat := fun i => (List.range n).countP fun k => o k i
  have up : ∀ i j, i < n → j < n → o i j = true → π i < π j := fun i j hi hj h => countP_lt (fun x _ hx => tr x i j hx h) ⟨i, List.mem_range.mpr hi, h, ir i⟩
  refine ⟨π, fun i j hi hj => ?_, fun i j hi hj e => ?_⟩
  · cases hb : o i j with
    | true => exact (decide_eq_true (up i j hi hj hb)).symm
    | false =>
      refine (decide_eq_false fun z => ?_).symm
      by_cases e : i = j
      · rw [e] at z; exact Nat.lt_irrefl _ z
      · rcases to i j hi hj e with y | y
        · rw [hb] at y; cases y
        · exact Nat.lt_irrefl _ (Nat.lt_trans z (up j i hj hi y))
  · by_cases hne : i = j
    · exact hne
    · rcases to i j hi hj hne with y | y
      · have := up i j hi hj y; omega
      · have := up j i hj hi y; omega
abbrev K3 := Int × Int × Str
abbrev k0 : K3 := (0, 0, "")
section
variable {prog : Program} {w : World} {A : Around} {E : Value → Shared → Prop} {s : Shared}
end
end L2

set_option linter.all false
set_option maxRecDepth 100000
set_option Elab.async false
set_option maxHeartbeats 4000000
namespace L2
open PySem PySem.Spec PyProof.Rows PySem.W
section
variable {prog : Program} {w : World} {A : Around} {E : Value → Shared → Prop} {s : Shared}
end
section
variable {X : Cx} {pins : List (Addr × Obj)} {σ : St}
def KeyHX (H : Hp) (v : Value) (k : K3) : Prop := ∃ t, v = .ref t ∧ H t = some (.tup [.int k.1, .int k.2.1, .str k.2.2])
structure KsX (KR : V → K3 → Prop) (H : Hp) (xd : List V) (ks : List Value) (kk : List K3) : Prop where
  len : ks.length = xd.length ∧ kk.length = xd.length
  key : ∀ i, i < xd.length → KeyHX H (ks.getD i .none) (kk.getD i k0)
  kr : ∀ i, i < xd.length → KR (xd.getD i .non) (kk.getD i k0)
theorem KsX.nil {KR : V → K3 → Prop} {H : Hp} : KsX KR H [] [] [] := ⟨⟨rfl, rfl⟩, fun i hi => by simp at hi, fun i hi => by simp at hi⟩
theorem KsX.same {KR : V → K3 → Prop} {H H' : Hp} {xd : List V} {ks : List Value} {kk : List K3} (h : KsX KR H xd ks kk) (s : Same H H') : KsX KR H' xd ks kk :=
  ⟨h.len, fun i hi => by obtain ⟨t, e, ht⟩ := h.key i hi; exact ⟨t, e, s _ _ ht⟩, h.kr⟩
theorem getD_snoc {α : Type} (l : List α) (x d : α) (i : Nat) : (l ++ [x]).getD i d = if i < l.length then l.getD i d else if i = l.length then x else d := by
  rw [List.getD_eq_getElem?_getD, List.getD_eq_getElem?_getD]
  by_cases h : i < l.length
  · rw [if_pos h, List.getElem?_append_left h]
  · rw [if_neg h, List.getElem?_append_right (by omega)]
    by_cases h2 : i = l.length
    · rw [if_pos h2, h2]; simp
    · rw [if_neg h2, List.getElem?_eq_none (by simp; omega)]
      rfl
theorem KsX.snoc {KR : V → K3 → Prop} {H : Hp} {xd : List V} {ks : List Value} {kk : List K3} {y : V} {a b : Int} {c : Str} {t : Addr} (h : KsX KR H xd ks kk) (hk : KR y (a, b, c)) (ht : H t = some (.tup [.int a, .int b, .str c])) : KsX KR H (xd ++ [y]) (ks ++ [Value.ref t]) (kk ++ [(a, b, c)]) := by
  obtain ⟨l1, l2⟩ := h.len
  refine ⟨⟨by simp [l1], by simp [l2]⟩, fun i hi => ?_, fun i hi => ?_⟩
  · rw [getD_snoc, getD_snoc, l1, l2]
    by_cases h1 : i < xd.length
    · rw [if_pos h1, if_pos h1]
      exact h.key i h1
    · have : i = xd.length := by simp at hi; omega
      rw [if_neg h1, if_neg h1, if_pos this, if_pos this]
      exact ⟨t, rfl, ht⟩
  · rw [getD_snoc, getD_snoc, l2]
    by_cases h1 : i < xd.length
    · rw [if_pos h1, if_pos h1]
      exact h.kr i h1
    · have : i = xd.length := by simp at hi; omega
      rw [if_neg h1, if_neg h1, if_pos this, if_pos this]
      exact hk
end
section
variable {X : Cx} {pins : List (Addr × Obj)} {σ : St} {H : Hp} {s : Shared}
end
end L2

set_option linter.all false
set_option maxRecDepth 100000
set_option Elab.async false
set_option maxHeartbeats 4000000
namespace L2
open PySem PySem.Spec PyProof.Rows PySem.W
section
variable {X : Cx} {pins : List (Addr × Obj)} {σ : St} {H : Hp} {s : Shared} {a : Addr} {kvs : List (Key × V)} {k : Key} {u r : Value} {A : Around} {E : Value → Shared → Prop}
end
section
variable {X : Cx} {o e f : Expr} {apos cpos : Pos} {td ty tx : TE}
end
section
variable {X : Cx} {o : Expr} {apos cpos : Pos} {td : TE}
end
section
variable {prog : Program} {w : World} {A : Around} {v d : Addr} {vs : List (Key × Value)}
end
end L2

set_option linter.all false
set_option maxRecDepth 100000
set_option Elab.async false
set_option maxHeartbeats 4000000
namespace L2
open PySem PySem.Spec PyProof.Rows PySem.W
section
variable {X : Cx} {e : Expr} {ta : TA}
end
end L2

set_option linter.all false
set_option maxRecDepth 100000
set_option Elab.async false
set_option maxHeartbeats 4000000
namespace L2
open PySem PySem.Spec PyProof.Rows
inductive Fm : V → Str → Prop
  | str (z : Str) (h : z.length ≤ sizeLine) : Fm (.str z) z
  | int (i : Int) (h : i.natAbs.log2 < 1920) : Fm (.int i) (toString i)
abbrev TJ := Str → St → Hp → VK → Prop
structure PJ (X : Cx) (es : List Expr) (t : TJ) : Prop where
  run : ∀ (pins : List (Addr × Obj)) (s : Shared) (σ : St) (H : Hp) (Q : VK) (acc : Str), Inv X pins σ H s → t acc σ H Q → wpAny (model X.prog X.w) X.A (joinParts acc (evalEach es X.env)) (EP X pins σ Q) X.xe s
inductive J0 (acc : Str) (σ : St) (H : Hp) (Q : VK) : Prop
  | mk (h : acc.length ≤ sizeLine) (q : Q (.str acc) H) : J0 acc σ H Q
def tJ0 : TJ := fun acc σ H Q => J0 acc σ H Q
inductive JC (z : Str) (t : TJ) (acc : Str) (σ : St) (H : Hp) (Q : VK) : Prop
  | mk (h : (acc ++ z).length ≤ sizeLine) (q : t (acc ++ z) σ H Q) : JC z t acc σ H Q
def tJC (z : Str) (t : TJ) : TJ := fun acc σ H Q => JC z t acc σ H Q
inductive JF (t : TJ) (acc : Str) (σ : St) (x : V) (H : Hp) (Q : VK) : Prop
  | mk (z : Str) (f : Fm x z) (h : (acc ++ z).length ≤ sizeLine) (q : t (acc ++ z) σ H Q) : JF t acc σ x H Q
def tJF (te : TE) (t : TJ) : TJ := fun acc σ H Q => te σ H fun x H1 => JF t acc σ x H1 Q
def tFs (t : TJ) : TE := fun σ H Q => t Str.empty σ H Q
section
variable {X : Cx} {es : List Expr} {t : TJ} {te : TE}
theorem pj_nil : PJ X [] tJ0 := by
  constructor
  intro pins s σ H Q acc I h
  obtain ⟨h, q⟩ := h
  exact joinParts_nil ⟨.str acc, H, I.tok _, ⟨_, rfl⟩, q⟩ h
theorem pj_con {z : Str} {k pos} (h : PJ X es t) : PJ X (.Constant (.str z) k pos :: es) (tJC z t) := by
  constructor
  intro pins s σ H Q acc I hq
  obtain ⟨hl, q⟩ := hq
  exact joinParts_cons (Calls.Constant_str ⟨hl, h.run pins _ σ H Q _ (I.tok _) q⟩)
theorem pj_val {e : Expr} {pos : Pos} (he : PE X e te) (h : PJ X es t) : PJ X (.FormattedValue e (-1) none pos :: es) (tJF te t) := by
  constructor
  intro pins s σ H Q acc I hq
  refine joinParts_cons (FormattedValue_plain (thn (he pins s σ H _ I hq) fun v s1 ⟨x, H1, I1, r1, q1⟩ => ?_))
  obtain ⟨z, f, hl, q⟩ := q1
  cases f with
  | str z hz =>
    obtain ⟨u, rfl⟩ := r1
    exact formatField_str (fun t' tk => ⟨hl, h.run pins _ σ H1 Q _ (I1.tok _) q⟩) hz
  | int i hi =>
    obtain ⟨u, rfl⟩ := r1
    exact formatField_int_small hi ⟨hl, h.run pins _ σ H1 Q _ (I1.tok _) q⟩
theorem pe_fstr {a b : Expr} {pos : Pos} (h : PJ X (a :: b :: es) t) : PE X (.JoinedStr (a :: b :: es) pos) (tFs t) :=
  ⟨fun pins s σ H Q I hq => JoinedStr_many (h.run pins s σ H Q _ I hq)⟩
end
end L2

set_option linter.all false
set_option maxRecDepth 100000
set_option Elab.async false
set_option maxHeartbeats 4000000
namespace L2
open PySem PySem.Spec PyProof.Rows PySem.Builtin PySem.Builtin.Str
theorem vals_strs (l : List (PySem.Str × Tok)) : Vals ((l.map (·.1)).map V.str) (strValues l) := by
  induction l with
  | nil => exact .nil
  | cons p l ih => exact .cons ⟨p.2, rfl⟩ ih
inductive rSplitI (x : V) (xs : List V) (H : Hp) (Q : VK) : Prop
  | mk (z y : PySem.Str) (h0 : x = .str z) (h1 : xs = [.str y]) (hy : (y.length == 0) = false) (hz : z.length + 2 ≤ sizeLine) (q : ∀ L, H L = none → Q (.ref L) (upd H L (.lst ((Txt.split z y).map V.str)))) : rSplitI x xs H Q
def rSplit : V → List V → Hp → VK → Prop := fun x xs H Q => rSplitI x xs H Q
theorem mt_split {X : Cx} : MtR X "str.split" rSplit := by
  intro pins s σ H x xs v us Q I rx r h
  obtain ⟨z, y, rfl, rfl, hy, hz, q⟩ := h
  obtain ⟨t, rfl⟩ := rx
  obtain ⟨u, rfl, ru⟩ := vals1 r
  obtain ⟨u', rfl⟩ := ru
  have fin : ∀ (l : List (PySem.Str × Tok)) (t' : Nat), l.map (·.1) = Txt.split z y → l.length ≤ sizeLine → EP X pins σ Q (.ref s.heap.objs.size) { s with heap := s.heap.push { cls := .type "list", data := .seq (strValues l).toArray }, toks := t' } := fun l t' e hl =>
    ⟨.ref _, _, I.lnew (ys := (Txt.split z y).map V.str) (by rw [← e]; exact vals_strs l) (by rw [← e, List.length_map, List.length_map]; exact hl), rfl, q _ I.fresh⟩
  have hn : (partsBetween z (occurrences z y 0 z.length (z.length + 1)) y.length).length ≤ sizeLine := by
    have e1 := StrLaws.occ_length_le z y 0 z.length (z.length + 1)
    rw [length_partsBetween]; omega
  have h1s : (1 : Nat) ≤ sizeLine := by decide
  cases h1 : (decide (z.length < y.length) || decide (strKind z < strKind y))
  · cases hf : (occurrences z y 0 z.length (z.length + 1)).isEmpty
    · refine call_meets F.slot_str_split (typeIs_str _ _ _) F.entry_str_split (F.args_str_split_2 _ _) (meets_str_split_sep z y t u' h1 hy hf (by omega) hn) ?_
      show wants (EP X pins σ Q) X.xe _ { s with toks := _, heap := s.heap.push { cls := .type "list", data := .seq (strsFrom s.toks (partsBetween z (occurrences z y 0 z.length (z.length + 1)) y.length)).toArray } }
      rw [strsFrom_eq]
      refine fin (numbered s.toks _) _ ((numbered_texts _ _).trans ((if_neg (ne_true_of_eq_false h1)).trans (if_neg (ne_true_of_eq_false hf))).symm) ?_
      have := congrArg List.length (numbered_texts s.toks (partsBetween z (occurrences z y 0 z.length (z.length + 1)) y.length))
      rw [List.length_map] at this
      rw [this]
      exact hn
    · exact call_meets F.slot_str_split (typeIs_str _ _ _) F.entry_str_split (F.args_str_split_2 _ _) (meets_str_split_not_found z y t u' h1 hy hf)
        (fin [(z, t)] s.toks ((if_neg (ne_true_of_eq_false h1)).trans (if_pos hf)).symm h1s)
  · exact call_meets F.slot_str_split (typeIs_str _ _ _) F.entry_str_split (F.args_str_split_2 _ _) (meets_str_split_cannot_occur z y t u' h1)
      (fin [(z, t)] s.toks (if_pos h1).symm h1s)
end L2

set_option linter.all false
set_option maxRecDepth 100000
set_option Elab.async false
set_option maxHeartbeats 4000000
namespace L2
open PySem PySem.Spec PyProof.Rows
theorem cut_uniq {c : Nat} {u v X Y : List Nat} (hu : c ∉ u) (hv : c ∉ v) (h : u ++ c :: X = v ++ c :: Y) : u = v ∧ X = Y := by
  induction u generalizing v with
  | nil =>
    cases v with
    | nil => simp at h; exact ⟨rfl, h⟩
    | cons b v => simp at h; exact absurd (by simp [h.1]) hv
  | cons a u ih =>
    cases v with
    | nil => simp at h; exact absurd (by simp [h.1]) hu
    | cons b v =>
      simp at h hu hv
      obtain ⟨rfl, h⟩ := h
      obtain ⟨e, f⟩ := ih hu.2 hv.2 h
      exact ⟨by rw [e], f⟩
theorem app_cps (a b : Str) : (a ++ b).cps.toList = a.cps.toList ++ b.cps.toList := by
  show (a.cps ++ b.cps).toList = _
  simp
theorem join_inj {c : Nat} : ∀ (as bs : List Str), as ≠ [] → bs ≠ [] → (∀ a ∈ as, c ∉ a.cps.toList) → (∀ b ∈ bs, c ∉ b.cps.toList) → (Str.join ⟨#[c]⟩ as).cps.toList = (Str.join ⟨#[c]⟩ bs).cps.toList → as = bs := by
  have one : ∀ (a b : Str) (q : Str) (r : List Str), (Str.join ⟨#[c]⟩ (b :: q :: r)).cps.toList = b.cps.toList ++ c :: (Str.join ⟨#[c]⟩ (q :: r)).cps.toList := fun a b q r => by
    show (b ++ (⟨#[c]⟩ : Str) ++ Str.join ⟨#[c]⟩ (q :: r)).cps.toList = _
    rw [app_cps, app_cps]
    simp
  intro as
  induction as with
  | nil => intro bs h; exact absurd rfl h
  | cons a as ih =>
    intro bs _ hb fa fb e
    cases bs with
    | nil => exact absurd rfl hb
    | cons b bs =>
      cases as with
      | nil =>
        cases bs with
        | nil =>
          have e' : a.cps.toList = b.cps.toList := e
          have : a = b := Str.ext' (Array.toList_inj.mp e')
          rw [this]
        | cons q r =>
          rw [one a] at e
          have e' : a.cps.toList = b.cps.toList ++ c :: (Str.join ⟨#[c]⟩ (q :: r)).cps.toList := e
          exact absurd (by rw [e']; simp) (fa a (by simp))
      | cons p as =>
        cases bs with
        | nil =>
          rw [one a] at e
          have e' : a.cps.toList ++ c :: (Str.join ⟨#[c]⟩ (p :: as)).cps.toList = b.cps.toList := e
          exact absurd (by rw [← e']; simp) (fb b (by simp))
        | cons q r =>
          rw [one a, one a] at e
          obtain ⟨e1, e2⟩ := cut_uniq (fa a (by simp)) (fb b (by simp)) e
          have : a = b := Str.ext' (Array.toList_inj.mp e1)
          rw [this, ih (q :: r) (by simp) (by simp) (fun z hz => fa z (by simp at hz ⊢; exact .inr hz)) (fun z hz => fb z (by simp at hz ⊢; exact .inr hz)) e2]
theorem split_join {c : Nat} {ws : List Str} (hn : ws ≠ []) (hw : ∀ z ∈ ws, c ∉ z.cps.toList) : Txt.split (Str.join ⟨#[c]⟩ ws) ⟨#[c]⟩ = ws := by
  refine join_inj (c := c) _ _ ?_ hn (StrLaws.split_free _ c) hw ?_
  · intro z
    have := split_pos (Str.join ⟨#[c]⟩ ws) ⟨#[c]⟩
    rw [z] at this
    simp at this
  · rw [StrLaws.join_split]
end L2

set_option linter.all false
set_option maxRecDepth 100000
set_option Elab.async false
set_option maxHeartbeats 4000000
namespace L2
open PySem PySem.Spec PyProof.Rows PySem.NumText
inductive rStrI (xs : List V) (H : Hp) (Q : VK) : Prop
  | mk (x : V) (z : Str) (h0 : xs = [x]) (f : Fm x z) (q : Q (.str z) H) : rStrI xs H Q
def rStr : List V → Hp → VK → Prop := fun xs H Q => rStrI xs H Q
theorem call_strF {X : Cx} : CallR X (.type "str") rStr := by
  intro pins s σ H xs us Q I r h
  obtain ⟨x, z, rfl, f, q⟩ := h
  obtain ⟨u, rfl, ru⟩ := vals1 r
  cases f with
  | str z hz =>
    obtain ⟨t, rfl⟩ := ru
    exact P.str_of_str ⟨.str z, H, I, ⟨_, rfl⟩, q⟩
  | int i hi =>
    obtain ⟨t, rfl⟩ := ru
    exact P.str_of_int hi ⟨.str _, H, I.tok _, ⟨_, rfl⟩, q⟩
inductive rIntI (xs : List V) (H : Hp) (Q : VK) : Prop
  | mk (z : Str) (n : Int) (h0 : xs = [.str z]) (hn : PySem.intText? z = some n) (hl : z.length ≤ 640) (q : Q (.int n) H) : rIntI xs H Q
def rInt : List V → Hp → VK → Prop := fun xs H Q => rIntI xs H Q
theorem call_intT {X : Cx} : CallR X (.type "int") rInt := by
  intro pins s σ H xs us Q I r h
  obtain ⟨z, n, rfl, hn, hl, q⟩ := h
  obtain ⟨u, rfl, ru⟩ := vals1 r
  obtain ⟨t, rfl⟩ := ru
  exact PySem.W.KIN.call_text hn hl ⟨.int n, H, I.tok _, ⟨_, rfl⟩, q⟩
theorem digits_len {m k : Nat} (h : m < 10 ^ k) (hk : 0 < k) : (Nat.toDigits 10 m).length ≤ k := by
  induction k generalizing m with
  | zero => cases hk
  | succ k ih =>
    by_cases hm : m < 10
    · rw [Nat.toDigits_of_lt_base hm]; simp
    · have hmod : m % 10 < 10 := Nat.mod_lt m (by decide)
      have t : Nat.toDigits 10 (m / 10) ++ Nat.toDigits 10 (m % 10) = Nat.toDigits 10 (10 * (m / 10) + m % 10) := Nat.toDigits_append_toDigits (by decide) (by omega) hmod
      rw [Nat.div_add_mod] at t
      rw [← t, List.length_append, Nat.toDigits_of_lt_base hmod]
      have hk' : 0 < k := by
        cases k with
        | zero => simp at h; omega
        | succ k => omega
      have := ih (m := m / 10) (by rw [Nat.pow_succ] at h; omega) hk'
      simp
      exact this
theorem num_digits (m : Nat) : ∀ c ∈ (Str.ofString (toString ((m : Nat) : Int))).cps.toList, 48 ≤ c ∧ c ≤ 57 := by
  intro c hc
  rw [PySem.W.KIN.signs_num] at hc
  obtain ⟨ch, hch, e⟩ := List.mem_map.mp hc
  have r := digit_range (Nat.isDigit_of_mem_toDigits (by decide) (by decide) hch)
  rw [← e]
  exact r
theorem num_len {m k : Nat} (h : m < 10 ^ k) (hk : 0 < k) : (Str.ofString (toString ((m : Nat) : Int))).length ≤ k := by
  show (Str.ofString (toString ((m : Nat) : Int))).cps.size ≤ k
  rw [← Array.length_toList, PySem.W.KIN.signs_num, List.length_map]
  exact digits_len h hk
theorem num_ne (m : Nat) : (Str.ofString (toString ((m : Nat) : Int))).cps.toList ≠ [] := by
  rw [PySem.W.KIN.signs_num]
  intro e
  have h := toDigits_len_ge 10 m
  rw [List.map_eq_nil_iff.mp e] at h
  exact absurd h (by decide)
theorem num_readsK {m k : Nat} (h : m < 10 ^ k) (hk : 0 < k) (h6 : k ≤ 640) : PySem.intText? (Str.ofString (toString ((m : Nat) : Int))) = some (m : Int) := by
  have e := intText_digits (num_digits m) (num_ne m) (Nat.le_trans (num_len h hk) (Nat.le_trans h6 (by decide)))
  rw [PySem.W.KIN.signs_num, PySem.W.KIN.val_back] at e
  exact e
end L2

set_option linter.all false
set_option maxRecDepth 100000
set_option Elab.async false
set_option maxHeartbeats 4000000
namespace L2
open PySem PySem.Spec PyProof.Rows
section
variable {prog : Program} {w : World} {K : Type} [DecidableEq K] {knd : HeapKind prog w K} {A : Around} {E : Value → Shared → Prop} {s : Shared}
end
end L2

set_option linter.all false
set_option maxRecDepth 100000
set_option Elab.async false
set_option maxHeartbeats 4000000
namespace L2
open PySem PySem.SetTable
inductive PEnds (t : SetTable) : Probe → Nat → Prop
  | here {p : Probe} {n : Nat} : t.slot p.j = .empty → PEnds t p n
  | step {p : Probe} {n : Nat} : PEnds t (t.advance p) n → PEnds t p (n + 1)
theorem PEnds.mono {t : SetTable} : ∀ {p : Probe} {n m : Nat}, PEnds t p n → n ≤ m → PEnds t p m := by
  intro p n m h
  induction h generalizing m with
  | here h => intro _; exact .here h
  | step h ih =>
    intro hm
    obtain ⟨k, rfl⟩ : ∃ k, m = k + 1 := ⟨m - 1, by omega⟩
    exact .step (ih (by omega))
def leapP (t : SetTable) (i perturb : Nat) : Probe := { j := i, more := runEnd t.mask i - i, i := i, perturb := perturb, dummy := none }
theorem run_le (mask i : Nat) : runEnd mask i - i ≤ 9 := by unfold runEnd; split <;> omega
theorem PEnds.run {t : SetTable} {i perturb N : Nat} (h : PEnds t (leapP t (leap t.mask i perturb).1 (leap t.mask i perturb).2) N) : ∀ (m j : Nat), PEnds t { j := j, more := m, i := i, perturb := perturb, dummy := none } (N + m + 1)
  | 0, j => .step (by
      unfold advance
      rw [if_neg (by simp)]
      exact h)
  | m + 1, j => .step (by
      unfold advance
      rw [if_pos (by simp)]
      exact PEnds.run h m (j + 1))
theorem PEnds.leap {t : SetTable} {i perturb N : Nat} (h : PEnds t (leapP t (leap t.mask i perturb).1 (leap t.mask i perturb).2) N) : PEnds t (leapP t i perturb) (N + 10) := by
  have := run_le t.mask i
  exact (PEnds.run h (runEnd t.mask i - i) i).mono (by omega)
theorem PEnds.leaps {t : SetTable} {N : Nat} : ∀ (k i perturb : Nat), (∀ i', i' ≤ t.mask → PEnds t (leapP t i' (perturb / 32 ^ k)) N) → i ≤ t.mask → PEnds t (leapP t i perturb) (N + 10 * k)
  | 0, i, perturb, h, hi => by simpa using h i hi
  | k + 1, i, perturb, h, hi => by
    have := PEnds.leaps k (SetTable.leap t.mask i perturb).1 (perturb / 32) (fun i' hi' => by
      have e : perturb / 32 / 32 ^ k = perturb / 32 ^ (k + 1) := by rw [Nat.div_div_eq_div_mul, Nat.pow_succ, Nat.mul_comm]
      rw [e]
      exact h i' hi') (Nat.le_of_lt_succ (Nat.mod_lt _ (Nat.succ_pos _)))
    exact (PEnds.leap this).mono (by omega)
def orb (m : Nat) : Nat → Nat → Nat
  | 0, i => i
  | k + 1, i => orb m k ((i * 5 + 1) % m)
theorem orb8 : ∀ i, i < 8 → ∀ j, j < 8 → ∃ k, k < 8 ∧ orb 8 k i = j := by decide
theorem orb32 : ∀ i, i < 32 → ∀ j, j < 32 → ∃ k, k < 32 ∧ orb 32 k i = j := by decide +kernel
theorem PEnds.orb {t : SetTable} {j : Nat} (hj : t.slot j = .empty) : ∀ (k i : Nat), L2.orb (t.mask + 1) k i = j → PEnds t (leapP t i 0) (10 * k)
  | 0, i, h => .here (by
      have h' : i = j := h
      subst h'
      exact hj)
  | k + 1, i, h => by
    have := PEnds.orb hj k ((i * 5 + 1) % (t.mask + 1)) h
    exact (PEnds.leap (N := 10 * k) (by simpa [SetTable.leap] using this)).mono (by omega)
theorem bits_lt (h : Int) : bits h < 2 ^ 64 := by
  unfold bits
  have h1 : 0 ≤ h % (2 ^ 64 : Int) := Int.emod_nonneg _ (by decide)
  have h2 : h % (2 ^ 64 : Int) < 2 ^ 64 := Int.emod_lt_of_pos _ (by decide)
  omega
structure TabOk (t : SetTable) (n : Nat) : Prop where
  size : t.place.size = n
  nod : t.dummies = #[]
  mask : (t.mask = 7 ∧ n ≤ 4) ∨ (t.mask = 31 ∧ n ≤ 18)
theorem TabOk.fits {t : SetTable} {n : Nat} (h : TabOk t n) : t.fits n = true := by
  unfold SetTable.fits SetTable.fill
  rw [h.nod, h.size]
  rcases h.mask with ⟨e, z⟩ | ⟨e, z⟩ <;> simp [e] <;> omega
theorem TabOk.odd {t : SetTable} {n : Nat} (h : TabOk t n) : t.gaveWay = false := by
  unfold SetTable.gaveWay
  rcases h.mask with ⟨e, z⟩ | ⟨e, z⟩ <;> rw [e] <;> rfl
theorem has_nil (j : Nat) : has #[] j = false := by simp [has]
theorem TabOk.slot {t : SetTable} {n : Nat} (h : TabOk t n) (j : Nat) : t.slot j = .empty ∨ ∃ i, t.slot j = .live i ∧ t.place[i]? = some j := by
  unfold SetTable.slot
  dsimp only
  split
  · next e => exact .inr ⟨_, rfl, by simpa using e⟩
  · rw [h.nod, has_nil]
    exact .inl rfl
theorem TabOk.slot_free {t : SetTable} {n : Nat} (h : TabOk t n) {j : Nat} (hj : j ∉ t.place.toList) : t.slot j = .empty := by
  rcases h.slot j with e | ⟨i, e, z⟩
  · exact e
  · exact absurd (by rw [← Array.getElem?_toList] at z; exact List.mem_of_getElem? z) hj
theorem exists_free (l : List Nat) (m : Nat) (h : l.length < m) : ∃ j, j < m ∧ j ∉ l := by
  by_cases hx : ∃ j, j < m ∧ j ∉ l
  · exact hx
  · exfalso
    have hall : ∀ j ∈ List.range m, j ∈ l := fun j hj => by
      by_cases hm : j ∈ l
      · exact hm
      · exact absurd ⟨j, List.mem_range.mp hj, hm⟩ hx
    have := List.Nodup.length_le_of_subset (List.nodup_range (n := m)) hall
    simp at this
    omega
theorem TabOk.free {t : SetTable} {n : Nat} (h : TabOk t n) : ∃ j, j ≤ t.mask ∧ t.slot j = .empty := by
  obtain ⟨j, h1, h2⟩ := exists_free t.place.toList (t.mask + 1) (by
    rw [Array.length_toList, h.size]
    rcases h.mask with ⟨e, z⟩ | ⟨e, z⟩ <;> omega)
  exact ⟨j, by omega, h.slot_free h2⟩
theorem TabOk.ends {t : SetTable} {n : Nat} (h : TabOk t n) (x : Int) : PEnds t (t.probeStart x) (10 * t.mask + 130) := by
  obtain ⟨j, hj, he⟩ := h.free
  have hb := bits_lt x
  have hz : bits x / 32 ^ 13 = 0 := Nat.div_eq_of_lt (Nat.lt_of_lt_of_le hb (by decide))
  refine PEnds.leaps (N := 10 * t.mask) 13 (bits x % (t.mask + 1)) (bits x) (fun i' hi' => ?_) (Nat.le_of_lt_succ (Nat.mod_lt _ (Nat.succ_pos _)))
  rw [hz]
  rcases h.mask with ⟨e, z⟩ | ⟨e, z⟩
  · obtain ⟨k, hk, ek⟩ := orb8 i' (by omega) j (by omega)
    exact (PEnds.orb he k i' (by rw [e]; exact ek)).mono (by omega)
  · obtain ⟨k, hk, ek⟩ := orb32 i' (by omega) j (by omega)
    exact (PEnds.orb he k i' (by rw [e]; exact ek)).mono (by omega)
theorem TabOk.go {t : SetTable} {n : Nat} (h : TabOk t n) (hashAt : Nat → Int) (x : Int) : ∀ {p : Probe} {N : Nat}, PEnds t p N → p.dummy = none → ∀ fuel, N < fuel →
    (∃ j, probe.go t hashAt x fuel p = some (.empty j none) ∧ t.slot j = .empty) ∨
    ∃ j i p' M, probe.go t hashAt x fuel p = some (.candidate j i p') ∧ t.slot j = .live i ∧ t.place[i]? = some j ∧ hashAt i = x ∧ p'.dummy = none ∧ PEnds t p' M ∧ M < N := by
  intro p N he
  induction he with
  | here e =>
    intro hd fuel hf
    obtain ⟨f, rfl⟩ : ∃ f, fuel = f + 1 := ⟨fuel - 1, by omega⟩
    left
    rename_i q m
    exact ⟨q.j, by unfold probe.go; rw [e, hd], e⟩
  | step e ih =>
    intro hd fuel hf
    rename_i q m
    obtain ⟨f, rfl⟩ : ∃ f, fuel = f + 1 := ⟨fuel - 1, by omega⟩
    have hd2 : (t.advance q).dummy = none := by
      unfold advance
      split <;> exact hd
    rcases h.slot q.j with z | ⟨i, z, zp⟩
    · exact .inl ⟨q.j, by unfold probe.go; rw [z, hd], z⟩
    · by_cases hh : (hashAt i == x) = true
      · exact .inr ⟨q.j, i, t.advance q, m, by unfold probe.go; rw [z]; dsimp only; rw [if_pos hh], z, zp, by simpa using hh, hd2, e, Nat.lt_succ_self _⟩
      · rcases ih hd2 f (by omega) with ⟨j, a, b⟩ | ⟨j, i', p', M, a, b, c, d, d2, d3, d4⟩
        · exact .inl ⟨j, by unfold probe.go; rw [z]; dsimp only; rw [if_neg hh]; exact a, b⟩
        · exact .inr ⟨j, i', p', M, by unfold probe.go; rw [z]; dsimp only; rw [if_neg hh]; exact a, b, c, d, d2, d3, Nat.lt_succ_of_lt d4⟩
theorem TabOk.fuel {t : SetTable} {n : Nat} (h : TabOk t n) : 10 * t.mask + 130 < 10 * turns t.mask := by
  unfold turns
  omega
theorem TabOk.cases {t : SetTable} {n : Nat} {F : Nat → Int} {x : Int} {p : Probe} {r : Option Met} (h : TabOk t n) (e : t.probe F x p = r) {N : Nat} (he : PEnds t p N) (hd : p.dummy = none) (hN : N < 10 * turns t.mask) :
    (∃ j, r = some (.empty j none) ∧ t.slot j = .empty) ∨ ∃ j i p' M, r = some (.candidate j i p') ∧ t.slot j = .live i ∧ t.place[i]? = some j ∧ p'.dummy = none ∧ PEnds t p' M ∧ M < N := by
  subst e
  rcases h.go F x he hd _ hN with ⟨j, a, b⟩ | ⟨j, i', p', M, a, b, c, d, d2, d3, d4⟩
  · exact .inl ⟨j, a, b⟩
  · exact .inr ⟨j, i', p', M, a, b, c, d2, d3, d4⟩
inductive FEnds (owner : Array (Option Nat)) : Nat → Nat → Nat → Prop
  | here {i p n : Nat} : (owner.getD i (some 0)).isNone = true → FEnds owner i p (n + 1)
  | step {i p n : Nat} : FEnds owner (SetTable.leap 31 i p).1 (SetTable.leap 31 i p).2 n → FEnds owner i p (n + 1)
theorem FEnds.mono {owner : Array (Option Nat)} : ∀ {i p n m : Nat}, FEnds owner i p n → n ≤ m → FEnds owner i p m := by
  intro i p n m h
  induction h generalizing m with
  | here h =>
    intro hm
    obtain ⟨k, rfl⟩ : ∃ k, m = k + 1 := ⟨m - 1, by omega⟩
    exact .here h
  | step h ih =>
    intro hm
    obtain ⟨k, rfl⟩ : ∃ k, m = k + 1 := ⟨m - 1, by omega⟩
    exact .step (ih (by omega))
theorem FEnds.free {owner : Array (Option Nat)} {i p n : Nat} (h : FEnds owner i p n) : ∃ j, layClean.free 31 owner n i p = some j ∧ (owner.getD j (some 0)).isNone = true := by
  induction h with
  | here h =>
    rename_i i p n
    unfold layClean.free
    split
    · next k hk => exact ⟨_, rfl, List.find?_some (p := fun k => (owner.getD (_ + k) (some 0)).isNone) hk⟩
    · next hk =>
      have := List.find?_eq_none.mp hk 0 (by
        have : i ≤ runEnd 31 i := by unfold runEnd; split <;> omega
        simp
        omega)
      rw [Nat.add_zero] at this
      exact absurd h this
  | step h ih =>
    unfold layClean.free
    split
    · next k hk => exact ⟨_, rfl, List.find?_some (p := fun k => (owner.getD (_ + k) (some 0)).isNone) hk⟩
    · next hk => exact ih
theorem FEnds.leaps {owner : Array (Option Nat)} {N : Nat} : ∀ (k i perturb : Nat), (∀ i', i' < 32 → FEnds owner i' (perturb / 32 ^ k) N) → i < 32 → FEnds owner i perturb (N + k)
  | 0, i, perturb, h, hi => by simpa using h i hi
  | k + 1, i, perturb, h, hi => by
    have := FEnds.leaps k (SetTable.leap 31 i perturb).1 (perturb / 32) (fun i' hi' => by
      have e : perturb / 32 / 32 ^ k = perturb / 32 ^ (k + 1) := by rw [Nat.div_div_eq_div_mul, Nat.pow_succ, Nat.mul_comm]
      rw [e]
      exact h i' hi') (Nat.mod_lt _ (by decide))
    exact .step this
theorem FEnds.orb {owner : Array (Option Nat)} {j : Nat} (hj : (owner.getD j (some 0)).isNone = true) : ∀ (k i : Nat), L2.orb 32 k i = j → FEnds owner i 0 (k + 1)
  | 0, i, h => .here (by
      have h' : i = j := h
      subst h'
      exact hj)
  | k + 1, i, h => .step (by
      have := FEnds.orb hj k ((i * 5 + 1) % 32) h
      simpa [SetTable.leap] using this)
theorem FEnds.ok {owner : Array (Option Nat)} {j : Nat} (hj : (owner.getD j (some 0)).isNone = true) (hj32 : j < 32) (x : Int) : FEnds owner (bits x % 32) (bits x) (turns 31) := by
  have hb := bits_lt x
  have hz : bits x / 32 ^ 13 = 0 := Nat.div_eq_of_lt (Nat.lt_of_lt_of_le hb (by decide))
  refine FEnds.mono (FEnds.leaps (N := 32) 13 _ _ (fun i' hi' => ?_) (Nat.mod_lt _ (by decide))) (by decide)
  rw [hz]
  obtain ⟨k, hk, ek⟩ := orb32 i' hi' j hj32
  exact (FEnds.orb hj k i' ek).mono (by omega)
structure Laid (owner : Array (Option Nat)) (k : Nat) : Prop where
  size : owner.size = 32
  perm : ((List.range 32).filterMap fun j => owner.getD j none).Perm (List.range k)
theorem filterMap_put {f g : Nat → Option Nat} {j k : Nat} (hf : f j = none) (hg : g j = some k) (ho : ∀ i, i ≠ j → g i = f i) : ∀ (l : List Nat), l.Nodup → j ∈ l → (l.filterMap g).Perm (k :: l.filterMap f)
  | x :: r, hn, hm => by
    obtain ⟨hx, hr⟩ := List.nodup_cons.mp hn
    by_cases e : x = j
    · subst e
      rw [List.filterMap_cons, List.filterMap_cons, hf, hg]
      dsimp only
      have : r.filterMap g = r.filterMap f := by
        have cg : ∀ (q : List Nat), (∀ i ∈ q, g i = f i) → q.filterMap g = q.filterMap f := fun q hq => by
          induction q with
          | nil => rfl
          | cons a b ih =>
            rw [List.filterMap_cons, List.filterMap_cons, hq a (by simp), ih fun i hi => hq i (by simp [hi])]
        exact cg r fun i hi => ho i fun z => hx (z ▸ hi)
      rw [this]
    · have hm' : j ∈ r := by
        rcases List.mem_cons.mp hm with z | z
        · exact absurd z.symm e
        · exact z
      have ih := filterMap_put hf hg ho r hr hm'
      rw [List.filterMap_cons, List.filterMap_cons, ho x e]
      cases f x with
      | none => exact ih
      | some y => exact (ih.cons y).trans (List.Perm.swap ..)
theorem filterMap_len {f : Nat → Option Nat} : ∀ (l : List Nat), (∀ j ∈ l, (f j).isSome = true) → (l.filterMap f).length = l.length
  | [], _ => rfl
  | x :: r, h => by
    obtain ⟨y, hy⟩ := Option.isSome_iff_exists.mp (h x (by simp))
    rw [List.filterMap_cons, hy]
    simp [filterMap_len r fun j hj => h j (by simp [hj])]
theorem Laid.free {owner : Array (Option Nat)} {k : Nat} (h : Laid owner k) (hk : k < 32) : ∃ j, j < 32 ∧ (owner.getD j (some 0)).isNone = true := by
  by_cases hx : ∃ j, j < 32 ∧ (owner.getD j (some 0)).isNone = true
  · exact hx
  · exfalso
    have hl := filterMap_len (f := fun j => owner.getD j none) (List.range 32) (fun j hj => by
      have hj' : j < 32 := List.mem_range.mp hj
      cases e : owner.getD j none with
      | some y => rfl
      | none =>
        refine absurd ⟨j, hj', ?_⟩ hx
        have hs : j < owner.size := by rw [h.size]; exact hj'
        simp [Array.getD, hs] at e ⊢
        exact e)
    rw [h.perm.length_eq] at hl
    simp at hl
    omega
theorem Laid.put {owner : Array (Option Nat)} {k j : Nat} (h : Laid owner k) (hj : (owner.getD j (some 0)).isNone = true) : Laid (owner.setIfInBounds j (some k)) (k + 1) := by
  have hj32 : j < owner.size := by
    by_cases z : j < owner.size
    · exact z
    · simp [Array.getD, z] at hj
  refine ⟨by simp [h.size], ?_⟩
  refine (filterMap_put (f := fun j => owner.getD j none) (j := j) (k := k) ?_ ?_ (fun i hi => ?_) _ List.nodup_range (List.mem_range.mpr (by rw [← h.size]; exact hj32))).trans ?_
  · simp [Array.getD, hj32] at hj ⊢
    exact hj
  · simp [Array.getD, hj32]
  · rw [Array.getD_eq_getD_getElem?, Array.getD_eq_getD_getElem?, Array.getElem?_setIfInBounds_ne (Ne.symm hi)]
  · refine (h.perm.cons k).trans ?_
    rw [List.range_succ]
    exact (List.perm_append_singleton k _).symm
theorem layClean_ok (hs : List Int) : ∀ (owner : Array (Option Nat)) (k : Nat), Laid owner k → k + hs.length ≤ 32 →
    ∃ ow, hs.foldl (init := some (owner, k)) (fun acc h => do
      let (owner, k) ← acc
      let j ← layClean.free 31 owner (turns 31) (bits h % (31 + 1)) (bits h)
      pure (owner.setIfInBounds j (some k), k + 1)) = some (ow, k + hs.length) ∧ Laid ow (k + hs.length) := by
  induction hs with
  | nil => intro owner k h _; exact ⟨owner, rfl, h⟩
  | cons x r ih =>
    intro owner k h hk
    rw [List.length_cons] at hk
    obtain ⟨j0, a, b⟩ := h.free (by omega)
    obtain ⟨j, e, c⟩ := (FEnds.ok b a x).free
    obtain ⟨ow, e2, c2⟩ := ih _ _ (h.put c) (by omega)
    refine ⟨ow, ?_, by rw [List.length_cons, show k + (r.length + 1) = k + 1 + r.length by omega]; exact c2⟩
    rw [List.foldl_cons, List.length_cons, show k + (r.length + 1) = k + 1 + r.length by omega, ← e2]
    congr 1
    show (layClean.free 31 owner (turns 31) (bits x % 32) (bits x) >>= _) = _
    rw [e]
    rfl
theorem laid_ok (t : SetTable) (hs : Array Int) (h5 : hs.size = 5) : ∃ t' order, t.relaid hs (grown 5) = some (t', order) ∧ order.toList.Perm (List.range 5) ∧ TabOk t' 5 ∧ t'.led = t.led ∧ t'.plain = t.plain := by
  have e31 : sizeAbove (grown 5) - 1 = 31 := by decide
  obtain ⟨ow, e, L⟩ := layClean_ok hs.toList (Array.replicate 32 none) 0 ⟨by simp, by simp [Array.getD]⟩ (by rw [Array.length_toList, h5]; decide)
  rw [Array.length_toList, h5, Nat.zero_add] at e L
  unfold SetTable.relaid SetTable.laid layClean
  rw [e31, ← Array.foldl_toList]
  rw [show (31 + 1) = 32 from rfl]
  rw [e]
  refine ⟨_, _, rfl, ?_, ⟨?_, rfl, .inr ⟨rfl, by decide⟩⟩, rfl, rfl⟩
  · have := L.perm
    rw [List.map_filterMap]
    simpa [Function.comp_def] using this
  · have := L.perm.length_eq
    rw [List.length_range] at this
    rw [← this, List.size_toArray, List.length_map]
    have e3 : ∀ (l : List Nat), (l.filterMap fun j => (ow.getD j none).map (fun y => (j, y))).length = (l.filterMap fun j => ow.getD j none).length := fun l => by
      induction l with
      | nil => rfl
      | cons x r ih =>
        rw [List.filterMap_cons, List.filterMap_cons]
        cases ow.getD x none with
        | none => exact ih
        | some y =>
          show (_ :: _).length = (_ :: _).length
          rw [List.length_cons, List.length_cons]
          exact congrArg (· + 1) ih
    exact e3 _
end L2

set_option linter.all false
set_option maxRecDepth 100000
set_option Elab.async false
set_option maxHeartbeats 4000000
namespace L2
open PySem PySem.Spec PyProof.Rows
section
variable {prog : Program} {w : World} {A : Around} {E : Value → Shared → Prop} {s : Shared}
theorem isSame_self {a : Addr} {M : Model} {Q : Bool → Shared → Prop} (h : Q true s) : wpAny M A (isSame (.ref a) (.ref a)) Q E s := by
  unfold isSame
  dsimp only
  rw [if_pos (by simp)]
  exact wpAny_pure h
theorem notClass {ks : List Str} {a : Addr} {Q : Bool → Shared → Prop} (hk : IsTupleKey (strKind prog w) s.heap ks a) (h : Q false s) : wpAny (model prog w) A (ofAClassStatement 8 (.ref a)) Q E s := by
  have hT := hk.typeIs
  obtain ⟨o, items, n, ho, _, hd, hi⟩ := hk
  unfold ofAClassStatement
  refine wpAny_bind (wpAny_typeOf hT ?_)
  dsimp only
  rw [if_pos (show (("tuple" : String) == "tuple") = true from rfl)]
  refine wpAny_bind (wpAny_pure ?_)
  refine wpAny_ite_false (by decide) ?_
  refine wpAny_bind (wpAny_seqItems ho hd ?_)
  dsimp only
  refine wpAny_bind ?_
  rw [← Array.forIn_toList]
  refine wpAny_forIn_list _ (fun rest r s' => r.1 = none ∧ s' = s ∧ ∀ v ∈ rest, carriedByValue v = true) _ ?_ ?_ _ _ ⟨rfl, rfl, hi.byValue⟩
  · rintro v rest r s' ⟨hr, rfl, hall⟩
    have hv := hall v List.mem_cons_self
    have e : ofAClassStatement 7 v = pure false := by
      cases v with
      | ref a => simp [carriedByValue] at hv
      | _ => unfold ofAClassStatement; rfl
    rw [e]
    refine wpAny_bind (wpAny_pure ?_)
    refine wpAny_ite_false (by decide) ?_
    exact wpAny_pure ⟨rfl, rfl, fun u hu' => hall u (List.mem_cons_of_mem _ hu')⟩
  · rintro ⟨r1, r2⟩ s' ⟨hr, rfl, _⟩
    simp only at hr
    subst hr
    exact wpAny_pure h
def ElT (prog : Program) (w : World) (h : Heap) (ks : List (List Str)) (v : Value) : Prop := ∃ b k, v = .ref b ∧ IsTupleKey (strKind prog w) h k b ∧ k ∈ ks
theorem notSeen {k : List Str} {x : Addr} {ks : List (List Str)} {Q : Bool → Shared → Prop} (hkey : IsTupleKey (strKind prog w) s.heap k x) {l : List Value} (hl : ∀ v ∈ l, ElT prog w s.heap ks v) (h : Q false s) : wpAny (model prog w) A (searchCouldBeSeen (.ref x) l) Q E s := by
  unfold searchCouldBeSeen
  refine wpAny_bind ?_
  refine wpAny_forIn_list _ (fun rest r s' => r.1 = none ∧ s' = s ∧ ∀ v ∈ rest, ElT prog w s.heap ks v) _ ?_ ?_ _ _ ⟨rfl, rfl, hl⟩
  · rintro v rest r s' ⟨hr, rfl, hall⟩
    obtain ⟨b, k', rfl, hb, _⟩ := hall v List.mem_cons_self
    have nxt : ∀ v ∈ rest, ElT prog w s'.heap ks v := fun u hu => hall u (List.mem_cons_of_mem _ hu)
    dsimp only
    split
    · exact wpAny_pure ⟨rfl, rfl, nxt⟩
    · refine wpAny_bind (wpAny_eqIsQuiet_tuple hkey ?_)
      refine wpAny_ite_false (by decide) ?_
      refine wpAny_bind (wpAny_eqIsQuiet_tuple hb ?_)
      refine wpAny_ite_false (by decide) ?_
      refine wpAny_bind (notClass hkey ?_)
      refine wpAny_ite_false (by decide) ?_
      refine wpAny_bind (notClass hb ?_)
      refine wpAny_ite_false (by decide) ?_
      exact wpAny_pure ⟨rfl, rfl, nxt⟩
  · rintro ⟨r1, r2⟩ s' ⟨hr, rfl, _⟩
    simp only at hr
    subst hr
    exact wpAny_pure h
theorem search_T {a x : Addr} {o : Obj} {es : Array (Int × Value)} {ep : Nat} {t : SetTable} {k : List Str} {ks : List (List Str)} {hx : Int} {Q : SetFound → Shared → Prop} (hu : A.units < cLine)
    (hkey : IsTupleKey (strKind prog w) s.heap k x) (ho : s.heap.get? a = some o) (hd : o.data = .set es ep t) (hT : TabOk t es.size) (hel : ∀ e ∈ es.toList, ElT prog w s.heap ks e.2) (hk : k ∉ ks)
    (hQ : ∀ j, t.slot j = .empty → Q (.free j false) s) : ∀ (N : Nat) (p : SetTable.Probe), PEnds t p N → p.dummy = none → N < 10 * SetTable.turns t.mask → ∀ (fuel : Nat) (stand : Option SetTable.Probe), N < fuel → stand.getD (t.probeStart hx) = p →
      wpAny (model prog w) A (setSearchFrom a (.ref x) hx true fuel stand) Q E s := by
  intro N
  induction N using Nat.strongRecOn with
  | ind N ih =>
    intro p he hdm hN fuel stand hf hst
    obtain ⟨f, rfl⟩ : ∃ f, fuel = f + 1 := ⟨fuel - 1, by omega⟩
    unfold setSearchFrom
    refine wpAny_bind (wpAny_setState_of ho hd hT.fits ?_)
    dsimp only
    rw [hT.odd, hst]
    refine wpAny_ite_false (by decide) ?_
    split
    · next met hmet =>
      rcases hT.cases hmet he hdm hN with ⟨j, e, hj⟩ | ⟨j, i, p', M, e, hj, hpl, hd', he', hM⟩
      · cases e
        dsimp only
        exact wpAny_pure (hQ j hj)
      · cases e
        dsimp only
        have hi : i < es.size := by
          have := (Array.getElem?_eq_some_iff.mp hpl).1
          rw [← hT.size]
          exact this
        obtain ⟨b, k', ey, hb, hk'⟩ := hel es[i] (by simp)
        have hes : es[i]? = some (es[i].1, .ref b) := by
          rw [Array.getElem?_eq_getElem hi, ← ey]
        have rest : wpAny (model prog w) A (do
            let some (_, y) := es[i]? | unsupported "internal:set-entry"
            let equal ← holding [y] (eqBool y (.ref x))
            let (es', _, t') ← setState a
            if true && equal then return .there none
            let some same := t'.sameMemory t.moves t.mask | unsupported "set.changed-during-lookup:is-the-new-block-at-the-old-address"
            let still ← match (if same then t'.slot j else .empty) with
              | .live i' => match es'[i']? with
                | some (_, y') => do pure (if ← isSame y' y then some i' else none)
                | none => pure none
              | _ => pure none
            match still with
            | none => rule "set.search.anew"; setSearchFrom a (.ref x) hx true f none
            | some i' => if equal then return .there (some i') else setSearchFrom a (.ref x) hx true f (some p')) Q E s := by
          rw [hes]
          dsimp only
          refine wpAny_bind (wpAny_holding (wpAny_eqBool_tuple hu hb hkey ?_))
          have hne : decide (k' = k) = false := decide_eq_false (fun z => hk (z ▸ hk'))
          rw [hne]
          refine wpAny_bind (wpAny_setState_of ho hd hT.fits ?_)
          dsimp only
          refine wpAny_ite_false (by decide) ?_
          have hsm : t.sameMemory t.moves t.mask = some true := by simp [SetTable.sameMemory]
          rw [hsm]
          dsimp only
          rw [if_pos rfl, hj]
          dsimp only
          rw [hes]
          dsimp only
          refine wpAny_bind (isSame_self ?_)
          rw [if_pos rfl]
          refine wpAny_bind (wpAny_pure ?_)
          dsimp only
          refine wpAny_ite_false (by decide) ?_
          exact ih M hM p' he' hd' (by omega) f (some p') (by omega) rfl
        cases hl : t.led with
        | true =>
          refine wpAny_ite_false (by decide) ?_
          exact rest
        | false =>
          refine wpAny_ite_true (by decide) ?_
          refine wpAny_bind (notSeen (ks := ks) hkey (fun v hv => ?_) ?_)
          · obtain ⟨e, he1, rfl⟩ := List.mem_map.mp hv
            have : e ∈ es.toList := by
              have he2 := Array.mem_toList_iff.mp he1
              exact Array.mem_toList_iff.mpr (Array.mem_filter.mp he2).1
            exact hel e this
          · refine wpAny_ite_false (by decide) ?_
            exact rest
    · next hmet =>
      rcases hT.cases rfl he hdm hN with ⟨j, e, hj⟩ | ⟨j, i, p', M, e, _⟩
      · exact absurd e (hmet _)
      · exact absurd e (hmet _)
end
end L2

set_option linter.all false
set_option maxRecDepth 100000
set_option Elab.async false
set_option maxHeartbeats 4000000
namespace L2
open PySem PySem.Spec PyProof.Rows
section
variable {prog : Program} {w : World} {A : Around} {E : Value → Shared → Prop} {s : Shared}
theorem hashNot {k : List Str} {x : Addr} {Q : Bool → Shared → Prop} (hk : IsTupleKey (strKind prog w) s.heap k x) (hne : k ≠ []) (h : Q false s) : wpAny (model prog w) A (hashByValue 8 (.ref x)) Q E s := by
  have hT := hk.typeIs
  obtain ⟨o, items, n, ho, _, hd, hi⟩ := hk
  unfold hashByValue
  refine wpAny_bind (wpAny_specialOf hT F.slot_tuple_hash.lookup ?_)
  show wpAny _ _ (seqItems? (.ref x) >>= _) _ _ s
  refine wpAny_bind (wpAny_seqItems ho hd ?_)
  refine wpAny_bind ?_
  show wpAny _ _ (forIn items _ _) _ _ s
  rw [← Array.forIn_toList]
  generalize items.toList = its at hi
  cases hi with
  | nil => exact absurd rfl hne
  | cons r hi =>
    obtain ⟨t, e⟩ := Value.isStrOf_shape r
    subst e
    rw [List.forIn_cons]
    refine wpAny_bind ?_
    show wpAny _ _ (pure false >>= _) _ _ _
    refine wpAny_bind (wpAny_pure ?_)
    refine wpAny_ite_true (by decide) ?_
    exact wpAny_pure (wpAny_pure (wpAny_pure h))
structure SetT (prog : Program) (w : World) (h : Heap) (a : Addr) (rs : List Addr) (ks : List (List Str)) (o : Obj) (es : Array (Int × Value)) (ep : Nat) (t : SetTable) : Prop where
  at_ : h.get? a = some o
  ex : o.ExactSet
  data : o.data = .set es ep t
  perm : (es.toList.map (·.2)).Perm (rs.map Value.ref)
  els : ∀ e ∈ es.toList, ElT prog w h ks e.2
  tab : TabOk t es.size
  led : SetTab w es t
theorem SetT.len {h : Heap} {a : Addr} {rs : List Addr} {ks : List (List Str)} {o : Obj} {es : Array (Int × Value)} {ep : Nat} {t : SetTable} (x : SetT prog w h a rs ks o es ep t) : es.size = rs.length := by
  have := x.perm.length_eq
  simpa using this
theorem ElT.keep {h h' : Heap} {ks : List (List Str)} {v : Value} (x : ElT prog w h ks v) (k : ∀ b o, h.get? b = some o → o.cls = .type "tuple" → h'.get? b = some o) : ElT prog w h' ks v := by
  obtain ⟨b, k', e, ⟨o, items, n, ho, hc, r⟩, m⟩ := x
  exact ⟨b, k', e, ⟨o, items, n, k b o ho hc, hc, r⟩, m⟩
theorem ElT.more {h : Heap} {ks ks' : List (List Str)} {v : Value} (x : ElT prog w h ks v) (k : ∀ z ∈ ks, z ∈ ks') : ElT prog w h ks' v := by
  obtain ⟨b, k', e, r, m⟩ := x
  exact ⟨b, k', e, r, k k' m⟩
theorem putSet_at {h : Heap} {a : Addr} {o : Obj} {es es' : Array (Int × Value)} {ep : Nat} {t t' : SetTable} (ho : h.get? a = some o) (hd : o.data = .set es ep t) :
    (h.update a (Obj.putSet es' t')).get? a = some { o with data := .set es' (ep + 1) t' } := by
  have := Heap.get?_update_self (Obj.putSet es' t') ho (by rw [putSet_of es' t' hd]; rfl)
  rw [putSet_of es' t' hd] at this
  exact this
theorem insertAt_size {α : Type} (xs : Array α) (p : Nat) (x : α) : (SetTable.insertAt xs p x).size = xs.size + 1 := by
  have := (SetTable.insertAt_perm xs p x).length_eq
  simpa using this
theorem add_T {a x : Addr} {rs : List Addr} {ks : List (List Str)} {o : Obj} {es : Array (Int × Value)} {ep : Nat} {t : SetTable} {k : List Str} {hx : Int} {Q : Bool → Shared → Prop} (hu : A.units < cLine)
    (hS : SetT prog w s.heap a rs ks o es ep t) (hkey : IsTupleKey (strKind prog w) s.heap k x) (hne : k ≠ []) (hk : k ∉ ks) (hr : rs.length + 1 ≤ 18)
    (h : ∀ h' o' es' ep' t', Heap.SameBut a s.heap h' → SetT prog w h' a (rs ++ [x]) (ks ++ [k]) o' es' ep' t' → Q true { s with heap := h' }) :
    wpAny (model prog w) A (setAddHashed a (.ref x) hx) Q E s := by
  have hlen := hS.len
  unfold setAddHashed setAddHashedIn
  refine wpAny_holding (wpAny_bind (wpAny_setState_of hS.at_ hS.data hS.tab.fits ?_))
  dsimp only
  rw [if_neg (show ¬ (byScan (.ref x) es = true) by simp [byScan, Value.scannable])]
  unfold setSearch
  refine wpAny_bind (search_T hu hkey hS.at_ hS.data hS.tab hS.els hk (fun j hj => ?_) (10 * t.mask + 130) (t.probeStart hx) (hS.tab.ends hx) rfl hS.tab.fuel 100000 none (by rcases hS.tab.mask with ⟨e, z⟩ | ⟨e, z⟩ <;> omega) rfl)
  dsimp only
  refine wpAny_bind (wpAny_setState_of hS.at_ hS.data hS.tab.fits ?_)
  unfold SetTable.put
  rw [hS.tab.nod, has_nil]
  dsimp only
  generalize hp : SetTable.below t.place j = p
  -- the elements, one more
  have pm := SetTable.insertAt_perm es p (hx, Value.ref x)
  have sz := insertAt_size es p (hx, Value.ref x)
  have psz := insertAt_size t.place p j
  generalize SetTable.insertAt es p (hx, Value.ref x) = es1 at pm sz
  rw [Array.toList_push] at pm
  have tail : ∀ t2 : SetTable, t2.mask = t.mask → t2.place = SetTable.insertAt t.place p j → t2.dummies = #[] → t2.led = t.led → t2.plain = false →
      wpAny (model prog w) A (do
        storeSet a es1 t2
        if (!false && t2.tooFull) = true then do
            setRelay a (SetTable.grown (es.size + 1))
            pure true
          else pure true) Q E s := by
    intro t2 e1 e2 e3 e4 e5
    have z1 : es1.size ≤ sizeLine := fits_of_scanBound (by show _ < 4096; omega)
    refine wpAny_bind (wpAny_storeSet_of hS.at_ hS.data ?_ z1)
    have g1 := putSet_at (es' := es1) (t' := t2) hS.at_ hS.data
    have sb1 := Heap.SameBut.update s.heap a (Obj.putSet es1 t2)
    have nt : ∀ b u, s.heap.get? b = some u → u.cls = .type "tuple" → b ≠ a := fun b u eb hc z => by
      subst z
      rw [hS.at_] at eb
      cases eb
      rw [hS.ex.1] at hc
      injection hc with z2
      exact absurd z2 (by decide)
    have els : ∀ (h' : Heap), Heap.SameBut a s.heap h' → ∀ e ∈ es1.toList, ElT prog w h' (ks ++ [k]) e.2 := fun h' sb e he => by
      refine ElT.keep (h := s.heap) ?_ fun b u eb hc => sb.extBut b u (nt b u eb hc) eb
      rcases List.mem_append.mp (pm.mem_iff.mp he) with q | q
      · exact (hS.els e q).more fun z hz => by simp [hz]
      · rw [List.mem_singleton] at q
        subst q
        exact ⟨x, k, rfl, hkey, by simp⟩
    have pm2 : (es1.toList.map (·.2)).Perm ((rs ++ [x]).map Value.ref) := by
      refine (pm.map _).trans ?_
      rw [List.map_append, List.map_append]
      exact hS.perm.append_right _
    have psz2 : t2.place.size = es1.size := by rw [e2, psz, hS.tab.size, sz]
    rcases hS.tab.mask with ⟨em, z⟩ | ⟨em, z⟩
    · by_cases h4 : es.size = 4
      · rw [if_pos (show (!false && t2.tooFull) = true by simp [SetTable.tooFull, SetTable.fill, psz2, e3, e1, em, sz, h4])]
        have ft : t2.fits es1.size = true := by simp [SetTable.fits, SetTable.fill, psz2, e3, e1, em, sz, h4]
        have sz5 : es1.size = 5 := by omega
        obtain ⟨t3, order, el, po, tk3, l3, p3⟩ := laid_ok t2 (es1.map (·.1)) (by rw [Array.size_map]; exact sz5)
        rw [h4]
        unfold setRelay
        refine wpAny_bind (wpAny_bind (wpAny_setState_of g1 rfl ft ?_))
        dsimp only
        refine wpAny_ite_false (by rw [sizeLine_eq]; decide) ?_
        rw [el]
        have pe : (order.filterMap (es1[·]?)).toList.Perm es1.toList := by
          rw [Array.toList_filterMap]
          refine (po.filterMap _).trans ?_
          rw [← sz5, filterMap_getElem?_range]
        generalize hes2 : order.filterMap (es1[·]?) = es2 at pe
        have sz2 : es2.size = es1.size := by
          have := pe.length_eq
          simpa using this
        refine wpAny_bind ?_
        show wpAny _ _ (if ((order.filterMap (es1[·]?)).size != es1.size) = true then _ else _) _ _ _
        rw [hes2]
        refine wpAny_ite_false (by rw [sz2]; simp) (wpAny_pure ?_)
        refine wpAny_storeSet_of g1 rfl ?_ (by rw [sz2]; exact z1)
        have g2 := putSet_at (es' := es2) (t' := t3) g1 rfl
        have sb2 := sb1.trans (Heap.SameBut.update _ a (Obj.putSet es2 t3))
        refine wpAny_pure (h _ _ es2 _ t3 sb2 ⟨g2, hS.ex, rfl, (pe.map _).trans pm2, fun e he => els _ sb2 e (pe.mem_iff.mp he), by rw [sz2, sz5]; exact tk3, by rw [l3, e4]; exact hS.led.1, .inr (by rw [p3]; exact e5)⟩)
      · rw [if_neg (show ¬ ((!false && t2.tooFull) = true) by simp [SetTable.tooFull, SetTable.fill, psz2, e3, e1, em, sz]; omega)]
        exact wpAny_pure (h _ _ es1 _ t2 sb1 ⟨g1, hS.ex, rfl, pm2, els _ sb1, ⟨psz2, e3, .inl ⟨by rw [e1, em], by omega⟩⟩, by rw [e4]; exact hS.led.1, .inr e5⟩)
    · rw [if_neg (show ¬ ((!false && t2.tooFull) = true) by simp [SetTable.tooFull, SetTable.fill, psz2, e3, e1, em, sz]; omega)]
      exact wpAny_pure (h _ _ es1 _ t2 sb1 ⟨g1, hS.ex, rfl, pm2, els _ sb1, ⟨psz2, e3, .inr ⟨by rw [e1, em], by omega⟩⟩, by rw [e4]; exact hS.led.1, .inr e5⟩)
  split
  · refine wpAny_bind (hashNot hkey hne ?_)
    rw [if_neg (by simp)]
    exact tail _ rfl rfl rfl rfl rfl
  · next hpl =>
    refine wpAny_bind (wpAny_pure ?_)
    rw [if_pos rfl]
    exact tail _ rfl rfl rfl rfl (by simpa using hpl)
end
end L2

set_option linter.all false
set_option maxRecDepth 100000
set_option Elab.async false
set_option maxHeartbeats 4000000
namespace L2
open PySem PyProof.Rows
theorem tk_keep {prog : Program} {w : World} {h h' : Heap} {q : List Str} {r : Addr} (x : IsTupleKey (PySem.strKind prog w) h q r) (k : ∀ o, h.get? r = some o → h'.get? r = some o) : IsTupleKey (PySem.strKind prog w) h' q r := by
  obtain ⟨o, items, n, ho, hc, z⟩ := x
  exact ⟨o, items, n, k o ho, hc, z⟩
def HasT (prog : Program) (w : World) (h : Heap) (S : Addr) (rs : List Addr) (ks : List (List Str)) : Prop := ∃ o es ep t, SetT prog w h S rs ks o es ep t
theorem SetT.moved {prog : Program} {w : World} {h h' : Heap} {S : Addr} {rs : List Addr} {ks : List (List Str)} {o : Obj} {es : Array (Int × Value)} {ep : Nat} {t : SetTable} (x : SetT prog w h S rs ks o es ep t) (k : ∀ b u, (b = S ∨ b ∈ rs) → h.get? b = some u → h'.get? b = some u) : SetT prog w h' S rs ks o es ep t := by
  refine ⟨k S o (.inl rfl) x.at_, x.ex, x.data, x.perm, fun e he => ?_, x.tab, x.led⟩
  obtain ⟨b, q, e1, z, m⟩ := x.els e he
  have hb : b ∈ rs := by
    have := x.perm.mem_iff.mp (List.mem_map.mpr ⟨e, he, e1⟩)
    obtain ⟨b', hb', e2⟩ := List.mem_map.mp this
    cases e2
    exact hb'
  exact ⟨b, q, e1, tk_keep z fun u hu => k b u (.inr hb) hu, m⟩
theorem HasT.moved {prog : Program} {w : World} {h h' : Heap} {S : Addr} {rs : List Addr} {ks : List (List Str)} (x : HasT prog w h S rs ks) (k : ∀ b u, (b = S ∨ b ∈ rs) → h.get? b = some u → h'.get? b = some u) : HasT prog w h' S rs ks := by
  obtain ⟨o, es, ep, t, x⟩ := x
  exact ⟨o, es, ep, t, x.moved k⟩
theorem loop_T {prog : Program} {w : World} {A : Around} {R : Result → Shared → Prop} {I : Addr} {fp wr : List Addr} {G : Array GenState → Array GenState → Prop} {n : Nat} {P : Nat → Value → Prop} {St : Nat → Shared → Prop}
    (W : WalksS prog w A.in1 I fp wr G n P St) (S : Addr) (hSf : ¬ S ∈ fp) (rs : List Addr) (ks : List (List Str)) (hrl : rs.length = n) (hkl : ks.length = n) (hval : ∀ (i : Nat) (v : Value), P i v → ∃ r, rs[i]? = some r ∧ v = Value.ref r) (hn : n ≤ 18) (hnd : ks.Nodup) (hne : ∀ k ∈ ks, k ≠ []) (hout : ∀ r ∈ rs, r ∉ S :: wr) (hu : A.units + 12 < cLine) :
    ∀ (k i : Nat) (s : Shared), n - i = k → i ≤ n → St i s → (∀ (j : Nat) (r : Addr) (q : List Str), rs[j]? = some r → ks[j]? = some q → IsTupleKey (PySem.strKind prog w) s.heap q r) → HasT prog w s.heap S (rs.take i) (ks.take i) →
      (∀ s' : Shared, Moved (S :: wr) G s s' → HasT prog w s'.heap S rs ks → R (Except.ok (Flow.ret Value.none)) s') →
      codeAny (model prog w) A (Code.builtin "set.update.loop" { pos := [Value.ref S, Value.ref I] }) R s := by
  have hSw : ¬ S ∈ wr := fun h => hSf (W.sub S h)
  have hsub : ∀ b, b ∈ wr → b ∈ S :: wr := fun b hb => List.mem_cons_of_mem S hb
  intro k
  induction k with
  | zero =>
    intro i s hk hi hst hT hS hR
    have hin : i = n := by omega
    subst hin
    refine codeAny_builtin PyProof.Rows.F.entry_set_update_loop ?_
    rw [Around.under_plainId PyProof.Rows.F.plain_set_update_loop]
    refine wpAny_bind (W.done s _ _ hst fun s' hm => ?_)
    refine wpAny_pure (hR s' (Moved.mono hm hsub) ?_)
    rw [List.take_of_length_le (by omega), List.take_of_length_le (by omega)] at hS
    refine hS.moved fun b u hb e => hm.heap b u ?_ e
    rcases hb with rfl | hb
    · exact hSw
    · exact fun z => hout b hb (hsub b z)
  | succ k ih =>
    intro i s hk hi hst hT hS hR
    have hlt : i < n := by omega
    refine codeAny_builtin PyProof.Rows.F.entry_set_update_loop ?_
    rw [Around.under_plainId PyProof.Rows.F.plain_set_update_loop]
    refine wpAny_bind (W.item i s _ _ hlt hst fun v s' hP hst' hm => ?_)
    obtain ⟨r, hr, rfl⟩ := hval i v hP
    have hki : i < ks.length := by omega
    obtain ⟨q, hq⟩ : ∃ q, ks[i]? = some q := ⟨_, List.getElem?_eq_getElem hki⟩
    have keep : ∀ b u, (b = S ∨ b ∈ rs) → s.heap.get? b = some u → s'.heap.get? b = some u := fun b u hb e => hm.heap b u (by
      rcases hb with rfl | hb
      · exact hSw
      · exact fun z => hout b hb (hsub b z)) e
    have hS' : HasT prog w s'.heap S (rs.take i) (ks.take i) := hS.moved fun b u hb e => keep b u (hb.imp id fun z => List.mem_of_mem_take z) e
    have hT' : ∀ (j : Nat) (r : Addr) (q : List Str), rs[j]? = some r → ks[j]? = some q → IsTupleKey (PySem.strKind prog w) s'.heap q r := fun j r q e1 e2 => tk_keep (hT j r q e1 e2) fun u hu => keep r u (.inr (List.mem_of_getElem? e1)) hu
    obtain ⟨o, es, ep, t, hS1⟩ := hS'
    have hqm : q ∉ ks.take i := fun z => by
      obtain ⟨j, hj, e⟩ := List.mem_iff_getElem.mp z
      have hj' : j < i := by
        have : j < min i ks.length := by simpa using hj
        omega
      have e1 : ks[j]? = some q := by
        rw [← e, List.getElem_take, List.getElem?_eq_getElem (by omega)]
      have := (List.getElem?_inj (by omega) hnd).mp (e1.trans hq.symm)
      omega
    refine wpAny_bind (wpAny_holding (wpAny_holding (wpAny_bind (wpAny_pyHash_tuple (by show A.units + 1 < cLine; omega) (hT' i r q hr hq) ?_))))
    have rnot : r ≠ S := fun z => hout r (List.mem_of_getElem? hr) (by rw [z]; simp)
    refine add_T (by show A.units + 1 < cLine; omega) hS1 (hT' i r q hr hq) (hne q (List.mem_of_getElem? hq)) hqm (by rw [List.length_take]; omega) fun h' o' es' ep' t' hsb hS2 => ?_
    refine wpAny_pure ⟨plainId_quiet PyProof.Rows.F.plain_set_update_loop _, ?_⟩
    have e1 : rs.take i ++ [r] = rs.take (i + 1) := by
      rw [List.take_add_one, hr]
      rfl
    have e2 : ks.take i ++ [q] = ks.take (i + 1) := by
      rw [List.take_add_one, hq]
      rfl
    rw [e1, e2] at hS2
    refine ih (i + 1) _ (by omega) hlt (W.frame (i + 1) s' h' _ hst' (Nat.le_add_right s'.toks _) fun b hb o e => ?_) (fun j r' q' e1 e2 => ?_) ⟨o', es', ep', t', hS2⟩ fun s'' hm'' hS'' => ?_
    · rw [hsb.right b fun h => hSf (h ▸ hb)]
      exact e
    · refine tk_keep (hT' j r' q' e1 e2) fun u hu => ?_
      rw [hsb.right r' fun z => hout r' (List.mem_of_getElem? e1) (by rw [z]; simp)]
      exact hu
    · refine hR s'' (Moved.trans W.gtrans (Moved.then_heap (Moved.mono hm hsub) (Nat.le_add_right s'.toks _) fun b o hb e => ?_) hm'') hS''
      rw [hsb.right b fun h => hb (h ▸ List.mem_cons_self)]
      exact e
theorem call_set_TL {prog : Program} {w : World} {A : Around} {E : Value → Shared → Prop} {s : Shared} {l : Addr} {rs : List Addr} {ks : List (List Str)} {Q : Value → Shared → Prop} (hh : A.handled = none) (hu : A.units + 16 < cLine) (hl : s.heap.IsList l (rs.map Value.ref).toArray)
    (hkl : ks.length = rs.length) (hn : rs.length ≤ 18) (hnd : ks.Nodup) (hne : ∀ k ∈ ks, k ≠ []) (hTk : ∀ (j : Nat) (r : Addr) (q : List Str), rs[j]? = some r → ks[j]? = some q → IsTupleKey (PySem.strKind prog w) s.heap q r)
    (h : ∀ (h' : Heap) (tk : Nat), HasT prog w h' s.heap.objs.size rs ks →
      (∀ (b : Nat) (o : Obj), b < s.heap.objs.size → s.heap.get? b = some o → h'.get? b = some o) → Q (Value.ref s.heap.objs.size) { s with heap := h', toks := tk }) :
    wpAny (model prog w) A (call (Value.type "set") [Value.ref l]) Q E s := by
  obtain ⟨c, tl, hmro⟩ := F.called_set.mro
  have hmade := F.called_set.made
  have hsub := F.called_set.sub
  have hct := F.typeCall_set_1 (Value.ref l)
  refine wpAny_call (codeAny_of_tree (wpAny_pure ⟨Code.quiet_builtin _ (by decide +kernel), codeAny_builtin F.entry_type_call ?_⟩))
  rw [Around.under_plain (weight_type_call_type "set" [Value.ref l] []) rfl]
  unfold Builtin.«type.__call__»
  dsimp only
  refine wpAny_ite_false (by first | rfl | decide +kernel) ?_
  refine wpAny_ite_false (by first | rfl | decide +kernel) ?_
  refine wpAny_bind (wpAny_of_eq hct ?_)
  refine wpAny_bind (wpAny_of_eq hmro ?_)
  refine wpAny_ite_false (by first | rfl | decide +kernel) ?_
  refine wpAny_bind (wpAny_of_eq hmade ?_)
  refine wpAny_bind (wpAny_pure ?_)
  refine wpAny_bind (wpAny_holding (wpAny_call (codeAny_mono (new_P (Q₁ := fun obj s₁ => ∃ led, led = (!w.params.followText "set-order") ∧ obj = Value.ref s.heap.objs.size ∧ s₁ = { s with heap := s.heap.push { cls := Value.type "set", data := Data.set #[] 0 (SetTable.fresh 0 0 led) } }) (E := E) (Value.ref l) ⟨_, rfl, rfl, rfl⟩) fun r s₁ hr => ?_)))
  cases r with
  | error e => exact hr
  | ok fl =>
    cases fl with
    | next => exact hr.elim
    | brk => exact hr.elim
    | cont => exact hr.elim
    | ret v =>
      obtain ⟨led, hled, rfl, rfl⟩ := hr
      have hS := Heap.get?_push_size s.heap (o := { cls := Value.type "set", data := Data.set #[] 0 (SetTable.fresh 0 0 led) }) rfl
      have hT : Shared.TypeIs { s with heap := s.heap.push { cls := Value.type "set", data := Data.set #[] 0 (SetTable.fresh 0 0 led) } } (Value.ref s.heap.objs.size) "set" := ⟨_, hS, rfl⟩
      have hli := F.called_set.init.lookup
      have hbi := F.called_set.init.bind (Value.ref s.heap.objs.size)
      obtain ⟨ol, hol, hcl, nl, hdl⟩ := hl
      have hol' := Heap.get?_push_of_some { cls := Value.type "set", data := Data.set #[] 0 (SetTable.fresh 0 0 led) } hol
      have hl1 : Heap.IsList (s.heap.push { cls := Value.type "set", data := Data.set #[] 0 (SetTable.fresh 0 0 led) }) l (rs.map Value.ref).toArray := ⟨ol, hol', hcl, nl, hdl⟩
      refine wpAny_bind (wpAny_isInstance hT hsub ?_)
      refine wpAny_ite_false (by first | rfl | decide +kernel) ?_
      refine wpAny_bind (wpAny_holding ?_)
      unfold callSpecial?
      refine wpAny_bind (wpAny_specialOf hT hli ?_)
      dsimp only
      refine wpAny_holding ?_
      refine wpAny_bind (wpAny_of_eq hbi ?_)
      refine wpAny_bind (wpAny_call (codeAny_mono (codeAny_call_builtin F.called_set.init.plain F.entry_set_init (R := fun r s' => match r with | .ok (.ret v) => v = .none ∧ Q (.ref s.heap.objs.size) s' | _ => False) (check_set_init_1 hT ?_)) fun r s₁ hr => ?_))
      · unfold Builtin.«set.__init__»
        refine wpAny_bind (wpAny_ite_true (by first | rfl | decide +kernel) (wpAny_pure ?_))
        refine wpAny_bind (wpAny_bind (wpAny_bind (wpAny_typeOf hT (wpAny_ite_false (by first | rfl | decide +kernel) (wpAny_pure ?_)))))
        refine wpAny_pure ?_
        refine wpAny_bind ?_
        unfold checkCount
        refine wpAny_ite_false (by first | rfl | decide +kernel) ?_
        refine wpAny_ite_false (by first | rfl | decide +kernel) ?_
        refine wpAny_ite_false (by first | rfl | decide +kernel) (wpAny_pure ?_)
        refine wpAny_bind (wpAny_pure ?_)
        refine wpAny_bind ?_
        unfold setUsed setState
        refine wpAny_bind (wpAny_bind (wpAny_load' hS ?_))
        dsimp only
        refine wpAny_ite_false (by first | rfl | decide +kernel) (wpAny_pure ?_)
        refine wpAny_pure ?_
        refine wpAny_ite_false (by first | rfl | decide +kernel) ?_
        show wpAny _ _ (do let __r ← Builtin.Frozenset.updateFrom "set.__init__" s.heap.objs.size (Value.ref l); ret Value.none) _ _ _
        refine wpAny_bind ?_
        unfold Builtin.Frozenset.updateFrom
        refine wpAny_bind ?_
        have hTl : Shared.TypeIs { s with heap := s.heap.push { cls := Value.type "set", data := Data.set #[] 0 (SetTable.fresh 0 0 led) } } (Value.ref l) "list" := ⟨ol, hol', hcl⟩
        unfold Builtin.Frozenset.isAnySet
        refine wpAny_bind (wpAny_isInstance hTl F.sub_list_set ?_)
        refine wpAny_isInstance hTl F.sub_list_frozenset ?_
        refine wpAny_ite_false (by first | rfl | decide +kernel) ?_
        refine wpAny_bind (wpAny_typeOf hTl ?_)
        refine wpAny_ite_false (by first | rfl | decide +kernel) ?_
        refine wpAny_bind (wpAny_pyIter_list hl1 ?_)
        refine wpAny_bind (wpAny_runValue ?_)
        have hlS : l < s.heap.objs.size := Heap.lt_size hol
        have hsz : (s.heap.push { cls := Value.type "set", data := Data.set #[] 0 (SetTable.fresh 0 0 led) }).objs.size = s.heap.objs.size + 1 := Heap.size_push _ _
        have hneI : l ≠ (s.heap.push { cls := Value.type "set", data := Data.set #[] 0 (SetTable.fresh 0 0 led) }).objs.size := by rw [hsz]; exact Nat.ne_of_lt (Nat.lt_succ_of_lt hlS)
        have hSf : ¬ s.heap.objs.size ∈ [(s.heap.push { cls := Value.type "set", data := Data.set #[] 0 (SetTable.fresh 0 0 led) }).objs.size, l] := by
          rw [hsz]
          simp only [List.mem_cons, List.not_mem_nil, or_false, not_or]
          exact ⟨Nat.ne_of_lt (Nat.lt_succ_self _), Nat.ne_of_gt hlS⟩
        have hh3 : A.in1.in1.in1.handled = none := hh
        have hrS : ∀ r ∈ rs, r < s.heap.objs.size := fun r hr => by
          obtain ⟨j, hj, e⟩ := List.mem_iff_getElem.mp hr
          obtain ⟨o, _, _, ho, _⟩ := hTk j r ks[j] (by rw [List.getElem?_eq_getElem hj, e]) (by rw [List.getElem?_eq_getElem])
          exact Heap.lt_size ho
        have hsz' : (rs.map Value.ref).toArray.size = rs.length := by simp
        refine loop_T (Walks.toS (Walks.list hh3 _ l hneI (rs.map Value.ref).toArray)) s.heap.objs.size hSf rs ks hsz'.symm (hkl.trans hsz'.symm) (fun i v hv => ?_) (by rw [hsz']; exact hn) hnd hne (fun r hr => ?_) (by show A.units + 1 + 1 + 12 < cLine; omega) ((rs.map Value.ref).toArray.size - 0) 0 _ rfl (Nat.zero_le _) ⟨⟨_, Heap.get?_push_size _ rfl, rfl, rfl⟩, Heap.IsList.push hl1 _⟩ (fun j r q e1 e2 => tk_keep (hTk j r q e1 e2) fun o ho => Heap.get?_push_of_some _ (Heap.get?_push_of_some _ ho)) ?_ ?_
        · have hv' : (rs.map Value.ref)[i]? = some v := by simpa using hv
          rw [List.getElem?_map] at hv'
          obtain ⟨r, e1, e2⟩ := Option.map_eq_some_iff.mp hv'
          exact ⟨r, e1, e2.symm⟩
        · have := hrS r hr
          rw [hsz]
          simp only [List.mem_cons, List.not_mem_nil, or_false, not_or]
          exact ⟨Nat.ne_of_lt this, Nat.ne_of_lt (Nat.lt_succ_of_lt this)⟩
        · have hget := Heap.get?_push_of_some { cls := Value.type "list_iterator", data := Data.fields #[Value.ref l, Value.int 0 0] } hS
          exact ⟨_, #[], 0, _, hget, ⟨rfl, rfl, rfl⟩, rfl, (by simp), (fun e he => by simp at he), ⟨rfl, rfl, .inl ⟨rfl, by simp⟩⟩, hled, .inl rfl⟩
        · rintro ⟨h', g', d', tk', os'⟩ hm hS'
          refine wpAny_pure (wpAny_pure ⟨rfl, ?_⟩)
          have e1 := hm.gens
          have e2 := hm.drawn
          have e3 := hm.os
          dsimp only at e1 e2 e3
          subst e1 e2 e3
          refine h h' tk' hS' fun b o hb e => hm.heap b o ?_ ?_
          · simp only [List.mem_cons, List.not_mem_nil, or_false, not_or]
            rw [hsz]
            exact ⟨Nat.ne_of_lt hb, Nat.ne_of_lt (Nat.lt_succ_of_lt hb)⟩
          · exact Heap.get?_push_of_some _ (Heap.get?_push_of_some _ e)
      · cases r with
        | error e => exact hr.elim
        | ok fl =>
          cases fl with
          | next => exact hr.elim
          | brk => exact hr.elim
          | cont => exact hr.elim
          | ret v =>
            obtain ⟨rfl, q⟩ := hr
            refine wpAny_pure ?_
            refine wpAny_ite_false (by first | rfl | decide +kernel) ?_
            exact wpAny_pure q
end L2

set_option linter.all false
set_option maxRecDepth 100000
set_option Elab.async false
set_option maxHeartbeats 4000000
namespace L2
open PySem PySem.Spec PyProof.Rows PySem.W
abbrev P2 := Str × Str
def lex2 (x y : P2) : Bool := if x.1 == y.1 then (if x.2 == y.2 then false else decide (x.2.cps.toList < y.2.cps.toList)) else decide (x.1.cps.toList < y.1.cps.toList)
def PairT (h : Heap) (v : Value) (x : P2) : Prop := ∃ t u1 u2, v = .ref t ∧ IsTup h t #[.str x.1 u1, .str x.2 u2]
section
variable {prog : Program} {w : World} {A : Around} {E : Value → Shared → Prop} {s : Shared}
theorem lt2 {fb : Bool} {v1 v2 : Value} {x y : P2} {C : Bool → Shared → Prop} (hx : PairT s.heap v1 x) (hy : PairT s.heap v2 y) (h : C (lex2 x y) s) : wpAny (model prog w) A (keyLt' (tuples' fb) v1 v2) C E s := by
  obtain ⟨a1, b1⟩ := x
  obtain ⟨a2, b2⟩ := y
  obtain ⟨p1, t1, t2, rfl, hx⟩ := hx
  obtain ⟨p2, u1, u2, rfl, hy⟩ := hy
  dsimp only at hx hy
  unfold lex2 at h
  dsimp only at h
  show wpAny _ _ (Builtin.List.listItems (.ref p1) >>= _) _ _ _
  refine wpAny_bind (items_tup hx ?_)
  refine wpAny_bind (items_tup hy ?_)
  dsimp only [List.zip_cons_cons, List.zipIdx_cons, List.zip_nil_left]
  rw [List.zipIdx_nil]
  have e2 : ∀ {Q : Bool → Shared → Prop} {a b : Str} {t u : Tok}, Q (a == b) s → wpAny (model prog w) A (eqBool (.str a t) (.str b u)) Q E s := fun {Q a b t u} q => SeqAt.EqAt.str_str a t b u prog w _ _ q
  refine wpAny_bind ?_
  rw [List.forIn_cons]
  refine wpAny_bind (wpAny_bind (e2 ?_))
  cases hz : (a1 == a2) with
  | false =>
    rw [hz] at h
    refine wpAny_ite_true (by decide) ?_
    refine wpAny_bind ?_
    show wpAny _ _ (oneLt' (fb && 0 == 0) (Value.str a1 t1) (Value.str a2 u1)) _ _ _
    cases fb
    · exact ltX_str (wpAny_pure (wpAny_pure (wpAny_pure h)))
    · exact oneLt_str (wpAny_pure (wpAny_pure (wpAny_pure h)))
  | true =>
    rw [hz, if_pos rfl] at h
    refine wpAny_ite_false (by decide) (wpAny_pure ?_)
    dsimp only
    rw [List.forIn_cons]
    refine wpAny_bind (wpAny_bind (e2 ?_))
    cases hz2 : (b1 == b2) with
    | false =>
      rw [hz2] at h
      refine wpAny_ite_true (by decide) ?_
      refine wpAny_bind ?_
      have ez : (fb && ((0 + 1 : Nat) == 0)) = false := by cases fb <;> rfl
      show wpAny _ _ (oneLt' (fb && (0 + 1 == 0)) (Value.str b1 t2) (Value.str b2 u2)) _ _ _
      rw [ez]
      exact ltX_str (wpAny_pure (wpAny_pure (wpAny_pure h)))
    | true =>
      rw [hz2, if_pos rfl] at h
      refine wpAny_ite_false (by decide) (wpAny_pure ?_)
      dsimp only
      rw [List.forIn_nil]
      exact wpAny_pure (wpAny_pure h)
end
def kord2 (ps : List P2) : List Nat := (krun (fun i j => lex2 (ps.getD i ("", "")) (ps.getD j ("", ""))) (kas_sort ps.length)).toList
theorem kord2_perm (ps : List P2) (h : 0 < ps.length) : (kord2 ps).Perm (List.range ps.length) := by
  have := KAll.run (fun i j => lex2 (ps.getD i ("", "")) (ps.getD j ("", ""))) (kall_sort h)
  exact Array.perm_iff_toList_perm.mp this
section
variable {prog : Program} {w : World} {A : Around} {E : Value → Shared → Prop} {s : Shared}
theorem kind2 {ks : List Value} {Q : SortKind → Shared → Prop} (hk : ∀ v ∈ ks, ∃ x, PairT s.heap v x) (h : ∀ b, Q (tuples' b) s) : wpAny (model prog w) A (keyKind' ks.toArray) Q E s := by
  rw [keyKind'_eq, Array.mapM_eq_mapM_toList]
  refine wpAny_bind ?_
  rw [← bind_pure_comp]
  refine wpAny_bind (mapM_any (R := fun _ r => ∃ a u, r = some (Value.str a u)) ks (fun v hv => ?_) fun rs hl hrs => wpAny_pure ?_)
  · obtain ⟨x, t, u1, u2, rfl, ht⟩ := hk v hv
    refine ⟨some (.str x.1 u1), ⟨x.1, u1, rfl⟩, fun Q' q => ?_⟩
    rw [kas_first_eq]
    refine wpAny_bind (wpAny_typeOf ht.typeIs ?_)
    refine wpAny_ite_false (by decide) ?_
    refine wpAny_bind (items_tup ht ?_)
    exact wpAny_pure q
  · have hall : (rs.toArray.all fun x => x.isSome) = true := by
      rw [List.all_toArray, List.all_eq_true]
      intro r hr
      obtain ⟨v, _, a, u, rfl⟩ := hrs r hr
      rfl
    refine wpAny_ite_true (by rw [hall]; rfl) ?_
    refine wpAny_bind (wpAny_rule ?_)
    rw [oneTypeOnly'_eq, Array.mapM_eq_mapM_toList]
    refine wpAny_bind ?_
    refine wpAny_bind ?_
    rw [← bind_pure_comp]
    refine wpAny_bind (mapM_any (R := fun _ r => r = Value.type "str") _ (fun v hv => ?_) fun ts htl hts => wpAny_pure ?_)
    · have hv' : some v ∈ rs := by simpa using hv
      obtain ⟨_, _, a, u, e⟩ := hrs _ hv'
      cases e
      exact ⟨_, rfl, fun Q' q => wpAny_typeOf (typeIs_str s a u) q⟩
    · cases hts0 : ts.toArray[0]? with
      | none => exact wpAny_pure (wpAny_pure (h _))
      | some t => exact wpAny_pure (wpAny_pure (h _))
theorem runs2 {b : Bool} {vs : List Value} {ps : List P2} {Q : Unit × SortSt → Shared → Prop} (hl : vs.length = ps.length) (h2 : 2 ≤ vs.length) (h64 : vs.length < 64) (hk : ∀ i, i < vs.length → PairT s.heap (vs.getD i .none) (ps.getD i ("", "")))
    (h : ∀ st : SortSt, (arrOf st).map (·.2) = ((kord2 ps).map fun i => vs.getD i .none).toArray → failedOf st = none → Q ((), st) s) : wpAny (model prog w) A (sortRuns'.run (SortSt.mk' (tuples' b) (vs.toArray.zip vs.toArray) #[] 7 none)) Q E s := by
  have hz : (vs.toArray.zip vs.toArray).size = vs.length := by simp
  have main := kas_runs (prog := prog) (w := w) (A := A) (E := E) (κ := tuples' b) (it := vs.toArray.zip vs.toArray) (n := vs.length) (s := s) (Q := fun u st s' => s' = s ∧ Q (u, st) s) (G := fun p s' => p.toList = kord2 ps ∧ s' = s) h2 h64 (fun p' st' s' hsz ha hf hG => ?_)
    (KAll.wpO (n := vs.length) (P := Pm vs.length) (o := fun i j => lex2 (ps.getD i ("", "")) (ps.getD j ("", ""))) (fun i j C hi hj hC => ?_) (kall_sort (by omega)) ⟨by unfold kord2; rw [hl], rfl⟩)
  · have e1 : kas_st (tuples' b) (vs.toArray.zip vs.toArray) (List.range vs.length).toArray = SortSt.mk' (tuples' b) (vs.toArray.zip vs.toArray) #[] 7 none := by
      unfold kas_st
      have := kas_range (vs.toArray.zip vs.toArray)
      rw [hz] at this
      rw [this]
    rw [e1] at main
    exact wpAny_mono main (fun r s' z => by
      obtain ⟨rfl, q⟩ := z
      exact q) fun e s' z => z
  · obtain ⟨hp, rfl⟩ := hG
    refine ⟨rfl, h st' ?_ hf⟩
    rw [ha]
    apply Array.toList_inj.mp
    rw [Array.map_map, Array.toList_map, hp]
    show _ = (kord2 ps).map _
    refine List.map_congr_left fun i _ => ?_
    show (kas_item (pairsOf vs) i).2 = _
    rw [kas_item_eq]
  · unfold kas_cmp
    show wpAny _ _ (keyLt' _ (kas_item (pairsOf vs) i).1 (kas_item (pairsOf vs) j).1) _ _ _
    rw [kas_item_eq, kas_item_eq]
    exact lt2 (hk i hi) (hk j hj) hC
theorem PairT.keep {h h' : Heap} {v : Value} {x : P2} (p : PairT h v x) (k : ∀ b o, h.get? b = some o → o.cls = .type "tuple" → h'.get? b = some o) : PairT h' v x := by
  obtain ⟨t, u1, u2, e, o, ho, hc, r⟩ := p
  exact ⟨t, u1, u2, e, o, k t o ho hc, hc, r⟩
theorem list_sort2 {a : Addr} {vs : List Value} {ps : List P2} {n : Nat} {P : PySem.Fin → Shared → Prop} (gA : s.heap.get? a = some (seqObj "list" vs.toArray n)) (hl : vs.length = ps.length) (h2 : 2 ≤ vs.length) (h64 : vs.length < 64) (hk : ∀ i, i < vs.length → PairT s.heap (vs.getD i .none) (ps.getD i ("", "")))
    (h : ∀ (h' : Heap) (e : Nat), (∀ b u, b ≠ a → s.heap.get? b = some u → h'.get? b = some u) → h'.get? a = some (seqObj "list" ((kord2 ps).map fun i => vs.getD i .none).toArray e) → P (.done (.ret .none)) { s with heap := h' }) :
    wpAny (model prog w) A (Builtin.«list.sort» ⟨[.ref a], []⟩) P E s := by
  have zz : ∀ m, m ≤ vs.length → m ≤ sizeLine := fun m hm => sizeLine_big (by omega)
  rw [list_sort_plain]
  refine wpAny_bind (listItems_at gA rfl ?_)
  refine wpAny_bind (listUpdate_at gA rfl ?_ (by rw [List.size_toArray]; exact zz _ (Nat.le_refl _)) (Nat.zero_le _))
  have gA1 := get?_update_seq gA (fun _ => #[])
  generalize (if ((#[] : Array Value).size == vs.toArray.size) = true then n else n + 1) = e1 at gA1
  have old1 : ∀ b u, b ≠ a → s.heap.get? b = some u → (s.heap.update a (Obj.mapSeq fun _ => #[])).get? b = some u := fun b u nb e => by
    rw [Heap.get?_update_ne _ _ _ _ nb]
    exact e
  dsimp only
  generalize s.heap.update a (Obj.mapSeq fun _ => #[]) = h1 at gA1 old1 ⊢
  refine wpAny_bind (seqEpoch_at gA1 rfl ?_)
  refine wpAny_bind (wpAny_newTuple ?_ (by simpa using zz _ (Nat.le_refl _)))
  refine wpAny_bind (wpAny_newList ?_ (Nat.zero_le _))
  refine wpAny_holding ?_
  have gA2 : ((h1.push { cls := Value.type "tuple", data := Data.seq vs.toArray.toList.toArray }).push { cls := Value.type "list", data := Data.seq ([] : List Value).toArray }).get? a = some (seqObj "list" #[] e1) := Heap.get?_push_of_some _ (Heap.get?_push_of_some _ gA1)
  have old2 : ∀ b u, b ≠ a → s.heap.get? b = some u → ((h1.push { cls := Value.type "tuple", data := Data.seq vs.toArray.toList.toArray }).push { cls := Value.type "list", data := Data.seq ([] : List Value).toArray }).get? b = some u := fun b u nb e => Heap.get?_push_of_some _ (Heap.get?_push_of_some _ (old1 b u nb e))
  dsimp only
  generalize (h1.push { cls := Value.type "tuple", data := Data.seq vs.toArray.toList.toArray }).push { cls := Value.type "list", data := Data.seq ([] : List Value).toArray } = h3 at gA2 old2 ⊢
  have hk2 : ∀ i, i < vs.length → PairT h3 (vs.getD i .none) (ps.getD i ("", "")) := fun i hi => (hk i hi).keep fun b o e hc => old2 b o (fun z => by
    rw [z, gA] at e
    cases e
    have hc' : (Value.type "list") = Value.type "tuple" := hc
    injection hc' with z2
    exact absurd z2 (by decide)) e
  have hsz : ¬ vs.toArray.size < 2 := by simpa using Nat.not_lt.mpr h2
  rw [if_neg hsz, if_neg hsz]
  refine wpAny_bind (kind2 (fun v hv => ?_) fun b => ?_)
  · obtain ⟨i, hi, rfl⟩ := List.mem_iff_getElem.mp hv
    have := hk2 i hi
    rw [List.getD_eq_getElem?_getD, List.getElem?_eq_getElem hi] at this
    exact ⟨_, this⟩
  · refine wpAny_bind (runs2 hl h2 h64 hk2 fun st hst hf => ?_)
    dsimp only
    refine wpAny_bind (seqEpoch_at gA2 rfl ?_)
    have hkl : ((kord2 ps).map fun i => vs.getD i .none).length = vs.length := by rw [List.length_map, (kord2_perm ps (by omega)).length_eq, List.length_range, hl]
    refine wpAny_bind (listUpdate_at gA2 rfl ?_ (Nat.zero_le _) (by show ((arrOf st).map (·.2)).size ≤ _; rw [hst, List.size_toArray, hkl]; exact Nat.le_succ_of_le (zz _ (Nat.le_refl _))))
    rw [hf]
    refine wpAny_ite_false (by simp) ?_
    obtain ⟨e3, gA3⟩ : ∃ e3, (h3.update a (Obj.mapSeq fun _ => (arrOf st).map (·.2))).get? a = some (seqObj "list" ((arrOf st).map (·.2)) e3) := ⟨_, get?_update_seq gA2 (fun _ => (arrOf st).map (·.2))⟩
    refine wpAny_pure (h _ e3 (fun b u nb e => ?_) (by rw [← hst]; exact gA3))
    rw [Heap.get?_update_ne _ _ _ _ nb]
    exact old2 b u nb e

def ord2 (ps : List P2) : List Nat := if ps.length < 2 then List.range ps.length else kord2 ps
theorem list_sort2s {a : Addr} {vs : List Value} {ps : List P2} {n : Nat} {P : PySem.Fin → Shared → Prop} (gA : s.heap.get? a = some (seqObj "list" vs.toArray n)) (hl : vs.length = ps.length) (h64 : vs.length < 64) (hk : ∀ i, i < vs.length → PairT s.heap (vs.getD i .none) (ps.getD i ("", "")))
    (h : ∀ (h' : Heap) (e : Nat), (∀ b u, b ≠ a → s.heap.get? b = some u → h'.get? b = some u) → h'.get? a = some (seqObj "list" ((ord2 ps).map fun i => vs.getD i .none).toArray e) → P (.done (.ret .none)) { s with heap := h' }) :
    wpAny (model prog w) A (Builtin.«list.sort» ⟨[.ref a], []⟩) P E s := by
  by_cases h2 : vs.length < 2
  · have zz : ∀ m, m ≤ vs.length → m ≤ sizeLine := fun m hm => sizeLine_big (by omega)
    have eo : (ord2 ps).map (fun i => vs.getD i .none) = vs := by
      unfold ord2
      rw [if_pos (by omega), ← hl]
      apply List.ext_getElem?
      intro j
      rw [List.getElem?_map]
      by_cases hj : j < vs.length
      · rw [List.getElem?_range hj, List.getElem?_eq_getElem hj]
        simp [hj]
      · rw [List.getElem?_eq_none (by simpa using hj), List.getElem?_eq_none (by omega)]
        rfl
    rw [eo] at h
    rw [list_sort_plain]
    refine wpAny_bind (listItems_at gA rfl ?_)
    refine wpAny_bind (listUpdate_at gA rfl ?_ (by rw [List.size_toArray]; exact zz _ (Nat.le_refl _)) (Nat.zero_le _))
    have gA1 := get?_update_seq gA (fun _ => #[])
    generalize (if ((#[] : Array Value).size == vs.toArray.size) = true then n else n + 1) = e1 at gA1
    have old1 : ∀ b u, b ≠ a → s.heap.get? b = some u → (s.heap.update a (Obj.mapSeq fun _ => #[])).get? b = some u := fun b u nb e => by
      rw [Heap.get?_update_ne _ _ _ _ nb]
      exact e
    dsimp only
    generalize s.heap.update a (Obj.mapSeq fun _ => #[]) = h1 at gA1 old1 ⊢
    refine wpAny_bind (seqEpoch_at gA1 rfl ?_)
    refine wpAny_bind (wpAny_newTuple ?_ (by simpa using zz _ (Nat.le_refl _)))
    refine wpAny_bind (wpAny_newList ?_ (Nat.zero_le _))
    refine wpAny_holding ?_
    have gA2 : ((h1.push { cls := Value.type "tuple", data := Data.seq vs.toArray.toList.toArray }).push { cls := Value.type "list", data := Data.seq ([] : List Value).toArray }).get? a = some (seqObj "list" #[] e1) := Heap.get?_push_of_some _ (Heap.get?_push_of_some _ gA1)
    have old2 : ∀ b u, b ≠ a → s.heap.get? b = some u → ((h1.push { cls := Value.type "tuple", data := Data.seq vs.toArray.toList.toArray }).push { cls := Value.type "list", data := Data.seq ([] : List Value).toArray }).get? b = some u := fun b u nb e => Heap.get?_push_of_some _ (Heap.get?_push_of_some _ (old1 b u nb e))
    dsimp only
    generalize (h1.push { cls := Value.type "tuple", data := Data.seq vs.toArray.toList.toArray }).push { cls := Value.type "list", data := Data.seq ([] : List Value).toArray } = h3 at gA2 old2 ⊢
    have hsz : vs.toArray.size < 2 := by simpa using h2
    rw [if_pos hsz, if_pos hsz]
    refine wpAny_bind (wpAny_pure ?_)
    refine wpAny_bind (wpAny_pure ?_)
    dsimp only
    have ea : (arrOf (SortSt.mk' general' (vs.toArray.zip vs.toArray) #[] 7 none)).map (·.2) = vs.toArray := by
      show (vs.toArray.zip vs.toArray).map (·.2) = vs.toArray
      rw [List.zip_toArray, List.map_toArray]
      congr 1
      clear hk hl h gA zz gA1 gA2 old1 old2 hsz h64 h2 eo
      induction vs with
      | nil => rfl
      | cons x r ih => simp [ih]
    refine wpAny_bind (seqEpoch_at gA2 rfl ?_)
    rw [ea]
    refine wpAny_bind (listUpdate_at gA2 rfl ?_ (Nat.zero_le _) (by rw [List.size_toArray]; exact Nat.le_succ_of_le (zz _ (Nat.le_refl _))))
    show wpAny _ _ (if (e1 != e1) = true then _ else _) _ _ _
    refine wpAny_ite_false (by simp) ?_
    obtain ⟨e3, gA3⟩ : ∃ e3, (h3.update a (Obj.mapSeq fun _ => vs.toArray)).get? a = some (seqObj "list" vs.toArray e3) := ⟨_, get?_update_seq gA2 (fun _ => vs.toArray)⟩
    refine wpAny_pure (h _ e3 (fun b u nb e => ?_) gA3)
    rw [Heap.get?_update_ne _ _ _ _ nb]
    exact old2 b u nb e
  · have eo : ord2 ps = kord2 ps := by
      unfold ord2
      rw [if_neg (by omega)]
    rw [eo] at h
    exact list_sort2 gA hl (by omega) h64 hk h
end
theorem lex2_iff (x y : P2) : lex2 x y = true ↔ x.1.cps.toList < y.1.cps.toList ∨ x.1 = y.1 ∧ x.2.cps.toList < y.2.cps.toList := by
  unfold lex2
  by_cases h1 : x.1 = y.1
  · rw [if_pos (by simpa using h1)]
    have n1 : ¬ x.1.cps.toList < y.1.cps.toList := by rw [h1]; exact List.lt_irrefl _
    by_cases h2 : x.2 = y.2
    · rw [if_pos (by simpa using h2)]
      have n2 : ¬ x.2.cps.toList < y.2.cps.toList := by rw [h2]; exact List.lt_irrefl _
      simp [n1, n2]
    · rw [if_neg (by simpa using h2), decide_eq_true_iff]
      exact ⟨fun z => .inr ⟨h1, z⟩, fun z => z.elim (fun q => absurd q n1) fun q => q.2⟩
  · rw [if_neg (by simpa using h1), decide_eq_true_iff]
    exact ⟨.inl, fun z => z.elim id fun q => absurd q.1 h1⟩
theorem lex2_irr (x : P2) : lex2 x x = false := by unfold lex2; simp
theorem lex2_tr {x y z : P2} (h1 : lex2 x y = true) (h2 : lex2 y z = true) : lex2 x z = true := by
  rw [lex2_iff] at *
  rcases h1 with h1 | ⟨e1, h1⟩
  · rcases h2 with h2 | ⟨e2, h2⟩
    · exact .inl (List.lt_trans h1 h2)
    · rw [← e2]; exact .inl h1
  · rcases h2 with h2 | ⟨e2, h2⟩
    · rw [e1]; exact .inl h2
    · exact .inr ⟨e1.trans e2, List.lt_trans h1 h2⟩
theorem lex2_to {x y : P2} (h : x ≠ y) : lex2 x y = true ∨ lex2 y x = true := by
  rw [lex2_iff, lex2_iff]
  rcases Decidable.em (x.1.cps.toList < y.1.cps.toList) with z | z
  · exact .inl (.inl z)
  · rcases Decidable.em (y.1.cps.toList < x.1.cps.toList) with q | q
    · exact .inr (.inl q)
    · have e : x.1 = y.1 := cps_inj (List.le_antisymm (List.not_lt.mp q) (List.not_lt.mp z))
      rcases Decidable.em (x.2.cps.toList < y.2.cps.toList) with z2 | z2
      · exact .inl (.inr ⟨e, z2⟩)
      · rcases Decidable.em (y.2.cps.toList < x.2.cps.toList) with q2 | q2
        · exact .inr (.inr ⟨e.symm, q2⟩)
        · exact absurd (Prod.ext e (cps_inj (List.le_antisymm (List.not_lt.mp q2) (List.not_lt.mp z2)))) h
def Rise2 (R : List P2) : Prop := R.Pairwise fun a b => lex2 a b = true
theorem Rise2.nodup {R : List P2} (h : Rise2 R) : R.Nodup := h.imp fun {a b} z e => by
  subst e
  rw [lex2_irr] at z
  cases z
theorem rise2_uniq : ∀ {l m : List P2}, l.Perm m → Rise2 l → Rise2 m → l = m
  | [], m, h, _, _ => (List.Perm.eq_nil h.symm).symm
  | x :: r, [], h, _, _ => by simpa using h.length_eq
  | x :: r, y :: q, h, h1, h2 => by
    obtain ⟨a1, a2⟩ := List.pairwise_cons.mp h1
    obtain ⟨b1, b2⟩ := List.pairwise_cons.mp h2
    have e : x = y := by
      rcases List.mem_cons.mp (h.mem_iff.mp (List.mem_cons_self (a := x) (l := r))) with e | hx
      · exact e
      · rcases List.mem_cons.mp (h.mem_iff.mpr (List.mem_cons_self (a := y) (l := q))) with e | hy
        · exact e.symm
        · have := lex2_tr (a1 y hy) (b1 x hx)
          rw [lex2_irr] at this
          cases this
    subst e
    rw [rise2_uniq ((List.perm_cons x).mp h) a2 b2]
theorem ord2_perm (ps : List P2) : (ord2 ps).Perm (List.range ps.length) := by
  unfold ord2
  split
  · exact List.Perm.refl _
  · exact kord2_perm ps (by omega)
theorem ord2_rise {T : List P2} (hn : T.Nodup) : Rise2 ((ord2 T).map fun i => T.getD i ("", "")) := by
  by_cases h2 : T.length < 2
  · have hl : ((ord2 T).map fun i => T.getD i ("", "")).length < 2 := by rw [List.length_map, (ord2_perm T).length_eq, List.length_range]; exact h2
    generalize (ord2 T).map (fun i => T.getD i ("", "")) = L at hl
    match L, hl with
    | [], _ => exact List.Pairwise.nil
    | [x], _ => exact List.pairwise_singleton _ _
  · have eo : ord2 T = kord2 T := by
      unfold ord2
      rw [if_neg h2]
    rw [eo]
    have ge : ∀ i, i < T.length → T.getD i ("", "") = T.getD i ("", "") := fun _ _ => rfl
    obtain ⟨π, h1, hi⟩ := rank_of (n := T.length) (o := fun i j => lex2 (T.getD i ("", "")) (T.getD j ("", ""))) (fun i => lex2_irr _) (fun i j k a b => lex2_tr a b) (fun i j hi hj hij => lex2_to fun e => by
      rw [List.getD_eq_getElem?_getD, List.getD_eq_getElem?_getD, List.getElem?_eq_getElem hi, List.getElem?_eq_getElem hj] at e
      exact hij ((List.getElem_inj hn).mp e))
    have hk : kord2 T = (krun (ord π) (kas_sort T.length)).toList := by
      unfold kord2
      congr 1
      exact krun_congr (n := T.length) (P := Pm T.length) h1 (kall_sort (by omega))
    obtain ⟨hp, hs⟩ := run_sort (n := T.length) (π := π) (by omega) hi
    rw [hk]
    generalize krun (ord π) (kas_sort T.length) = p at hp hs
    have hz := hp.size
    unfold Rise2
    rw [List.pairwise_iff_getElem]
    intro i j hi' hj' hij
    rw [List.length_map, Array.length_toList] at hi' hj'
    rw [List.getElem_map, List.getElem_map]
    have li : ∀ x, x < p.size → p.toList[x]? = some (p.getD x 0) := fun x hx => by simp [hx]
    have e1 : p.toList[i]'(by simpa using hi') = p.getD i 0 := by simp [hi']
    have e2 : p.toList[j]'(by simpa using hj') = p.getD j 0 := by simp [hj']
    rw [e1, e2, h1 _ _ (hp.lt (by omega) i) (hp.lt (by omega) j)]
    exact decide_eq_true (hs i j hij (by omega))
end L2

set_option linter.all false
set_option maxRecDepth 100000
set_option Elab.async false
set_option maxHeartbeats 4000000
namespace L2
open PySem PySem.Spec PyProof.Rows PySem.W
def pairAt (H : Hp) (r : Addr) : P2 := match H r with
  | some (.tup [.str x, .str y]) => (x, y)
  | _ => ("", "")
def Pairs (H : Hp) (rs : List Addr) : Prop := ∀ r ∈ rs, H r = some (.tup [.str (pairAt H r).1, .str (pairAt H r).2])
theorem pairAt_of {H : Hp} {r : Addr} {x y : Str} (h : H r = some (.tup [.str x, .str y])) : pairAt H r = (x, y) := by unfold pairAt; rw [h]
theorem Pairs.of {H : Hp} {rs : List Addr} (h : ∀ r ∈ rs, ∃ x y, H r = some (.tup [.str x, .str y])) : Pairs H rs := fun r hr => by
  obtain ⟨x, y, e⟩ := h r hr
  rw [pairAt_of e]
  exact e
theorem Pairs.same {H H' : Hp} {rs : List Addr} (h : Pairs H rs) (S : Same H H') : Pairs H' rs := Pairs.of fun r hr => ⟨_, _, S _ _ (h r hr)⟩
theorem pairAt_same {H H' : Hp} {rs : List Addr} (h : Pairs H rs) (S : Same H H') {r : Addr} (hr : r ∈ rs) : pairAt H' r = pairAt H r := pairAt_of (S _ _ (h r hr))
section
variable {P : Program} {w : World} {H : Hp} {h : Heap} {a : Addr}
theorem pairT_of (ok : HOk P w H h) {x y : Str} (e : H a = some (.tup [.str x, .str y])) : PairT h (.ref a) (x, y) := by
  obtain ⟨_, its, rv, hT⟩ : ObjOk P w H h a (.tup [.str x, .str y]) := ok _ _ e
  cases rv with
  | cons r1 rv =>
    cases rv with
    | cons r2 rv =>
      cases rv
      obtain ⟨u1, e1⟩ := r1
      obtain ⟨u2, e2⟩ := r2
      subst e1 e2
      exact ⟨a, u1, u2, rfl, hT⟩
theorem tk_of (ok : HOk P w H h) {x y : Str} (e : H a = some (.tup [.str x, .str y])) : IsTupleKey (PySem.strKind P w) h [x, y] a := by
  obtain ⟨t, u1, u2, e1, o, ho, hc, n, hd⟩ := pairT_of ok e
  cases e1
  exact ⟨o, _, n, ho, hc, hd, .cons (strKind_is P w x u1) (.cons (strKind_is P w y u2) .nil)⟩
end
def setT (w : World) (a : Addr) (rs : List Addr) : HO := .ext fun h => ∃ o es ep t, h.get? a = some o ∧ o.ExactSet ∧ o.data = .set es ep t ∧ (es.toList.map (·.2)).Perm (rs.map Value.ref) ∧ t.fits es.size = true ∧ SetTab w es t
theorem refs_of : ∀ {rs : List Addr} {its : List Value}, Vals (rs.map V.ref) its → its = rs.map Value.ref
  | [], _, .nil => rfl
  | r :: rs, _, .cons e q => by
    rw [refs_of q]
    cases e
    rfl
theorem vals_refs : ∀ (rs : List Addr), Vals (rs.map V.ref) (rs.map Value.ref)
  | [] => .nil
  | r :: rs => .cons rfl (vals_refs rs)
def refAt : Value → Addr
  | .ref r => r
  | _ => 0
theorem perm_refs {acc : List Value} {rs : List Addr} (h : acc.Perm (rs.map Value.ref)) : ∃ rs' : List Addr, rs'.Perm rs ∧ acc = rs'.map Value.ref := by
  refine ⟨acc.map refAt, ?_, ?_⟩
  · have := h.map refAt
    rw [List.map_map] at this
    have e : refAt ∘ Value.ref = id := rfl
    rw [e, List.map_id] at this
    exact this
  · rw [List.map_map]
    have all : ∀ v ∈ acc, Value.ref (refAt v) = v := fun v hv => by
      obtain ⟨r, _, e⟩ := List.mem_map.mp (h.mem_iff.mp hv)
      rw [← e]
      rfl
    clear h
    induction acc with
    | nil => rfl
    | cons v r ih =>
      rw [List.map_cons, ← ih fun u hu => all u (by simp [hu])]
      exact congrArg (· :: r) (all v (by simp)).symm
theorem same_of_map {α β : Type} {f : α → β} {l m : List α} (hp : l.Perm m) (he : l.map f = m.map f) (hn : (m.map f).Nodup) : l = m := by
  have hl := hp.length_eq
  apply List.ext_getElem hl
  intro i h1 h2
  have e1 : f l[i] = f m[i] := by
    have := congrArg (fun z => z[i]?) he
    simpa [h1, h2] using this
  obtain ⟨j, hj, ej⟩ := List.mem_iff_getElem.mp (hp.mem_iff.mp (List.getElem_mem h1))
  have e2 : (m.map f)[j]'(by simpa using hj) = (m.map f)[i]'(by simpa using h2) := by
    rw [List.getElem_map, List.getElem_map, ej]
    exact e1
  have := (List.getElem_inj hn).mp e2
  subst this
  exact ej.symm
section
variable {X : Cx} {pins : List (Addr × Obj)} {σ : St} {H : Hp} {s : Shared}
theorem call_setT (hc : X.calm = true) (hu : X.A.units + 16 < cLine) : CallR X (.type "set") (fun xs H Q => ∃ (p : Addr) (rs : List Addr), xs = [.ref p] ∧ H p = some (.lst (rs.map V.ref)) ∧ rs.length ≤ 18 ∧ Pairs H rs ∧ (rs.map (pairAt H)).Nodup ∧ ∀ a, H a = none → Q (.ref a) (upd H a (setT X.w a rs))) := by
  intro pins s σ H xs us Q I r h
  obtain ⟨p, rs, rfl, hx, h18, hP, hnd, q⟩ := h
  obtain ⟨u, rfl, ru⟩ := vals1 r
  cases ru
  obtain ⟨its, rv, pl, _⟩ := I.list (SqL.of hx)
  obtain rfl := refs_of rv
  refine call_set_TL (rs := rs) (ks := rs.map fun r => [(pairAt H r).1, (pairAt H r).2]) (I.ok.hd hc) hu pl.isList (by simp) h18 ?_ (fun k hk => ?_) (fun j r q e1 e2 => ?_) fun h' tk hS hk => ?_
  · have e : (rs.map fun r => [(pairAt H r).1, (pairAt H r).2]) = (rs.map (pairAt H)).map fun x => [x.1, x.2] := by rw [List.map_map]; rfl
    rw [e]
    exact List.Pairwise.map _ (fun a b hab z => hab (by
      injection z with z1 z2
      injection z2 with z2
      exact Prod.ext z1 z2)) hnd
  · obtain ⟨r, _, rfl⟩ := List.mem_map.mp hk
    simp
  · rw [List.getElem?_map, e1] at e2
    cases e2
    exact tk_of I.hok (hP r (List.mem_of_getElem? e1))
  · have hkk : ∀ b u, s.heap.get? b = some u → h'.get? b = some u := fun b u e => hk b u (Heap.lt_size e) e
    obtain ⟨o, es, ep, t, S⟩ := hS
    refine ⟨.ref s.heap.objs.size, _, I.laid (t' := tk) (o := setT X.w s.heap.objs.size rs) hkk (Nat.le_refl _) ⟨⟨o, es, ep, t, S.at_, S.ex, S.data, S.perm, S.tab.fits, S.led⟩, ⟨o, S.at_⟩, fun h1 h2 f g => ?_⟩, rfl, q _ (I.hok.fresh (Nat.le_refl _))⟩
    obtain ⟨o, es, ep, t, z, r⟩ := f
    exact ⟨o, es, ep, t, g o z, r⟩
theorem sort_refs {A : Around} {E : Value → Shared → Prop} {s : Shared} {rs : List Addr} {l : Addr} {n : Nat} {Pf : PySem.Fin → Shared → Prop} {prog : Program} {w : World} {key : Addr → P2} (gA : s.heap.get? l = some (seqObj "list" (rs.map Value.ref).toArray n)) (h64 : rs.length < 64)
    (hk : ∀ r ∈ rs, PairT s.heap (.ref r) (key r)) (hnd : (rs.map key).Nodup)
    (h : ∀ (h' : Heap) (e : Nat) (out : List Addr), out.Perm rs → Rise2 (out.map key) → (∀ b u, b ≠ l → s.heap.get? b = some u → h'.get? b = some u) → h'.get? l = some (seqObj "list" (out.map Value.ref).toArray e) → Pf (.done (.ret .none)) { s with heap := h' }) :
    wpAny (model prog w) A (Builtin.«list.sort» ⟨[.ref l], []⟩) Pf E s := by
  have hlen : (rs.map Value.ref).length = (rs.map key).length := by simp
  have at1 : ∀ i, i < rs.length → (rs.map Value.ref).getD i .none = .ref (rs.getD i 0) ∧ (rs.map key).getD i ("", "") = key (rs.getD i 0) ∧ rs.getD i 0 ∈ rs := fun i hi => by
    refine ⟨?_, ?_, ?_⟩
    · simp [hi]
    · simp [hi]
    · rw [List.getD_eq_getElem?_getD, List.getElem?_eq_getElem hi]
      exact List.getElem_mem hi
  refine list_sort2s (ps := rs.map key) gA hlen (by simpa using h64) (fun i hi => ?_) fun h' e hkp he => ?_
  · have hi' : i < rs.length := by simpa using hi
    obtain ⟨e1, e2, e3⟩ := at1 i hi'
    rw [e1, e2]
    exact hk _ e3
  · have hop := ord2_perm (rs.map key)
    rw [List.length_map] at hop
    have hlt : ∀ i ∈ ord2 (rs.map key), i < rs.length := fun i hi => List.mem_range.mp (hop.mem_iff.mp hi)
    refine h h' e ((ord2 (rs.map key)).map fun i => rs.getD i 0) ?_ ?_ hkp ?_
    · refine (hop.map _).trans (List.Perm.of_eq ?_)
      apply List.ext_getElem?
      intro j
      rw [List.getElem?_map]
      by_cases hj : j < rs.length
      · rw [List.getElem?_range hj, List.getElem?_eq_getElem hj]
        simp [hj]
      · rw [List.getElem?_eq_none (by simpa using hj), List.getElem?_eq_none (by omega)]
        rfl
    · have := ord2_rise hnd
      have e2 : (ord2 (rs.map key)).map (fun i => (rs.map key).getD i ("", "")) = ((ord2 (rs.map key)).map fun i => rs.getD i 0).map key := by
        rw [List.map_map]
        exact List.map_congr_left fun i hi => (at1 i (hlt i hi)).2.1
      rw [e2] at this
      exact this
    · rw [he, List.map_map]
      congr 2
      exact congrArg _ (List.map_congr_left fun i hi => (at1 i (hlt i hi)).1)
theorem call_sortedT (hc : X.calm = true) : CallR X (.builtin "sorted") (fun xs H Q => ∃ (p : Addr) (rs : List Addr), xs = [.ref p] ∧ H p = some (setT X.w p rs) ∧ rs.length < 64 ∧ Pairs H rs ∧ (rs.map (pairAt H)).Nodup ∧ ∀ (l : Addr) (out : List Addr), H l = none → out.Perm rs → Rise2 (out.map (pairAt H)) → Q (.ref l) (upd H l (.lst (out.map V.ref)))) := by
  intro pins s σ H xs us Q I r h
  obtain ⟨p, rs, rfl, hx, h64, hP, hnd, q⟩ := h
  obtain ⟨u, rfl, ru⟩ := vals1 r
  cases ru
  obtain ⟨⟨o, es, ep, t, ho, hex, hd, hpm, hf, hTab⟩, _, _⟩ : ObjOk X.prog X.w H s.heap p (setT X.w p rs) := I.hok p _ hx
  have hsz : es.size = rs.length := by simpa using hpm.length_eq
  refine Calls.call_function_entry kind_sorted plain_sorted entry_sorted (args_sorted1 _) ?_
  unfold Builtin.«sorted»
  apply wpAny_bind (m := checkCount "sorted" 1 1 _)
  apply wpAny_pure
  refine wpAny_bind (collect_set (A := X.A.in1) (I.ok.hd hc) hex.1 hd hf (by rw [hsz]; show _ < 4096; omega) hTab ho fun acc h1 d tk hp hk hgr => ?_)
  obtain ⟨rs', hp', rfl⟩ := perm_refs (hp.trans hpm)
  have hl' := hp'.length_eq
  have z64 : (rs'.map Value.ref).length ≤ sizeLine := sizeLine_big (by rw [List.length_map]; omega)
  apply wpAny_bind
  refine wpAny_newList ?_ z64
  have hoL : (h1.push (seqObj "list" (rs'.map Value.ref).toArray 0)).get? h1.objs.size = some (seqObj "list" (rs'.map Value.ref).toArray 0) := Heap.get?_push_size _ rfl
  have old : ∀ b u, s.heap.get? b = some u → (h1.push (seqObj "list" (rs'.map Value.ref).toArray 0)).get? b = some u := fun b u e => Heap.get?_push_of_some _ (hk b u e)
  refine wpAny_bind (wpAny_holding (wpAny_call_entry slot_list_sort ⟨_, hoL, rfl⟩ entry_list_sort (sort_refs (key := pairAt H) hoL (by omega) (fun r hr => ?_) (((hp'.map _).nodup_iff).mpr hnd) fun h' e out ho1 ho2 hk' he => ⟨.none, rfl, ?_⟩) (args_list_sort _)))
  · exact (pairT_of I.hok (hP r (hp'.mem_iff.mp hr))).keep fun b o e _ => old b o e
  · refine wpAny_pure ⟨_, rfl, ?_⟩
    have hszl : s.heap.objs.size ≤ h1.objs.size := Nat.le_of_lt hgr
    have hol := ho1.length_eq
    exact ⟨.ref h1.objs.size, _, I.laidD (t' := tk) (d' := d) (o := .lst (out.map V.ref)) (fun b u e => hk' b u (Nat.ne_of_lt (Heap.lt_size (hk b u e))) (old b u e)) hszl ⟨sizeLine_big (by rw [List.length_map]; omega), out.map Value.ref, e, vals_refs out, he⟩, rfl, q _ out (I.hok.fresh hszl) (ho1.trans hp') ho2⟩
theorem call_sortedL2 : CallR X (.builtin "sorted") (fun xs H Q => ∃ (p : Addr) (rs : List Addr), xs = [.ref p] ∧ H p = some (.lst (rs.map V.ref)) ∧ rs.length < 64 ∧ Pairs H rs ∧ (rs.map (pairAt H)).Nodup ∧ ∀ (l : Addr) (out : List Addr), H l = none → out.Perm rs → Rise2 (out.map (pairAt H)) → Q (.ref l) (upd H l (.lst (out.map V.ref)))) := by
  intro pins s σ H xs us Q I r h
  obtain ⟨p, rs, rfl, hx, h64, hP, hnd, q⟩ := h
  obtain ⟨u, rfl, ru⟩ := vals1 r
  cases ru
  obtain ⟨its, rv, pl, _⟩ := I.list (SqL.of hx)
  obtain rfl := refs_of rv
  refine Calls.call_function_entry kind_sorted plain_sorted entry_sorted (args_sorted1 _) ?_
  unfold Builtin.«sorted»
  apply wpAny_bind (m := checkCount "sorted" 1 1 _)
  apply wpAny_pure
  refine wpAny_bind (collect_list pl.isList ?_ (sizeLine_big (by rw [List.length_map]; omega)))
  have hk : ∀ b u, s.heap.get? b = some u → ((s.heap.push (seqObj "list" #[] 0)).update s.heap.objs.size (Obj.mapSeq (· ++ (rs.map Value.ref).toArray))).get? b = some u := fun b u e => by
    rw [Heap.get?_update_ne _ _ _ _ (Nat.ne_of_lt (Heap.lt_size e))]
    exact Heap.get?_push_of_some _ e
  have hgr : s.heap.objs.size < ((s.heap.push (seqObj "list" #[] 0)).update s.heap.objs.size (Obj.mapSeq (· ++ (rs.map Value.ref).toArray))).objs.size := by
    rw [Heap.size_update, Heap.size_push]
    exact Nat.lt_succ_self _
  dsimp only
  generalize (s.heap.push (seqObj "list" #[] 0)).update s.heap.objs.size (Obj.mapSeq (· ++ (rs.map Value.ref).toArray)) = h1 at hk hgr ⊢
  have z64 : (rs.map Value.ref).length ≤ sizeLine := sizeLine_big (by rw [List.length_map]; omega)
  apply wpAny_bind
  refine wpAny_newList ?_ z64
  have hoL : (h1.push (seqObj "list" (rs.map Value.ref).toArray 0)).get? h1.objs.size = some (seqObj "list" (rs.map Value.ref).toArray 0) := Heap.get?_push_size _ rfl
  have old : ∀ b u, s.heap.get? b = some u → (h1.push (seqObj "list" (rs.map Value.ref).toArray 0)).get? b = some u := fun b u e => Heap.get?_push_of_some _ (hk b u e)
  refine wpAny_bind (wpAny_holding (wpAny_call_entry slot_list_sort ⟨_, hoL, rfl⟩ entry_list_sort (sort_refs (key := pairAt H) hoL (by omega) (fun r hr => ?_) hnd fun h' e out ho1 ho2 hk' he => ⟨.none, rfl, ?_⟩) (args_list_sort _)))
  · exact (pairT_of I.hok (hP r hr)).keep fun b o e _ => old b o e
  · refine wpAny_pure ⟨_, rfl, ?_⟩
    have hszl : s.heap.objs.size ≤ h1.objs.size := Nat.le_of_lt hgr
    have hol := ho1.length_eq
    exact ⟨.ref h1.objs.size, _, I.laid (t' := s.toks) (o := .lst (out.map V.ref)) (fun b u e => hk' b u (Nat.ne_of_lt (Heap.lt_size (hk b u e))) (old b u e)) hszl ⟨sizeLine_big (by rw [List.length_map]; omega), out.map Value.ref, e, vals_refs out, he⟩, rfl, q _ out (I.hok.fresh hszl) ho1 ho2⟩
theorem op_eqRefs (hu : X.A.units < cLine) : OpR X (compareOp .Eq) (fun x y H Q => ∃ (p q : Addr) (rs : List Addr), x = .ref p ∧ y = .ref q ∧ H p = some (.lst (rs.map V.ref)) ∧ H q = some (.lst (rs.map V.ref)) ∧ Q (.bl true) H) := by
  intro pins s σ H x y v u Q I rx ry h
  obtain ⟨p, q, rs, rfl, rfl, h1, h2, hq⟩ := h
  cases rx
  cases ry
  obtain ⟨us, r1, p1, _⟩ := I.list (SqL.of h1)
  obtain ⟨ws, r2, p2, _⟩ := I.list (SqL.of h2)
  obtain rfl := refs_of r1
  obtain rfl := refs_of r2
  refine SeqAt.eq_listAt (e := fun _ => true) p1.isList p2.isList rfl hu (fun j h1 h2 => ?_) ?_
  · exact SeqAt.EqAt.same _
  · rw [show ((List.range (rs.map Value.ref).toArray.size).all fun _ => true) = true by simp]
    exact ⟨.bl _, H, I, rfl, hq⟩
end
end L2

set_option linter.all false
set_option maxRecDepth 100000
set_option Elab.async false
set_option maxHeartbeats 4000000
namespace L2
open PySem PySem.Spec PyProof.Rows PySem.W
section
variable {prog : Program} {w : World} {A : Around} {E : Value → Shared → Prop} {s : Shared} {d I : Addr} {od : Obj} {es : Array DictEntry} {ep i : Nat}
def kiObj (d : Addr) (i n ep : Nat) : Obj := { cls := .type "dict_keyiterator", dict := none, data := .fields #[.ref d, .int i 0, .int n 0, .int ep 0], slots := #[] }
theorem ki_type {n : Nat} (h : s.heap.get? I = some (kiObj d i n ep)) : s.TypeIs (.ref I) "dict_keyiterator" := ⟨_, h, rfl⟩
theorem ki_step {Q : Option Value → Shared → Prop} (hI : s.heap.get? I = some (kiObj d i es.size ep)) (hd : s.heap.get? d = some od) (hdd : od.data = .dict es ep)
    (h : ∀ (key : Value), es[i]?.map (·.key) = some key → Q (some key) { s with heap := s.heap.update I (Obj.mapFields (·.setIfInBounds 1 (rawInt ((i : Int) + 1)))) })
    (he : es.size ≤ i → A.handled = none ∧ ∀ h', (∀ b u, b ≠ I → s.heap.get? b = some u → h'.get? b = some u) → Q none { s with heap := h' }) : wpAny (model prog w) A (pyNext (.ref I)) Q E s := by
  have hT := ki_type hI
  have own : Builtin.Dict_items.ownsTuple "dict_keyiterator" = false := by decide
  unfold pyNext
  refine wpAny_bind (wpAny_attempt (wpAny_callSpecial?_slot (name := Str.ofString "__next__") hT PySem.F.slot_dict_keyiterator_next (wpAny_call_entry PySem.F.slot_dict_keyiterator_next hT PySem.F.entry_dict_keyiterator_next ?_ (PySem.F.args_dict_keyiterator_next_1 _))))
  refine wpAny_bind (wpAny_pure (wpAny_bind (wpAny_bind ?_)))
  first | refine wpAny_bind (wpAny_typeNameOfWhole_keyiter hT (wpAny_pure ?_)) | refine wpAny_bind (wpAny_typeNameOf_keyiter hT (wpAny_pure ?_))
  refine wpAny_bind (wpAny_fieldsOf hI rfl ?_)
  rw [own]
  refine wpAny_ite_false (by rfl) ?_
  refine wpAny_bind (wpAny_pure (wpAny_bind (wpAny_dictEntries hd hdd ?_)))
  refine wpAny_ite_false (by simp) ?_
  refine wpAny_bind (wpAny_pure (wpAny_bind (wpAny_dictEpoch hd hdd ?_)))
  refine wpAny_ite_false (by simp) (wpAny_pure ?_)
  by_cases hi : i < es.size
  · simp only [show ¬ ((i : Int) < 0) from by omega, if_false, Int.toNat_natCast, Array.getElem?_eq_getElem hi]
    refine wpAny_bind ?_
    first | refine wpAny_bind (wpAny_typeNameOfWhole_keyiter hT (wpAny_pure ?_)) | refine wpAny_bind (wpAny_typeNameOf_keyiter hT (wpAny_pure ?_))
    refine wpAny_bind (wpAny_isOneOf_keyiter hT ?_)
    show wpAny _ _ (setField (.ref I) 1 (rawInt ((i : Int) + 1)) >>= _) _ _ s
    refine wpAny_bind (wpAny_setField hI rfl (by simp [kiObj]) ?_)
    have hT2 : Shared.TypeIs { s with heap := s.heap.update I (Obj.mapFields (·.setIfInBounds 1 (rawInt ((i : Int) + 1)))) } (.ref I) "dict_keyiterator" :=
      ⟨_, Heap.get?_update_self _ hI (Obj.isFreed_of_fields (Obj.data_mapFields rfl _)), Obj.cls_mapFields ..⟩
    refine wpAny_bind (wpAny_holding (wpAny_bind (wpAny_isOneOf_keyiter hT2 ?_)))
    show wpAny _ _ (pure es[i].key) _ _ _
    exact wpAny_pure (wpAny_pure ⟨_, rfl, wpAny_pure (h _ (by simp [hi]))⟩)
  · obtain ⟨hh, q⟩ := he (by omega)
    simp only [show ¬ ((i : Int) < 0) from by omega, if_false, Int.toNat_natCast, Array.getElem?_eq_none (show es.size ≤ i by omega)]
    refine wpAny_bind ?_
    first | refine wpAny_bind (wpAny_typeNameOfWhole_keyiter hT (wpAny_pure ?_)) | refine wpAny_bind (wpAny_typeNameOf_keyiter hT (wpAny_pure ?_))
    show wpAny _ _ (setField (.ref I) 0 .none >>= _) _ _ s
    refine wpAny_bind (wpAny_setField hI rfl (by simp [kiObj]) ?_)
    refine raise_stop (show A.in1.handled = none from hh) fun e h' k hE => ?_
    refine wpAny_bind (wpAny_isInstance (T := "StopIteration") (b := true) hE isSubtype_stop ?_)
    exact wpAny_pure (q h' fun b u nb hb => k b u ((Heap.SameBut.update _ I _).extBut b u nb hb))
theorem walk_K (hh : A.handled = none) (hne : d ≠ I) (hdd : od.data = .dict es ep) :
    Walks prog w A I [I, d] [I] es.size (fun i v => es[i]?.map (·.key) = some v) (fun i h => h.get? I = some (kiObj d i es.size ep) ∧ h.get? d = some od) where
  sub := fun b hb => by simp at hb; simp [hb]
  frame := fun _ _ _ st hk => ⟨hk I (by simp) _ st.1, hk d (by simp) _ st.2⟩
  item := fun i s Q E hi st hQ => by
    refine ki_step st.1 st.2 hdd (fun key hkey => ?_) fun z => absurd z (by omega)
    refine hQ key _ s.toks hkey ⟨?_, (Heap.SameBut.update ..).extBut d _ hne st.2⟩ fun b u nb e => (Heap.SameBut.update ..).extBut b u (by simpa using nb) e
    rw [Heap.get?_update_self _ st.1 (Obj.isFreed_of_fields (Obj.data_mapFields rfl _))]
    simp [kiObj, Obj.mapFields, rawInt]
  done := fun s Q E st hQ => ki_step st.1 st.2 hdd (fun key hkey => by simp at hkey) fun _ => ⟨hh, fun h' k => hQ h' s.toks fun b u nb e => k b u (by simpa using nb) e⟩
  self := fun i s Q E st hQ => wpAny_pyIter_keyiter (n := es.size) (ep := ep) (d := d) (i := i) ⟨_, st.1, rfl, rfl⟩ hQ
theorem iter_K {Q : Value → Shared → Prop} (hm : (d == sysModules) = false) (hd : s.heap.get? d = some od) (hex : od.ExactDict) (hdd : od.data = .dict es ep)
    (hQ : Q (.ref s.heap.objs.size) { s with heap := s.heap.push (kiObj d 0 es.size ep) }) : wpAny (model prog w) A (pyIter (.ref d)) Q E s := by
  have hT : s.TypeIs (.ref d) "dict" := ⟨od, hd, hex.1⟩
  refine wpAny_pyIter_slot hT PySem.F.slot_dict_iter (wpAny_call_entry PySem.F.slot_dict_iter hT PySem.F.entry_dict_iter ?_ (PySem.F.args_dict_iter_1 _))
  unfold Builtin.«dict.__iter__» Builtin.Dict.dictSlotNone
  refine wpAny_bind (wpAny_bind (wpAny_notOrdered_dict hT ?_))
  show wpAny _ _ (pure (Value.ref d)) _ _ s
  refine wpAny_pure ?_
  show wpAny _ _ (Builtin.Dict.showsAll d >>= _) _ _ s
  unfold Builtin.Dict.showsAll
  rw [if_neg (by rw [hm]; exact Bool.false_ne_true)]
  refine wpAny_bind (wpAny_pure (wpAny_bind (wpAny_dictEntries hd hdd (wpAny_bind (wpAny_dictEpoch hd hdd ?_)))))
  refine wpAny_bind (wpAny_newObj_type (wpAny_pure ⟨_, rfl, "dict_keyiterator", _, ⟨_, Heap.get?_push_size _ rfl, rfl⟩, PySem.F.slot_dict_keyiterator_next.lookup, ?_⟩))
  exact hQ
theorem src_K (hm : (d == sysModules) = false) (hex : od.ExactDict) (hdd : od.data = .dict es ep) : KdlSrc prog w "dict" d d es.size (fun i v => es[i]?.map (·.key) = some v) (fun h => h.get? d = some od) where
  type := fun _ hd => ⟨od, hd, hex.1⟩
  there := fun _ hd => ⟨Heap.lt_size hd, Heap.lt_size hd⟩
  keep := fun _ _ hd hk => hk d (.inl rfl) _ hd
  notList := by decide
  notTuple := by decide
  hint := fun _ _ _ _ hd hq => kdl_hint_dict ⟨od, hd, hex.1⟩ hq
  iter := fun _ s hh hd => ⟨kiObj d 0 es.size ep, _, (fun _ _ hq => iter_K hm hd hex hdd hq), walk_K hh (Nat.ne_of_lt (Heap.lt_size hd)) hdd, ⟨Heap.get?_push_size _ rfl, Heap.get?_push_of_some _ hd⟩⟩
end
section
variable {X : Cx}
theorem call_listD (hc : X.calm = true) : CallR X (.type "list") (fun xs H Q => ∃ (p : Addr) (kvs : List (List Key × V)), xs = [.ref p] ∧ H p = some (.dT kvs) ∧ ∀ (l : Addr) (rs : List Addr), H l = none → rs.length = kvs.length → (∀ (i : Nat) (r : Addr) (k : List Key × V), rs[i]? = some r → kvs[i]? = some k → H r = some (.tup (k.1.map kV))) → (kvs.map (·.1)).Nodup → Q (.ref l) (upd H l (.lst (rs.map V.ref)))) := by
  intro pins s σ H xs us Q I r h
  obtain ⟨p, kvs, rfl, hx, q⟩ := h
  obtain ⟨u, rfl, ru⟩ := vals1 r
  cases ru
  obtain ⟨hz, hsm, xs, rel, o, es, ep, ho, hex, hd, hes, hnd⟩ : ObjOk X.prog X.w H s.heap p (.dT kvs) := I.hok p _ hx
  have hl : xs.length = kvs.length := by
    clear hes hnd hz q hx
    induction rel with
    | nil => rfl
    | cons _ _ ih => simp [ih]
  have hel : es.size = xs.length := by rw [← Array.length_toList, hes, List.length_map]
  refine kdl_call (src_K hsm hex hd) (I.ok.hd hc) ho (by omega) fun h' tk acc c hk hL hacc => ?_
  have hacc2 : acc.toList = (xs.map (·.2.1)).map Value.ref := by
    apply List.ext_getElem?
    intro j
    by_cases hj : j < acc.size
    · have e1 : es[j]?.map (·.key) = some acc[j] := hacc.2 j acc[j] (by simp [hj])
      have e2 : es.toList[j]? = (xs.map (entryOfKey (tupleKind (mixKind X.prog X.w))))[j]? := by rw [hes]
      rw [Array.getElem?_toList] at e2
      rw [e2, List.getElem?_map] at e1
      have hjx : j < xs.length := by rw [← hel, ← hacc.1]; exact hj
      rw [List.getElem?_eq_getElem hjx] at e1
      simp only [Option.map_some, Option.some.injEq] at e1
      rw [List.getElem?_map, List.getElem?_map, List.getElem?_eq_getElem hjx]
      simp only [Option.map_some]
      rw [Array.getElem?_toList, Array.getElem?_eq_getElem hj, ← e1]
      rfl
    · have h1 := hacc.1
      rw [List.getElem?_eq_none (by simpa using hj), List.getElem?_eq_none (by simp; omega)]
  have hres : h'.get? s.heap.objs.size = some { cls := .type "list", dict := none, data := .seq ((xs.map (·.2.1)).map Value.ref).toArray c, slots := #[] } := by
    rw [hL, ← hacc2]
  refine ⟨.ref s.heap.objs.size, _, I.laid (t' := tk) (o := .lst ((xs.map (·.2.1)).map V.ref)) hk (Nat.le_refl _) ⟨by simp only [List.length_map]; omega, _, c, vals_refs _, hres⟩, rfl, q _ (xs.map (·.2.1)) (I.hok.fresh (Nat.le_refl _)) (by simp [hl]) (fun i r k e1 e2 => ?_) ?_⟩
  · rw [List.getElem?_map] at e1
    obtain ⟨x, ex, rfl⟩ := Option.map_eq_some_iff.mp e1
    have at1 : ∀ {l : List (List Key × V)} {m : List (List Key × Addr × Value)}, Paired (fun (p : List Key × V) (q : List Key × Addr × Value) => p.1 = q.1 ∧ H q.2.1 = some (.tup (p.1.map kV)) ∧ RelV p.2 q.2.2) l m → ∀ (i : Nat) x k, m[i]? = some x → l[i]? = some k → H x.2.1 = some (.tup (k.1.map kV)) := by
      intro l m z
      induction z with
      | nil => intro i x k e; simp at e
      | cons hz _ ih =>
        intro i x k e1 e2
        cases i with
        | zero =>
          simp at e1 e2
          subst e1 e2
          exact hz.2.1
        | succ i =>
          simp at e1 e2
          exact ih i x k e1 e2
    exact at1 rel i x k ex e2
  · have e3 : xs.map (·.1) = kvs.map (·.1) := by
      clear hes hnd hz q hl hel hacc2 hres hacc hx
      induction rel with
      | nil => rfl
      | cons hz _ ih =>
        rw [List.map_cons, List.map_cons, ← hz.1]
        exact congrArg _ ih
    rw [← e3]
    exact hnd
end
end L2

set_option linter.all false
set_option maxRecDepth 100000
set_option Elab.async false
set_option maxHeartbeats 4000000
namespace L2
open PySem PySem.Spec PyProof.Rows
theorem pick_revL (l : List Value) : slicePick l.toArray none none (some (-1)) = l.reverse.toArray := by
  rw [← pick_rev l]
  unfold slicePick
  have e : sliceRange (sliceBounds none none (some (-1)) l.toArray.size).1 (sliceBounds none none (some (-1)) l.toArray.size).2.1 (sliceBounds none none (some (-1)) l.toArray.size).2.2 = (List.range l.length).map fun (m : Nat) => ((l.length : Int) - 1 + (m : Int) * (-1)).toNat := by
    have eb : sliceBounds none none (some (-1)) l.toArray.size = ((l.length : Int) - 1, -1, -1) := by
      unfold sliceBounds
      simp
    rw [eb]
    unfold sliceRange
    have h1 : ¬ ((-1 : Int) > 0) := by omega
    simp only [h1, if_false]
    have ec : (if (l.length : Int) - 1 > -1 then ((l.length : Int) - 1 - -1 - -1 - 1) / (- -1) else 0).toNat = l.length := by
      rw [Int.neg_neg, Int.ediv_one]
      split <;> omega
    rw [ec]
    exact List.map_congr_left fun m _ => by congr 1; omega
  rw [e, List.filterMap_map]
  rfl
section
variable {X : Cx} {e st : Expr} {te ts : TE} {pos p2 : Pos}
def tRevL (K : PySem.W.Frag) (te ts : TE) : TE := fun σ H Q => te σ H fun x H1 => ts σ H1 fun y H2 => ∃ a xs, y = .int (-1) ∧ x = .ref a ∧ SqL K H2 a xs ∧ ∀ p, H2 p = none → Q (.ref p) (upd H2 p (.lst xs.reverse))
theorem pe_revL (he : PE X e te) (hs : PE X st ts) : PE X (.Subscript e (.Slice none none (some st) p2) pos) (tRevL X.K te ts) := by
  constructor
  intro pins s σ H Q I h
  refine Subscript_ (thn (he pins s σ H _ I h) fun v s1 ⟨x, H1, I1, r1, q1⟩ => ?_)
  refine wpAny_Slice ?_
  rw [evalPart_none]
  refine wpAny_pure (wpAny_pure ?_)
  rw [evalPart_some]
  refine thn (hs pins s1 σ H1 _ I1 q1) fun u s2 ⟨y, H2, I2, r2, q2⟩ => ?_
  obtain ⟨a, xs, rfl, rfl, hx, q⟩ := q2
  obtain ⟨t, rfl⟩ := r2
  cases r1
  have I4 : Inv X pins σ H2 { s2 with heap := s2.heap.push { cls := .type "slice", data := .fields #[.none, .none, .int (-1) t] } } := I2.kept (t' := s2.toks) fun b ob q => Heap.get?_push_of_some _ q
  obtain ⟨its, r, ht, hz⟩ := I4.list hx
  have hl := r.length
  refine tail_any (ops := [.ref a, .ref s2.heap.objs.size]) ht.isList.typeIs slot_list_getitem.lookup ?_ (by with_unfolding_all rfl)
  refine wpAny_getItem_list_slice ht.isList (Heap.IsSliceOf.new ..) .none .none (.int (-1) t) (by decide) ?_ (by rw [List.size_toArray]; omega)
  rw [pick_revL]
  refine ⟨.ref _, _, I4.laid (t' := s2.toks) (o := .lst xs.reverse) (fun b ob q => Heap.get?_push_of_some _ q) (Nat.le_refl _) ?_, rfl, q _ (I4.hok.fresh (Nat.le_refl _))⟩
  exact ⟨by rw [List.length_reverse]; exact hz, _, 0, r.reverse, Heap.get?_push_size _ rfl⟩
end
end L2

set_option linter.all false
set_option maxRecDepth 100000
set_option Elab.async false
set_option maxHeartbeats 4000000
namespace K7
open PySem L2
def top (i : Nat) : Stmt := PySem.Challenge.pw_dykelengths_k73_papers_written_and_read.main.body.getD i (.Pass ⟨0, 0, 0, 0⟩)
abbrev sOrDash : Stmt := top 1
abbrev sInARow : Stmt := top 2
abbrev sChainText : Stmt := top 3
abbrev sCallingText : Stmt := top 4
abbrev sNamesText : Stmt := top 5
abbrev sPlacesText : Stmt := top 6
abbrev sIsName : Stmt := top 12
abbrev sRising : Stmt := top 14
abbrev sNumberOf : Stmt := top 17
abbrev sWordsOf : Stmt := top 19
abbrev sInThrees : Stmt := top 20
abbrev sReadChain : Stmt := top 21
abbrev sReadCalling : Stmt := top 22
abbrev sReadNames : Stmt := top 23
abbrev sPen : Stmt := top 25
abbrev sTake : Stmt := top 26
abbrev sNames : Stmt := top 27
abbrev sChain : Stmt := top 28
abbrev sCalling : Stmt := top 29
abbrev sLChainText : Stmt := top 30
abbrev sListedText : Stmt := top 31
abbrev sLCallingText : Stmt := top 32
abbrev sReadRight : Stmt := top 33
abbrev sRight : Stmt := top 34
abbrev sLaw : Stmt := top 35
def nameB (z : Str) : Bool := decide (1 ≤ z.length ∧ z.length ≤ 8) && z.cps.toList.all fun c => decide (97 ≤ c ∧ c ≤ 122)
def isL (c : Nat) : Bool := decide (97 ≤ c ∧ c ≤ 122)
def lt26 (i : Nat) : Nat := 97 + i % 26
theorem isL_lt (i : Nat) : isL (lt26 i) = true := by
  unfold isL lt26
  exact decide_eq_true (by omega)
abbrev abc : Str := Str.ofString "abcdefghijklmnopqrstuvwxyz"
theorem abc_list : abc.cps.toList = List.range' 97 26 := by decide +kernel
theorem abc_at {i : Int} (h0 : 0 ≤ i) (h1 : i < 26) : atI abc.cps.toList i = some (lt26 i.toNat) := by
  obtain ⟨j, rfl⟩ : ∃ j : Nat, i = j := ⟨i.toNat, by omega⟩
  unfold atI ixN
  rw [abc_list, if_pos h0, if_pos (by simpa using h1)]
  simp only [Int.toNat_natCast, Option.bind_some]
  rw [List.getElem?_range' (by omega)]
  unfold lt26
  congr 1
  omega
theorem abc_len : abc.length = 26 := by decide +kernel
def mk (l : List Nat) : Str := ⟨l.toArray⟩
theorem mk_inj {a b : List Nat} (h : mk a = mk b) : a = b := by
  have := congrArg (fun z : Str => z.cps.toList) h
  simpa [mk] using this
theorem mk_len (l : List Nat) : (mk l).length = l.length := by
  show l.toArray.size = _
  simp
theorem mk_app (a b : List Nat) : mk a ++ mk b = mk (a ++ b) := by
  show (⟨a.toArray ++ b.toArray⟩ : Str) = _
  simp [mk]
def pair (t k : Nat) : List Nat := [lt26 (t + 7 * k), lt26 (t + k / 26)]
def bij : Nat → Nat → List Nat
  | 0, _ => []
  | f + 1, n => if n = 0 then [] else bij f ((n - 1) / 2) ++ [n % 2]
def bin (t n : Nat) : List Nat := (bij 6 n).map fun d => lt26 (t + 9 * d)
theorem pair_nd : ∀ t < 26, ((List.range 44).map (pair t)).Nodup := by decide +kernel
theorem bin_nd : ∀ t < 26, ((List.range 44).map fun k => bin t (k + 1)).Nodup := by decide +kernel
theorem bin_len : ∀ k < 44, 1 ≤ (bij 6 (k + 1)).length ∧ (bij 6 (k + 1)).length ≤ 8 := by decide +kernel
def word (one : Bool) (b : List Nat) (sp t k : Nat) : List Nat := if one then bin t (k + 1) else b.take sp ++ pair t k ++ b.drop sp
theorem nd_sub {α : Type} {f : Nat → α} {n m : Nat} (h : ((List.range n).map f).Nodup) (hm : m ≤ n) : ((List.range m).map f).Nodup := by
  obtain ⟨d, rfl⟩ : ∃ d, n = m + d := ⟨n - m, by omega⟩
  rw [List.range_add, List.map_append] at h
  exact (List.nodup_append.mp h).1
theorem nd_inj {α β : Type} {f : α → β} (hf : ∀ a b, f a = f b → a = b) {l : List α} (h : l.Nodup) : (l.map f).Nodup := by
  rw [List.nodup_iff_pairwise_ne] at h ⊢
  exact List.pairwise_map.mpr (h.imp fun hne e => hne (hf _ _ e))
theorem word_nd {one : Bool} {b : List Nat} {sp t m : Nat} (ht : t < 26) (hm : m ≤ 44) : ((List.range m).map fun k => mk (word one b sp t k)).Nodup := by
  refine nd_sub (n := 44) ?_ hm
  have e : ((List.range 44).map fun k => mk (word one b sp t k)) = ((List.range 44).map (word one b sp t)).map mk := by rw [List.map_map]; rfl
  rw [e]
  refine nd_inj (fun _ _ h => mk_inj h) ?_
  cases one with
  | true => exact bin_nd t ht
  | false =>
    have e2 : (List.range 44).map (word false b sp t) = ((List.range 44).map (pair t)).map fun q => b.take sp ++ q ++ b.drop sp := by rw [List.map_map]; rfl
    rw [e2]
    refine nd_inj (fun x y h => ?_) (pair_nd t ht)
    exact List.append_cancel_left (List.append_cancel_right h)
theorem nameB_mk {l : List Nat} (h1 : 1 ≤ l.length) (h8 : l.length ≤ 8) (ha : ∀ c ∈ l, isL c = true) : nameB (mk l) = true := by
  unfold nameB
  rw [mk_len, decide_eq_true ⟨h1, h8⟩, Bool.true_and]
  have e : (mk l).cps.toList = l := by simp [mk]
  rw [e, List.all_eq_true]
  exact ha
theorem nameB_len {z : Str} (h : nameB z = true) : 1 ≤ z.length ∧ z.length ≤ 8 := by
  unfold nameB at h
  rw [Bool.and_eq_true] at h
  exact of_decide_eq_true h.1
theorem word_name {one : Bool} {b : List Nat} {sp t k : Nat} (hk : k < 44) (hb : b.length ≤ 6) (ha : ∀ c ∈ b, isL c = true) : nameB (mk (word one b sp t k)) = true := by
  cases one with
  | true =>
    have h := bin_len k hk
    refine nameB_mk (by show 1 ≤ (bin t (k + 1)).length; unfold bin; rw [List.length_map]; omega) (by show (bin t (k + 1)).length ≤ 8; unfold bin; rw [List.length_map]; omega) (fun c hc => ?_)
    have hc' : c ∈ bin t (k + 1) := hc
    unfold bin at hc'
    obtain ⟨d, _, rfl⟩ := List.mem_map.mp hc'
    exact isL_lt _
  | false =>
    have hl : (word false b sp t k).length = b.length + 2 := by
      show (b.take sp ++ pair t k ++ b.drop sp).length = _
      rw [List.length_append, List.length_append, List.length_take, List.length_drop]
      show min sp b.length + 2 + (b.length - sp) = _
      omega
    refine nameB_mk (by omega) (by omega) (fun c hc => ?_)
    have hc' : c ∈ b.take sp ++ pair t k ++ b.drop sp := hc
    rcases List.mem_append.mp hc' with h | h
    · rcases List.mem_append.mp h with h | h
      · exact ha c (List.mem_of_mem_take h)
      · unfold pair at h
        simp only [List.mem_cons, List.not_mem_nil, or_false] at h
        rcases h with rfl | rfl
        · exact isL_lt _
        · exact isL_lt _
    · exact ha c (List.mem_of_mem_drop h)
theorem nd_set {α : Type} {x : α} : ∀ {l : List α} {j : Nat}, l.Nodup → x ∉ l → (l.set j x).Nodup
  | [], _, _, _ => by simp
  | y :: r, 0, h, hx => by
    rw [List.set_cons_zero, List.nodup_cons] at *
    exact ⟨fun z => hx (List.mem_cons_of_mem _ z), h.2⟩
  | y :: r, j + 1, h, hx => by
    rw [List.set_cons_succ]
    rw [List.nodup_cons] at *
    refine ⟨fun z => ?_, nd_set h.2 fun z => hx (List.mem_cons_of_mem _ z)⟩
    rcases List.mem_or_eq_of_mem_set z with z | z
    · exact h.1 z
    · exact hx (z ▸ List.mem_cons_self)
def terms : List Str := ["as", "with", "part", "field", "none", "done", "write", "back", "join"]
theorem terms_name : ∀ z ∈ terms, nameB z = true := by decide +kernel
theorem flat_strs : ∀ ns : List Str, (ns.map V.str).all flatV = true
  | [] => rfl
  | _ :: r => by simpa [flatV] using flat_strs r
theorem in_strs (z : Str) : ∀ ns : List Str, inV (.str z) (ns.map V.str) = decide (z ∈ ns) := by
  intro ns
  unfold inV
  rw [List.any_map]
  rw [Bool.eq_iff_iff, List.any_eq_true, decide_eq_true_iff]
  constructor
  · rintro ⟨y, hy, e⟩
    have : y = z := by simpa [eqV] using e
    exact this ▸ hy
  · intro h
    exact ⟨z, h, by simp [eqV]⟩
end K7

set_option linter.all false
set_option maxRecDepth 100000
set_option Elab.async false
set_option maxHeartbeats 4000000
namespace K7
open PySem L2
abbrev kCells : Key := Sum.inr ("cells" : Str)
abbrev kAt : Key := Sum.inr ("at" : Str)
abbrev kLeft : Key := Sum.inr ("left" : Str)
def penD (c : Addr) (a l : Int) : List (Key × V) := [(kCells, .ref c), (kAt, .int a), (kLeft, .int l)]
theorem k_ca : ¬ (kCells = kAt) := by decide +kernel
theorem k_cl : ¬ (kCells = kLeft) := by decide +kernel
theorem k_al : ¬ (kAt = kLeft) := by decide +kernel
theorem k_la : ¬ (kLeft = kAt) := fun e => k_al e.symm
theorem val_cells (c : Addr) (a l : Int) : valV (penD c a l) kCells = some (.ref c) := by
  unfold penD
  rw [valV_pos rfl]
theorem val_at (c : Addr) (a l : Int) : valV (penD c a l) kAt = some (.int a) := by
  unfold penD
  rw [valV_neg k_ca, valV_pos rfl]
theorem val_left (c : Addr) (a l : Int) : valV (penD c a l) kLeft = some (.int l) := by
  unfold penD
  rw [valV_neg k_cl, valV_neg k_al, valV_pos rfl]
theorem put_at (c : Addr) (a l a' : Int) : putK (penD c a l) kAt (.int a') = penD c a' l := by
  unfold putK penD
  rw [if_pos (by rw [List.any_eq_true]; exact ⟨(kAt, .int a), by simp, decide_eq_true rfl⟩)]
  simp only [List.map_cons, List.map_nil, if_neg k_ca, if_neg k_la, if_pos]
theorem put_left (c : Addr) (a l l' : Int) : putK (penD c a l) kLeft (.int l') = penD c a l' := by
  unfold putK penD
  rw [if_pos (by rw [List.any_eq_true]; exact ⟨(kLeft, .int l), by simp, decide_eq_true rfl⟩)]
  simp only [List.map_cons, List.map_nil, if_neg k_cl, if_neg k_al, if_pos]
theorem getL {H : Hp} {p c : Addr} {a l : Int} (h : H p = some (.dK (penD c a l))) : DGet H p (.str "left") (some (.int l)) := by
  have := DGet.k (k := kLeft) h
  rw [val_left] at this
  exact this
theorem getA {H : Hp} {p c : Addr} {a l : Int} (h : H p = some (.dK (penD c a l))) : DGet H p (.str "at") (some (.int a)) := by
  have := DGet.k (k := kAt) h
  rw [val_at] at this
  exact this
theorem getC {H : Hp} {p c : Addr} {a l : Int} (h : H p = some (.dK (penD c a l))) : DGet H p (.str "cells") (some (.ref c)) := by
  have := DGet.k (k := kCells) h
  rw [val_cells] at this
  exact this
theorem putL {H : Hp} {p c : Addr} {a l : Int} (l' : Int) (h : H p = some (.dK (penD c a l))) : DPut H p (.str "left") (.int l') (upd H p (.dK (penD c a l'))) := by
  have := DPut.k (k := kLeft) (v := .int l') h (small1000 (by show 3 ≤ 1000; decide))
  rw [put_left] at this
  exact this
theorem putA {H : Hp} {p c : Addr} {a l : Int} (a' : Int) (h : H p = some (.dK (penD c a l))) : DPut H p (.str "at") (.int a') (upd H p (.dK (penD c a' l))) := by
  have := DPut.k (k := kAt) (v := .int a') h (small1000 (by show 3 ≤ 1000; decide))
  rw [put_at] at this
  exact this
structure PenAt (H : Hp) (p c : Addr) (ns : List Int) (a : Int) : Prop where
  ob : ∃ l, 0 ≤ l ∧ H p = some (.dK (penD c a l))
  ce : H c = some (.lst (ns.map V.int))
  ge : 0 ≤ a
  sm : ns.length ≤ 63
theorem PenAt.same {H H' : Hp} {p c : Addr} {ns : List Int} {a : Int} (x : PenAt H p c ns a) (h : Same H H') : PenAt H' p c ns a := by
  obtain ⟨⟨l, hl, e⟩, ce, ge, sm⟩ := x
  exact ⟨⟨l, hl, h _ _ e⟩, h _ _ ce, ge, sm⟩
theorem PenAt.ne {H : Hp} {p c : Addr} {ns : List Int} {a : Int} (x : PenAt H p c ns a) : c ≠ p := by
  obtain ⟨⟨l, hl, e⟩, ce, _, _⟩ := x
  exact ne_of ce e (by intro z; cases z)
def spPen (K : PySem.W.Frag) : Sp := fun vs H Q _ => ∃ (a : Addr) (ns : List Int), vs = [.ref a] ∧ SqL K H a (ns.map V.int) ∧ ns.length ≤ 63 ∧ ∀ p c H', PenAt H' p c ns 0 → Same H H' → H p = none → Q (.ref p) H'
def spTake : Sp := fun vs H Q _ => ∃ (p c : Addr) (ns : List Int) (a m : Int), vs = [.ref p, .int m] ∧ PenAt H p c ns a ∧ a ≤ 1000000 ∧ 0 < m ∧ m < 2 ^ 512 ∧
  ∀ r a' H', 0 ≤ r → r < m → a ≤ a' → a' ≤ a + 1 → PenAt H' p c ns a' → KeepBut p H H' → Q (.int r) H'
section
variable {P : Program} {w : World} {K : PySem.W.Frag} {mg : Str → Option Value} {base : Heap}
theorem scPen : FnScope ["_law_script"] ["_law_script"] (defScope sPen) := ⟨rfl, rfl, rfl, by decide +kernel, rfl, by decide +kernel, by decide +kernel⟩
theorem cut63 (ns : List Int) (h : ns.length ≤ 63) : cutV (ns.map V.int) none (some 63) = ns.map V.int := by
  have e : HT.sIx (ns.map V.int).length (ns.map V.int).length (some 63) = (ns.map V.int).length := by
    have := HT.sIx_nat (ns.map V.int).length (ns.map V.int).length 63
    rw [List.length_map] at this ⊢
    refine Eq.trans this ?_
    omega
  unfold cutV
  rw [e, HT.sIx_none, List.drop_zero, Nat.sub_zero, List.take_length]
theorem ok_pen {f : Addr} {fd : FuncData} (F : Fun K "_law_pen" "_law_pen" sPen f fd) (hlist : mg "list" = none) : FnOk P w K mg base CX0 1 f fd ["_law_script"] (spPen K) := by
  refine F.ok scPen (fun vs H Q E h => ?_) (fun cdv A outer s H vs Q E hr h => ?_)
  · obtain ⟨a, ns, rfl, _⟩ := h
    rfl
  · obtain ⟨a, ns, rfl, hS, hn, k⟩ := h
    refine ⟨_, pss_one (ps_ret (pe_disp (pps_cons pe_str (pe_callTy call_list_of (by rfl) hlist (by kernel_rfl) (pa_cons (pe_slice sl_list (pv 0) po_none (po_some pe_int)) pa_nil)) (pps_cons pe_str pe_int (pps_cons pe_str pe_int pps_nil))) rfl rfl (by simp) (by decide))), ?_⟩
    intro p hp
    refine ⟨_, rfl, _, rfl, _, _, rfl, (Same.new hp).seq hS, fun q hq => ?_⟩
    rw [cut63 ns hn]
    refine ⟨q, _, rfl, .inl (SqL.of upd_same), fun c hc => ?_⟩
    have nqp : q ≠ p := (ne_of_none upd_same hq).symm
    have ncp : c ≠ p := (ne_of_none (show upd (upd H p (HO.dK [])) q (.lst (ns.map V.int)) p = some (HO.dK []) by rw [upd_ne nqp.symm, upd_same]) hc).symm
    refine ⟨by rw [upd_ne ncp.symm, upd_ne nqp.symm, upd_same], [(kCells, .ref c), (kAt, .int 0), (kLeft, .int 0)], rfl, by show 3 ≤ 15; decide, ?_⟩
    have em : mergeK [] [(kCells, V.ref c), (kAt, .int 0), (kLeft, .int 0)] = penD c 0 0 := by
      have e1 : putK ([] : List (Key × V)) kCells (.ref c) = [(kCells, .ref c)] := by rw [putK_new _ valV_nil]; rfl
      have e2 : putK [(kCells, V.ref c)] kAt (.int 0) = [(kCells, .ref c), (kAt, .int 0)] := by rw [putK_new _ (by rw [valV_neg k_ca, valV_nil])]; rfl
      have e3 : putK [(kCells, V.ref c), (kAt, .int 0)] kLeft (.int 0) = [(kCells, .ref c), (kAt, .int 0), (kLeft, .int 0)] := by rw [putK_new _ (by rw [valV_neg k_cl, valV_neg k_al, valV_nil])]; rfl
      show putK (putK (putK [] kCells (.ref c)) kAt (.int 0)) kLeft (.int 0) = _
      rw [e1, e2, e3]
      rfl
    rw [em]
    refine k p c _ ⟨⟨0, Int.le_refl _, upd_same⟩, by rw [upd_ne ncp, upd_same], Int.le_refl _, hn⟩ (fun b o e => ?_) hp
    have nbp : b ≠ p := ne_of_none e hp
    have nbq : b ≠ q := ne_of_none (show upd H p (HO.dK []) b = some o by rw [upd_ne nbp]; exact e) hq
    have nbc : b ≠ c := ne_of_none (show upd (upd H p (HO.dK [])) q (.lst (ns.map V.int)) b = some o by rw [upd_ne nbq, upd_ne nbp]; exact e) hc
    rw [upd_ne nbp, upd_ne nbc, upd_ne nbq, upd_ne nbp]
    exact e

theorem scTake : FnScope ["_law_pen_here", "_law_many", "_law_found", "_law_at", "_law_cells", "_law_cell", "_law_one", "_law_two"] ["_law_pen_here", "_law_many"] (defScope sTake) := ⟨rfl, rfl, rfl, by decide +kernel, rfl, by decide +kernel, by decide +kernel⟩
theorem sq_le {c a b : Int} (hc : 0 ≤ c) (h : 0 ≤ a) (h2 : a ≤ b) : 0 ≤ c * a * a ∧ c * a * a ≤ c * b * b := by
  have h1 : 0 ≤ c * a := Int.mul_nonneg hc h
  have h3 : c * a ≤ c * b := Int.mul_le_mul_of_nonneg_left h2 hc
  exact ⟨Int.mul_nonneg h1 h, Int.mul_le_mul h3 h2 h (Int.mul_nonneg hc (Int.le_trans h h2))⟩
theorem bnd2 (x : Int) {a : Int} (h : 0 ≤ a) (h2 : a ≤ 1000000) : Int.natAbs (x % (2147483629 : Int) + (1213 : Int) * a * a + (3 : Int)) < 2 ^ 64 := by
  obtain ⟨b1, b2⟩ := sq_le (c := (1213 : Int)) (a := a) (b := 1000000) (by decide) h h2
  have e1 := Int.emod_nonneg x (show (2147483629 : Int) ≠ 0 by decide)
  have e2 := Int.emod_lt_of_pos x (show 0 < (2147483629 : Int) by decide)
  omega
theorem bnd3 {x : Int} : -(2 ^ 64) < x % (2147483543 : Int) ∧ x % (2147483543 : Int) < 2 ^ 64 := by
  have e1 := Int.emod_nonneg x (show (2147483543 : Int) ≠ 0 by decide)
  have e2 := Int.emod_lt_of_pos x (show 0 < (2147483543 : Int) by decide)
  omega
theorem ok_take {f : Addr} {fd : FuncData} (F : Fun K "_law_take" "_law_take" sTake f fd) (hlen : mg "len" = none) (habs : mg "abs" = none) : FnOk P w K mg base CX0 1 f fd ["_law_pen_here", "_law_many"] spTake := by
  refine F.ok scTake (fun vs H Q E h => ?_) (fun cdv A outer s H vs Q E hr h => ?_)
  · obtain ⟨p, c, ns, a, m, rfl, _⟩ := h
    rfl
  · obtain ⟨p, c, ns, a, m, rfl, hp, ha, hm, hm2, k⟩ := h
    have hu := hu_of hr
    have hu' : (A.deeper (PyProof.Rows.envOfC "_law_take" (defScope sTake) s.heap.objs.size f cdv)).units < cLine := by omega
    refine ⟨_, pss_cons (ps_if (pt_cmpR op_gt (pe_dget hu (pv 0) pe_str (fun _ _ => rfl)) pe_int (nomark _))
        (pss_cons (ps_set (i := 2) scTake.nd rfl (Or.inl rfl) (pe_op op_mod (pe_dget hu (pv 0) pe_str (fun _ _ => rfl)) (pv 1)))
        (pss_cons (ps_dput hu (pv 0) pe_str (pe_op op_fdivL (pe_dget hu (pv 0) pe_str (fun _ _ => rfl)) (pv 1)) rfl)
        (pss_one (ps_ret (pv 2))))) pss_nil)
      (pss_cons (ps_set (i := 3) scTake.nd rfl (Or.inl rfl) (pe_dget hu (pv 0) pe_str (fun _ _ => rfl)))
      (pss_cons (ps_dput hu (pv 0) pe_str (pe_op op_add (pv 3) pe_int) rfl)
      (pss_cons (ps_set (i := 4) scTake.nd rfl (Or.inl rfl) (pe_dget hu (pv 0) pe_str (fun _ _ => rfl)))
      (pss_cons (ps_set (i := 5) scTake.nd rfl (Or.inl rfl) (pe_op op_add (pe_op op_add (pe_op op_mul (pe_op op_mul pe_int (pv 3)) (pv 3)) (pe_op op_mul pe_int (pv 3))) pe_int))
      (pss_cons (ps_mid <| ps_if (pt_cmpR (op_neL hu') (pv 4) (pe_lst pa_nil) (nomark _))
        (pss_one (ps_set (i := 5) scTake.nd rfl (Or.inl rfl) (pe_ix ix_list (pv 4) (pe_op op_mod (pv 3) (pe_callB call_len_seq (by rfl) hlen PySem.boot_len (pa_cons (pv 4) pa_nil))) (fun _ _ => rfl)))) pss_nil)
      (pss_cons (ps_mid <| ps_if (pw_and (pt_cmpR op_lt (pv 3) (pe_callB call_len_seq (by rfl) hlen PySem.boot_len (pa_cons (pv 4) pa_nil)) (nomark _))
          (pw_and1 (pt_cmpR op_ge (pe_callB call_abs (by rfl) habs (by kernel_rfl) (pa_cons (pv 5) pa_nil)) (pe_op op_pow pe_int pe_int) (nomark _)))).pt
        (pss_cons (ps_dput hu (pv 0) pe_str (pe_op op_fdivL (pe_callB call_abs (by rfl) habs (by kernel_rfl) (pa_cons (pv 5) pa_nil)) (pv 1)) rfl)
        (pss_one (ps_ret (pe_op op_mod (pe_callB call_abs (by rfl) habs (by kernel_rfl) (pa_cons (pv 5) pa_nil)) (pv 1))))) pss_nil)
      (pss_cons (ps_set (i := 6) scTake.nd rfl (Or.inl rfl) (pe_op op_mod (pe_op op_pow (pe_op op_add (pe_op op_add (pe_op op_mod (pv 5) pe_int) (pe_op op_mul pe_int (pv 3))) pe_int) pe_int) pe_int))
      (pss_cons (ps_set (i := 7) scTake.nd rfl (Or.inl rfl) (pe_op op_mod (pe_op op_pow (pe_op op_add (pe_op op_add (pv 6) (pe_op op_mul (pe_op op_mul pe_int (pv 3)) (pv 3))) pe_int) pe_int) pe_int))
      (pss_one (ps_ret (pe_op op_mod (pe_op op_fdivL (pe_op op_mod (pe_op op_mul (pv 7) (pe_op op_add (pe_op op_mod (pv 6) pe_int) pe_int)) pe_int) pe_int) (pv 1)))))))))))), ?_⟩
    obtain ⟨⟨l, hl0, hob⟩, hce, hge, hsm⟩ := id hp
    have ncp := hp.ne
    refine ⟨_, rfl, p, _, rfl, getL hob, _, _, rfl, rfl, _, rfl, ?_⟩
    refine ite2 (fun h0 => ?_) (fun h0 => ?_)
    · refine ⟨_, rfl, p, _, rfl, getL hob, _, rfl, _, _, rfl, rfl, hm, ?_⟩
      refine ⟨_, rfl, p, _, rfl, getL hob, _, rfl, _, _, rfl, rfl, CDivL.of hm hm2, _, rfl, p, _, rfl, putL _ hob, ?_⟩
      refine ⟨_, rfl, ?_⟩
      exact k (l % m) a _ (Int.emod_nonneg _ (by omega)) (Int.emod_lt_of_pos _ hm) (Int.le_refl _) (by omega) ⟨⟨l / m, Int.ediv_nonneg hl0 (by omega), upd_same⟩, by rw [upd_ne ncp]; exact hce, hge, hsm⟩ (KeepBut.refl p H).upd
    · refine ⟨_, rfl, p, _, rfl, getA hob, ?_⟩
      refine ⟨_, rfl, _, _, rfl, rfl, _, rfl, p, _, rfl, putA _ hob, ?_⟩
      refine ⟨_, rfl, p, _, rfl, getC upd_same, ?_⟩
      refine ⟨_, rfl, _, _, rfl, rfl, .inl (by decide), _, rfl, _, _, rfl, rfl, .inr (by omega), _, rfl, _, _, rfl, rfl, .inl (by decide), _, _, rfl, rfl, _, _, rfl, rfl, ?_⟩
      have keep1 : KeepBut p H (upd H p (.dK (penD c (a + 1) l))) := (KeepBut.refl p H).upd
      have hc1 : (upd H p (.dK (penD c (a + 1) l))) c = some (.lst (ns.map V.int)) := by rw [upd_ne ncp]; exact hce
      refine ⟨fun σ' H' => ∃ cv : Int, σ' = [some (.ref p), some (.int m), none, some (.int a), some (.ref c), some (.int cv), none, none] ∧ KeepBut p H H' ∧ H' p = some (.dK (penD c (a + 1) l)) ∧ H' c = some (.lst (ns.map V.int)), ?_, ?_⟩
      · refine ⟨_, rfl, Nat.zero_le _, fun q hq => ?_⟩
        have s2 := Same.new (o := .lst []) hq
        refine ⟨c, q, ns.map V.int, [], rfl, rfl, SqL.of (s2 _ _ hc1), SqL.of upd_same, flat_ints ns, rfl, _, rfl, ?_⟩
        refine ite2 (fun hne => ?_) (fun hne => ?_)
        · have hpos : 0 < ns.length := by
            cases ns with
            | nil => exact absurd hne (by simp [eqVs])
            | cons x r => simp
          have hlt : (a % (ns.length : Int)).toNat < ns.length := by
            have h1 := Int.emod_lt_of_pos a (show (0 : Int) < ns.length by omega)
            have h2 := Int.emod_nonneg a (show (ns.length : Int) ≠ 0 by omega)
            omega
          have hat : atI (ns.map V.int) (a % (ns.length : Int)) = some (.int (ns[(a % (ns.length : Int)).toNat])) := by
            have h2 := Int.emod_nonneg a (show (ns.length : Int) ≠ 0 by omega)
            have e := atI_nat (xs := ns.map V.int) (j := (a % (ns.length : Int)).toNat) (v := .int (ns[(a % (ns.length : Int)).toNat])) (by rw [List.getElem?_map, List.getElem?_eq_getElem hlt]; rfl)
            rw [Int.toNat_of_nonneg h2] at e
            exact e
          have hat' : atI (ns.map V.int) (a % ((ns.map V.int).length : Int)) = some (.int (ns[(a % (ns.length : Int)).toNat])) := by
            rw [List.length_map]; exact hat
          refine ⟨_, rfl, _, rfl, _, rfl, c, _, rfl, .inl (SqL.of (s2 _ _ hc1)), _, _, rfl, rfl, (by rw [List.length_map]; omega), c, _, _, _, rfl, rfl, SqL.of (s2 _ _ hc1), hat', ?_⟩
          exact ⟨_, rfl, keep1.same s2, s2 _ _ upd_same, s2 _ _ hc1⟩
        · exact ⟨_, rfl, keep1.same s2, s2 _ _ upd_same, s2 _ _ hc1⟩
      · rintro σ' H' ⟨cv, rfl, kp, hpp, hcc⟩
        refine ⟨fun σ' H' => ∃ cv : Int, σ' = [some (.ref p), some (.int m), none, some (.int a), some (.ref c), some (.int cv), none, none] ∧ KeepBut p H H' ∧ H' p = some (.dK (penD c (a + 1) l)) ∧ H' c = some (.lst (ns.map V.int)), ?_, ?_⟩
        · refine ⟨_, rfl, _, rfl, c, _, rfl, .inl (SqL.of hcc), _, _, rfl, rfl, _, rfl, ?_⟩
          refine ite2 (fun h1 => ?_) (fun h1 => ?_)
          · refine ⟨_, rfl, _, rfl, _, _, rfl, rfl, ⟨by decide, by decide, by decide⟩, _, _, rfl, rfl, _, rfl, ?_⟩
            refine ite2 (fun h2 => ?_) (fun h2 => ?_)
            · refine ⟨_, rfl, _, rfl, _, rfl, _, _, rfl, rfl, CDivL.of hm hm2, _, rfl, p, _, rfl, putL _ hpp, ?_⟩
              refine ⟨_, rfl, _, rfl, _, rfl, _, _, rfl, rfl, hm, ?_⟩
              have habs0 : 0 ≤ (if cv < 0 then -cv else cv) := by split <;> omega
              exact k _ (a + 1) _ (Int.emod_nonneg _ (by omega)) (Int.emod_lt_of_pos _ hm) (by omega) (Int.le_refl _) ⟨⟨_, Int.ediv_nonneg habs0 (by omega), upd_same⟩, by rw [upd_ne ncp]; exact hcc, by omega, hsm⟩ kp.upd
            · exact ⟨cv, rfl, kp, hpp, hcc⟩
          · exact iteF ⟨cv, rfl, kp, hpp, hcc⟩
        · rintro σ' H' ⟨cv, rfl, kp, hpp, hcc⟩
          refine ⟨_, rfl, _, _, rfl, rfl, (by show (0 : Int) < _; decide), _, rfl, _, _, rfl, rfl, .inl (by decide), _, _, rfl, rfl, _, _, rfl, rfl, _, _, rfl, rfl, ⟨by decide, by decide, ?_⟩, _, _, rfl, rfl, (by show (0 : Int) < _; decide), ?_⟩
          · have e1 := Int.emod_nonneg cv (show (2147483587 : Int) ≠ 0 by decide)
            have e2 := Int.emod_lt_of_pos cv (show 0 < (2147483587 : Int) by decide)
            show Int.natAbs (cv % (2147483587 : Int) + (45007 : Int) * a + (11 : Int)) < 2 ^ 64
            omega
          · refine ⟨_, rfl, _, rfl, _, _, rfl, rfl, .inl (by decide), _, rfl, _, _, rfl, rfl, .inr (by omega), _, _, rfl, rfl, _, _, rfl, rfl, _, _, rfl, rfl, ⟨by decide, by decide, bnd2 _ hge ha⟩, _, _, rfl, rfl, (by show (0 : Int) < _; decide), ?_⟩
            refine ⟨_, rfl, _, rfl, _, _, rfl, rfl, (by show (0 : Int) < _; decide), _, _, rfl, rfl, _, _, rfl, rfl, .inl bnd3, _, _, rfl, rfl, (by show (0 : Int) < _; decide), _, _, rfl, rfl, CDivL.of (by decide) (by decide +kernel), _, rfl, _, _, rfl, rfl, hm, ?_⟩
            exact k _ (a + 1) _ (Int.emod_nonneg _ (by omega)) (Int.emod_lt_of_pos _ hm) (by omega) (Int.le_refl _) ⟨⟨l, hl0, hpp⟩, hcc, by omega, hsm⟩ kp
end
end K7

set_option linter.all false
set_option maxRecDepth 100000
set_option Elab.async false
set_option maxHeartbeats 8000000
namespace K7
open PySem L2
structure Nms (ws : List Str) : Prop where
  nd : ws.Nodup
  ok : ∀ w ∈ ws, nameB w = true
theorem Nms.take {ws : List Str} (h : Nms ws) (n : Nat) : Nms (ws.take n) := ⟨h.nd.sublist (List.take_sublist n ws), fun w hw => h.ok w (List.mem_of_mem_take hw)⟩
def spNames : Sp := fun vs H Q _ => ∃ (p c : Addr) (ns : List Int) (a : Int) (m : Nat), vs = [.ref p, .int m] ∧ PenAt H p c ns a ∧ a ≤ 900000 ∧ m ≤ 44 ∧
  ∀ l ws a' H', H l = none → H' l = some (.lst (ws.map V.str)) → ws.length = m → Nms ws → a ≤ a' → a' ≤ a + 30 → PenAt H' p c ns a' → KeepBut p H H' → Q (.ref l) H'
theorem pick_range (l : List Nat) : ∀ (m s : Nat), (List.range' s m).filterMap (fun j => l.toArray[j]?) = (l.drop s).take m
  | 0, s => by simp
  | m + 1, s => by
    rw [List.range'_succ, List.filterMap_cons]
    have ih := pick_range l m (s + 1)
    by_cases h : s < l.length
    · have e : l.toArray[s]? = some l[s] := by simp [h]
      rw [e]
      dsimp only
      rw [ih, List.drop_eq_getElem_cons h, List.take_succ_cons]
    · have e : l.toArray[s]? = none := by simp; omega
      rw [e]
      dsimp only
      rw [ih, List.drop_eq_nil_of_le (by omega), List.drop_eq_nil_of_le (by omega)]
      simp
theorem idx_to' : ∀ n : Nat, n < 7 → ∀ s : Nat, s < 7 → s ≤ n → Builtin.Str.strSliceIndices none (some (s : Int)) 1 n = List.range' 0 s := by decide +kernel
theorem idx_from' : ∀ n : Nat, n < 7 → ∀ s : Nat, s < 7 → s ≤ n → Builtin.Str.strSliceIndices (some (s : Int)) none 1 n = List.range' s (n - s) := by decide +kernel
theorem sl_to {b : List Nat} {s : Nat} (hb : b.length ≤ 6) (hs : s ≤ b.length) : Txt.slice (mk b) none (some (s : Int)) = mk (b.take s) := by
  unfold Txt.slice
  rw [mk_len, idx_to' _ (by omega) _ (by omega) hs]
  split
  · next h =>
    simp at h
    rw [h, List.take_length]
  · have e := pick_range b s 0
    rw [List.drop_zero] at e
    exact congrArg mk e
theorem sl_from {b : List Nat} {s : Nat} (hb : b.length ≤ 6) (hs : s ≤ b.length) : Txt.slice (mk b) (some (s : Int)) none = mk (b.drop s) := by
  unfold Txt.slice
  rw [mk_len, idx_from' _ (by omega) _ (by omega) hs]
  split
  · next h =>
    simp at h
    have : s = 0 ∨ b.length = 0 := by omega
    rcases this with rfl | h0
    · rfl
    · rw [List.length_eq_zero_iff.mp h0]; simp
  · have e := pick_range b (b.length - s) s
    rw [show (b.drop s).take (b.length - s) = b.drop s from List.take_of_length_le (by rw [List.length_drop]; exact Nat.le_refl _)] at e
    exact congrArg mk e
theorem glue_fold (bs : List Nat) : ∀ acc : Array Nat, (bs.map fun c => mk [c]).foldl (fun (acc : Array Nat) (p : Str) => acc ++ (Str.ofString "").cps ++ p.cps) acc = acc ++ bs.toArray := by
  have e0 : (Str.ofString "").cps = #[] := by decide +kernel
  induction bs with
  | nil => intro acc; simp
  | cons x r ih =>
    intro acc
    rw [List.map_cons, List.foldl_cons, ih, e0]
    simp [mk]
theorem join_mk (bs : List Nat) : Txt.join "" (bs.map fun c => mk [c]) = mk bs := by
  show Builtin.Str.glued _ _ = _
  unfold Builtin.Str.glued
  cases bs with
  | nil => rfl
  | cons x r =>
    have := glue_fold r #[x]
    simp only [List.map_cons, List.headD_cons, List.drop_succ_cons, List.drop_zero]
    show (⟨List.foldl _ _ _⟩ : Str) = _
    rw [show (mk [x]).cps = #[x] from rfl]
    rw [this]
    simp [mk]
theorem abc_atM (x : Nat) {j : Int} (hj : j = (x : Int) % 26) : atI abc.cps.toList j = some (lt26 x) := by
  have h0 : 0 ≤ j := by omega
  have h1 : j < 26 := by omega
  rw [abc_at h0 h1]
  unfold lt26
  congr 1
  omega
theorem bij_step (f n : Nat) (h : n ≠ 0) : bij (f + 1) n = bij f ((n - 1) / 2) ++ [n % 2] := by
  show (if n = 0 then [] else _) = _
  rw [if_neg h]
section
variable {P : Program} {w : World} {K : PySem.W.Frag} {mg : Str → Option Value} {base : Heap}
theorem scNames : FnScope ["_law_pen_here", "_law_many", "_law_letters", "_law_way", "_law_turn", "_law_k", "_law_base", "_law_spot", "_law_found", "_law_word", "_law_rest", "_law_terms"] ["_law_pen_here", "_law_many"] (defScope sNames) := ⟨rfl, rfl, rfl, by decide +kernel, rfl, by decide +kernel, by decide +kernel⟩
theorem sum_len {ws : List Str} (h : ∀ w ∈ ws, w.length = 1) : (ws.map (·.length)).sum = ws.length := by
  induction ws with
  | nil => rfl
  | cons x r ih =>
    rw [List.map_cons, List.sum_cons, ih fun w hw => h w (List.mem_cons_of_mem _ hw), h x List.mem_cons_self, List.length_cons]
    omega
theorem ok_names {f fT : Addr} {fd fdT : FuncData} (F : Fun K "_law_names" "_law_names" sNames f fd) (hlen : mg "len" = none) (hrng : mg "range" = none) (hmin : mg "min" = none)
    (GT : FnOk P w K mg base CX0 1 fT fdT ["_law_pen_here", "_law_many"] spTake) (mT : mg "_law_take" = some (.ref fT)) (kT : PySem.W.keepIn K (.ref fT) = true) (bT : Binds K fdT ["_law_pen_here", "_law_many"] []) :
    FnOk P w K mg base CX0 2 f fd ["_law_pen_here", "_law_many"] spNames := by
  refine F.ok scNames (fun vs H Q E h => ?_) (fun cdv A outer s H vs Q E hr h => ?_)
  · obtain ⟨p, c, ns, a, m, rfl, _⟩ := h
    rfl
  · obtain ⟨p, c, ns, a, m, rfl, hp, ha, hm, k⟩ := h
    refine ⟨_, pss_cons (ps_set (i := 2) scNames.nd rfl (Or.inr rfl) pe_str)
      (pss_cons (ps_set (i := 3) scNames.nd rfl (Or.inl rfl) (pe_call GT hr rfl mT kT bT .nil pass0 (pa_c (pv 0) (pa_c pe_int pa_nil))))
      (pss_cons (ps_set (i := 4) scNames.nd rfl (Or.inl rfl) (pe_call GT hr rfl mT kT bT .nil pass0 (pa_c (pv 0) (pa_c pe_int pa_nil))))
      (pss_cons (ps_set (i := 6) scNames.nd rfl (Or.inl rfl) (pe_bm PySem.F.plainAttrs_str PySem.F.slot_str_join PySem.F.type_str_join mt_join pe_str (pa_c (pe_comp (N := ["_law_k", "_law_letters", "_law_pen_here"]) (src := [none, some 2, some 0]) (osc := defScope sNames) (oN := ["_law_pen_here", "_law_many", "_law_letters", "_law_way", "_law_turn", "_law_k", "_law_base", "_law_spot", "_law_found", "_law_word", "_law_rest", "_law_terms"]) ⟨by rfl, by decide +kernel, by decide +kernel, by decide +kernel, rfl, by rfl⟩
            (pi_range1 rfl hrng (pa_c (pe_ix ix_list (pe_lst (pa_c (pe_call GT hr rfl mT kT bT .nil pass0 (pa_c (pv 0) (pa_c pe_int pa_nil))) (pa_c pe_int (pa_c pe_int pa_nil)))) (pv 3) (fun _ _ => rfl)) pa_nil))
            fun cl s H fp pins C => ⟨pg_name (i := 0) (show (["_law_k", "_law_letters", "_law_pen_here"] : List Str).Nodup by decide +kernel) rfl (Or.inl rfl), pts_nil, pe_ix ix_str (pv 1) (pe_call GT hr rfl mT kT bT .nil pass0 (pa_c (pv 2) (pa_c pe_int pa_nil))) (fun _ _ => rfl)⟩) pa_nil)))
      (pss_cons (ps_set (i := 7) scNames.nd rfl (Or.inl rfl) (pe_call GT hr rfl mT kT bT .nil pass0 (pa_c (pv 0) (pa_c (pe_op op_add (pe_callB call_len_str (by rfl) hlen PySem.boot_len (pa_c (pv 6) pa_nil)) pe_int) pa_nil))))
      (pss_cons (ps_set (i := 8) scNames.nd rfl (Or.inl rfl) (pe_lst pa_nil))
      (pss_cons (ps_for PassesOwn.never rfl (pi_range1 rfl hrng (pa_c (pv 1) pa_nil)) (pg_name (i := 5) scNames.nd rfl (Or.inl rfl))
        (pss_cons (ps_set (i := 9) scNames.nd rfl (Or.inl rfl) (pe_op op_add_str (pe_ix ix_str (pv 2) (pe_op op_mod (pe_op op_add (pv 4) (pe_op op_mul pe_int (pv 5))) pe_int) (fun _ _ => rfl)) (pe_ix ix_str (pv 2) (pe_op op_mod (pe_op op_add (pv 4) (pe_op op_fdiv (pv 5) pe_int)) pe_int) (fun _ _ => rfl))))
        (pss_cons (ps_set (i := 9) scNames.nd rfl (Or.inl rfl) (pe_op op_add_str (pe_op op_add_str (pe_slice sl_str (pv 6) po_none (po_some (pv 7))) (pv 9)) (pe_slice sl_str (pv 6) (po_some (pv 7)) po_none)))
        (pss_cons (ps_mid <| ps_if (pt_cmpR op_eq (pv 3) pe_int (nomark _))
          (pss_cons (ps_set (i := 9) scNames.nd rfl (Or.inl rfl) pe_str)
          (pss_cons (ps_set (i := 10) scNames.nd rfl (Or.inl rfl) (pe_op op_add (pv 5) pe_int))
          (pss_one (ps_while PassesOwn.never (pt_cmpR op_gt (pv 10) pe_int (nomark _))
            (pss_cons (ps_set (i := 9) scNames.nd rfl (Or.inl rfl) (pe_op op_add_str (pe_ix ix_str (pv 2) (pe_op op_mod (pe_op op_add (pv 4) (pe_op op_mul pe_int (pe_op op_mod (pv 10) pe_int))) pe_int) (fun _ _ => rfl)) (pv 9)))
            (pss_one (ps_set (i := 10) scNames.nd rfl (Or.inl rfl) (pe_op op_fdiv (pe_op op_sub (pv 10) pe_int) pe_int)))))))) pss_nil)
        (pss_one (ps_expr (pe_bm PySem.F.plainAttrs_list PySem.F.slot_list_append PySem.F.type_list_append mt_append (pv 8) (pa_c (pv 9) pa_nil))))))))
      (pss_cons (ps_set (i := 11) scNames.nd rfl (Or.inl rfl) (pe_lst (pa_c pe_str (pa_c pe_str (pa_c pe_str (pa_c pe_str (pa_c pe_str (pa_c pe_str (pa_c pe_str (pa_c pe_str (pa_c pe_str pa_nil)))))))))))
      (pss_cons (ps_mid <| ps_if (pt_cmpR op_eq (pe_call GT hr rfl mT kT bT .nil pass0 (pa_c (pv 0) (pa_c pe_int pa_nil))) pe_int (nomark _))
        (pss_one (ps_for PassesOwn.never rfl (pi_range1 rfl hrng (pa_c (pe_callB (call_min2 rfl) (by rfl) hmin (by kernel_rfl) (pa_c (pv 1) (pa_c pe_int pa_nil))) pa_nil)) (pg_name (i := 5) scNames.nd rfl (Or.inl rfl))
          (pss_one (ps_if (PW.pt (pw_and (pt_cmpR op_eq (pe_call GT hr rfl mT kT bT .nil pass0 (pa_c (pv 0) (pa_c pe_int pa_nil))) pe_int (nomark _)) (pw_and1 (pt_cmpR op_notIn_seq (pe_ix ix_list (pv 11) (pv 5) (fun _ _ => rfl)) (pv 8) (by with_unfolding_all rfl)))))
            (pss_one (ps_asg (pe_ix ix_list (pv 11) (pv 5) (fun _ _ => rfl)) (pg_sub (pv 8) (pv 5) set_list))) pss_nil)))) pss_nil)
      (pss_one (ps_ret (pv 8))))))))))), ?_⟩
    have e0 : (Str.ofString "").length = 0 := by decide +kernel
    have zA : abc.length ≤ sizeLine := sizeLine_big (by rw [abc_len]; decide)
    refine ⟨_, rfl, p, c, ns, a, _, rfl, hp, by omega, by decide, by decide +kernel, fun wy a1 H1 w0 w1 l1 u1 hp1 kp1 => ?_⟩
    refine ⟨_, rfl, p, c, ns, a1, _, rfl, hp1, by omega, by decide, by decide +kernel, fun tt a2 H2 t0 t1 l2 u2 hp2 kp2 => ?_⟩
    obtain ⟨t, rfl⟩ : ∃ t : Nat, tt = t := ⟨tt.toNat, by omega⟩
    refine ⟨rfl, _, rfl, p, c, ns, a2, _, rfl, hp2, by omega, by decide, by decide +kernel, fun r3 a3 H3 r30 r31 l3 u3 hp3 kp3 => ?_⟩
    refine ⟨sizeLine_big (by show 3 ≤ 1000000; decide), fun q hq => ?_⟩
    have sq := Same.new (o := .lst [V.int r3, .int 0, .int 6]) hq
    obtain ⟨v, hv, hat⟩ := atI_in (xs := [V.int r3, .int 0, .int 6]) (i := wy) w0 (by show wy < 3; omega)
    obtain ⟨n, rfl, hn0, hn6⟩ : ∃ n : Int, v = .int n ∧ 0 ≤ n ∧ n ≤ 6 := by
      simp only [List.mem_cons, List.not_mem_nil, or_false] at hv
      rcases hv with rfl | rfl | rfl
      · exact ⟨_, rfl, by omega, by omega⟩
      · exact ⟨_, rfl, by omega, by omega⟩
      · exact ⟨_, rfl, by omega, by omega⟩
    refine ⟨_, rfl, q, _, wy, _, rfl, rfl, SqL.of upd_same, hat, ?_⟩
    refine ⟨n, rfl, by omega, by omega, ?_⟩
    have kq : KeepBut p H (upd H3 q (.lst [V.int r3, .int 0, .int 6])) := ((kp1.trans kp2).trans kp3).same sq
    have hpq := hp3.same sq
    generalize upd H3 q (.lst [V.int r3, .int 0, .int 6]) = H4 at kq hpq ⊢
    refine comp_range (fun i ys σ' H' => ∃ (a' : Int) (bs : List Nat) (o : Option V), σ' = [o, some (.str abc), some (.ref p)] ∧ PenAt H' p c ns a' ∧ KeepBut p H H' ∧ a3 ≤ a' ∧ a' ≤ a3 + i ∧ ys = (bs.map fun c => mk [c]).map V.str ∧ bs.length = i ∧ (∀ c ∈ bs, isL c = true))
      ⟨a3, [], none, rfl, hpq, kq, by omega, by omega, rfl, rfl, fun w hw => by simp at hw⟩ (sizeLine_big (by omega)) (fun i ys σ H p => by obtain ⟨_, bs, _, _, _, _, _, _, rfl, e, _⟩ := p; rw [List.length_map, List.length_map, e]; exact Nat.le_refl _) ?_ ?_
    · rintro i' ys σ' H5 hi' ⟨a', bs, o, rfl, hp5, kp5, la', ha', rfl, hl, hb⟩
      dsimp only [gName]
      refine iteT ?_
      refine ⟨_, rfl, _, rfl, p, c, ns, a', _, rfl, hp5, by omega, by decide, by decide +kernel, fun r6 a6 H6 r60 r61 l6 u6 hp6 kp6 => ?_⟩
      refine ⟨_, r6, lt26 r6.toNat, rfl, rfl, zA, abc_at r60 r61, ?_⟩
      refine ⟨a6, bs ++ [lt26 r6.toNat], _, rfl, hp6, kp5.trans kp6, by omega, by omega, by rw [List.map_append, List.map_append]; rfl, by rw [List.length_append, hl]; rfl, fun c hc => ?_⟩
      rcases List.mem_append.mp hc with z | z
      · exact hb c z
      · rw [List.mem_singleton.mp z]; exact isL_lt _
    · rintro ys σ' H5 ⟨a4, b, o, rfl, hp5, kp5, l4, u4, rfl, hbl, hb⟩ D hD
      have hb6 : b.length ≤ 6 := by omega
      refine ⟨_, D, b.map (fun c => mk [c]), rfl, rfl, SqL.of upd_same, by
        rw [sum_len (fun w hw => by obtain ⟨x, _, rfl⟩ := List.mem_map.mp hw; rfl), List.length_map, e0]; omega, ?_⟩
      rw [join_mk]
      have hp6 := hp5.same (Same.new (o := .lst ((b.map fun c => mk [c]).map V.str)) hD)
      have kp6 : KeepBut p H _ := kp5.same (Same.new (o := .lst ((b.map fun c => mk [c]).map V.str)) hD)
      generalize upd H5 D (.lst ((b.map fun c => mk [c]).map V.str)) = H6 at hp6 kp6 ⊢
      refine ⟨_, rfl, _, rfl, mk b, rfl, sizeLine_big (by rw [mk_len]; omega), _, _, rfl, rfl, p, c, ns, a4, _, rfl, hp6, by omega, by omega, by rw [mk_len]; omega, fun ss a5 H7 s0 s1 l5 u5 hp7 kp7 => ?_⟩
      rw [mk_len] at s1
      obtain ⟨sp, rfl⟩ : ∃ sp : Nat, ss = sp := ⟨ss.toNat, by omega⟩
      refine ⟨Nat.zero_le _, fun L hL => ?_⟩
      have kp8 := kp6.trans kp7
      have nLp : L ≠ p := by
        obtain ⟨l, _, z⟩ := hp7.ob
        exact (ne_of_none z hL).symm
      have nLc : L ≠ c := (ne_of_none hp7.ce hL).symm
      have hHL : H L = none := by
        cases e : H L with
        | none => rfl
        | some x => exact absurd (kp8 L x e nLp) (by rw [hL]; simp)
      refine ⟨_, rfl, m, rfl, by omega, by omega, for_range (n := (m : Int).toNat) (fun i σ H' => ∃ o5 o9 o10, σ = [some (.ref p), some (.int m), some (.str abc), some (.int wy), some (.int t), o5, some (.str (mk b)), some (.int sp), some (.ref L), o9, o10, none] ∧ H' = upd H7 L (.lst (((List.range i).map fun k => mk (word (decide (wy = 1)) b sp t k)).map V.str))) ⟨_, _, _, rfl, rfl⟩ ?_ ?_⟩
      · rintro i σ H' hi ⟨o5, o9, o10, rfl, rfl⟩
        dsimp only [gName]
        have hi44 : i < 44 := by omega
        refine ⟨_, rfl, _, rfl, _, rfl, _, _, rfl, rfl, .inl ⟨by decide, by decide⟩, _, _, rfl, rfl, _, _, rfl, rfl, (by show (0 : Int) < 26; decide), _, _, lt26 (t + 7 * i), rfl, rfl, zA, abc_atM _ (by omega), ?_⟩
        refine ⟨_, rfl, _, rfl, _, rfl, _, _, rfl, rfl, ⟨by decide, by decide⟩, _, _, rfl, rfl, _, _, rfl, rfl, (by show (0 : Int) < 26; decide), _, _, lt26 (t + i / 26), rfl, rfl, zA, abc_atM _ (by omega), ?_⟩
        refine ⟨_, _, rfl, rfl, sizeLine_big (by show 1 + 1 ≤ 1000000; decide), ?_⟩
        have zB : (mk b).length ≤ sizeLine := sizeLine_big (by rw [mk_len]; omega)
        have hs6 : ∀ {x y}, (Txt.slice (mk b) x y).length ≤ 6 := fun {x y} => Nat.le_trans (Txt.slice_le _ x y) (by rw [mk_len]; omega)
        have h2 : ((⟨#[lt26 (t + 7 * i)]⟩ : Str) ++ ⟨#[lt26 (t + i / 26)]⟩).length = 2 := rfl
        refine ⟨_, rfl, _, rfl, _, rfl, mk b, rfl, zB, _, rfl, _, _, rfl, rfl, sizeLine_big (by have := hs6 (x := none) (y := some (sp : Int)); omega), _, rfl, _, rfl, _, rfl, mk b, rfl, zB, _, _, rfl, rfl, sizeLine_big (by have := hs6 (x := none) (y := some (sp : Int)); have := hs6 (x := some (sp : Int)) (y := none); rw [Str.length_append]; omega), ?_⟩
        have ew : (Txt.slice (mk b) none (some (sp : Int)) ++ ((⟨#[lt26 (t + 7 * i)]⟩ : Str) ++ ⟨#[lt26 (t + i / 26)]⟩)) ++ Txt.slice (mk b) (some (sp : Int)) none = mk (b.take sp ++ pair t i ++ b.drop sp) := by
          rw [sl_to hb6 (by omega), sl_from hb6 (by omega)]
          rw [show ((⟨#[lt26 (t + 7 * i)]⟩ : Str) ++ ⟨#[lt26 (t + i / 26)]⟩) = mk (pair t i) from rfl, mk_app, mk_app]
        rw [ew]
        refine ⟨fun σ' H' => ∃ o10, σ' = [some (.ref p), some (.int m), some (.str abc), some (.int wy), some (.int t), some (.int (0 + i)), some (.str (mk b)), some (.int sp), some (.ref L), some (.str (mk (word (decide (wy = 1)) b sp t i))), o10, none] ∧ H' = upd H7 L (.lst (((List.range i).map fun k => mk (word (decide (wy = 1)) b sp t k)).map V.str)), ?_, ?_⟩
        · refine ⟨_, rfl, rfl, _, rfl, ?_⟩
          refine ite2 (fun g => ?_) (fun g => ?_)
          · have g' : wy = 1 := V.int.inj (of_decide_eq_true g)
            subst g'
            refine ⟨_, rfl, _, _, rfl, rfl, ?_⟩
            refine ⟨fun mm σ' H' => ∃ (r f : Nat) (suf : List Nat) (rv : Int) (wv : Str), mm = r ∧ rv = (r : Int) ∧ wv = mk (suf.map fun d => lt26 (t + 9 * d)) ∧ σ' = [some (.ref p), some (.int m), some (.str abc), some (.int 1), some (.int t), some (.int (0 + i)), some (.str (mk b)), some (.int sp), some (.ref L), some (.str wv), some (.int rv), none] ∧ H' = upd H7 L (.lst (((List.range i).map fun k => mk (word (decide ((1 : Int) = 1)) b sp t k)).map V.str)) ∧ bij f r ++ suf = bij 6 (i + 1) ∧ r < 2 ^ f ∧ suf.length + f ≤ 6, ⟨i + 1, i + 1, 6, [], _, _, rfl, (by show 0 + (i : Int) + 1 = ((i + 1 : Nat) : Int); omega), (by show Str.ofString "" = mk []; decide +kernel), rfl, rfl, by simp, by omega, by simp⟩, ?_⟩
            rintro mm σ' H' ⟨r, f, suf, rv, wv, rfl, rfl, rfl, rfl, rfl, hbij, hrf, hsl⟩
            refine ⟨_, rfl, _, _, rfl, rfl, _, rfl, ?_⟩
            refine ite2 (fun g2 => ?_) (fun g2 => ?_)
            · have g2' : (0 : Int) < mm := of_decide_eq_true g2
              refine ⟨_, fun σ'' H'' h => h, ?_⟩
              obtain ⟨f', rfl⟩ : ∃ f', f = f' + 1 := by
                cases f with
                | zero => exact absurd hrf (by omega)
                | succ x => exact ⟨x, rfl⟩
              have e2 : mk [lt26 (t + 9 * (mm % 2))] ++ mk (suf.map fun d => lt26 (t + 9 * d)) = mk (((mm % 2) :: suf).map fun d => lt26 (t + 9 * d)) := by rw [mk_app]; rfl
              refine ⟨_, rfl, _, rfl, _, rfl, _, _, rfl, rfl, (by show (0 : Int) < 2; decide), _, _, rfl, rfl, .inl ⟨by decide, by decide⟩, _, _, rfl, rfl, _, _, rfl, rfl, (by show (0 : Int) < 26; decide), _, _, lt26 (t + 9 * (mm % 2)), rfl, rfl, zA, abc_atM _ (by omega), ?_⟩
              refine ⟨_, rfl, _, _, rfl, rfl, sizeLine_big (by rw [mk_len, List.length_map]; show 1 + _ ≤ _; omega), ?_⟩
              refine ⟨_, rfl, _, _, rfl, rfl, _, _, rfl, rfl, ⟨by decide, by decide⟩, ?_⟩
              refine ⟨(mm - 1) / 2, by omega, (mm - 1) / 2, f', (mm % 2) :: suf, _, _, rfl, ?_, e2, rfl, rfl, ?_, ?_, ?_⟩
              · show ((mm : Int) - 1) / 2 = _
                omega
              · rw [← hbij, bij_step f' mm (by omega)]
                simp
              · rw [Nat.pow_succ] at hrf
                omega
              · rw [List.length_cons]; omega
            · have g2' : ¬ (0 : Int) < mm := fun z => g2 (decide_eq_true z)
              have hz : mm = 0 := by omega
              subst hz
              have e3 : bij f 0 = [] := by cases f <;> rfl
              rw [e3, List.nil_append] at hbij
              have e4 : word (decide ((1 : Int) = 1)) b sp t i = suf.map fun d => lt26 (t + 9 * d) := by
                rw [hbij]; rfl
              exact ⟨some (V.int ((0 : Nat) : Int)), by rw [e4], rfl⟩
          · have g' : ¬ wy = 1 := fun z => g (decide_eq_true (by rw [z]))
            rw [decide_eq_false g']
            exact ⟨_, rfl, rfl⟩
        · rintro σ' H' ⟨o10, rfl, rfl⟩
          refine ⟨_, rfl, .inl ⟨rfl, _, SqL.of upd_same⟩, _, rfl, L, _, _, rfl, rfl, upd_same, by rw [List.length_map, List.length_map, List.length_range]; exact small1000 (by omega), ?_⟩
          refine ⟨_, _, _, rfl, ?_⟩
          rw [upd_upd, List.range_succ, List.map_append, List.map_append]
          rfl
      · rintro σ H' ⟨o5, o9, o10, rfl, rfl⟩
        have S8 := Same.new (o := .lst (((List.range (m : Int).toNat).map fun k => mk (word (decide (wy = 1)) b sp t k)).map V.str)) hL
        have hp8 := hp7.same S8
        have kp9 := kp8.same S8
        have hL8 : upd H7 L (.lst (((List.range (m : Int).toNat).map fun k => mk (word (decide (wy = 1)) b sp t k)).map V.str)) L = _ := upd_same
        have hN : Nms ((List.range (m : Int).toNat).map fun k => mk (word (decide (wy = 1)) b sp t k)) := by
          refine ⟨word_nd (by omega) (by omega), fun w hw => ?_⟩
          obtain ⟨k', hk', rfl⟩ := List.mem_map.mp hw
          have := List.mem_range.mp hk'
          exact word_name (by omega) hb6 hb
        have hwl : ((List.range (m : Int).toNat).map fun k => mk (word (decide (wy = 1)) b sp t k)).length = m := by rw [List.length_map, List.length_range]; omega
        generalize ((List.range (m : Int).toNat).map fun k => mk (word (decide (wy = 1)) b sp t k)) = ws at hp8 kp9 hL8 hN hwl ⊢
        generalize upd H7 L (.lst (ws.map V.str)) = H8 at hp8 kp9 hL8 ⊢
        refine ⟨sizeLine_big (by show 9 ≤ 1000000; decide), fun T hT => ?_⟩
        have S9 := Same.new (o := .lst (terms.map V.str)) hT
        have hT9 : upd H8 T (.lst (terms.map V.str)) T = some (.lst (terms.map V.str)) := upd_same
        have hp9 := hp8.same S9
        have kp10 := kp9.same S9
        have hL9 := S9 _ _ hL8
        have nTL : T ≠ L := (ne_of_none hL8 hT).symm
        have nTp : T ≠ p := by
          obtain ⟨l, _, z⟩ := hp8.ob
          exact (ne_of_none z hT).symm
        have eT : upd H8 T (.lst [V.str "as", .str "with", .str "part", .str "field", .str "none", .str "done", .str "write", .str "back", .str "join"]) = upd H8 T (.lst (terms.map V.str)) := rfl
        rw [eT]
        generalize upd H8 T (.lst (terms.map V.str)) = H9 at hp9 kp10 hL9 hT9 ⊢
        refine ⟨fun σ' H' => ∃ (o5 : Option V) (vs : List Str) (a6 : Int), σ' = [some (.ref p), some (.int m), some (.str abc), some (.int wy), some (.int t), o5, some (.str (mk b)), some (.int sp), some (.ref L), o9, o10, some (.ref T)] ∧ H' L = some (.lst (vs.map V.str)) ∧ vs.length = m ∧ Nms vs ∧ PenAt H' p c ns a6 ∧ a ≤ a6 ∧ a6 ≤ a + 30 ∧ KeepBut p H H', ?_, ?_⟩
        · refine ⟨_, rfl, p, c, ns, a5, _, rfl, hp9, by omega, by decide, by decide +kernel, fun r6 a6 H10 r60 r61 l6 u6 hp10 kp11 => ?_⟩
          have hL10 := kp11 _ _ hL9 nLp
          have hT10 := kp11 _ _ hT9 nTp
          have kp12 := kp10.trans kp11
          refine ⟨rfl, _, rfl, ?_⟩
          refine ite2 (fun g => ?_) (fun g => ?_)
          · refine ⟨_, rfl, _, _, rfl, ?_⟩
            obtain ⟨n9, hn9, n90, n91, n92⟩ : ∃ n9 : Int, (if (9 : Int) < m then (9 : Int) else m) = n9 ∧ 0 ≤ n9 ∧ n9 ≤ 9 ∧ n9 ≤ m := by
              refine ⟨_, rfl, ?_⟩
              split <;> omega
            rw [hn9]
            refine ⟨n9, rfl, by omega, by omega, for_range (n := n9.toNat) (fun i σ H' => ∃ (o5 : Option V) (vs : List Str) (a7 : Int), σ = [some (.ref p), some (.int m), some (.str abc), some (.int wy), some (.int t), o5, some (.str (mk b)), some (.int sp), some (.ref L), o9, o10, some (.ref T)] ∧ H' L = some (.lst (vs.map V.str)) ∧ H' T = some (.lst (terms.map V.str)) ∧ vs.length = m ∧ Nms vs ∧ PenAt H' p c ns a7 ∧ a6 ≤ a7 ∧ a7 ≤ a6 + i ∧ KeepBut p H H') ⟨_, ws, a6, rfl, hL10, hT10, hwl, hN, hp10, by omega, by simp, kp12⟩ ?_ ?_⟩
            · rintro i σ H' hi ⟨o5', vs, a7, rfl, hLv, hTv, hvl, hvN, hpv, la7, ua7, kv⟩
              dsimp only [gName]
              refine ⟨_, rfl, p, c, ns, a7, _, rfl, hpv, by omega, by decide, by decide +kernel, fun r8 a8 H11 r80 r81 l8 u8 hp11 kp13 => ?_⟩
              have hL11 := kp13 _ _ hLv nLp
              have hT11 := kp13 _ _ hTv nTp
              have k11 := kv.trans kp13
              refine ⟨rfl, _, rfl, ?_⟩
              refine ite2 (fun g2 => ?_) (fun g2 => ?_)
              · obtain ⟨term, hterm⟩ : ∃ x, terms[i]? = some x := ⟨_, List.getElem?_eq_getElem (show i < 9 by omega)⟩
                have hix : ixN (terms.map V.str).length (0 + (i : Int)) = some i := by
                  unfold ixN
                  rw [List.length_map, if_pos (by omega), if_pos (by show 0 + (i : Int) < 9; omega)]
                  congr 1
                  omega
                have hat : atI (terms.map V.str) (0 + (i : Int)) = some (V.str term) := by
                  unfold atI
                  rw [hix]
                  simp [hterm]
                have hix2 : ixN (vs.map V.str).length (0 + (i : Int)) = some i := by
                  unfold ixN
                  rw [List.length_map, if_pos (by omega), if_pos (by omega)]
                  congr 1
                  omega
                refine ⟨_, rfl, _, rfl, T, _, _, _, rfl, rfl, SqL.of hT11, hat, _, rfl, L, _, rfl, .inl (SqL.of hL11), rfl, flat_strs vs, _, rfl, ?_⟩
                rw [if_pos rfl, in_strs]
                refine ite2 (fun g3 => ?_) (fun g3 => ?_)
                · have g3' : term ∉ vs := by simpa using g3
                  refine ⟨_, rfl, _, rfl, T, _, _, _, rfl, rfl, SqL.of hT11, hat, ?_⟩
                  refine ⟨_, rfl, _, rfl, L, _, _, i, rfl, rfl, hL11, hix2, ?_⟩
                  refine ⟨_, vs.set i term, a8, rfl, by rw [upd_same, ← List.map_set], by rw [upd_ne nTL]; exact hT11, by rw [List.length_set, hvl], ⟨nd_set hvN.nd g3', fun w hw => ?_⟩, ?_, by omega, by omega, ?_⟩
                  · rcases List.mem_or_eq_of_mem_set hw with z | z
                    · exact hvN.ok w z
                    · rw [z]; exact terms_name term (List.mem_of_getElem? hterm)
                  · obtain ⟨⟨l, hl, e⟩, ce, ge, sm⟩ := hp11
                    exact ⟨⟨l, hl, by rw [upd_ne nLp.symm]; exact e⟩, by rw [upd_ne nLc.symm]; exact ce, ge, sm⟩
                  · intro x o e ne
                    have nx : x ≠ L := ne_of_none e hHL
                    rw [upd_ne nx]
                    exact k11 x o e ne
                · exact ⟨_, vs, a8, rfl, hL11, hT11, hvl, hvN, hp11, by omega, by omega, k11⟩
              · exact ⟨_, vs, a8, rfl, hL11, hT11, hvl, hvN, hp11, by omega, by omega, k11⟩
            · rintro σ H' ⟨o5', vs, a7, rfl, hLv, hTv, hvl, hvN, hpv, la7, ua7, kv⟩
              exact ⟨_, vs, a7, rfl, hLv, hvl, hvN, hpv, by omega, by omega, kv⟩
          · exact ⟨_, ws, a6, rfl, hL10, hwl, hN, hp10, by omega, by omega, kp12⟩
        · rintro σ' H' ⟨o5', vs, a6, rfl, hLv, hvl, hvN, hpv, la6, ua6, kv⟩
          exact ⟨_, rfl, k L vs a6 H' hHL hLv hvl hvN la6 ua6 hpv kv⟩
end
end K7

set_option linter.all false
set_option maxRecDepth 100000
set_option Elab.async false
set_option maxHeartbeats 8000000
namespace K7
open PySem L2
def dashV : V → V
  | .non => .str "-"
  | x => x
inductive ODash (vs : List V) (H : Hp) (Q : VK) (E : XK) : Prop
  | mk (x : V) (h0 : vs = [x]) (q : Q (dashV x) H) : ODash vs H Q E
def spDash : Sp := fun vs H Q E => ODash vs H Q E
def rowT (ws : List Str) : Str := if ws.isEmpty = true then "." else Txt.join " " ws
inductive IRow (vs : List V) (H : Hp) (Q : VK) (E : XK) : Prop
  | mk (a : Addr) (ws : List Str) (h0 : vs = [.ref a]) (e : H a = some (.lst (ws.map V.str))) (hz : (ws.map (·.length)).sum + ws.length ≤ 1000000) (q : Q (.str (rowT ws)) H) : IRow vs H Q E
def spInRow : Sp := fun vs H Q E => IRow vs H Q E
section
variable {P : Program} {w : World} {K : PySem.W.Frag} {mg : Str → Option Value} {base : Heap}
theorem scDash : FnScope ["word"] ["word"] (defScope sOrDash) := ⟨rfl, rfl, rfl, by decide +kernel, rfl, by decide +kernel, by decide +kernel⟩
theorem ok_dash {f : Addr} {fd : FuncData} (F : Fun K "or_dash" "or_dash" sOrDash f fd) : FnOk P w K mg base CX0 1 f fd ["word"] spDash := by
  refine F.ok scDash (fun vs H Q E h => ?_) (fun cdv A outer s H vs Q E hr h => ?_)
  · obtain ⟨x, rfl, _⟩ := h
    rfl
  · obtain ⟨x, rfl, k⟩ := h
    refine ⟨_, pss_one (ps_ret (pe_ifExp (pt_cmpR op_isN (pv 0) pe_non (nomark _)) pe_str (pv 0))), ?_⟩
    refine ⟨_, rfl, rfl, _, rfl, ?_⟩
    cases x with
    | non => exact iteT k
    | _ => exact iteF ⟨_, rfl, k⟩
theorem scInRow : FnScope ["words"] ["words"] (defScope sInARow) := ⟨rfl, rfl, rfl, by decide +kernel, rfl, by decide +kernel, by decide +kernel⟩
theorem ok_inRow {f : Addr} {fd : FuncData} (F : Fun K "in_a_row" "in_a_row" sInARow f fd) : FnOk P w K mg base CX0 1 f fd ["words"] spInRow := by
  refine F.ok scInRow (fun vs H Q E h => ?_) (fun cdv A outer s H vs Q E hr h => ?_)
  · obtain ⟨a, ws, rfl, _⟩ := h
    rfl
  · obtain ⟨a, ws, rfl, e, hz, k⟩ := h
    refine ⟨_, pss_one (ps_ret (pe_ifExp (pt_truth (pv 0) (fun _ => rfl)) (pe_bm PySem.F.plainAttrs_str PySem.F.slot_str_join PySem.F.type_str_join mt_join pe_str (pa_c (pv 0) pa_nil)) pe_str)), ?_⟩
    refine ⟨_, rfl, _, .inl ⟨_, SqL.of e, rfl⟩, ?_⟩
    unfold rowT at k
    cases ws with
    | nil => exact iteF k
    | cons z ws =>
      refine iteT ?_
      refine ⟨rfl, _, rfl, _, a, z :: ws, rfl, rfl, SqL.of e, ?_, k⟩
      have : (" " : Str).length = 1 := by decide
      rw [this]
      omega
theorem scNamesT : FnScope ["names"] ["names"] (defScope sNamesText) := ⟨rfl, rfl, rfl, by decide +kernel, rfl, by decide +kernel, by decide +kernel⟩
theorem ok_namesT {f fI : Addr} {fd fdI : FuncData} (F : Fun K "names_text" "names_text" sNamesText f fd)
    (GI : FnOk P w K mg base CX0 1 fI fdI ["words"] spInRow) (mI : mg "in_a_row" = some (.ref fI)) (kI : PySem.W.keepIn K (.ref fI) = true) (bI : Binds K fdI ["words"] []) :
    FnOk P w K mg base CX0 2 f fd ["names"] spInRow := by
  refine F.ok scNamesT (fun vs H Q E h => ?_) (fun cdv A outer s H vs Q E hr h => ?_)
  · obtain ⟨a, ws, rfl, _⟩ := h
    rfl
  · obtain ⟨a, ws, rfl, e, hz, k⟩ := h
    refine ⟨_, pss_one (ps_ret (pe_call GI hr rfl mI kI bI .nil pass0 (pa_c (pv 0) pa_nil))), ?_⟩
    exact ⟨_, rfl, a, ws, rfl, e, hz, k⟩
end
end K7

set_option linter.all false
set_option maxRecDepth 100000
set_option Elab.async false
set_option maxHeartbeats 8000000
namespace K7
open PySem L2
abbrev Link := Option Str × Str × Str
def oV : Option Str → V
  | none => .non
  | some z => .str z
def dashS : Option Str → Str
  | none => "-"
  | some z => z
theorem dash_oV (o : Option Str) : dashV (oV o) = .str (dashS o) := by cases o <;> rfl
def linkT (x : Link) : Str := Str.empty ++ dashS x.1 ++ ":" ++ x.2.1 ++ ":" ++ x.2.2
structure Link.Ok (x : Link) : Prop where
  row : (dashS x.1).length ≤ 8
  land : x.2.1.length ≤ 8
  house : x.2.2.length ≤ 8
structure LinksAt (H : Hp) (vs : List V) (xs : List Link) : Prop where
  len : vs.length = xs.length
  at' : ∀ (i : Nat) (v : V), vs[i]? = some v → ∃ (x : Link) (b : Addr), xs[i]? = some x ∧ v = .ref b ∧ H b = some (.tup [oV x.1, .str x.2.1, .str x.2.2])
theorem len_app (a b : Str) : (a ++ b).length = a.length + b.length := strLen_append a b
theorem linkT_len {x : Link} (h : x.Ok) : (linkT x).length ≤ 26 := by
  have h1 := h.row
  have h2 := h.land
  have h3 := h.house
  unfold linkT
  have c1 : (":" : Str).length = 1 := by decide
  have c0 : Str.empty.length = 0 := by decide
  rw [len_app, len_app, len_app, len_app, len_app, c1, c0]
  omega
inductive IChainT (vs : List V) (H : Hp) (Q : VK) (E : XK) : Prop
  | mk (a : Addr) (ls : List V) (xs : List Link) (h0 : vs = [.ref a]) (e : H a = some (.lst ls)) (hl : LinksAt H ls xs) (h9 : xs.length ≤ 40) (ok : ∀ x ∈ xs, x.Ok) (q : ∀ H', Same H H' → Q (.str (rowT (xs.map linkT))) H') : IChainT vs H Q E
def spChainT : Sp := fun vs H Q E => IChainT vs H Q E
theorem sum_le {α : Type} (f : α → Nat) (k : Nat) : ∀ (l : List α), (∀ x ∈ l, f x ≤ k) → (l.map f).sum ≤ l.length * k := by
  intro l
  induction l with
  | nil => intro _; simp
  | cons x l ih =>
    intro h
    have h1 := h x (by simp)
    have h2 := ih fun y hy => h y (by simp [hy])
    simp only [List.map_cons, List.sum_cons, List.length_cons, Nat.add_mul, Nat.one_mul]
    omega
section
variable {P : Program} {w : World} {K : PySem.W.Frag} {mg : Str → Option Value} {base : Heap}
theorem scChainT : FnScope ["chain"] ["chain"] (defScope sChainText) := ⟨rfl, rfl, rfl, by decide +kernel, rfl, by decide +kernel, by decide +kernel⟩
theorem ok_chainT {f fI fD : Addr} {fd fdI fdD : FuncData} (F : Fun K "chain_text" "chain_text" sChainText f fd)
    (GI : FnOk P w K mg base CX0 1 fI fdI ["words"] spInRow) (mI : mg "in_a_row" = some (.ref fI)) (kI : PySem.W.keepIn K (.ref fI) = true) (bI : Binds K fdI ["words"] [])
    (GD : FnOk P w K mg base CX0 1 fD fdD ["word"] spDash) (mD : mg "or_dash" = some (.ref fD)) (kD : PySem.W.keepIn K (.ref fD) = true) (bD : Binds K fdD ["word"] []) :
    FnOk P w K mg base CX0 2 f fd ["chain"] spChainT := by
  refine F.ok scChainT (fun vs H Q E h => ?_) (fun cdv A outer s H vs Q E hr h => ?_)
  · obtain ⟨a, ls, xs, rfl, _⟩ := h
    rfl
  · obtain ⟨a, ls, xs, rfl, e, hl, h9, ok, k⟩ := h
    have nd : (["row", "land", "house"] : List Str).Nodup := by decide +kernel
    refine ⟨_, pss_one (ps_ret (pe_call GI hr rfl mI kI bI .nil pass0 (pa_c (pe_comp (N := ["row", "land", "house"]) (src := [none, none, none]) (osc := defScope sChainText) (oN := ["chain"]) (g := gTup K 3 (gCons (gName 0) (gCons (gName 1) (gCons (gName 2) gNil)))) ⟨by rfl, by decide +kernel, by decide +kernel, by decide +kernel, rfl, by rfl⟩ (pi_list (pv 0))
      fun cl s H fp pins C => ⟨pg_tup rfl (pgs_cons (pg_name (i := 0) nd rfl (Or.inl rfl)) (pgs_cons (pg_name (i := 1) nd rfl (Or.inl rfl)) (pgs_cons (pg_name (i := 2) nd rfl (Or.inl rfl)) pgs_nil))), pts_nil,
        pe_fstr (pj_val (pe_call GD hr rfl mD kD bD .nil pass0 (pa_c (pv 0) pa_nil)) (pj_con (pj_val (pv 1) (pj_con (pj_val (pv 2) pj_nil)))))⟩) pa_nil))), ?_⟩
    have hxl := hl.len
    have c1 : (":" : Str).length = 1 := by decide
    have c0 : Str.empty.length = 0 := by decide
    have big : ∀ z : Str, z.length ≤ 40 → z.length ≤ sizeLine := fun z h => sizeLine_big (Nat.le_trans h (by decide))
    refine ⟨_, rfl, a, rfl, ⟨_, SqL.of e⟩, ?_⟩
    refine comp_list (K := K) (xs := ls) (fun i ys σ' H' => ∃ (o1 o2 o3 : Option V), σ' = [o1, o2, o3] ∧ Same H H' ∧ ys = ((xs.take i).map linkT).map V.str) ⟨none, none, none, rfl, Same.refl H, by simp⟩
      (sizeLine_big (by omega)) (fun i ys σ H' p => by obtain ⟨_, _, _, _, _, rfl⟩ := p; simp; omega) (fun i ys σ H' p => by obtain ⟨_, _, _, _, S, _⟩ := p; exact SqL.of (S _ _ e)) ?_ ?_
    · rintro i v ys σ' H1 hv ⟨o1, o2, o3, rfl, S, rfl⟩
      obtain ⟨x, b, hx, rfl, hb⟩ := hl.at' i v hv
      have o := ok x (List.mem_of_getElem? hx)
      have l1 := o.row
      have l2 := o.land
      have l3 := o.house
      refine ⟨b, _, rfl, SqT.of (S _ _ hb), rfl, _, _, rfl, _, _, rfl, _, _, rfl, rfl, ?_⟩
      refine iteT ?_
      refine ⟨_, rfl, _, rfl, ?_⟩
      rw [dash_oV]
      refine ⟨_, .str _ (big _ (by omega)), big _ (by rw [len_app, c0]; omega), big _ (by rw [len_app, len_app, c0, c1]; omega), _, rfl, _, .str _ (big _ (by omega)), big _ (by rw [len_app, len_app, len_app, c0, c1]; omega), big _ (by rw [len_app, len_app, len_app, len_app, c0, c1]; omega),
        _, rfl, _, .str _ (big _ (by omega)), big _ (by rw [len_app, len_app, len_app, len_app, len_app, c0, c1]; omega), big _ (by rw [len_app, len_app, len_app, len_app, len_app, c0, c1]; omega), ?_⟩
      refine ⟨_, _, _, rfl, S, ?_⟩
      rw [List.take_add_one, hx]
      simp [linkT]
    · rintro ys σ' H1 ⟨o1, o2, o3, rfl, S, rfl⟩ D hD
      rw [hxl, List.take_length]
      refine ⟨D, xs.map linkT, rfl, upd_same, ?_, k _ (S.trans (Same.new hD))⟩
      have := sum_le (fun z : Str => z.length) 26 (xs.map linkT) (fun z hz => by obtain ⟨x, hx, rfl⟩ := List.mem_map.mp hz; exact linkT_len (ok x hx))
      rw [List.length_map] at this ⊢
      omega
end
end K7

set_option linter.all false
set_option maxRecDepth 100000
set_option Elab.async false
set_option maxHeartbeats 8000000
namespace K7
open PySem L2
abbrev Call := Str × Str × Nat
def numT (m : Nat) : Str := Str.ofString (toString ((m : Nat) : Int))
def callT (x : Call) : Str := Str.empty ++ x.1 ++ ":" ++ x.2.1 ++ ":" ++ numT x.2.2
structure Call.Ok (x : Call) : Prop where
  house : x.1.length ≤ 8
  breach : x.2.1.length ≤ 8
  many : x.2.2 < 10 ^ 60
structure CallsAt (H : Hp) (vs : List V) (xs : List Call) : Prop where
  len : vs.length = xs.length
  at' : ∀ (i : Nat) (v : V), vs[i]? = some v → ∃ (x : Call) (b : Addr), xs[i]? = some x ∧ v = .ref b ∧ H b = some (.tup [.str x.1, .str x.2.1, .int x.2.2])
theorem log_small {m : Nat} (h : m < 10 ^ 60) : ((m : Int).natAbs).log2 < 1920 := by
  rw [Int.natAbs_natCast]
  by_cases h0 : m = 0
  · subst h0; decide
  · rw [Nat.log2_lt h0]
    exact Nat.lt_of_lt_of_le h (by decide +kernel)
theorem numT_len {m : Nat} (h : m < 10 ^ 60) : (numT m).length ≤ 60 := num_len h (by decide)
theorem callT_len {x : Call} (h : x.Ok) : (callT x).length ≤ 78 := by
  have h1 := h.house
  have h2 := h.breach
  have h3 := numT_len h.many
  unfold callT
  have c1 : (":" : Str).length = 1 := by decide
  have c0 : Str.empty.length = 0 := by decide
  rw [len_app, len_app, len_app, len_app, len_app, c1, c0]
  omega
inductive ICallingT (vs : List V) (H : Hp) (Q : VK) (E : XK) : Prop
  | mk (a : Addr) (ls : List V) (xs : List Call) (h0 : vs = [.ref a]) (e : H a = some (.lst ls)) (hl : CallsAt H ls xs) (h9 : xs.length ≤ 40) (ok : ∀ x ∈ xs, x.Ok) (q : ∀ H', Same H H' → Q (.str (rowT (xs.map callT))) H') : ICallingT vs H Q E
def spCallingT : Sp := fun vs H Q E => ICallingT vs H Q E
inductive IPlacesT (vs : List V) (H : Hp) (Q : VK) (E : XK) : Prop
  | mk (a : Addr) (xs : List Nat) (h0 : vs = [.ref a]) (e : H a = some (.lst (xs.map fun m : Nat => V.int (m : Int)))) (h9 : xs.length ≤ 40) (ok : ∀ x ∈ xs, x < 10 ^ 60) (q : ∀ H', Same H H' → Q (.str (rowT (xs.map numT))) H') : IPlacesT vs H Q E
def spPlacesT : Sp := fun vs H Q E => IPlacesT vs H Q E
section
variable {P : Program} {w : World} {K : PySem.W.Frag} {mg : Str → Option Value} {base : Heap}
theorem scCallingT : FnScope ["calling"] ["calling"] (defScope sCallingText) := ⟨rfl, rfl, rfl, by decide +kernel, rfl, by decide +kernel, by decide +kernel⟩
theorem ok_callingT {f fI : Addr} {fd fdI : FuncData} (F : Fun K "calling_text" "calling_text" sCallingText f fd)
    (GI : FnOk P w K mg base CX0 1 fI fdI ["words"] spInRow) (mI : mg "in_a_row" = some (.ref fI)) (kI : PySem.W.keepIn K (.ref fI) = true) (bI : Binds K fdI ["words"] []) :
    FnOk P w K mg base CX0 2 f fd ["calling"] spCallingT := by
  refine F.ok scCallingT (fun vs H Q E h => ?_) (fun cdv A outer s H vs Q E hr h => ?_)
  · obtain ⟨a, ls, xs, rfl, _⟩ := h
    rfl
  · obtain ⟨a, ls, xs, rfl, e, hl, h9, ok, k⟩ := h
    have nd : (["house", "breach", "many"] : List Str).Nodup := by decide +kernel
    refine ⟨_, pss_one (ps_ret (pe_call GI hr rfl mI kI bI .nil pass0 (pa_c (pe_comp (N := ["house", "breach", "many"]) (src := [none, none, none]) (osc := defScope sCallingText) (oN := ["calling"]) (g := gTup K 3 (gCons (gName 0) (gCons (gName 1) (gCons (gName 2) gNil)))) ⟨by rfl, by decide +kernel, by decide +kernel, by decide +kernel, rfl, by rfl⟩ (pi_list (pv 0))
      fun cl s H fp pins C => ⟨pg_tup rfl (pgs_cons (pg_name (i := 0) nd rfl (Or.inl rfl)) (pgs_cons (pg_name (i := 1) nd rfl (Or.inl rfl)) (pgs_cons (pg_name (i := 2) nd rfl (Or.inl rfl)) pgs_nil))), pts_nil,
        pe_fstr (pj_val (pv 0) (pj_con (pj_val (pv 1) (pj_con (pj_val (pv 2) pj_nil)))))⟩) pa_nil))), ?_⟩
    have hxl := hl.len
    have c1 : (":" : Str).length = 1 := by decide
    have c0 : Str.empty.length = 0 := by decide
    have big : ∀ z : Str, z.length ≤ 100 → z.length ≤ sizeLine := fun z h => sizeLine_big (Nat.le_trans h (by decide))
    refine ⟨_, rfl, a, rfl, ⟨_, SqL.of e⟩, ?_⟩
    refine comp_list (K := K) (xs := ls) (fun i ys σ' H' => ∃ (o1 o2 o3 : Option V), σ' = [o1, o2, o3] ∧ Same H H' ∧ ys = ((xs.take i).map callT).map V.str) ⟨none, none, none, rfl, Same.refl H, by simp⟩
      (sizeLine_big (by omega)) (fun i ys σ H' p => by obtain ⟨_, _, _, _, _, rfl⟩ := p; simp; omega) (fun i ys σ H' p => by obtain ⟨_, _, _, _, S, _⟩ := p; exact SqL.of (S _ _ e)) ?_ ?_
    · rintro i v ys σ' H1 hv ⟨o1, o2, o3, rfl, S, rfl⟩
      obtain ⟨x, b, hx, rfl, hb⟩ := hl.at' i v hv
      have o := ok x (List.mem_of_getElem? hx)
      have l1 := o.house
      have l2 := o.breach
      have l3 := numT_len o.many
      refine ⟨b, _, rfl, SqT.of (S _ _ hb), rfl, _, _, rfl, _, _, rfl, _, _, rfl, rfl, ?_⟩
      refine iteT ?_
      refine ⟨_, rfl, _, .str _ (big _ (by omega)), big _ (by rw [len_app, c0]; omega), big _ (by rw [len_app, len_app, c0, c1]; omega), _, rfl, _, .str _ (big _ (by omega)), big _ (by rw [len_app, len_app, len_app, c0, c1]; omega), big _ (by rw [len_app, len_app, len_app, len_app, c0, c1]; omega),
        _, rfl, numT x.2.2, .int _ (log_small o.many), big _ (by rw [len_app, len_app, len_app, len_app, len_app, c0, c1]; omega), big _ (by rw [len_app, len_app, len_app, len_app, len_app, c0, c1]; omega), ?_⟩
      refine ⟨_, _, _, rfl, S, ?_⟩
      rw [List.take_add_one, hx]
      simp [callT]
    · rintro ys σ' H1 ⟨o1, o2, o3, rfl, S, rfl⟩ D hD
      rw [hxl, List.take_length]
      refine ⟨D, xs.map callT, rfl, upd_same, ?_, k _ (S.trans (Same.new hD))⟩
      have := sum_le (fun z : Str => z.length) 78 (xs.map callT) (fun z hz => by obtain ⟨x, hx, rfl⟩ := List.mem_map.mp hz; exact callT_len (ok x hx))
      rw [List.length_map] at this ⊢
      omega
theorem scPlacesT : FnScope ["places"] ["places"] (defScope sPlacesText) := ⟨rfl, rfl, rfl, by decide +kernel, rfl, by decide +kernel, by decide +kernel⟩
theorem ok_placesT {f fI : Addr} {fd fdI : FuncData} (F : Fun K "places_text" "places_text" sPlacesText f fd) (hstr : mg "str" = none)
    (GI : FnOk P w K mg base CX0 1 fI fdI ["words"] spInRow) (mI : mg "in_a_row" = some (.ref fI)) (kI : PySem.W.keepIn K (.ref fI) = true) (bI : Binds K fdI ["words"] []) :
    FnOk P w K mg base CX0 2 f fd ["places"] spPlacesT := by
  refine F.ok scPlacesT (fun vs H Q E h => ?_) (fun cdv A outer s H vs Q E hr h => ?_)
  · obtain ⟨a, xs, rfl, _⟩ := h
    rfl
  · obtain ⟨a, xs, rfl, e, h9, ok, k⟩ := h
    have nd : (["place"] : List Str).Nodup := by decide +kernel
    refine ⟨_, pss_one (ps_ret (pe_call GI hr rfl mI kI bI .nil pass0 (pa_c (pe_comp (N := ["place"]) (src := [none]) (osc := defScope sPlacesText) (oN := ["places"]) ⟨by rfl, by decide +kernel, by decide +kernel, by decide +kernel, rfl, by rfl⟩ (pi_list (pv 0))
      fun cl s H fp pins C => ⟨pg_name (i := 0) nd rfl (Or.inl rfl), pts_nil, pe_callTy call_strF (by rfl) hstr (by kernel_rfl) (pa_c (pv 0) pa_nil)⟩) pa_nil))), ?_⟩
    have big : ∀ z : Str, z.length ≤ 100 → z.length ≤ sizeLine := fun z h => sizeLine_big (Nat.le_trans h (by decide))
    refine ⟨_, rfl, a, rfl, ⟨_, SqL.of e⟩, ?_⟩
    refine comp_list (K := K) (xs := xs.map fun m : Nat => V.int (m : Int)) (fun i ys σ' H' => ∃ (o1 : Option V), σ' = [o1] ∧ Same H H' ∧ ys = ((xs.take i).map numT).map V.str) ⟨none, rfl, Same.refl H, by simp⟩
      (sizeLine_big (by simp; omega)) (fun i ys σ H' p => by obtain ⟨_, _, _, rfl⟩ := p; simp; omega) (fun i ys σ H' p => by obtain ⟨_, _, S, _⟩ := p; exact SqL.of (S _ _ e)) ?_ ?_
    · rintro i v ys σ' H1 hv ⟨o1, rfl, S, rfl⟩
      rw [List.getElem?_map] at hv
      obtain ⟨x, hx, rfl⟩ := Option.map_eq_some_iff.mp hv
      have o := ok x (List.mem_of_getElem? hx)
      dsimp only [gName]
      refine iteT ?_
      refine ⟨_, rfl, _, numT x, rfl, .int _ (log_small o), ?_⟩
      refine ⟨_, rfl, S, ?_⟩
      rw [List.take_add_one, hx]
      simp
    · rintro ys σ' H1 ⟨o1, rfl, S, rfl⟩ D hD
      rw [List.length_map, List.take_length]
      refine ⟨D, xs.map numT, rfl, upd_same, ?_, k _ (S.trans (Same.new hD))⟩
      have := sum_le (fun z : Str => z.length) 60 (xs.map numT) (fun z hz => by obtain ⟨x, hx, rfl⟩ := List.mem_map.mp hz; exact numT_len (ok x hx))
      rw [List.length_map] at this ⊢
      omega
end
end K7

set_option linter.all false
set_option maxRecDepth 100000
set_option Elab.async false
set_option maxHeartbeats 8000000
namespace K7
open PySem L2
def spIsName (K : PySem.W.Frag) : Sp := fun vs H Q _ => ∃ x, vs = [x] ∧ ((∃ z, x = V.str z ∧ z.length ≤ 1000000 ∧ ∀ H', Same H H' → Q (.bl (nameB z)) H') ∨ (∃ t, TyOf K H x t ∧ PySem.W.kitOne K t (.type "str") = some false ∧ Q (.bl false) H))
structure Txt (K : PySem.W.Frag) (mg : Str → Option Value) : Prop where
  isi : mg "isinstance" = none
  str : mg "str" = none
  len : mg "len" = none
  al : mg "all" = none
  int : mg "int" = none
  set : mg "set" = none
  list : mg "list" = none
  sorted : mg "sorted" = none
  longest : ∃ t, mg "LONGEST" = some (.int 8 t)
  figures : ∃ t, mg "MOST_FIGURES" = some (.int 60 t)
section
variable {P : Program} {w : World} {K : PySem.W.Frag} {mg : Str → Option Value} {base : Heap}
theorem kitStr (K : PySem.W.Frag) : PySem.W.kitOne K (.type "str") (.type "str") = some true := by
  unfold PySem.W.kitOne
  rw [if_pos (by rfl)]
theorem scN : FnScope ["thing"] ["thing"] (defScope sIsName) := ⟨rfl, rfl, rfl, by decide +kernel, rfl, by decide +kernel, by decide +kernel⟩
theorem le_one (a b : Nat) : (!decide (([b] : List Nat) < [a])) = decide (a ≤ b) := by
  have : ([b] : List Nat) < [a] ↔ b < a := by
    constructor
    · intro h
      cases h with
      | rel h => exact h
      | cons h => cases h
    · intro h
      exact List.Lex.rel h
  by_cases h : b < a
  · rw [decide_eq_true (this.mpr h), decide_eq_false (by omega)]; rfl
  · rw [decide_eq_false (fun z => h (this.mp z)), decide_eq_true (by omega)]; rfl
theorem ok_isName {f : Addr} {fd : FuncData} (F : Fun K "is_name" "is_name" sIsName f fd) (T : Txt K mg) : FnOk P w K mg base CX0 1 f fd ["thing"] (spIsName K) := by
  refine F.ok scN (fun vs H Q E h => ?_) (fun cdv A outer s H vs Q E hr h => ?_)
  · obtain ⟨x, rfl, _⟩ := h
    rfl
  · obtain ⟨x, rfl, hx⟩ := h
    obtain ⟨tl, hlong⟩ := T.longest
    refine ⟨_, pss_cons (ps_if (pw_or (pt_not (pt_val (pe_callB call_isinst (by rfl) T.isi (by kernel_rfl) (pa_cons (pv 0) (pa_cons (pe_bltn (v := .ty "str") (by rfl) T.str (by kernel_rfl) rfl) pa_nil)))))
        (pw_or1 (pt_not (pt_chain op_le op_le pe_int (pe_callB call_len_str (by rfl) T.len PySem.boot_len (pa_cons (pv 0) pa_nil)) (pe_glob (v := .int 8) (by rfl) hlong ⟨_, rfl⟩))))).pt (pss_one (ps_ret pe_bl)) pss_nil)
      (pss_one (ps_ret (pe_callB (call_all rfl) (by rfl) T.al (by kernel_rfl) (pa_cons (pe_comp (N := ["sign"]) (src := [none]) (osc := defScope sIsName) (oN := ["thing"]) ⟨by rfl, by decide +kernel, by decide +kernel, by decide +kernel, rfl, by rfl⟩ (pi_str (pv 0))
        fun cl s H fp pins C => ⟨pg_name (i := 0) (show (["sign"] : List Str).Nodup by decide +kernel) rfl (Or.inl rfl), pts_nil, pe_chain op_le_str op_le_str pe_str (pv 0) pe_str⟩) pa_nil)))), ?_⟩
    rcases hx with ⟨z, rfl, hz, k⟩ | ⟨t, ty, e, k⟩
    · refine ⟨_, rfl, _, "str", _, true, rfl, TyOf.str z, kitStr K, true, rfl, ?_⟩
      refine iteF ?_
      refine ⟨_, rfl, z, rfl, sizeLine_big hz, _, _, rfl, rfl, _, rfl, ?_⟩
      have bad : ¬ (1 ≤ z.length ∧ z.length ≤ 8) → Q (.bl false) H := fun h => by
        have := k H (Same.refl H)
        unfold nameB at this
        rw [decide_eq_false h] at this
        exact this
      refine ite2 (fun h1 => ?_) (fun h1 => ?_)
      · have h1' := of_decide_eq_true h1
        refine ⟨_, _, rfl, rfl, _, rfl, ?_⟩
        by_cases h8 : (z.length : Int) ≤ 8
        · rw [decide_eq_true h8]
          refine iteF ?_
          refine ⟨_, rfl, z, rfl, ?_⟩
          refine comp_str (fun i ys σ H' => H' = H ∧ ys = ((z.cps.toList.take i).map fun c => V.bl (decide (97 ≤ c ∧ c ≤ 122))) ∧ σ.length = 1) ⟨rfl, rfl, rfl⟩ (sizeLine_big hz) (fun i ys σ H' p => by rw [p.2.1, List.length_map, List.length_take]; omega) ?_ ?_
          · rintro i c ys σ H' hc ⟨rfl, rfl, hσ⟩
            obtain ⟨o, rfl⟩ : ∃ o, σ = [o] := by
              match σ, hσ with
              | [o], _ => exact ⟨o, rfl⟩
            dsimp only [gName]
            refine iteT ?_
            refine ⟨_, rfl, _, _, rfl, rfl, _, rfl, ?_⟩
            have hend : ∀ b : Bool, b = decide (97 ≤ c ∧ c ≤ 122) → (H' = H' ∧ (List.map (fun c => V.bl (decide (97 ≤ c ∧ c ≤ 122))) (List.take i z.cps.toList)) ++ [V.bl b] = (z.cps.toList.take (i + 1)).map (fun c => V.bl (decide (97 ≤ c ∧ c ≤ 122))) ∧ ([o].set 0 (some (V.str ⟨#[c]⟩))).length = 1) := fun b hb => by
              refine ⟨rfl, ?_, rfl⟩
              rw [List.take_add_one, List.map_append, hb]
              have : z.cps.toList[i]? = some c := by simpa using hc
              rw [this]
              rfl
            have e1 : (!decide ((⟨#[c]⟩ : Str).cps.toList < ("a" : Str).cps.toList)) = decide (97 ≤ c) := le_one 97 c
            have e2 : (!decide (("z" : Str).cps.toList < (⟨#[c]⟩ : Str).cps.toList)) = decide (c ≤ 122) := le_one c 122
            rw [e1]
            refine ite2 (fun g1 => ?_) (fun g1 => ?_)
            · have g1' := of_decide_eq_true g1
              refine ⟨_, _, rfl, rfl, ?_⟩
              rw [e2]
              refine hend _ ?_
              rw [decide_eq_decide]
              omega
            · have g1' : ¬ 97 ≤ c := fun z => g1 (decide_eq_true z)
              refine hend false ?_
              rw [decide_eq_false (by omega)]
          · rintro ys σ H' ⟨rfl, rfl, hσ⟩ D hD
            have etk : List.take z.cps.size z.cps.toList = z.cps.toList := by rw [← Array.length_toList]; exact List.take_length
            rw [etk]
            refine ⟨D, z.cps.toList.map fun c => decide (97 ≤ c ∧ c ≤ 122), rfl, SqL.of (by rw [upd_same, List.map_map]; rfl), ?_⟩
            have := k _ (Same.new (o := .lst (List.map (fun c => V.bl (decide (97 ≤ c ∧ c ≤ 122))) z.cps.toList)) hD)
            unfold nameB at this
            rw [decide_eq_true (by omega), Bool.true_and] at this
            rw [List.all_map]
            exact this
        · rw [decide_eq_false h8]
          exact iteT (bad (by omega))
      · have h1' : ¬ (1 : Int) ≤ z.length := fun z => h1 (decide_eq_true z)
        refine ⟨false, rfl, ?_⟩
        exact iteT (bad (by omega))
    · refine ⟨_, rfl, _, "str", t, false, rfl, ty, e, false, rfl, ?_⟩
      refine iteT ?_
      refine iteT ?_
      exact k
end
end K7

set_option linter.all false
set_option maxRecDepth 100000
set_option Elab.async false
set_option maxHeartbeats 8000000
namespace K7
open PySem L2
theorem digits_head {m : Nat} (h : 0 < m) : ∃ c r, Nat.toDigits 10 m = c :: r ∧ c.toNat ≠ 48 := by
  induction m using Nat.strongRecOn with
  | _ m ih =>
    by_cases hm : m < 10
    · rw [Nat.toDigits_of_lt_base hm]
      refine ⟨_, _, rfl, ?_⟩
      have : ∀ d : Nat, d < 10 → 0 < d → (Nat.digitChar d).toNat ≠ 48 := by decide
      exact this m hm h
    · have hmod : m % 10 < 10 := Nat.mod_lt m (by decide)
      have t : Nat.toDigits 10 (m / 10) ++ Nat.toDigits 10 (m % 10) = Nat.toDigits 10 (10 * (m / 10) + m % 10) := Nat.toDigits_append_toDigits (by decide) (by omega) hmod
      rw [Nat.div_add_mod] at t
      obtain ⟨c, r, e, hc⟩ := ih (m / 10) (by omega) (by omega)
      rw [← t, e]
      exact ⟨c, _, rfl, hc⟩
theorem numT_head {m : Nat} (h : 0 < m) : ∃ c r, (numT m).cps.toList = c :: r ∧ c ≠ 48 := by
  obtain ⟨c, r, e, hc⟩ := digits_head h
  refine ⟨c.toNat, r.map Char.toNat, ?_, hc⟩
  show (Str.ofString (toString ((m : Nat) : Int))).cps.toList = _
  rw [PySem.W.KIN.signs_num, e]
  rfl
inductive INumOf (vs : List V) (H : Hp) (Q : VK) (E : XK) : Prop
  | mk (m : Nat) (h0 : vs = [.str (numT m)]) (hm : 0 < m) (h6 : m < 10 ^ 60) (q : ∀ H', Same H H' → Q (.int (m : Int)) H') : INumOf vs H Q E
def spNumOf : Sp := fun vs H Q E => INumOf vs H Q E
section
variable {P : Program} {w : World} {K : PySem.W.Frag} {mg : Str → Option Value} {base : Heap}
theorem scNumOf : FnScope ["word"] ["word"] (defScope sNumberOf) := ⟨rfl, rfl, rfl, by decide +kernel, rfl, by decide +kernel, by decide +kernel⟩
theorem ok_numOf {f : Addr} {fd : FuncData} (F : Fun K "number_of" "number_of" sNumberOf f fd) (T : Txt K mg) : FnOk P w K mg base CX0 1 f fd ["word"] spNumOf := by
  refine F.ok scNumOf (fun vs H Q E h => ?_) (fun cdv A outer s H vs Q E hr h => ?_)
  · obtain ⟨m, rfl, _⟩ := h
    rfl
  · obtain ⟨m, rfl, hm, h6, k⟩ := h
    obtain ⟨tl, hfig⟩ := T.figures
    refine ⟨_, pss_cons (ps_if (PW.pt (pw_or (pt_not (pt_chain op_le op_le pe_int (pe_callB call_len_str (by rfl) T.len PySem.boot_len (pa_cons (pv 0) pa_nil)) (pe_glob (v := .int 60) (by rfl) hfig ⟨_, rfl⟩)))
        (pw_or1 (pt_not (pt_val (pe_callB (call_all rfl) (by rfl) T.al (by kernel_rfl) (pa_cons (pe_comp (N := ["sign"]) (src := [none]) (osc := defScope sNumberOf) (oN := ["word"]) ⟨by rfl, by decide +kernel, by decide +kernel, by decide +kernel, rfl, by rfl⟩ (pi_str (pv 0))
          fun cl s H fp pins C => ⟨pg_name (i := 0) (show (["sign"] : List Str).Nodup by decide +kernel) rfl (Or.inl rfl), pts_nil, pe_chain op_le_str op_le_str pe_str (pv 0) pe_str⟩) pa_nil))))))) (pss_one (ps_ret pe_non)) pss_nil)
      (pss_cons (ps_if (PW.pt (pw_and (pt_cmpR op_eq (pe_ix ix_str (pv 0) pe_int (fun _ _ => rfl)) pe_str (nomark _)) (pw_and1 (pt_cmpR op_ne (pv 0) pe_str (nomark _))))) (pss_one (ps_ret pe_non)) pss_nil)
      (pss_one (ps_ret (pe_callTy call_intT (by rfl) T.int (by kernel_rfl) (pa_c (pv 0) pa_nil))))), ?_⟩
    have hz := numT_len h6
    have hne := num_ne m
    have hd := num_digits m
    obtain ⟨c0, r0, ec, hc0⟩ := numT_head hm
    have h1 : 1 ≤ (numT m).length := by
      show 1 ≤ (numT m).cps.size
      rw [← Array.length_toList, ec]
      simp
    refine ⟨_, rfl, _, rfl, sizeLine_big (by omega), _, _, rfl, rfl, _, rfl, ?_⟩
    refine ite2 (fun g1 => ?_) (fun g1 => absurd (decide_eq_true (by omega)) g1)
    refine ⟨_, _, rfl, rfl, _, rfl, ?_⟩
    rw [decide_eq_true (show ((numT m).length : Int) ≤ 60 by omega)]
    refine iteF ?_
    refine ⟨_, rfl, numT m, rfl, ?_⟩
    refine comp_str (fun i ys σ H' => H' = H ∧ ys = ((numT m).cps.toList.take i).map (fun _ => V.bl true) ∧ σ.length = 1) ⟨rfl, rfl, rfl⟩ (sizeLine_big (show (numT m).length ≤ 1000000 by omega)) (fun i ys σ H' p => by rw [p.2.1, List.length_map, List.length_take]; omega) ?_ ?_
    · rintro i c ys σ H' hc ⟨rfl, rfl, hσ⟩
      obtain ⟨o, rfl⟩ : ∃ o, σ = [o] := by
        match σ, hσ with
        | [o], _ => exact ⟨o, rfl⟩
      dsimp only [gName]
      refine iteT ?_
      have hcc : (numT m).cps.toList[i]? = some c := by simpa using hc
      have hr := hd c (List.mem_of_getElem? hcc)
      refine ⟨_, rfl, _, _, rfl, rfl, _, rfl, ?_⟩
      have e1 : (!decide ((⟨#[c]⟩ : Str).cps.toList < ("0" : Str).cps.toList)) = decide (48 ≤ c) := le_one 48 c
      have e2 : (!decide (("9" : Str).cps.toList < (⟨#[c]⟩ : Str).cps.toList)) = decide (c ≤ 57) := le_one c 57
      rw [e1, decide_eq_true hr.1]
      refine iteT ?_
      refine ⟨_, _, rfl, rfl, ?_⟩
      rw [e2, decide_eq_true hr.2]
      refine ⟨rfl, ?_, rfl⟩
      rw [List.take_add_one, List.map_append, hcc]
      rfl
    · rintro ys σ H' ⟨rfl, rfl, hσ⟩ D hD
      have etk : List.take (numT m).cps.size (numT m).cps.toList = (numT m).cps.toList := by rw [← Array.length_toList]; exact List.take_length
      rw [etk]
      refine ⟨D, (numT m).cps.toList.map fun _ => true, rfl, SqL.of (by rw [upd_same, List.map_map]; rfl), _, rfl, ?_⟩
      have ea : ((numT m).cps.toList.map fun _ => true).all id = true := by simp
      rw [ea]
      refine iteF ?_
      have eh : atI (numT m).cps.toList 0 = some c0 := atI_nat (j := 0) (by rw [ec]; rfl)
      refine ⟨_, rfl, numT m, 0, c0, rfl, rfl, sizeLine_big (by omega), eh, rfl, _, rfl, ?_⟩
      rw [decide_eq_false (show ¬ V.str ⟨#[c0]⟩ = V.str "0" from fun z => by
        injection z with z
        have : (⟨#[c0]⟩ : Str).cps.toList = ("0" : Str).cps.toList := by rw [z]
        have h48 : ("0" : Str).cps.toList = [48] := by decide +kernel
        rw [h48] at this
        injection this with this
        exact hc0 this)]
      refine iteF ?_
      refine iteF ?_
      exact ⟨_, rfl, numT m, m, rfl, num_readsK h6 (by decide) (by decide), by omega, k _ (Same.new hD)⟩
end
end K7

set_option linter.all false
set_option maxRecDepth 100000
set_option Elab.async false
set_option maxHeartbeats 8000000
namespace K7
open PySem L2
def wordsT (z : Str) : List Str := if z = "." then [] else Txt.split z " "
inductive IWords (vs : List V) (H : Hp) (Q : VK) (E : XK) : Prop
  | mk (z : Str) (h0 : vs = [.str z]) (hz : z.length ≤ 100000) (q : ∀ L, H L = none → Q (.ref L) (upd H L (.lst ((wordsT z).map V.str)))) : IWords vs H Q E
def spWords : Sp := fun vs H Q E => IWords vs H Q E
inductive IThrees (vs : List V) (H : Hp) (Q : VK) (E : XK) : Prop
  | mk (a : Addr) (ws : List Str) (h0 : vs = [.ref a]) (e : H a = some (.lst (ws.map V.str))) (h9 : ws.length ≤ 40) (hz : ∀ z ∈ ws, z.length ≤ 1000) (h3 : ∀ z ∈ ws, (Txt.split z ":").length = 3)
      (q : ∀ (T : Addr) (bs : List Addr) (H' : Hp), Same H H' → H T = none → H' T = some (.lst (bs.map V.ref)) → bs.length = ws.length → (∀ (i : Nat) (b : Addr) (z : Str), bs[i]? = some b → ws[i]? = some z → H b = none ∧ H' b = some (.lst ((Txt.split z ":").map V.str))) → Q (.ref T) H') : IThrees vs H Q E
def spThrees : Sp := fun vs H Q E => IThrees vs H Q E
section
variable {P : Program} {w : World} {K : PySem.W.Frag} {mg : Str → Option Value} {base : Heap}
theorem scWords : FnScope ["text"] ["text"] (defScope sWordsOf) := ⟨rfl, rfl, rfl, by decide +kernel, rfl, by decide +kernel, by decide +kernel⟩
theorem ok_words {f : Addr} {fd : FuncData} (F : Fun K "words_of" "words_of" sWordsOf f fd) (T : Txt K mg) : FnOk P w K mg base CX0 1 f fd ["text"] spWords := by
  refine F.ok scWords (fun vs H Q E h => ?_) (fun cdv A outer s H vs Q E hr h => ?_)
  · obtain ⟨z, rfl, _⟩ := h
    rfl
  · obtain ⟨z, rfl, hz, k⟩ := h
    refine ⟨_, pss_cons (ps_if (pt_not (pt_val (pe_callB call_isinst (by rfl) T.isi (by kernel_rfl) (pa_cons (pv 0) (pa_cons (pe_bltn (v := .ty "str") (by rfl) T.str (by kernel_rfl) rfl) pa_nil))))) pss_never pss_nil)
      (pss_one (ps_ret (pe_ifExp (pt_cmpR op_eq (pv 0) pe_str (nomark _)) (pe_lst pa_nil) (pe_bm PySem.F.plainAttrs_str PySem.F.slot_str_split PySem.F.type_str_split mt_split (pv 0) (pa_c pe_str pa_nil))))), ?_⟩
    refine ⟨_, rfl, _, "str", _, true, rfl, TyOf.str z, kitStr K, true, rfl, ?_⟩
    refine iteF ?_
    refine ⟨_, rfl, rfl, _, rfl, ?_⟩
    unfold wordsT at k
    by_cases h : z = "."
    · rw [decide_eq_true (show V.str z = V.str "." by rw [h])]
      refine iteT ?_
      rw [if_pos h] at k
      exact ⟨Nat.zero_le _, k⟩
    · rw [decide_eq_false (show ¬ V.str z = V.str "." from fun e => by injection e with e; exact h e)]
      refine iteF ?_
      rw [if_neg h] at k
      refine ⟨_, rfl, rfl, z, " ", rfl, rfl, by decide, sizeLine_big (n := z.length + 2) (by omega), k⟩
theorem scThrees : FnScope ["words", "told"] ["words"] (defScope sInThrees) := ⟨rfl, rfl, rfl, by decide +kernel, rfl, by decide +kernel, by decide +kernel⟩
theorem ok_threes {f : Addr} {fd : FuncData} (F : Fun K "in_threes" "in_threes" sInThrees f fd) (T : Txt K mg) : FnOk P w K mg base CX0 1 f fd ["words"] spThrees := by
  refine F.ok scThrees (fun vs H Q E h => ?_) (fun cdv A outer s H vs Q E hr h => ?_)
  · obtain ⟨a, ws, rfl, _⟩ := h
    rfl
  · obtain ⟨a, ws, rfl, e, h9, hz, h3, k⟩ := h
    refine ⟨_, pss_cons (ps_setComp (i := 1) (N := ["word"]) (src := [none]) (osc := defScope sInThrees) (oN := ["words", "told"]) (te := tBM K "str" rSplit (tVar 0) (tCons (tC (.str ":")) tNil)) ⟨by rfl, by decide +kernel, by decide +kernel, by decide +kernel, rfl, by rfl⟩ scThrees.nd rfl (pi_list (pv 0))
        fun cl s H fp pins C => ⟨pg_name (i := 0) (show (["word"] : List Str).Nodup by decide +kernel) rfl (Or.inl rfl), pts_nil, pe_bm PySem.F.plainAttrs_str PySem.F.slot_str_split PySem.F.type_str_split mt_split (pv 0) (pa_c pe_str pa_nil)⟩)
      (pss_cons (ps_if (pt_not (pt_val (pe_callB (call_all rfl) (by rfl) T.al (by kernel_rfl) (pa_cons (pe_comp (N := ["pieces"]) (src := [none]) (osc := defScope sInThrees) (oN := ["words", "told"]) ⟨by rfl, by decide +kernel, by decide +kernel, by decide +kernel, rfl, by rfl⟩ (pi_list (pv 1))
          fun cl s H fp pins C => ⟨pg_name (i := 0) (show (["pieces"] : List Str).Nodup by decide +kernel) rfl (Or.inl rfl), pts_nil, pe_cmpR op_eq (pe_callB (r := fun xs H Q => ∃ p ys, xs = [V.ref p] ∧ (SqL K H p ys ∨ SqT K H p ys) ∧ Q (.int ys.length) H) call_len_seq (by rfl) T.len PySem.boot_len (pa_c (pv 0) pa_nil)) pe_int (nomark _)⟩) pa_nil)))) pss_never pss_nil)
      (pss_one (ps_ret (pv 1)))), ?_⟩
    refine ⟨_, rfl, a, rfl, ⟨_, SqL.of e⟩, ?_⟩
    refine comp_list (K := K) (xs := ws.map V.str) (fun i ys σ' H' => ∃ (o : Option V) (bs : List Addr), σ' = [o] ∧ Same H H' ∧ ys = bs.map V.ref ∧ bs.length = i ∧ ∀ (j : Nat) (b : Addr) (z : Str), bs[j]? = some b → ws[j]? = some z → H b = none ∧ H' b = some (.lst ((Txt.split z ":").map V.str)))
      ⟨none, [], rfl, Same.refl H, rfl, rfl, fun j b z hb => by simp at hb⟩ (sizeLine_big (by rw [List.length_map]; omega)) (fun i ys σ H' p => by obtain ⟨_, bs, _, _, rfl, hl, _⟩ := p; rw [List.length_map]; omega) (fun i ys σ H' p => by obtain ⟨_, _, _, S, _⟩ := p; exact SqL.of (S _ _ e)) ?_ ?_
    · rintro i v ys σ' H1 hv ⟨o, bs, rfl, S, rfl, hbl, hbs⟩
      rw [List.getElem?_map] at hv
      obtain ⟨z, hz', rfl⟩ := Option.map_eq_some_iff.mp hv
      have zl := hz z (List.mem_of_getElem? hz')
      dsimp only [gName]
      refine iteT ?_
      refine ⟨_, rfl, rfl, z, ":", rfl, rfl, by decide, sizeLine_big (n := z.length + 2) (by omega), fun L hL => ?_⟩
      have sL := Same.new (o := .lst ((Txt.split z ":").map V.str)) hL
      refine ⟨_, bs ++ [L], rfl, S.trans sL, by rw [List.map_append]; rfl, by rw [List.length_append, hbl]; rfl, fun j b y hb hy => ?_⟩
      by_cases hj : j < bs.length
      · rw [List.getElem?_append_left hj] at hb
        obtain ⟨p, q⟩ := hbs j b y hb hy
        exact ⟨p, sL _ _ q⟩
      · rw [List.getElem?_append_right (by omega)] at hb
        have e0 : j - bs.length = 0 := by
          cases h : j - bs.length with
          | zero => rfl
          | succ n => rw [h] at hb; simp at hb
        rw [e0] at hb
        have eb : L = b := by simpa using hb
        have ej : j = i := by omega
        subst ej
        rw [hz'] at hy
        have ey : z = y := by simpa using hy
        subst eb ey
        exact ⟨S.free hL, upd_same⟩
    · rintro ys σ' H1 ⟨o, bs, rfl, S, rfl, hbl, hbs⟩ D hD
      rw [List.length_map] at hbl
      have sD := Same.new (o := .lst (bs.map V.ref)) hD
      dsimp only [gName]
      refine ⟨_, rfl, D, rfl, ⟨_, SqL.of upd_same⟩, ?_⟩
      have hat : ∀ (j : Nat) (b : Addr), bs[j]? = some b → ∃ z, ws[j]? = some z ∧ z ∈ ws ∧ H b = none ∧ H1 b = some (.lst ((Txt.split z ":").map V.str)) := fun j b hb => by
        have hj : j < ws.length := by rw [← hbl]; exact (List.getElem?_eq_some_iff.mp hb).1
        obtain ⟨p, q⟩ := hbs j b ws[j] hb (List.getElem?_eq_getElem hj)
        exact ⟨_, List.getElem?_eq_getElem hj, List.getElem_mem hj, p, q⟩
      refine comp_list (K := K) (xs := bs.map V.ref) (fun i ys σ' H' => ∃ (o : Option V), σ' = [o] ∧ H' = upd H1 D (.lst (bs.map V.ref)) ∧ ys = List.replicate i (V.bl true)) ⟨none, rfl, rfl, rfl⟩ (sizeLine_big (by rw [List.length_map]; omega)) (fun i ys σ H' p => by obtain ⟨_, _, _, rfl⟩ := p; simp)
        (fun i ys σ H' p => by obtain ⟨_, _, rfl, _⟩ := p; exact SqL.of upd_same) ?_ ?_
      · rintro i v ys σ' H2 hv ⟨o, rfl, rfl, rfl⟩
        rw [List.getElem?_map] at hv
        obtain ⟨b, hb, rfl⟩ := Option.map_eq_some_iff.mp hv
        obtain ⟨z, hz1, hz2, p, q⟩ := hat i b hb
        dsimp only [gName]
        refine iteT ?_
        refine ⟨_, rfl, b, _, rfl, .inl (SqL.of (sD _ _ q)), rfl, ?_⟩
        refine ⟨_, rfl, rfl, ?_⟩
        rw [decide_eq_true (show V.int (((Txt.split z ":").map V.str).length : Int) = V.int 3 by rw [List.length_map, h3 z hz2]; rfl), List.replicate_succ']
      · rintro ys σ' H2 ⟨o, rfl, rfl, rfl⟩ D2 hD2
        have s2 := Same.new (o := .lst (List.replicate (bs.map V.ref).length (V.bl true))) hD2
        refine ⟨D2, List.replicate (bs.map V.ref).length true, rfl, SqL.of (by rw [upd_same, List.map_replicate]), _, rfl, ?_⟩
        rw [show (List.replicate (bs.map V.ref).length true).all id = true by simp]
        refine iteF ?_
        refine ⟨_, rfl, k D bs _ ((S.trans sD).trans s2) (S.free hD) (s2 _ _ upd_same) hbl fun i b z hb hz1 => ?_⟩
        obtain ⟨p, q⟩ := hbs i b z hb hz1
        exact ⟨p, s2 _ _ (sD _ _ q)⟩
end
end K7

set_option linter.all false
set_option maxRecDepth 100000
set_option Elab.async false
set_option maxHeartbeats 8000000
namespace K7
open PySem L2
theorem colon : (":" : Str) = ⟨#[58]⟩ := by decide +kernel
theorem blank : (" " : Str) = ⟨#[32]⟩ := by decide +kernel
theorem three_join (a b c : Str) : Str.empty ++ a ++ ":" ++ b ++ ":" ++ c = Str.join ":" [a, b, c] := by
  show _ = a ++ ":" ++ (b ++ ":" ++ c)
  apply Str.ext'
  apply Array.toList_inj.mp
  rw [app_cps, app_cps, app_cps, app_cps, app_cps, app_cps, app_cps, app_cps, app_cps]
  have : Str.empty.cps.toList = [] := by decide +kernel
  rw [this]
  simp
theorem split3 {a b c : Str} (ha : 58 ∉ a.cps.toList) (hb : 58 ∉ b.cps.toList) (hc : 58 ∉ c.cps.toList) : Txt.split (Str.empty ++ a ++ ":" ++ b ++ ":" ++ c) ":" = [a, b, c] := by
  rw [three_join, colon]
  refine split_join (by simp) fun z hz => ?_
  simp only [List.mem_cons, List.not_mem_nil, or_false] at hz
  rcases hz with rfl | rfl | rfl
  · exact ha
  · exact hb
  · exact hc
theorem words_row {ws : List Str} (hw : ∀ z ∈ ws, 32 ∉ z.cps.toList) (hd : ws ≠ [] → rowT ws ≠ ".") : wordsT (rowT ws) = ws := by
  unfold wordsT
  cases ws with
  | nil => exact if_pos (show rowT [] = "." from rfl)
  | cons z ws =>
    rw [if_neg (hd (by simp))]
    unfold rowT
    rw [if_neg (by simp)]
    show Txt.split (Builtin.Str.glued " " (z :: ws)) " " = _
    rw [StrLaws.glued_eq_join, blank]
    exact split_join (by simp) hw
theorem name_free {z : Str} (h : nameB z = true) {c : Nat} (hc : c < 97) : c ∉ z.cps.toList := fun hm => by
  unfold nameB at h
  rw [Bool.and_eq_true, List.all_eq_true] at h
  have := of_decide_eq_true (h.2 c hm)
  omega
theorem join_mem {sep : Str} {c : Nat} : ∀ {ws : List Str}, c ∈ (Str.join sep ws).cps.toList → c ∈ sep.cps.toList ∨ ∃ z ∈ ws, c ∈ z.cps.toList := by
  intro ws
  induction ws with
  | nil => intro h; exact absurd h (by have : (Str.join sep []).cps.toList = [] := by rfl
                                       rw [this]; simp)
  | cons a ws ih =>
    intro h
    cases ws with
    | nil => exact .inr ⟨a, by simp, h⟩
    | cons b ws =>
      have e : (Str.join sep (a :: b :: ws)).cps.toList = a.cps.toList ++ sep.cps.toList ++ (Str.join sep (b :: ws)).cps.toList := by
        show (a ++ sep ++ Str.join sep (b :: ws)).cps.toList = _
        rw [app_cps, app_cps]
      rw [e, List.mem_append, List.mem_append] at h
      rcases h with (h | h) | h
      · exact .inr ⟨a, by simp, h⟩
      · exact .inl h
      · rcases ih h with h | ⟨z, hz, h⟩
        · exact .inl h
        · exact .inr ⟨z, by simp at hz ⊢; exact .inr hz, h⟩
theorem row_nodot {ws : List Str} (hn : ws ≠ []) (hw : ∀ z ∈ ws, 46 ∉ z.cps.toList) : rowT ws ≠ "." := fun e => by
  have h46 : (46 : Nat) ∈ (".": Str).cps.toList := by decide +kernel
  rw [← e] at h46
  unfold rowT at h46
  rw [if_neg (by cases ws with | nil => exact absurd rfl hn | cons _ _ => simp)] at h46
  have h46' : 46 ∈ (Str.join " " ws).cps.toList := by rw [← StrLaws.glued_eq_join]; exact h46
  rcases join_mem h46' with h | ⟨z, hz, h⟩
  · exact absurd h (by decide +kernel)
  · exact hw z hz h
end K7

set_option linter.all false
set_option maxRecDepth 100000
set_option Elab.async false
set_option maxHeartbeats 8000000
namespace K7
open PySem L2
structure Chain (xs : List Link) : Prop where
  ne : xs ≠ []
  len : xs.length ≤ 9
  land : ∀ x ∈ xs, nameB x.2.1 = true
  house : ∀ x ∈ xs, nameB x.2.2 = true
  first : ∀ x, xs[0]? = some x → x.1 = none
  row : ∀ (i : Nat) (x : Link), xs[i + 1]? = some x → ∃ z, x.1 = some z ∧ nameB z = true
theorem nlen {z : Str} (h : nameB z = true) : 1 ≤ z.length ∧ z.length ≤ 8 := by
  unfold nameB at h
  rw [Bool.and_eq_true] at h
  exact of_decide_eq_true h.1
section
variable {xs : List Link}
theorem Chain.dash (c : Chain xs) {x : Link} (hx : x ∈ xs) : x.1 = none ∨ ∃ z, x.1 = some z ∧ nameB z = true := by
  obtain ⟨i, hi⟩ := List.getElem?_of_mem hx
  cases i with
  | zero => exact .inl (c.first x hi)
  | succ i => exact .inr (c.row i x hi)
theorem Chain.free (c : Chain xs) {x : Link} (hx : x ∈ xs) {k : Nat} (hk : k < 97) (h45 : k ≠ 45) : k ∉ (dashS x.1).cps.toList ∧ k ∉ x.2.1.cps.toList ∧ k ∉ x.2.2.cps.toList := by
  refine ⟨?_, name_free (c.land x hx) hk, name_free (c.house x hx) hk⟩
  rcases c.dash hx with e | ⟨z, e, hz⟩
  · rw [e]
    have : (dashS none).cps.toList = [45] := by decide +kernel
    rw [this]
    simpa using h45
  · rw [e]
    exact name_free hz hk
theorem Chain.freeL (c : Chain xs) {x : Link} (hx : x ∈ xs) {k : Nat} (hk : k < 97) (h45 : k ≠ 45) (h58 : k ≠ 58) : k ∉ (linkT x).cps.toList := by
  obtain ⟨h1, h2, h3⟩ := c.free hx hk h45
  have e0 : Str.empty.cps.toList = [] := by decide +kernel
  have e1 : (":" : Str).cps.toList = [58] := by decide +kernel
  unfold linkT
  rw [app_cps, app_cps, app_cps, app_cps, app_cps, e0, e1]
  simp only [List.nil_append, List.mem_append, List.mem_singleton, not_or]
  exact ⟨⟨⟨⟨h1, h58⟩, h2⟩, h58⟩, h3⟩
theorem Chain.split (c : Chain xs) {x : Link} (hx : x ∈ xs) : Txt.split (linkT x) ":" = [dashS x.1, x.2.1, x.2.2] := by
  obtain ⟨h1, h2, h3⟩ := c.free hx (k := 58) (by decide) (by decide)
  exact split3 h1 h2 h3
theorem Chain.ok (c : Chain xs) {x : Link} (hx : x ∈ xs) : x.Ok := by
  refine ⟨?_, (nlen (c.land x hx)).2, (nlen (c.house x hx)).2⟩
  rcases c.dash hx with e | ⟨z, e, hz⟩
  · rw [e]; decide +kernel
  · rw [e]; exact (nlen hz).2
theorem Chain.words (c : Chain xs) : wordsT (rowT (xs.map linkT)) = xs.map linkT := by
  refine words_row (fun z hz => ?_) fun hn => row_nodot hn fun z hz => ?_
  · obtain ⟨x, hx, rfl⟩ := List.mem_map.mp hz
    exact c.freeL hx (by decide) (by decide) (by decide)
  · obtain ⟨x, hx, rfl⟩ := List.mem_map.mp hz
    exact c.freeL hx (by decide) (by decide) (by decide)
theorem join_len {sep : Str} : ∀ (ws : List Str), (Str.join sep ws).length ≤ (ws.map (·.length)).sum + ws.length * sep.length := by
  intro ws
  induction ws with
  | nil => exact Nat.zero_le _
  | cons a ws ih =>
    cases ws with
    | nil => show a.length ≤ _; simp
    | cons b ws =>
      have e : (Str.join sep (a :: b :: ws)).length = a.length + sep.length + (Str.join sep (b :: ws)).length := by
        show (a ++ sep ++ Str.join sep (b :: ws)).length = _
        rw [len_app, len_app]
      rw [e]
      simp only [List.map_cons, List.sum_cons, List.length_cons, Nat.add_mul, Nat.one_mul] at ih ⊢
      omega
theorem row_len {ws : List Str} {k : Nat} (h : ∀ z ∈ ws, z.length ≤ k) : (rowT ws).length ≤ ws.length * k + ws.length + 1 := by
  unfold rowT
  split
  · have : ("." : Str).length = 1 := by decide
    rw [this]; omega
  · show (Builtin.Str.glued " " ws).length ≤ _
    rw [StrLaws.glued_eq_join]
    have := join_len (sep := " ") ws
    have h1 := sum_le (fun z : Str => z.length) k ws h
    have c1 : (" " : Str).length = 1 := by decide
    rw [c1] at this
    omega
end
end K7

set_option linter.all false
set_option maxRecDepth 100000
set_option Elab.async false
set_option maxHeartbeats 8000000
namespace K7
open PySem L2
def three (x : Link) : List Str := [dashS x.1, x.2.1, x.2.2]
theorem three_len : ∀ l : List Link, (l.flatMap three).length = 3 * l.length := by
  intro l
  induction l with
  | nil => rfl
  | cons x l ih => rw [List.flatMap_cons, List.length_append, ih, List.length_cons]; show 3 + _ = _; omega
inductive IReadChain (vs : List V) (H : Hp) (Q : VK) (E : XK) : Prop
  | mk (xs : List Link) (h0 : vs = [.str (rowT (xs.map linkT))]) (c : Chain xs) (q : ∀ (T : Addr) (ls : List V) (H' : Hp), Same H H' → H T = none → H' T = some (.lst ls) → LinksAt H' ls xs → Q (.ref T) H') : IReadChain vs H Q E
def spReadChain : Sp := fun vs H Q E => IReadChain vs H Q E
section
variable {P : Program} {w : World} {K : PySem.W.Frag} {mg : Str → Option Value} {base : Heap}
theorem scReadChain : FnScope ["text", "links", "named", "link"] ["text"] (defScope sReadChain) := ⟨rfl, rfl, rfl, by decide +kernel, rfl, by decide +kernel, by decide +kernel⟩
theorem ok_readChain {f fW f3 fN : Addr} {fd fdW fd3 fdN : FuncData} (F : Fun K "read_chain" "read_chain" sReadChain f fd) (T : Txt K mg)
    (GW : FnOk P w K mg base CX0 1 fW fdW ["text"] spWords) (mW : mg "words_of" = some (.ref fW)) (kW : PySem.W.keepIn K (.ref fW) = true) (bW : Binds K fdW ["text"] [])
    (G3 : FnOk P w K mg base CX0 1 f3 fd3 ["words"] spThrees) (m3 : mg "in_threes" = some (.ref f3)) (k3 : PySem.W.keepIn K (.ref f3) = true) (b3 : Binds K fd3 ["words"] [])
    (GN : FnOk P w K mg base CX0 1 fN fdN ["thing"] (spIsName K)) (mN : mg "is_name" = some (.ref fN)) (kN : PySem.W.keepIn K (.ref fN) = true) (bN : Binds K fdN ["thing"] []) :
    FnOk P w K mg base CX0 2 f fd ["text"] spReadChain := by
  refine F.ok scReadChain (fun vs H Q E h => ?_) (fun cdv A outer s H vs Q E hr h => ?_)
  · obtain ⟨xs, rfl, _⟩ := h
    rfl
  · obtain ⟨xs, rfl, c, k⟩ := h
    have nd1 : (["name"] : List Str).Nodup := by decide +kernel
    have nd3 : (["row", "land", "house"] : List Str).Nodup := by decide +kernel
    refine ⟨_, pss_cons (ps_set (i := 1) scReadChain.nd rfl (Or.inl rfl) (pe_call G3 hr rfl m3 k3 b3 .nil pass0 (pa_c (pe_call GW hr rfl mW kW bW .nil pass0 (pa_c (pv 0) pa_nil)) pa_nil)))
      (pss_cons (ps_if (PW.pt (pw_or (pt_not (pt_truth (pv 1) (fun _ => rfl))) (pw_or1 (pt_cmpR op_ne (pe_ix ix_list (pe_ix ix_list (pv 1) pe_int (fun _ _ => rfl)) pe_int (fun _ _ => rfl)) pe_str (nomark _))))) pss_never pss_nil)
      (pss_cons (ps_set (i := 2) scReadChain.nd rfl (Or.inl rfl) (pe_slice sl_list (pe_ix ix_list (pv 1) pe_int (fun _ _ => rfl)) (po_some pe_int) po_none))
      (pss_cons (ps_for PassesOwn.never rfl (pi_list (pe_slice sl_list (pv 1) (po_some pe_int) po_none)) (pg_name (i := 3) scReadChain.nd rfl (Or.inl rfl))
        (pss_one (ps_expr (pe_bm PySem.F.plainAttrs_list PySem.F.slot_list_extend PySem.F.type_list_extend mt_extend (pv 2) (pa_c (pv 3) pa_nil)))))
      (pss_cons (ps_if (pt_not (pt_val (pe_callB (call_all rfl) (by rfl) T.al (by kernel_rfl) (pa_cons (pe_comp (N := ["name"]) (src := [none]) (osc := defScope sReadChain) (oN := ["text", "links", "named", "link"]) ⟨by rfl, by decide +kernel, by decide +kernel, by decide +kernel, rfl, by rfl⟩ (pi_list (pv 2))
          fun cl s H fp pins C => ⟨pg_name (i := 0) nd1 rfl (Or.inl rfl), pts_nil, pe_call GN hr rfl mN kN bN .nil pass0 (pa_c (pv 0) pa_nil)⟩) pa_nil)))) pss_never pss_nil)
      (pss_one (ps_ret (pe_op op_cat (pe_lst (pa_c (pe_tup (pa_c pe_non (pa_c (pe_ix ix_list (pe_ix ix_list (pv 1) pe_int (fun _ _ => rfl)) pe_int (fun _ _ => rfl)) (pa_c (pe_ix ix_list (pe_ix ix_list (pv 1) pe_int (fun _ _ => rfl)) pe_int (fun _ _ => rfl)) pa_nil)))) pa_nil))
        (pe_comp (N := ["row", "land", "house"]) (src := [none, none, none]) (osc := defScope sReadChain) (oN := ["text", "links", "named", "link"]) (g := gLst K 3 (gCons (gName 0) (gCons (gName 1) (gCons (gName 2) gNil)))) ⟨by rfl, by decide +kernel, by decide +kernel, by decide +kernel, rfl, by rfl⟩ (pi_list (pe_slice sl_list (pv 1) (po_some pe_int) po_none))
          fun cl s H fp pins C => ⟨pg_lst rfl (pgs_cons (pg_name (i := 0) nd3 rfl (Or.inl rfl)) (pgs_cons (pg_name (i := 1) nd3 rfl (Or.inl rfl)) (pgs_cons (pg_name (i := 2) nd3 rfl (Or.inl rfl)) pgs_nil))), pts_nil, pe_tup (pa_c (pv 0) (pa_c (pv 1) (pa_c (pv 2) pa_nil)))⟩)))))))), ?_⟩
    obtain ⟨x0, rest, rfl⟩ : ∃ x0 rest, xs = x0 :: rest := by
      cases xs with
      | nil => exact absurd rfl c.ne
      | cons x r => exact ⟨x, r, rfl⟩
    have hlen := c.len
    have hrl : rest.length ≤ 8 := by simp at hlen; omega
    have hx0 : x0 ∈ x0 :: rest := by simp
    have hd0 : dashS x0.1 = "-" := by rw [c.first x0 rfl]; rfl
    have hrow : (rowT ((x0 :: rest).map linkT)).length ≤ 100000 := by
      have := row_len (ws := (x0 :: rest).map linkT) (k := 26) (fun z hz => by obtain ⟨x, hx, rfl⟩ := List.mem_map.mp hz; exact linkT_len (c.ok hx))
      rw [List.length_map] at this
      omega
    refine ⟨_, rfl, _, rfl, hrow, fun L hL => ?_⟩
    refine ⟨L, (x0 :: rest).map linkT, rfl, by rw [upd_same, c.words], by rw [List.length_map]; omega, fun z hz => ?_, fun z hz => ?_, fun T3 bs H3 S3 hT3 eT3 hbl hbs => ?_⟩
    · obtain ⟨x, hx, rfl⟩ := List.mem_map.mp hz
      exact Nat.le_trans (linkT_len (c.ok hx)) (by decide)
    · obtain ⟨x, hx, rfl⟩ := List.mem_map.mp hz
      rw [c.split hx]
      rfl
    have sH : Same H H3 := (Same.new hL).trans S3
    have fr : ∀ (i : Nat) (b : Addr) (x : Link), bs[i]? = some b → (x0 :: rest)[i]? = some x → H b = none ∧ H3 b = some (.lst [.str (dashS x.1), .str x.2.1, .str x.2.2]) := fun i b x hb hx => by
      obtain ⟨p, q⟩ := hbs i b (linkT x) hb (by rw [List.getElem?_map, hx]; rfl)
      rw [c.split (List.mem_of_getElem? hx)] at q
      exact ⟨(Same.new hL).free p, q⟩
    rw [List.length_map] at hbl
    obtain ⟨b0, bs', rfl⟩ : ∃ b0 bs', bs = b0 :: bs' := by
      cases bs with
      | nil => simp at hbl
      | cons x r => exact ⟨x, r, rfl⟩
    obtain ⟨f0, e0⟩ := fr 0 b0 x0 rfl rfl
    rw [hd0] at e0
    have hat0 : atI ((b0 :: bs').map V.ref) 0 = some (.ref b0) := atI_nat (j := 0) rfl
    have ha0 : atI [V.str "-", .str x0.2.1, .str x0.2.2] 0 = some (.str "-") := atI_nat (j := 0) rfl
    have ha1 : atI [V.str "-", .str x0.2.1, .str x0.2.2] 1 = some (.str x0.2.1) := atI_nat (j := 1) rfl
    have ha2 : atI [V.str "-", .str x0.2.1, .str x0.2.2] 2 = some (.str x0.2.2) := atI_nat (j := 2) rfl
    refine ⟨_, rfl, true, .inl ⟨_, SqL.of eT3, rfl⟩, ?_⟩
    refine iteF ?_
    refine ⟨_, rfl, T3, _, 0, _, rfl, rfl, SqL.of eT3, hat0, b0, _, 0, _, rfl, rfl, SqL.of e0, ha0, rfl, _, rfl, ?_⟩
    rw [decide_eq_true (show V.str "-" = V.str "-" from rfl)]
    refine iteF ?_
    refine ⟨_, rfl, T3, _, 0, _, rfl, rfl, SqL.of eT3, hat0, _, rfl, b0, _, rfl, SqL.of e0, fun N hN => ?_⟩
    have ecut : cutV [V.str "-", .str x0.2.1, .str x0.2.2] (some 1) none = [.str x0.2.1, .str x0.2.2] := cut_from (α := Nat) _ 1
    rw [ecut]
    have sN := Same.new (o := .lst [V.str x0.2.1, .str x0.2.2]) hN
    have eN : upd H3 N (.lst [V.str x0.2.1, .str x0.2.2]) N = some (.lst [V.str x0.2.1, .str x0.2.2]) := upd_same
    generalize upd H3 N (.lst [V.str x0.2.1, .str x0.2.2]) = H4 at sN eN ⊢
    refine ⟨_, rfl, _, rfl, T3, _, rfl, SqL.of (sN _ _ eT3), fun S hS => ?_⟩
    have ec2 : cutV ((b0 :: bs').map V.ref) (some 1) none = bs'.map V.ref := cut_from (α := Nat) _ 1
    rw [ec2]
    have sS := Same.new (o := .lst (bs'.map V.ref)) hS
    have eS : upd H4 S (.lst (bs'.map V.ref)) S = some (.lst (bs'.map V.ref)) := upd_same
    have nSN : S ≠ N := fun e => by rw [e, eN] at hS; cases hS
    generalize upd H4 S (.lst (bs'.map V.ref)) = H5 at sS eS ⊢
    have hbl' : bs'.length = rest.length := by simpa using hbl
    have s35 : Same H3 H5 := sN.trans sS
    have nb : ∀ (i : Nat) (b : Addr) (x : Link), bs'[i]? = some b → rest[i]? = some x → b ≠ N ∧ H b = none ∧ H5 b = some (.lst [.str (dashS x.1), .str x.2.1, .str x.2.2]) := fun i b x hb hx => by
      obtain ⟨p, q⟩ := fr (i + 1) b x hb hx
      exact ⟨fun e => (by rw [e, hN] at q; cases q), p, s35 _ _ q⟩
    have nx : ∀ (i : Nat) (v : V), (bs'.map V.ref)[i]? = some v → ∃ b x, v = .ref b ∧ rest[i]? = some x ∧ b ≠ N ∧ H b = none ∧ H5 b = some (.lst [.str (dashS x.1), .str x.2.1, .str x.2.2]) := fun i v hv => by
      rw [List.getElem?_map] at hv
      obtain ⟨b, hb, rfl⟩ := Option.map_eq_some_iff.mp hv
      have hi : i < rest.length := by rw [← hbl']; exact (List.getElem?_eq_some_iff.mp hb).1
      exact ⟨b, rest[i], rfl, List.getElem?_eq_getElem hi, nb i b _ hb (List.getElem?_eq_getElem hi)⟩
    refine ⟨S, rfl, ⟨_, SqL.of eS⟩, for_list (K := K) (xs := bs'.map V.ref) (fun i σ H' => ∃ (o : Option V), σ = [some (.str (rowT ((x0 :: rest).map linkT))), some (.ref T3), some (.ref N), o] ∧ H' N = some (.lst ((x0.2.1 :: x0.2.2 :: (rest.take i).flatMap three).map V.str)) ∧ KeepBut N H5 H')
      ⟨none, rfl, sS _ _ eN, KeepBut.refl N H5⟩ (fun i σ H' _ p => by obtain ⟨_, _, _, kb⟩ := p; exact SqL.of (kb _ _ eS nSN)) (fun i v σ H' hv p => ?_) (fun σ H6 p => ?_)⟩
    · obtain ⟨o, rfl, hNn, kb⟩ := p
      obtain ⟨b, x, rfl, hx, hbN, fb, hb5⟩ := nx i v hv
      have hi : i < rest.length := (List.getElem?_eq_some_iff.mp hx).1
      refine ⟨_, rfl, .inl ⟨rfl, _, SqL.of hNn⟩, _, rfl, N, b, _, _, rfl, rfl, hNn, kb _ _ hb5 hbN, ?_, ?_⟩
      · refine sizeLine_big ?_
        rw [List.length_map, List.length_cons, List.length_cons, three_len, List.length_take]
        show _ + 3 ≤ _
        omega
      · refine ⟨_, rfl, ?_, fun b' o' e' hne => by rw [upd_ne hne]; exact kb b' o' e' hne⟩
        rw [upd_same, List.take_add_one, hx]
        simp [three]
    · obtain ⟨o, rfl, hNn, kb⟩ := p
      rw [List.length_map, hbl', List.take_length] at hNn
      have hro : ∀ (i : Nat) (x : Link), rest[i]? = some x → oV x.1 = .str (dashS x.1) ∧ nameB (dashS x.1) = true := fun i x hx => by
        obtain ⟨z, e, hz⟩ := c.row i x hx
        rw [e]
        exact ⟨rfl, hz⟩
      have hnames : ∀ z ∈ x0.2.1 :: x0.2.2 :: rest.flatMap three, nameB z = true := fun z hz => by
        simp only [List.mem_cons, List.mem_flatMap] at hz
        rcases hz with rfl | rfl | ⟨x, hx, hz⟩
        · exact c.land x0 hx0
        · exact c.house x0 hx0
        · obtain ⟨i, hi⟩ := List.getElem?_of_mem hx
          simp only [three, List.mem_cons, List.not_mem_nil, or_false] at hz
          rcases hz with rfl | rfl | rfl
          · exact (hro i x hi).2
          · exact c.land x (by simp [hx])
          · exact c.house x (by simp [hx])
      have hnl : (x0.2.1 :: x0.2.2 :: rest.flatMap three).length ≤ 26 := by rw [List.length_cons, List.length_cons, three_len]; omega
      generalize x0.2.1 :: x0.2.2 :: rest.flatMap three = names at hNn hnames hnl
      refine ⟨_, rfl, N, rfl, ⟨_, SqL.of hNn⟩, ?_⟩
      refine comp_list (K := K) (xs := names.map V.str) (fun i ys σ' H' => ∃ (o : Option V), σ' = [o] ∧ Same H6 H' ∧ ys = List.replicate i (V.bl true)) ⟨none, rfl, Same.refl H6, rfl⟩ (sizeLine_big (by rw [List.length_map]; omega)) (fun i ys σ H' p => by obtain ⟨_, _, _, rfl⟩ := p; simp)
        (fun i ys σ H' p => by obtain ⟨_, _, S', _⟩ := p; exact SqL.of (S' _ _ hNn)) ?_ ?_
      · rintro i v ys σ' H7 hv ⟨o, rfl, S7, rfl⟩
        rw [List.getElem?_map] at hv
        obtain ⟨z, hz, rfl⟩ := Option.map_eq_some_iff.mp hv
        have hzn := hnames z (List.mem_of_getElem? hz)
        have hzl := (nlen hzn).2
        dsimp only [gName]
        refine iteT ?_
        refine ⟨_, rfl, _, rfl, .inl ⟨z, rfl, by omega, fun H8 S8 => ?_⟩⟩
        rw [hzn]
        exact ⟨_, rfl, S7.trans S8, List.replicate_succ'.symm⟩
      · rintro ys σ' H7 ⟨o, rfl, S7, rfl⟩ D2 hD2
        have s2 := Same.new (o := .lst (List.replicate (names.map V.str).length (V.bl true))) hD2
        refine ⟨D2, List.replicate (names.map V.str).length true, rfl, SqL.of (by rw [upd_same, List.map_replicate]), _, rfl, ?_⟩
        rw [show (List.replicate (names.map V.str).length true).all id = true by simp]
        refine iteF ?_
        have s68 := S7.trans s2
        generalize upd H7 D2 (.lst (List.replicate (names.map V.str).length (V.bl true))) = H8 at s2 s68 ⊢
        have up : ∀ b o, H3 b = some o → H8 b = some o := fun b o e => s68 _ _ (kb _ _ (s35 _ _ e) (fun z => by rw [z, hN] at e; cases e))
        have eT8 := up _ _ eT3
        have e08 := up _ _ e0
        refine ⟨_, rfl, T3, _, 0, _, rfl, rfl, SqL.of eT8, hat0, b0, _, 1, _, rfl, rfl, SqL.of e08, ha1, _, rfl, T3, _, 0, _, rfl, rfl, SqL.of eT8, hat0, b0, _, 2, _, rfl, rfl, SqL.of e08, ha2, sizeLine_big (by show 3 ≤ 1000000; decide), fun t0 ht0 => ⟨sizeLine_big (by show 1 ≤ 1000000; decide), fun l1 hl1 => ?_⟩⟩
        have st0 := Same.new (o := .tup [V.non, .str x0.2.1, .str x0.2.2]) ht0
        have et0 : upd H8 t0 (.tup [V.non, .str x0.2.1, .str x0.2.2]) t0 = some (.tup [V.non, .str x0.2.1, .str x0.2.2]) := upd_same
        generalize upd H8 t0 (.tup [V.non, .str x0.2.1, .str x0.2.2]) = H9 at st0 et0 hl1 ⊢
        have sl1 := Same.new (o := .lst [V.ref t0]) hl1
        have el1 : upd H9 l1 (.lst [V.ref t0]) l1 = some (.lst [V.ref t0]) := upd_same
        generalize upd H9 l1 (.lst [V.ref t0]) = H10 at sl1 el1 ⊢
        refine ⟨_, rfl, _, rfl, T3, _, rfl, SqL.of (sl1 _ _ (st0 _ _ eT8)), fun S2 hS2 => ?_⟩
        rw [ec2]
        have sS2 := Same.new (o := .lst (bs'.map V.ref)) hS2
        have eS2 : upd H10 S2 (.lst (bs'.map V.ref)) S2 = some (.lst (bs'.map V.ref)) := upd_same
        generalize upd H10 S2 (.lst (bs'.map V.ref)) = H11 at sS2 eS2 ⊢
        have s811 : Same H8 H11 := (st0.trans sl1).trans sS2
        have sAll : Same H H11 := fun b o e => s811 _ _ (up _ _ (sH _ _ e))
        refine ⟨S2, rfl, ⟨_, SqL.of eS2⟩, ?_⟩
        refine comp_list (K := K) (xs := bs'.map V.ref) (fun i ys σ' H' => ∃ (o1 o2 o3 : Option V) (ts : List Addr), σ' = [o1, o2, o3] ∧ Same H11 H' ∧ ys = ts.map V.ref ∧ ts.length = i ∧ ∀ (j : Nat) (t : Addr) (x : Link), ts[j]? = some t → rest[j]? = some x → H' t = some (.tup [oV x.1, .str x.2.1, .str x.2.2]))
          ⟨none, none, none, [], rfl, Same.refl H11, rfl, rfl, fun j t x hb => by simp at hb⟩ (sizeLine_big (by rw [List.length_map]; omega)) (fun i ys σ H' p => by obtain ⟨_, _, _, ts, _, _, rfl, hl, _⟩ := p; rw [List.length_map]; omega) (fun i ys σ H' p => by obtain ⟨_, _, _, _, _, S', _⟩ := p; exact SqL.of (S' _ _ eS2)) ?_ ?_
        · rintro i v ys σ' H12 hv ⟨o1, o2, o3, ts, rfl, S12, rfl, htl, hts⟩
          rw [List.getElem?_map] at hv
          obtain ⟨b, hb, rfl⟩ := Option.map_eq_some_iff.mp hv
          have hi : i < rest.length := by rw [← hbl']; exact (List.getElem?_eq_some_iff.mp hb).1
          have hx : rest[i]? = some rest[i] := List.getElem?_eq_getElem hi
          generalize rest[i] = x at hx
          obtain ⟨_, hb3⟩ := fr (i + 1) b x hb hx
          have hb12 := S12 _ _ (s811 _ _ (up _ _ hb3))
          refine ⟨b, _, rfl, SqL.of hb12, rfl, _, _, rfl, _, _, rfl, _, _, rfl, rfl, ?_⟩
          refine iteT ?_
          refine ⟨_, rfl, _, rfl, _, rfl, sizeLine_big (by show 3 ≤ 1000000; decide), fun t ht => ?_⟩
          have sT := Same.new (o := .tup [V.str (dashS x.1), .str x.2.1, .str x.2.2]) ht
          refine ⟨_, _, _, ts ++ [t], rfl, S12.trans sT, by rw [List.map_append]; rfl, by rw [List.length_append, htl]; rfl, fun j t' y hb' hy => ?_⟩
          by_cases hj : j < ts.length
          · rw [List.getElem?_append_left hj] at hb'
            exact sT _ _ (hts j t' y hb' hy)
          · rw [List.getElem?_append_right (by omega)] at hb'
            have ej0 : j - ts.length = 0 := by
              cases h : j - ts.length with
              | zero => rfl
              | succ n => rw [h] at hb'; simp at hb'
            rw [ej0] at hb'
            have et : t = t' := by simpa using hb'
            have ej : j = i := by omega
            subst ej
            rw [hx] at hy
            have ey : x = y := by simpa using hy
            subst et ey
            rw [(hro j x hx).1]
            exact upd_same
        · rintro ys σ' H12 ⟨o1, o2, o3, ts, rfl, S12, rfl, htl, hts⟩ D3 hD3
          rw [List.length_map] at htl
          have sD3 := Same.new (o := .lst (ts.map V.ref)) hD3
          have s1 := S12.trans sD3
          refine ⟨l1, D3, _, _, rfl, rfl, s1 _ _ (sS2 _ _ el1), upd_same, sizeLine_big (by rw [List.length_map]; show 1 + _ ≤ _; omega), fun R hR => ?_⟩
          have sR := Same.new (o := .lst ([V.ref t0] ++ ts.map V.ref)) hR
          have sF := (sAll.trans s1).trans sR
          refine k R _ _ sF ((sAll.trans s1).free hR) upd_same ⟨?_, fun i v hv => ?_⟩
          · show (V.ref t0 :: ts.map V.ref).length = _
            rw [List.length_cons, List.length_cons, List.length_map]
            omega
          · cases i with
            | zero =>
              have ev : V.ref t0 = v := by simpa using hv
              subst ev
              refine ⟨x0, t0, rfl, rfl, ?_⟩
              rw [show oV x0.1 = .non by rw [c.first x0 rfl]; rfl]
              exact sR _ _ (s1 _ _ (sS2 _ _ (sl1 _ _ et0)))
            | succ i =>
              have hv' : (ts.map V.ref)[i]? = some v := hv
              rw [List.getElem?_map] at hv'
              obtain ⟨t, ht, rfl⟩ := Option.map_eq_some_iff.mp hv'
              have hi : i < rest.length := by have := (List.getElem?_eq_some_iff.mp ht).1; omega
              exact ⟨rest[i], t, List.getElem?_eq_getElem hi, rfl, sR _ _ (sD3 _ _ (hts i t _ ht (List.getElem?_eq_getElem hi)))⟩
end
end K7

set_option linter.all false
set_option maxRecDepth 100000
set_option Elab.async false
set_option maxHeartbeats 8000000
namespace K7
open PySem L2
abbrev rJ (K : PySem.W.Frag) : V → List V → Hp → VK → Prop := fun x xs H Q => ∃ z p ys, x = .str z ∧ xs = [.ref p] ∧ SqL K H p (ys.map V.str) ∧ (ys.map (·.length)).sum + ys.length * z.length ≤ 16777216 ∧ Q (.str (Txt.join z ys)) H
theorem link_join (x : Link) : Txt.join ":" [dashS x.1, x.2.1, x.2.2] = linkT x := by
  show Builtin.Str.glued ":" [dashS x.1, x.2.1, x.2.2] = _
  rw [StrLaws.glued_eq_join]
  exact (three_join _ _ _).symm
inductive ILChainT (vs : List V) (H : Hp) (Q : VK) (E : XK) : Prop
  | mk (a : Addr) (ls : List V) (xs : List Link) (h0 : vs = [.ref a]) (e : H a = some (.lst ls)) (hl : LinksAt H ls xs) (h9 : xs.length ≤ 40) (hn : xs ≠ []) (ok : ∀ x ∈ xs, x.Ok) (q : ∀ H', Same H H' → Q (.str (rowT (xs.map linkT))) H') : ILChainT vs H Q E
def spLChainT : Sp := fun vs H Q E => ILChainT vs H Q E
section
variable {P : Program} {w : World} {K : PySem.W.Frag} {mg : Str → Option Value} {base : Heap}
theorem scLChainT : FnScope ["_law_links"] ["_law_links"] (defScope sLChainText) := ⟨rfl, rfl, rfl, by decide +kernel, rfl, by decide +kernel, by decide +kernel⟩
theorem ok_lChainT {f : Addr} {fd : FuncData} (F : Fun K "_law_chain_text" "_law_chain_text" sLChainText f fd) : FnOk P w K mg base CX0 1 f fd ["_law_links"] spLChainT := by
  refine F.ok scLChainT (fun vs H Q E h => ?_) (fun cdv A outer s H vs Q E hr h => ?_)
  · obtain ⟨a, ls, xs, rfl, _⟩ := h
    rfl
  · obtain ⟨a, ls, xs, rfl, e, hl, h9, hn, ok, k⟩ := h
    have nd : (["_law_row", "_law_land", "_law_house"] : List Str).Nodup := by decide +kernel
    refine ⟨_, pss_one (ps_ret (pe_bm PySem.F.plainAttrs_str PySem.F.slot_str_join PySem.F.type_str_join mt_join pe_str (pa_c (pe_comp (N := ["_law_row", "_law_land", "_law_house"]) (src := [none, none, none]) (osc := defScope sLChainText) (oN := ["_law_links"])
      (g := gTup K 3 (gCons (gName 0) (gCons (gName 1) (gCons (gName 2) gNil))))
      (te := tBM K "str" (rJ K) (tC (.str ":")) (tCons (tLst (tCons (tIf (tTest (tOp (fun x y H Q => y = .non ∧ Q (.bl (decide (x = .non))) H) (tVar 0) (tC .non))) (tC (.str "-")) (tVar 0)) (tCons (tVar 1) (tCons (tVar 2) tNil)))) tNil))
      ⟨by rfl, by decide +kernel, by decide +kernel, by decide +kernel, rfl, by rfl⟩ (pi_list (pv 0))
      fun cl s H fp pins C => ⟨pg_tup rfl (pgs_cons (pg_name (i := 0) nd rfl (Or.inl rfl)) (pgs_cons (pg_name (i := 1) nd rfl (Or.inl rfl)) (pgs_cons (pg_name (i := 2) nd rfl (Or.inl rfl)) pgs_nil))), pts_nil,
        pe_bm PySem.F.plainAttrs_str PySem.F.slot_str_join PySem.F.type_str_join mt_join pe_str (pa_c (pe_lst (pa_c (pe_ifExp (pt_cmpR op_isN (pv 0) pe_non (nomark _)) pe_str (pv 0)) (pa_c (pv 1) (pa_c (pv 2) pa_nil)))) pa_nil)⟩) pa_nil))), ?_⟩
    have hxl := hl.len
    refine ⟨rfl, _, rfl, a, rfl, ⟨_, SqL.of e⟩, ?_⟩
    refine comp_list (K := K) (xs := ls) (fun i ys σ' H' => ∃ (o1 o2 o3 : Option V), σ' = [o1, o2, o3] ∧ Same H H' ∧ ys = ((xs.take i).map linkT).map V.str) ⟨none, none, none, rfl, Same.refl H, by simp⟩
      (sizeLine_big (by omega)) (fun i ys σ H' p => by obtain ⟨_, _, _, _, _, rfl⟩ := p; simp; omega) (fun i ys σ H' p => by obtain ⟨_, _, _, _, S, _⟩ := p; exact SqL.of (S _ _ e)) ?_ ?_
    · rintro i v ys σ' H1 hv ⟨o1, o2, o3, rfl, S, rfl⟩
      obtain ⟨x, b, hx, rfl, hb⟩ := hl.at' i v hv
      have o := ok x (List.mem_of_getElem? hx)
      have l1 := o.row
      have l2 := o.land
      have l3 := o.house
      refine ⟨b, _, rfl, SqT.of (S _ _ hb), rfl, _, _, rfl, _, _, rfl, _, _, rfl, rfl, ?_⟩
      refine iteT ?_
      refine ⟨rfl, _, rfl, rfl, _, rfl, ?_⟩
      have fin : ∀ p, H1 p = none → ∃ z p' ys', V.str ":" = .str z ∧ [V.ref p] = [.ref p'] ∧ SqL K (upd H1 p (.lst [.str (dashS x.1), .str x.2.1, .str x.2.2])) p' (ys'.map V.str) ∧ (ys'.map (·.length)).sum + ys'.length * z.length ≤ 16777216 ∧
          (∃ (o1 o2 o3 : Option V), [some (oV x.1), some (V.str x.2.1), some (V.str x.2.2)] = [o1, o2, o3] ∧ Same H (upd H1 p (.lst [.str (dashS x.1), .str x.2.1, .str x.2.2])) ∧ ((xs.take i).map linkT).map V.str ++ [.str (Txt.join z ys')] = ((xs.take (i + 1)).map linkT).map V.str) := fun p hp => by
        refine ⟨":", p, [dashS x.1, x.2.1, x.2.2], rfl, rfl, SqL.of upd_same, ?_, _, _, _, rfl, S.trans (Same.new hp), ?_⟩
        · have c1 : (":" : Str).length = 1 := by decide
          rw [c1]
          simp
          omega
        · rw [link_join, List.take_add_one, hx]
          simp
      have h3 : (3 : Nat) ≤ sizeLine := sizeLine_big (by decide)
      cases ho : x.1 with
      | none =>
        rw [ho] at fin
        refine iteT ?_
        exact ⟨_, rfl, _, rfl, h3, fin⟩
      | some z =>
        rw [ho] at fin
        refine iteF ?_
        exact ⟨_, rfl, _, rfl, _, rfl, h3, fin⟩
    · rintro ys σ' H1 ⟨o1, o2, o3, rfl, S, rfl⟩ D hD
      rw [hxl, List.take_length]
      refine ⟨" ", D, xs.map linkT, rfl, rfl, SqL.of upd_same, ?_, ?_⟩
      · have := sum_le (fun z : Str => z.length) 26 (xs.map linkT) (fun z hz => by obtain ⟨x, hx, rfl⟩ := List.mem_map.mp hz; exact linkT_len (ok x hx))
        have c1 : (" " : Str).length = 1 := by decide
        rw [c1]
        rw [List.length_map] at this ⊢
        omega
      · have := k _ (S.trans (Same.new (o := .lst (((xs.map linkT)).map V.str)) hD))
        unfold rowT at this
        rw [if_neg (by cases xs with | nil => exact absurd rfl hn | cons _ _ => simp)] at this
        exact this
end
end K7

set_option linter.all false
set_option maxRecDepth 100000
set_option Elab.async false
set_option maxHeartbeats 8000000
namespace K7
open PySem L2
theorem eqVs_nil (l : List V) : eqVs l [] = decide (l = []) := by
  cases l <;> simp [eqVs]
inductive IListed (vs : List V) (H : Hp) (Q : VK) (E : XK) : Prop
  | mk (a : Addr) (ws : List Str) (h0 : vs = [.ref a]) (e : H a = some (.lst (ws.map V.str))) (hz : (ws.map (·.length)).sum + ws.length ≤ 1000000) (q : ∀ H', Same H H' → Q (.str (rowT ws)) H') : IListed vs H Q E
def spListed : Sp := fun vs H Q E => IListed vs H Q E
section
variable {P : Program} {w : World} {K : PySem.W.Frag} {mg : Str → Option Value} {base : Heap}
theorem scListed : FnScope ["_law_some"] ["_law_some"] (defScope sListedText) := ⟨rfl, rfl, rfl, by decide +kernel, rfl, by decide +kernel, by decide +kernel⟩
theorem ok_listed {f : Addr} {fd : FuncData} (F : Fun K "_law_listed_text" "_law_listed_text" sListedText f fd) (hint : mg "int" = none) : FnOk P w K mg base CX0 1 f fd ["_law_some"] spListed := by
  refine F.ok scListed (fun vs H Q E h => ?_) (fun cdv A outer s H vs Q E hr h => ?_)
  · obtain ⟨a, ws, rfl, _⟩ := h
    rfl
  · obtain ⟨a, ws, rfl, e, hz, k⟩ := h
    have hu : (A.deeper (PyProof.Rows.envOfC "_law_listed_text" (defScope sListedText) s.heap.objs.size f cdv)).units < cLine := by have := hr.un; omega
    refine ⟨_, pss_one (ps_ret (pe_ix ix_list (pe_lst (pa_c (pe_bm PySem.F.plainAttrs_str PySem.F.slot_str_join PySem.F.type_str_join mt_join pe_str (pa_c (pv 0) pa_nil)) (pa_c pe_str pa_nil)))
      (pe_callTy call_int1 (by rfl) hint (by kernel_rfl) (pa_c (pe_cmpR (op_eqL hu) (pv 0) (pe_lst pa_nil) (nomark _)) pa_nil)) (fun _ _ => rfl))), ?_⟩
    have c1 : (" " : Str).length = 1 := by decide
    refine ⟨rfl, _, rfl, " ", a, ws, rfl, rfl, SqL.of e, by rw [c1]; omega, sizeLine_big (by show 2 ≤ 1000000; decide), fun l1 hl1 => ?_⟩
    have s1 := Same.new (o := .lst [V.str (Txt.join " " ws), .str "."]) hl1
    refine ⟨_, rfl, Nat.zero_le _, fun l2 hl2 => ?_⟩
    have s2 := Same.new (o := .lst []) hl2
    refine ⟨a, l2, _, _, rfl, rfl, SqL.of (s2 _ _ (s1 _ _ e)), SqL.of upd_same, ?_, rfl, .inr ⟨_, rfl, ?_⟩⟩
    · rw [List.all_map]
      simp [flatV]
    · have kk := k _ (s1.trans s2)
      rw [eqVs_nil]
      unfold rowT at kk
      cases ws with
      | nil => exact ⟨l1, _, _, _, rfl, rfl, SqL.of (s2 _ _ upd_same), atI_nat (j := 1) rfl, kk⟩
      | cons z ws => exact ⟨l1, _, _, _, rfl, rfl, SqL.of (s2 _ _ upd_same), atI_nat (j := 0) rfl, kk⟩
end
end K7

set_option linter.all false
set_option maxRecDepth 100000
set_option Elab.async false
set_option maxHeartbeats 8000000
namespace K7
open PySem L2
theorem call_join (x : Call) : x.1 ++ ":" ++ x.2.1 ++ ":" ++ numT x.2.2 = callT x := by
  unfold callT
  apply Str.ext'
  apply Array.toList_inj.mp
  simp only [app_cps]
  have : Str.empty.cps.toList = [] := by decide +kernel
  rw [this]
  rfl
section
variable {P : Program} {w : World} {K : PySem.W.Frag} {mg : Str → Option Value} {base : Heap}
theorem scLCallingT : FnScope ["_law_calls"] ["_law_calls"] (defScope sLCallingText) := ⟨rfl, rfl, rfl, by decide +kernel, rfl, by decide +kernel, by decide +kernel⟩
theorem ok_lCallingT {f fI : Addr} {fd fdI : FuncData} (F : Fun K "_law_calling_text" "_law_calling_text" sLCallingText f fd) (hstr : mg "str" = none)
    (GI : FnOk P w K mg base CX0 1 fI fdI ["_law_some"] spListed) (mI : mg "_law_listed_text" = some (.ref fI)) (kI : PySem.W.keepIn K (.ref fI) = true) (bI : Binds K fdI ["_law_some"] []) :
    FnOk P w K mg base CX0 2 f fd ["_law_calls"] spCallingT := by
  refine F.ok scLCallingT (fun vs H Q E h => ?_) (fun cdv A outer s H vs Q E hr h => ?_)
  · obtain ⟨a, ls, xs, rfl, _⟩ := h
    rfl
  · obtain ⟨a, ls, xs, rfl, e, hl, h9, ok, k⟩ := h
    have nd : (["_law_house", "_law_breach", "_law_many"] : List Str).Nodup := by decide +kernel
    refine ⟨_, pss_one (ps_ret (pe_call GI hr rfl mI kI bI .nil pass0 (pa_c (pe_comp (N := ["_law_house", "_law_breach", "_law_many"]) (src := [none, none, none]) (osc := defScope sLCallingText) (oN := ["_law_calls"]) (g := gTup K 3 (gCons (gName 0) (gCons (gName 1) (gCons (gName 2) gNil)))) ⟨by rfl, by decide +kernel, by decide +kernel, by decide +kernel, rfl, by rfl⟩ (pi_list (pv 0))
      fun cl s H fp pins C => ⟨pg_tup rfl (pgs_cons (pg_name (i := 0) nd rfl (Or.inl rfl)) (pgs_cons (pg_name (i := 1) nd rfl (Or.inl rfl)) (pgs_cons (pg_name (i := 2) nd rfl (Or.inl rfl)) pgs_nil))), pts_nil,
        pe_op op_add_str (pe_op op_add_str (pe_op op_add_str (pe_op op_add_str (pv 0) pe_str) (pv 1)) pe_str) (pe_callTy call_strF (by rfl) hstr (by kernel_rfl) (pa_c (pv 2) pa_nil))⟩) pa_nil))), ?_⟩
    have hxl := hl.len
    have c1 : (":" : Str).length = 1 := by decide
    have big : ∀ n : Nat, n ≤ 100 → n ≤ sizeLine := fun n h => sizeLine_big (Nat.le_trans h (by decide))
    refine ⟨_, rfl, a, rfl, ⟨_, SqL.of e⟩, ?_⟩
    refine comp_list (K := K) (xs := ls) (fun i ys σ' H' => ∃ (o1 o2 o3 : Option V), σ' = [o1, o2, o3] ∧ Same H H' ∧ ys = ((xs.take i).map callT).map V.str) ⟨none, none, none, rfl, Same.refl H, by simp⟩
      (sizeLine_big (by omega)) (fun i ys σ H' p => by obtain ⟨_, _, _, _, _, rfl⟩ := p; simp; omega) (fun i ys σ H' p => by obtain ⟨_, _, _, _, S, _⟩ := p; exact SqL.of (S _ _ e)) ?_ ?_
    · rintro i v ys σ' H1 hv ⟨o1, o2, o3, rfl, S, rfl⟩
      obtain ⟨x, b, hx, rfl, hb⟩ := hl.at' i v hv
      have o := ok x (List.mem_of_getElem? hx)
      have l1 := o.house
      have l2 := o.breach
      have l3 := numT_len o.many
      refine ⟨b, _, rfl, SqT.of (S _ _ hb), rfl, _, _, rfl, _, _, rfl, _, _, rfl, rfl, ?_⟩
      refine iteT ?_
      refine ⟨_, rfl, _, _, rfl, rfl, big _ (by rw [c1]; omega), _, rfl, _, _, rfl, rfl, big _ (by rw [len_app, c1]; omega), _, _, rfl, rfl, big _ (by rw [len_app, len_app, c1]; omega), _, rfl, _, numT x.2.2, rfl, .int _ (log_small o.many), _, _, rfl, rfl, big _ (by rw [len_app, len_app, len_app, c1]; omega), ?_⟩
      refine ⟨_, _, _, rfl, S, ?_⟩
      rw [call_join, List.take_add_one, hx]
      simp
    · rintro ys σ' H1 ⟨o1, o2, o3, rfl, S, rfl⟩ D hD
      rw [hxl, List.take_length]
      refine ⟨D, xs.map callT, rfl, upd_same, ?_, fun H2 S2 => k _ ((S.trans (Same.new hD)).trans S2)⟩
      have := sum_le (fun z : Str => z.length) 78 (xs.map callT) (fun z hz => by obtain ⟨x, hx, rfl⟩ := List.mem_map.mp hz; exact callT_len (ok x hx))
      rw [List.length_map] at this ⊢
      omega
end
end K7

set_option linter.all false
set_option maxRecDepth 100000
set_option Elab.async false
set_option maxHeartbeats 8000000
namespace K7
open PySem L2
theorem PenAt.upd {H : Hp} {p c F : Addr} {ns : List Int} {a : Int} {o : HO} (x : PenAt H p c ns a) (h1 : F ≠ p) (h2 : F ≠ c) : PenAt (upd H F o) p c ns a := by
  obtain ⟨⟨l, hl, e⟩, f, g, d⟩ := x
  exact ⟨⟨l, hl, by rw [upd_ne (Ne.symm h1)]; exact e⟩, by rw [upd_ne (Ne.symm h2)]; exact f, g, d⟩
inductive IChain (vs : List V) (H : Hp) (Q : VK) (E : XK) : Prop
  | mk (p c : Addr) (ns : List Int) (a : Int) (l : Addr) (ws : List Str) (h0 : vs = [.ref p, .ref l]) (hp : PenAt H p c ns a) (ha : a ≤ 900000) (e : H l = some (.lst (ws.map V.str))) (w1 : 1 ≤ ws.length) (w2 : ws.length ≤ 10) (hn : ∀ z ∈ ws, nameB z = true)
      (q : ∀ (T : Addr) (ls : List V) (xs : List Link) (a' : Int) (H' : Hp), H T = none → H' T = some (.lst ls) → LinksAt H' ls xs → Chain xs → a ≤ a' → a' ≤ a + 40 → PenAt H' p c ns a' → KeepBut p H H' → Q (.ref T) H') : IChain vs H Q E
def spChain : Sp := fun vs H Q E => IChain vs H Q E
section
variable {P : Program} {w : World} {K : PySem.W.Frag} {mg : Str → Option Value} {base : Heap}
theorem scChain : FnScope ["_law_pen_here", "_law_names_here", "_law_found", "_law_k", "_law_land", "_law_house"] ["_law_pen_here", "_law_names_here"] (defScope sChain) := ⟨rfl, rfl, rfl, by decide +kernel, rfl, by decide +kernel, by decide +kernel⟩
theorem ok_chain {f fT : Addr} {fd fdT : FuncData} (F : Fun K "_law_chain" "_law_chain" sChain f fd) (hlen : mg "len" = none) (hrng : mg "range" = none) (hint : mg "int" = none)
    (GT : FnOk P w K mg base CX0 1 fT fdT ["_law_pen_here", "_law_many"] spTake) (mT : mg "_law_take" = some (.ref fT)) (kT : PySem.W.keepIn K (.ref fT) = true) (bT : Binds K fdT ["_law_pen_here", "_law_many"] []) :
    FnOk P w K mg base CX0 2 f fd ["_law_pen_here", "_law_names_here"] spChain := by
  refine F.ok scChain (fun vs H Q E h => ?_) (fun cdv A outer s H vs Q E hr h => ?_)
  · obtain ⟨p, c, ns, a, l, ws, rfl, _⟩ := h
    rfl
  · obtain ⟨p, c, ns, a, l, ws, rfl, hp, ha, e, w1, w2, hn, k⟩ := h
    refine ⟨_, pss_cons (ps_set (i := 2) scChain.nd rfl (Or.inl rfl) (pe_lst pa_nil))
      (pss_cons (ps_for PassesOwn.never rfl (pi_range1 rfl hrng (pa_c (pe_ix ix_list (pe_lst (pa_c pe_int (pa_c (pe_op op_add pe_int (pe_call GT hr rfl mT kT bT .nil pass0 (pa_c (pv 0) (pa_c pe_int pa_nil)))) pa_nil))) (pe_call GT hr rfl mT kT bT .nil pass0 (pa_c (pv 0) (pa_c pe_int pa_nil))) (fun _ _ => rfl)) pa_nil)) (pg_name (i := 3) scChain.nd rfl (Or.inl rfl))
        (pss_cons (ps_set (i := 4) scChain.nd rfl (Or.inl rfl) (pe_ix ix_list (pv 1) (pe_call GT hr rfl mT kT bT .nil pass0 (pa_c (pv 0) (pa_c (pe_callB call_len_seq (by rfl) hlen PySem.boot_len (pa_c (pv 1) pa_nil)) pa_nil))) (fun _ _ => rfl)))
        (pss_cons (ps_set (i := 5) scChain.nd rfl (Or.inl rfl) (pe_ix ix_list (pv 1) (pe_call GT hr rfl mT kT bT .nil pass0 (pa_c (pv 0) (pa_c (pe_callB call_len_seq (by rfl) hlen PySem.boot_len (pa_c (pv 1) pa_nil)) pa_nil))) (fun _ _ => rfl)))
        (pss_one (ps_expr (pe_bm PySem.F.plainAttrs_list PySem.F.slot_list_append PySem.F.type_list_append mt_append (pv 2) (pa_c (pe_tup (pa_c (pe_ix ix_list (pe_lst (pa_c (pe_ix ix_list (pv 1) (pe_call GT hr rfl mT kT bT .nil pass0 (pa_c (pv 0) (pa_c (pe_callB call_len_seq (by rfl) hlen PySem.boot_len (pa_c (pv 1) pa_nil)) pa_nil))) (fun _ _ => rfl)) (pa_c pe_non pa_nil)))
          (pe_callTy call_int1 (by rfl) hint (by kernel_rfl) (pa_c (pe_cmpR op_eq (pv 3) pe_int (nomark _)) pa_nil)) (fun _ _ => rfl)) (pa_c (pv 4) (pa_c (pv 5) pa_nil)))) pa_nil)))))))
      (pss_one (ps_ret (pv 2)))), ?_⟩
    refine ⟨Nat.zero_le _, fun F0 hF => ?_⟩
    have sF := Same.new (o := .lst []) hF
    have eF : upd H F0 (.lst []) F0 = some (.lst []) := upd_same
    generalize upd H F0 (.lst []) = H1 at sF eF ⊢
    have hp1 := hp.same sF
    have nFp : F0 ≠ p := fun z => by
      obtain ⟨l', _, e'⟩ := hp.ob
      rw [z, e'] at hF
      cases hF
    have nFc : F0 ≠ c := fun z => by
      have e' := hp.ce
      rw [z, e'] at hF
      cases hF
    have nlp : l ≠ p := fun z => by
      obtain ⟨l', _, e'⟩ := hp.ob
      rw [z, e'] at e
      cases e
    have nFl : F0 ≠ l := fun z => by rw [z, e] at hF; cases hF
    refine ⟨_, rfl, p, c, ns, a, _, rfl, hp1, by omega, by decide, by decide +kernel, fun r1 a1 H2 r10 r11 la1 ua1 hp2 kp2 => ?_⟩
    refine ⟨_, _, rfl, rfl, sizeLine_big (by show 2 ≤ 1000000; decide), fun u hu => ?_⟩
    have su := Same.new (o := .lst [V.int 1, .int (1 + r1)]) hu
    have eu : upd H2 u (.lst [V.int 1, .int (1 + r1)]) u = some (.lst [V.int 1, .int (1 + r1)]) := upd_same
    generalize upd H2 u (.lst [V.int 1, .int (1 + r1)]) = H3 at su eu ⊢
    have hp3 := hp2.same su
    have nup : u ≠ p := fun z => by
      obtain ⟨l', _, e'⟩ := hp3.ob
      rw [z, e'] at eu
      cases eu
    refine ⟨_, rfl, p, c, ns, a1, _, rfl, hp3, by omega, by decide, by decide +kernel, fun r2 a2 H4 r20 r21 la2 ua2 hp4 kp4 => ?_⟩
    obtain ⟨v, hv, hat⟩ := atI_in (xs := [V.int 1, .int (1 + r1)]) (i := r2) r20 (by show r2 < 2; omega)
    obtain ⟨n, rfl, hn1, hn9⟩ : ∃ n : Nat, v = .int n ∧ 1 ≤ n ∧ n ≤ 9 := by
      simp only [List.mem_cons, List.not_mem_nil, or_false] at hv
      rcases hv with rfl | rfl
      · exact ⟨1, rfl, by omega, by omega⟩
      · exact ⟨(1 + r1).toNat, by congr 1; omega, by omega, by omega⟩
    have k14 : KeepBut p H1 H4 := (kp2.same su).trans kp4
    have eF4 := k14 _ _ eF nFp
    have e4 := k14 _ _ (sF _ _ e) nlp
    refine ⟨u, _, r2, _, rfl, rfl, SqL.of (kp4 _ _ eu nup), hat, ?_⟩
    have en : ((n : Int)).toNat = n := Int.toNat_natCast n
    refine ⟨(n : Int), rfl, by omega, by omega, for_range (n := ((n : Int)).toNat) (fun i σ H' => ∃ (o3 o4 o5 : Option V) (ts : List Addr) (xs : List Link) (a' : Int), σ = [some (.ref p), some (.ref l), some (.ref F0), o3, o4, o5] ∧ H' F0 = some (.lst (ts.map V.ref)) ∧ ts.length = i ∧ xs.length = i ∧
        (∀ (j : Nat) (t : Addr) (x : Link), ts[j]? = some t → xs[j]? = some x → H' t = some (.tup [oV x.1, .str x.2.1, .str x.2.2])) ∧ (∀ x ∈ xs, nameB x.2.1 = true ∧ nameB x.2.2 = true) ∧
        (∀ (j : Nat) (x : Link), xs[j]? = some x → (j = 0 → x.1 = none) ∧ (0 < j → ∃ z, x.1 = some z ∧ nameB z = true)) ∧ PenAt H' p c ns a' ∧ a2 ≤ a' ∧ a' ≤ a2 + 3 * i ∧ KeepBut p H H')
      ⟨none, none, none, [], [], a2, rfl, eF4, rfl, rfl, fun j t x h => by simp at h, fun x h => by simp at h, fun j x h => by simp at h, hp4, by omega, by omega, fun b o eb hb => k14 b o (sF b o eb) hb⟩ ?_ ?_⟩
    · rintro i σ H5 hi ⟨o3, o4, o5, ts, xs, a5, rfl, eF5, htl, hxl, hts, hnm, hro, hp5, la5, ua5, k5⟩
      dsimp only [gName]
      have e5 := k5 _ _ e nlp
      refine ⟨_, rfl, _, rfl, _, rfl, l, _, rfl, .inl (SqL.of e5), p, c, ns, a5, _, rfl, hp5, by omega, by rw [List.length_map]; omega, by rw [List.length_map]; omega, fun r6 a6 H6 r60 r61 la6 ua6 hp6 kp6 => ?_⟩
      obtain ⟨v1, hv1, hat1⟩ := atI_in (xs := ws.map V.str) (i := r6) r60 r61
      obtain ⟨land, hland, rfl⟩ := List.mem_map.mp hv1
      have e6 := kp6 _ _ e5 nlp
      refine ⟨l, _, r6, _, rfl, rfl, SqL.of e6, hat1, ?_⟩
      refine ⟨_, rfl, _, rfl, _, rfl, l, _, rfl, .inl (SqL.of e6), p, c, ns, a6, _, rfl, hp6, by omega, by rw [List.length_map]; omega, by rw [List.length_map]; omega, fun r7 a7 H7 r70 r71 la7 ua7 hp7 kp7 => ?_⟩
      obtain ⟨v2, hv2, hat2⟩ := atI_in (xs := ws.map V.str) (i := r7) r70 r71
      obtain ⟨house, hhouse, rfl⟩ := List.mem_map.mp hv2
      have e7 := kp7 _ _ e6 nlp
      refine ⟨l, _, r7, _, rfl, rfl, SqL.of e7, hat2, ?_⟩
      have eF7 := kp7 _ _ (kp6 _ _ eF5 nFp) nFp
      refine ⟨_, rfl, .inl ⟨rfl, _, SqL.of eF7⟩, _, rfl, _, rfl, _, rfl, l, _, rfl, .inl (SqL.of e7), p, c, ns, a7, _, rfl, hp7, by omega, by rw [List.length_map]; omega, by rw [List.length_map]; omega, fun r8 a8 H8 r80 r81 la8 ua8 hp8 kp8 => ?_⟩
      obtain ⟨v3, hv3, hat3⟩ := atI_in (xs := ws.map V.str) (i := r8) r80 r81
      obtain ⟨row, hrow, rfl⟩ := List.mem_map.mp hv3
      have e8 := kp8 _ _ e7 nlp
      refine ⟨l, _, r8, _, rfl, rfl, SqL.of e8, hat3, sizeLine_big (by show 2 ≤ 1000000; decide), fun u2 hu2 => ?_⟩
      have su2 := Same.new (o := .lst [V.str row, .non]) hu2
      have eu2 : upd H8 u2 (.lst [V.str row, .non]) u2 = some (.lst [V.str row, .non]) := upd_same
      generalize upd H8 u2 (.lst [V.str row, .non]) = H9 at su2 eu2 ⊢
      have eF8 := kp8 _ _ eF7 nFp
      have k58 : KeepBut p H5 H8 := (kp6.trans kp7).trans kp8
      have fin : ∀ o : Option Str, ((i : Nat) = 0 → o = none) → (0 < i → ∃ z, o = some z ∧ nameB z = true) → ∀ t, H9 t = none → ∃ (o3' o4' o5' : Option V) (ts' : List Addr) (xs' : List Link) (a' : Int), ([some (.ref p), some (.ref l), some (.ref F0), some (.int (0 + (i : Int))), some (.str land), some (.str house)] : St) = [some (.ref p), some (.ref l), some (.ref F0), o3', o4', o5'] ∧
          upd (upd H9 t (.tup [oV o, .str land, .str house])) F0 (.lst (ts.map V.ref ++ [.ref t])) F0 = some (.lst (ts'.map V.ref)) ∧ ts'.length = i + 1 ∧ xs'.length = i + 1 ∧
          (∀ (j : Nat) (t1 : Addr) (x : Link), ts'[j]? = some t1 → xs'[j]? = some x → upd (upd H9 t (.tup [oV o, .str land, .str house])) F0 (.lst (ts.map V.ref ++ [.ref t])) t1 = some (.tup [oV x.1, .str x.2.1, .str x.2.2])) ∧ (∀ x ∈ xs', nameB x.2.1 = true ∧ nameB x.2.2 = true) ∧
          (∀ (j : Nat) (x : Link), xs'[j]? = some x → (j = 0 → x.1 = none) ∧ (0 < j → ∃ z, x.1 = some z ∧ nameB z = true)) ∧ PenAt (upd (upd H9 t (.tup [oV o, .str land, .str house])) F0 (.lst (ts.map V.ref ++ [.ref t]))) p c ns a' ∧ a2 ≤ a' ∧ a' ≤ a2 + 3 * ((i + 1 : Nat) : Int) ∧ KeepBut p H (upd (upd H9 t (.tup [oV o, .str land, .str house])) F0 (.lst (ts.map V.ref ++ [.ref t]))) := fun o ho0 ho1 t ht => by
        have st := Same.new (o := .tup [oV o, .str land, .str house]) ht
        have et : upd H9 t (.tup [oV o, .str land, .str house]) t = some (.tup [oV o, .str land, .str house]) := upd_same
        generalize upd H9 t (.tup [oV o, .str land, .str house]) = G at st et ⊢
        have s8G := su2.trans st
        have eFG := s8G _ _ eF8
        have notF : ∀ b o', G b = some (.tup o') → b ≠ F0 := fun b o' eb z => by rw [z, eFG] at eb; cases eb
        have k5G : KeepBut p H5 G := k58.same s8G
        refine ⟨_, _, _, ts ++ [t], xs ++ [(o, land, house)], a8, rfl, by rw [upd_same, List.map_append]; rfl, by rw [List.length_append, htl]; rfl, by rw [List.length_append, hxl]; rfl, fun j t1 x ht1 hx => ?_, fun x hx => ?_, fun j x hx => ?_, (hp8.same s8G).upd nFp nFc, by omega, by omega, fun b o' eb hb => ?_⟩
        · by_cases hj : j < i
          · rw [List.getElem?_append_left (by omega)] at ht1 hx
            have q := hts j t1 x ht1 hx
            have np : t1 ≠ p := fun z => by
              obtain ⟨l', _, e'⟩ := hp5.ob
              rw [z, e'] at q
              cases q
            have qG := k5G _ _ q np
            rw [upd_ne (notF _ _ qG)]
            exact qG
          · rw [List.getElem?_append_right (by omega)] at ht1 hx
            rw [htl] at ht1
            rw [hxl] at hx
            have ej0 : j - i = 0 := by
              cases h : j - i with
              | zero => rfl
              | succ n => rw [h] at ht1; simp at ht1
            rw [ej0] at ht1 hx
            have et1 : t = t1 := by simpa using ht1
            have ex : (o, land, house) = x := by simpa using hx
            subst et1 ex
            rw [upd_ne (notF _ _ et)]
            exact et
        · rcases List.mem_append.mp hx with hx | hx
          · exact hnm x hx
          · have ex : x = (o, land, house) := by simpa using hx
            subst ex
            exact ⟨hn _ hland, hn _ hhouse⟩
        · by_cases hj : j < i
          · rw [List.getElem?_append_left (by omega)] at hx
            exact hro j x hx
          · rw [List.getElem?_append_right (by omega), hxl] at hx
            have ej0 : j - i = 0 := by
              cases h : j - i with
              | zero => rfl
              | succ n => rw [h] at hx; simp at hx
            rw [ej0] at hx
            have ex : (o, land, house) = x := by simpa using hx
            subst ex
            have ej : j = i := by omega
            subst ej
            exact ⟨ho0, ho1⟩
        · have nb : b ≠ F0 := fun z => by rw [z, hF] at eb; cases eb
          rw [upd_ne nb]
          exact k5G _ _ (k5 _ _ eb hb) hb
      have big : (1000000 : Nat) ≤ sizeLine := sizeLine_big (Nat.le_refl _)
      by_cases h0 : i = 0
      · have hd : decide (V.int (0 + (i : Int)) = V.int 0) = true := decide_eq_true (by rw [h0]; rfl)
        refine ⟨_, rfl, rfl, .inr ⟨_, rfl, u2, _, _, .non, rfl, rfl, SqL.of eu2, ?_, _, rfl, _, rfl, sizeLine_big (by show 3 ≤ 1000000; decide), fun t ht => ⟨F0, _, _, rfl, rfl, (Same.new ht) _ _ (su2 _ _ eF8), by rw [List.length_map]; omega, fin none (fun _ => rfl) (fun h => by omega) t ht⟩⟩⟩
        rw [hd]
        exact atI_nat (j := 1) rfl
      · have hd : decide (V.int (0 + (i : Int)) = V.int 0) = false := decide_eq_false fun z => by injection z with z; omega
        refine ⟨_, rfl, rfl, .inr ⟨_, rfl, u2, _, _, .str row, rfl, rfl, SqL.of eu2, ?_, _, rfl, _, rfl, sizeLine_big (by show 3 ≤ 1000000; decide), fun t ht => ⟨F0, _, _, rfl, rfl, (Same.new ht) _ _ (su2 _ _ eF8), by rw [List.length_map]; omega, fin (some row) (fun h => absurd h h0) (fun _ => ⟨row, rfl, hn _ hrow⟩) t ht⟩⟩⟩
        rw [hd]
        exact atI_nat (j := 0) rfl
    · rintro σ H5 ⟨o3, o4, o5, ts, xs, a5, rfl, eF5, htl, hxl, hts, hnm, hro, hp5, la5, ua5, k5⟩
      rw [en] at htl hxl ua5
      refine ⟨_, rfl, k F0 (ts.map V.ref) xs a5 H5 hF eF5 ⟨by rw [List.length_map]; omega, fun i v hv => ?_⟩ ⟨fun z => ?_, by omega, fun x hx => (hnm x hx).1, fun x hx => (hnm x hx).2, fun x hx => (hro 0 x hx).1 rfl, fun i x hx => (hro (i + 1) x hx).2 (by omega)⟩ (by omega) (by omega) hp5 k5⟩
      · rw [List.getElem?_map] at hv
        obtain ⟨t, ht, rfl⟩ := Option.map_eq_some_iff.mp hv
        have hi : i < xs.length := by have := (List.getElem?_eq_some_iff.mp ht).1; omega
        exact ⟨xs[i], t, List.getElem?_eq_getElem hi, rfl, hts i t _ ht (List.getElem?_eq_getElem hi)⟩
      · rw [z] at hxl
        simp at hxl
        omega
end
end K7

set_option linter.all false
set_option maxRecDepth 100000
set_option Elab.async false
set_option maxHeartbeats 8000000
namespace K7
open PySem L2 PyProof.Rows
def risingB (ss : List Str) : Bool := decide (ss.Pairwise fun a b => a.cps.toList < b.cps.toList)
def spRising : Sp := fun vs H Q _ => ∃ (a : Addr) (ss : List Str), vs = [.ref a] ∧ (H a = some (.lst (ss.map V.str)) ∨ H a = some (.tup (ss.map V.str))) ∧ ss.length ≤ 40 ∧ ∀ H', Same H H' → Q (.bl (risingB ss)) H'
theorem hu_of {A : Around} {k : Nat} (hr : Room k A) : A.units + 12 < cLine := by have := hr.un; omega
theorem rising_iff {ss ms : List Str} (hp : ms.Perm (mets ss)) (hs : sortedS ms = true) : decide (ss = ms) = risingB ss := by
  unfold risingB
  rw [decide_eq_decide]
  have hms := sortedS_pair ms hs
  constructor
  · rintro rfl
    have hn : ss.Nodup := hp.nodup_iff.mpr (mets_nodup ss)
    have h2 := hms.and hn
    refine h2.imp fun {a b} h => ?_
    rcases Decidable.em (a.cps.toList < b.cps.toList) with z | z
    · exact z
    · exact absurd (cps_inj (List.le_antisymm (List.not_lt.mp h.1) (List.not_lt.mp z))) h.2
  · intro h
    have hn : ss.Nodup := h.imp fun {a b} z e => by
      subst e
      exact List.lt_irrefl _ z
    have h2 : ss.Pairwise fun a b => ¬ b.cps.toList < a.cps.toList := h.imp fun {a b} z y => List.lt_irrefl _ (List.lt_trans z y)
    have hpm : (mets ss).Perm ss := by
      refine perm_of_full ss (mets ss) hn (fun x hx => (mets_mem ss x).mpr hx) ?_
      have := perm_of_full (mets ss) ss (mets_nodup ss) (fun x hx => (mets_mem ss x).mp hx)
      have h1 := (set_count ss)
      rw [decide_eq_true hn] at h1
      have h3 := of_decide_eq_true h1
      unfold mets
      omega
    exact sorted_uniq (hpm.symm.trans hp.symm) h2 hms
theorem eqVs_strs : ∀ (ss ms : List Str), eqVs (ss.map V.str) (ms.map V.str) = decide (ss = ms)
  | [], [] => rfl
  | [], _ :: _ => rfl
  | _ :: _, [] => rfl
  | a :: r, b :: q => by
    show (eqV (.str a) (.str b) && eqVs (r.map V.str) (q.map V.str)) = _
    rw [eqVs_strs r q]
    show ((a == b) && decide (r = q)) = _
    rw [Bool.eq_iff_iff]
    simp
section
variable {P : Program} {w : World} {K : PySem.W.Frag} {mg : Str → Option Value} {base : Heap}
theorem scRising : FnScope ["things"] ["things"] (defScope sRising) := ⟨rfl, rfl, rfl, by decide +kernel, rfl, by decide +kernel, by decide +kernel⟩
theorem ok_rising {f : Addr} {fd : FuncData} (F : Fun K "is_rising" "is_rising" sRising f fd) (T : Txt K mg) (hlist : mg "list" = none) (hsor : mg "sorted" = none) : FnOk P w K mg base CX0 1 f fd ["things"] spRising := by
  refine F.ok scRising (fun vs H Q E h => ?_) (fun cdv A outer s H vs Q E hr h => ?_)
  · obtain ⟨a, ss, rfl, _⟩ := h
    rfl
  · obtain ⟨a, ss, rfl, ha, hl, k⟩ := h
    have hu := hu_of hr
    have hu' : (A.deeper (PyProof.Rows.envOfC "is_rising" (defScope sRising) s.heap.objs.size f cdv)).units < cLine := by omega
    refine ⟨_, pss_one (ps_ret (pe_cmpR (op_eqL hu') (pe_callTy call_list_of (by rfl) hlist (by kernel_rfl) (pa_c (pv 0) pa_nil)) (pe_callB (call_sortedQ rfl) (by rfl) hsor (by kernel_rfl) (pa_c (pe_callTy (call_setQ rfl) (by rfl) T.set (by kernel_rfl) (pa_c (pv 0) pa_nil)) pa_nil)) (nomark _))), ?_⟩
    refine ⟨_, rfl, a, ss.map V.str, rfl, ha.imp SqL.of SqT.of, fun L hL => ?_⟩
    have sL := Same.new (o := .lst (ss.map V.str)) hL
    refine ⟨_, rfl, a, ss, rfl, ha.imp (sL _ _) (sL _ _), by omega, fun S hS => ?_⟩
    have sS := Same.new (o := setQ P w S ss) hS
    refine ⟨S, ss, rfl, upd_same, by omega, fun l ms hl2 hp hs => ?_⟩
    have sl := Same.new (o := .lst (ms.map V.str)) hl2
    refine ⟨L, l, _, _, rfl, rfl, SqL.of (sl _ _ (sS _ _ upd_same)), SqL.of upd_same, flat_strs ss, flat_strs ms, ?_⟩
    rw [eqVs_strs, rising_iff hp hs]
    exact k _ ((sL.trans sS).trans sl)
end
end K7

set_option linter.all false
set_option maxRecDepth 100000
set_option Elab.async false
set_option maxHeartbeats 8000000
namespace K7
open PySem L2
theorem names_words {ws : List Str} (hn : ∀ z ∈ ws, nameB z = true) : wordsT (rowT ws) = ws :=
  words_row (fun z hz => name_free (hn z hz) (by decide)) fun h => row_nodot h fun z hz => name_free (hn z hz) (by decide)
inductive IReadNames (vs : List V) (H : Hp) (Q : VK) (E : XK) : Prop
  | mk (ws : List Str) (h0 : vs = [.str (rowT ws)]) (h9 : ws.length ≤ 40) (hn : ∀ z ∈ ws, nameB z = true) (hr : risingB ws = true) (q : ∀ (T : Addr) (H' : Hp), Same H H' → H T = none → H' T = some (.lst (ws.map V.str)) → Q (.ref T) H') : IReadNames vs H Q E
def spReadNames : Sp := fun vs H Q E => IReadNames vs H Q E
section
variable {P : Program} {w : World} {K : PySem.W.Frag} {mg : Str → Option Value} {base : Heap}
theorem scReadNames : FnScope ["text", "names"] ["text"] (defScope sReadNames) := ⟨rfl, rfl, rfl, by decide +kernel, rfl, by decide +kernel, by decide +kernel⟩
theorem ok_readNames {f fW fR fN : Addr} {fd fdW fdR fdN : FuncData} (F : Fun K "read_names" "read_names" sReadNames f fd) (T : Txt K mg)
    (GW : FnOk P w K mg base CX0 1 fW fdW ["text"] spWords) (mW : mg "words_of" = some (.ref fW)) (kW : PySem.W.keepIn K (.ref fW) = true) (bW : Binds K fdW ["text"] [])
    (GR : FnOk P w K mg base CX0 1 fR fdR ["things"] spRising) (mR : mg "is_rising" = some (.ref fR)) (kR : PySem.W.keepIn K (.ref fR) = true) (bR : Binds K fdR ["things"] [])
    (GN : FnOk P w K mg base CX0 1 fN fdN ["thing"] (spIsName K)) (mN : mg "is_name" = some (.ref fN)) (kN : PySem.W.keepIn K (.ref fN) = true) (bN : Binds K fdN ["thing"] []) :
    FnOk P w K mg base CX0 2 f fd ["text"] spReadNames := by
  refine F.ok scReadNames (fun vs H Q E h => ?_) (fun cdv A outer s H vs Q E hr h => ?_)
  · obtain ⟨ws, rfl, _⟩ := h
    rfl
  · obtain ⟨ws, rfl, h9, hn, hri, k⟩ := h
    have nd1 : (["name"] : List Str).Nodup := by decide +kernel
    refine ⟨_, pss_cons (ps_set (i := 1) scReadNames.nd rfl (Or.inl rfl) (pe_call GW hr rfl mW kW bW .nil pass0 (pa_c (pv 0) pa_nil)))
      (pss_cons (ps_if (PW.pt (pw_or (pt_not (pt_val (pe_callB (call_all rfl) (by rfl) T.al (by kernel_rfl) (pa_cons (pe_comp (N := ["name"]) (src := [none]) (osc := defScope sReadNames) (oN := ["text", "names"]) ⟨by rfl, by decide +kernel, by decide +kernel, by decide +kernel, rfl, by rfl⟩ (pi_list (pv 1))
          fun cl s H fp pins C => ⟨pg_name (i := 0) nd1 rfl (Or.inl rfl), pts_nil, pe_call GN hr rfl mN kN bN .nil pass0 (pa_c (pv 0) pa_nil)⟩) pa_nil))))
        (pw_or1 (pt_not (pt_val (pe_call GR hr rfl mR kR bR .nil pass0 (pa_c (pv 1) pa_nil))))))) pss_never pss_nil)
      (pss_one (ps_ret (pv 1)))), ?_⟩
    have hrow : (rowT ws).length ≤ 100000 := by
      have := row_len (ws := ws) (k := 8) (fun z hz => (nlen (hn z hz)).2)
      omega
    refine ⟨_, rfl, _, rfl, hrow, fun L hL => ?_⟩
    rw [names_words hn]
    have sL := Same.new (o := .lst (ws.map V.str)) hL
    have eL : upd H L (.lst (ws.map V.str)) L = some (.lst (ws.map V.str)) := upd_same
    generalize upd H L (.lst (ws.map V.str)) = H1 at sL eL ⊢
    refine ⟨_, rfl, L, rfl, ⟨_, SqL.of eL⟩, ?_⟩
    refine comp_list (K := K) (xs := ws.map V.str) (fun i ys σ' H' => ∃ (o : Option V), σ' = [o] ∧ Same H1 H' ∧ ys = List.replicate i (V.bl true)) ⟨none, rfl, Same.refl H1, rfl⟩ (sizeLine_big (by rw [List.length_map]; omega)) (fun i ys σ H' p => by obtain ⟨_, _, _, rfl⟩ := p; simp)
      (fun i ys σ H' p => by obtain ⟨_, _, S', _⟩ := p; exact SqL.of (S' _ _ eL)) ?_ ?_
    · rintro i v ys σ' H7 hv ⟨o, rfl, S7, rfl⟩
      rw [List.getElem?_map] at hv
      obtain ⟨z, hz, rfl⟩ := Option.map_eq_some_iff.mp hv
      have hzn := hn z (List.mem_of_getElem? hz)
      have hzl := (nlen hzn).2
      dsimp only [gName]
      refine iteT ?_
      refine ⟨_, rfl, _, rfl, .inl ⟨z, rfl, by omega, fun H8 S8 => ?_⟩⟩
      rw [hzn]
      exact ⟨_, rfl, S7.trans S8, List.replicate_succ'.symm⟩
    · rintro ys σ' H7 ⟨o, rfl, S7, rfl⟩ D2 hD2
      have s2 := Same.new (o := .lst (List.replicate (ws.map V.str).length (V.bl true))) hD2
      refine ⟨D2, List.replicate (ws.map V.str).length true, rfl, SqL.of (by rw [upd_same, List.map_replicate]), _, rfl, ?_⟩
      rw [show (List.replicate (ws.map V.str).length true).all id = true by simp]
      refine iteF ?_
      have s18 := S7.trans s2
      generalize upd H7 D2 (.lst (List.replicate (ws.map V.str).length (V.bl true))) = H8 at s2 s18 ⊢
      refine ⟨_, rfl, L, ws, rfl, .inl (s18 _ _ eL), h9, fun H9 S9 => ⟨_, rfl, ?_⟩⟩
      rw [hri]
      refine iteF ?_
      exact ⟨_, rfl, k L H9 ((sL.trans s18).trans S9) hL (S9 _ _ (s18 _ _ eL))⟩
end
end K7

set_option linter.all false
set_option maxRecDepth 100000
set_option Elab.async false
set_option maxHeartbeats 8000000
namespace K7
open PySem L2 PyProof.Rows
inductive IRising2 (vs : List V) (H : Hp) (Q : VK) (E : XK) : Prop
  | mk (a : Addr) (rs : List Addr) (h0 : vs = [.ref a]) (e : H a = some (.lst (rs.map V.ref))) (h9 : rs.length ≤ 18) (hP : Pairs H rs) (hr : Rise2 (rs.map (L2.pairAt H))) (q : ∀ H', Same H H' → Q (.bl true) H') : IRising2 vs H Q E
def spRising2 : Sp := fun vs H Q E => IRising2 vs H Q E
theorem map_pairs {H H' : Hp} {rs out : List Addr} (hP : Pairs H rs) (S : Same H H') (ho : ∀ r ∈ out, r ∈ rs) : out.map (L2.pairAt H') = out.map (L2.pairAt H) := List.map_congr_left fun r hr => L2.pairAt_same hP S (ho r hr)
section
variable {P : Program} {w : World} {K : PySem.W.Frag} {mg : Str → Option Value} {base : Heap}
theorem ok_rising2 {f : Addr} {fd : FuncData} (F : Fun K "is_rising" "is_rising" sRising f fd) (T : Txt K mg) : FnOk P w K mg base CX0 1 f fd ["things"] spRising2 := by
  refine F.ok scRising (fun vs H Q E h => ?_) (fun cdv A outer s H vs Q E hr h => ?_)
  · obtain ⟨a, rs, rfl, _⟩ := h
    rfl
  · obtain ⟨a, rs, rfl, e, h9, hP, hri, k⟩ := h
    have hun := hr.un
    have hu' : (A.deeper (PyProof.Rows.envOfC "is_rising" (defScope sRising) s.heap.objs.size f cdv)).units < cLine := by omega
    have hu2 : (A.deeper (PyProof.Rows.envOfC "is_rising" (defScope sRising) s.heap.objs.size f cdv)).units + 16 < cLine := by omega
    refine ⟨_, pss_one (ps_ret (pe_cmpR (op_eqRefs hu') (pe_callTy call_list_of (by rfl) T.list (by kernel_rfl) (pa_c (pv 0) pa_nil)) (pe_callB (call_sortedT rfl) (by rfl) T.sorted (by kernel_rfl) (pa_c (pe_callTy (call_setT rfl hu2) (by rfl) T.set (by kernel_rfl) (pa_c (pv 0) pa_nil)) pa_nil)) (nomark _))), ?_⟩
    refine ⟨_, rfl, a, rs.map V.ref, rfl, .inl (SqL.of e), fun L hL => ?_⟩
    have sL := Same.new (o := .lst (rs.map V.ref)) hL
    refine ⟨_, rfl, a, rs, rfl, sL _ _ e, h9, hP.same sL, ?_, fun S hS => ?_⟩
    · rw [map_pairs hP sL fun r hr => hr]
      exact hri.nodup
    have sS := Same.new (o := setT w S rs) hS
    have sLS := sL.trans sS
    refine ⟨S, rs, rfl, upd_same, by omega, hP.same sLS, ?_, fun l out hl2 hp hs => ?_⟩
    · have z := hri.nodup
      rw [← map_pairs hP sLS fun r hr => hr] at z
      exact z
    have hs' : Rise2 (out.map (L2.pairAt H)) := by
      rw [← map_pairs hP sLS fun r hr => hp.mem_iff.mp hr]
      exact hs
    have eo : out = rs := same_of_map hp (rise2_uniq (hp.map _) hs' hri) hri.nodup
    subst eo
    have sl := Same.new (o := .lst (out.map V.ref)) hl2
    exact ⟨L, l, out, rfl, rfl, sl _ _ (sS _ _ upd_same), upd_same, k _ (sLS.trans sl)⟩
end
end K7

set_option linter.all false
set_option maxRecDepth 100000
set_option Elab.async false
set_option maxHeartbeats 8000000
namespace K7
open PySem L2 PyProof.Rows
structure Calling (xs : List Call) : Prop where
  len : xs.length ≤ 8
  house : ∀ x ∈ xs, nameB x.1 = true
  breach : ∀ x ∈ xs, nameB x.2.1 = true
  least : ∀ x ∈ xs, 0 < x.2.2
  most : ∀ x ∈ xs, x.2.2 < 10 ^ 60
  rise : Rise2 (xs.map fun x => (x.1, x.2.1))
section
variable {xs : List Call}
theorem numT_free {m k : Nat} (hk : k < 48 ∨ 57 < k) : k ∉ (numT m).cps.toList := fun h => by
  have := num_digits m k h
  omega
theorem Calling.free (c : Calling xs) {x : Call} (hx : x ∈ xs) {k : Nat} (hk : k < 97) (h48 : k < 48 ∨ 57 < k) : k ∉ x.1.cps.toList ∧ k ∉ x.2.1.cps.toList ∧ k ∉ (numT x.2.2).cps.toList :=
  ⟨name_free (c.house x hx) hk, name_free (c.breach x hx) hk, numT_free h48⟩
theorem Calling.freeL (c : Calling xs) {x : Call} (hx : x ∈ xs) {k : Nat} (hk : k < 97) (h48 : k < 48 ∨ 57 < k) (h58 : k ≠ 58) : k ∉ (callT x).cps.toList := by
  obtain ⟨h1, h2, h3⟩ := c.free hx hk h48
  have e0 : Str.empty.cps.toList = [] := by decide +kernel
  have e1 : (":" : Str).cps.toList = [58] := by decide +kernel
  unfold callT
  rw [app_cps, app_cps, app_cps, app_cps, app_cps, e0, e1]
  simp only [List.nil_append, List.mem_append, List.mem_singleton, not_or]
  exact ⟨⟨⟨⟨h1, h58⟩, h2⟩, h58⟩, h3⟩
theorem Calling.split (c : Calling xs) {x : Call} (hx : x ∈ xs) : Txt.split (callT x) ":" = [x.1, x.2.1, numT x.2.2] := by
  obtain ⟨h1, h2, h3⟩ := c.free hx (k := 58) (by decide) (by decide)
  exact split3 h1 h2 h3
theorem Calling.ok (c : Calling xs) {x : Call} (hx : x ∈ xs) : x.Ok := ⟨(nlen (c.house x hx)).2, (nlen (c.breach x hx)).2, c.most x hx⟩
theorem Calling.words (c : Calling xs) : wordsT (rowT (xs.map callT)) = xs.map callT := by
  refine words_row (fun z hz => ?_) fun hn => row_nodot hn fun z hz => ?_
  · obtain ⟨x, hx, rfl⟩ := List.mem_map.mp hz
    exact c.freeL hx (by decide) (by decide) (by decide)
  · obtain ⟨x, hx, rfl⟩ := List.mem_map.mp hz
    exact c.freeL hx (by decide) (by decide) (by decide)
end
inductive IReadCalling (vs : List V) (H : Hp) (Q : VK) (E : XK) : Prop
  | mk (xs : List Call) (h0 : vs = [.str (rowT (xs.map callT))]) (c : Calling xs) (q : ∀ (T : Addr) (ls : List V) (H' : Hp), Same H H' → H T = none → H' T = some (.lst ls) → CallsAt H' ls xs → Q (.ref T) H') : IReadCalling vs H Q E
def spReadCalling : Sp := fun vs H Q E => IReadCalling vs H Q E
theorem at_more {α β : Type} {Rl : α → β → Prop} {ts : List α} {xs : List β} {i : Nat} {t : α} {x : β} (hl : ts.length = i) (hx : xs[i]? = some x) (old : ∀ (j : Nat) (a : α) (b : β), ts[j]? = some a → xs[j]? = some b → Rl a b) (new : Rl t x) :
    ∀ (j : Nat) (a : α) (b : β), (ts ++ [t])[j]? = some a → xs[j]? = some b → Rl a b := by
  intro j a b ha hb
  by_cases hj : j < ts.length
  · rw [List.getElem?_append_left hj] at ha
    exact old j a b ha hb
  · rw [List.getElem?_append_right (by omega)] at ha
    have e0 : j - ts.length = 0 := by
      cases h : j - ts.length with
      | zero => rfl
      | succ n => rw [h] at ha; simp at ha
    rw [e0] at ha
    have ea : t = a := by simpa using ha
    have ej : j = i := by omega
    subst ej
    rw [hx] at hb
    have eb : x = b := by simpa using hb
    subst ea eb
    exact new
section
variable {P : Program} {w : World} {K : PySem.W.Frag} {mg : Str → Option Value} {base : Heap}
theorem scReadCalling : FnScope ["text", "told", "house", "breach", "many"] ["text"] (defScope sReadCalling) := ⟨rfl, rfl, rfl, by decide +kernel, rfl, by decide +kernel, by decide +kernel⟩
theorem ok_readCalling {f fW f3 fN fM fR : Addr} {fd fdW fd3 fdN fdM fdR : FuncData} (F : Fun K "read_calling" "read_calling" sReadCalling f fd) (T : Txt K mg)
    (GW : FnOk P w K mg base CX0 1 fW fdW ["text"] spWords) (mW : mg "words_of" = some (.ref fW)) (kW : PySem.W.keepIn K (.ref fW) = true) (bW : Binds K fdW ["text"] [])
    (G3 : FnOk P w K mg base CX0 1 f3 fd3 ["words"] spThrees) (m3 : mg "in_threes" = some (.ref f3)) (k3 : PySem.W.keepIn K (.ref f3) = true) (b3 : Binds K fd3 ["words"] [])
    (GM : FnOk P w K mg base CX0 1 fM fdM ["word"] spNumOf) (mM : mg "number_of" = some (.ref fM)) (kM : PySem.W.keepIn K (.ref fM) = true) (bM : Binds K fdM ["word"] [])
    (GR : FnOk P w K mg base CX0 1 fR fdR ["things"] spRising2) (mR : mg "is_rising" = some (.ref fR)) (kR : PySem.W.keepIn K (.ref fR) = true) (bR : Binds K fdR ["things"] [])
    (GN : FnOk P w K mg base CX0 1 fN fdN ["thing"] (spIsName K)) (mN : mg "is_name" = some (.ref fN)) (kN : PySem.W.keepIn K (.ref fN) = true) (bN : Binds K fdN ["thing"] []) :
    FnOk P w K mg base CX0 2 f fd ["text"] spReadCalling := by
  refine F.ok scReadCalling (fun vs H Q E h => ?_) (fun cdv A outer s H vs Q E hr h => ?_)
  · obtain ⟨xs, rfl, _⟩ := h
    rfl
  · obtain ⟨xs, rfl, c, k⟩ := h
    have nd3 : (["house", "breach", "many"] : List Str).Nodup := by decide +kernel
    refine ⟨_, pss_cons (ps_setComp (i := 1) (N := ["house", "breach", "many"]) (src := [none, none, none]) (osc := defScope sReadCalling) (oN := ["text", "told", "house", "breach", "many"]) (g := gLst K 3 (gCons (gName 0) (gCons (gName 1) (gCons (gName 2) gNil)))) ⟨by rfl, by decide +kernel, by decide +kernel, by decide +kernel, rfl, by rfl⟩ scReadCalling.nd rfl
        (pi_list (pe_call G3 hr rfl m3 k3 b3 .nil pass0 (pa_c (pe_call GW hr rfl mW kW bW .nil pass0 (pa_c (pv 0) pa_nil)) pa_nil)))
        fun cl s H fp pins C => ⟨pg_lst rfl (pgs_cons (pg_name (i := 0) nd3 rfl (Or.inl rfl)) (pgs_cons (pg_name (i := 1) nd3 rfl (Or.inl rfl)) (pgs_cons (pg_name (i := 2) nd3 rfl (Or.inl rfl)) pgs_nil))), pts_nil, pe_tup (pa_c (pv 0) (pa_c (pv 1) (pa_c (pe_call GM hr rfl mM kM bM .nil pass0 (pa_c (pv 2) pa_nil)) pa_nil)))⟩)
      (pss_cons (ps_for PassesOwn.never rfl (pi_list (pv 1)) (g := gTup K 3 (gCons (gName 2) (gCons (gName 3) (gCons (gName 4) gNil)))) (pg_tup rfl (pgs_cons (pg_name (i := 2) scReadCalling.nd rfl (Or.inl rfl)) (pgs_cons (pg_name (i := 3) scReadCalling.nd rfl (Or.inl rfl)) (pgs_cons (pg_name (i := 4) scReadCalling.nd rfl (Or.inl rfl)) pgs_nil))))
        (pss_one (ps_if (PW.pt (pw_or (pt_not (pt_val (pe_call GN hr rfl mN kN bN .nil pass0 (pa_c (pv 2) pa_nil)))) (pw_or (pt_not (pt_val (pe_call GN hr rfl mN kN bN .nil pass0 (pa_c (pv 3) pa_nil)))) (pw_or (pt_cmpR op_isN (pv 4) pe_non (nomark _)) (pw_or1 (pt_cmpR op_lt (pv 4) pe_int (nomark _))))))) pss_never pss_nil)))
      (pss_cons (ps_if (pt_not (pt_val (pe_call GR hr rfl mR kR bR .nil pass0 (pa_c (pe_comp (N := ["house", "breach", "many"]) (src := [none, none, none]) (osc := defScope sReadCalling) (oN := ["text", "told", "house", "breach", "many"]) (g := gTup K 3 (gCons (gName 0) (gCons (gName 1) (gCons (gName 2) gNil)))) ⟨by rfl, by decide +kernel, by decide +kernel, by decide +kernel, rfl, by rfl⟩ (pi_list (pv 1))
          fun cl s H fp pins C => ⟨pg_tup rfl (pgs_cons (pg_name (i := 0) nd3 rfl (Or.inl rfl)) (pgs_cons (pg_name (i := 1) nd3 rfl (Or.inl rfl)) (pgs_cons (pg_name (i := 2) nd3 rfl (Or.inl rfl)) pgs_nil))), pts_nil, pe_tup (pa_c (pv 0) (pa_c (pv 1) pa_nil))⟩) pa_nil)))) pss_never pss_nil)
      (pss_one (ps_ret (pv 1))))), ?_⟩
    have hlen := c.len
    have hrow : (rowT (xs.map callT)).length ≤ 100000 := by
      have := row_len (ws := xs.map callT) (k := 78) (fun z hz => by obtain ⟨x, hx, rfl⟩ := List.mem_map.mp hz; exact callT_len (c.ok hx))
      rw [List.length_map] at this
      omega
    refine ⟨_, rfl, _, rfl, hrow, fun L hL => ?_⟩
    refine ⟨L, xs.map callT, rfl, by rw [upd_same, c.words], by rw [List.length_map]; omega, fun z hz => ?_, fun z hz => ?_, fun T3 bs H3 S3 hT3 eT3 hbl hbs => ?_⟩
    · obtain ⟨x, hx, rfl⟩ := List.mem_map.mp hz
      exact Nat.le_trans (callT_len (c.ok hx)) (by decide)
    · obtain ⟨x, hx, rfl⟩ := List.mem_map.mp hz
      rw [c.split hx]
      rfl
    have sH : Same H H3 := (Same.new hL).trans S3
    rw [List.length_map] at hbl
    have fr : ∀ (i : Nat) (b : Addr) (x : Call), bs[i]? = some b → xs[i]? = some x → H3 b = some (.lst [.str x.1, .str x.2.1, .str (numT x.2.2)]) := fun i b x hb hx => by
      obtain ⟨p, q⟩ := hbs i b (callT x) hb (by rw [List.getElem?_map, hx]; rfl)
      rw [c.split (List.mem_of_getElem? hx)] at q
      exact q
    refine ⟨T3, rfl, ⟨_, SqL.of eT3⟩, ?_⟩
    refine comp_list (K := K) (xs := bs.map V.ref) (fun i ys σ' H' => ∃ (o1 o2 o3 : Option V) (ts : List Addr), σ' = [o1, o2, o3] ∧ Same H3 H' ∧ ys = ts.map V.ref ∧ ts.length = i ∧ ∀ (j : Nat) (t : Addr) (x : Call), ts[j]? = some t → xs[j]? = some x → H' t = some (.tup [.str x.1, .str x.2.1, .int x.2.2]))
      ⟨none, none, none, [], rfl, Same.refl H3, rfl, rfl, fun j t x hb => by simp at hb⟩ (sizeLine_big (by rw [List.length_map]; omega)) (fun i ys σ H' p => by obtain ⟨_, _, _, ts, _, _, rfl, hl, _⟩ := p; rw [List.length_map]; omega) (fun i ys σ H' p => by obtain ⟨_, _, _, _, _, S', _⟩ := p; exact SqL.of (S' _ _ eT3)) ?_ ?_
    · rintro i v ys σ' H4 hv ⟨o1, o2, o3, ts, rfl, S4, rfl, htl, hts⟩
      rw [List.getElem?_map] at hv
      obtain ⟨b, hb, rfl⟩ := Option.map_eq_some_iff.mp hv
      have hi : i < xs.length := by rw [← hbl]; exact (List.getElem?_eq_some_iff.mp hb).1
      have hx : xs[i]? = some xs[i] := List.getElem?_eq_getElem hi
      generalize xs[i] = x at hx
      have hm := List.mem_of_getElem? hx
      refine ⟨b, _, rfl, SqL.of (S4 _ _ (fr i b x hb hx)), rfl, _, _, rfl, _, _, rfl, _, _, rfl, rfl, ?_⟩
      refine iteT ?_
      refine ⟨_, rfl, _, rfl, _, rfl, x.2.2, rfl, c.least x hm, c.most x hm, fun H5 S5 => ⟨sizeLine_big (by show 3 ≤ 1000000; decide), fun t ht => ?_⟩⟩
      have sT := Same.new (o := .tup [V.str x.1, .str x.2.1, .int x.2.2]) ht
      exact ⟨_, _, _, ts ++ [t], rfl, (S4.trans S5).trans sT, by rw [List.map_append]; rfl, by rw [List.length_append, htl]; rfl, at_more htl hx (fun j a b ha hb => sT _ _ (S5 _ _ (hts j a b ha hb))) upd_same⟩
    · rintro ys σ' H4 ⟨o1, o2, o3, ts, rfl, S4, rfl, htl, hts⟩ D hD
      rw [List.length_map, hbl] at htl
      have sD := Same.new (o := .lst (ts.map V.ref)) hD
      have eD : upd H4 D (.lst (ts.map V.ref)) D = some (.lst (ts.map V.ref)) := upd_same
      have nD : H D = none := (sH.trans S4).free hD
      have hts5 : ∀ (j : Nat) (t : Addr) (x : Call), ts[j]? = some t → xs[j]? = some x → upd H4 D (.lst (ts.map V.ref)) t = some (.tup [.str x.1, .str x.2.1, .int x.2.2]) := fun j t x h1 h2 => sD _ _ (hts j t x h1 h2)
      have s5 : Same H (upd H4 D (.lst (ts.map V.ref))) := (sH.trans S4).trans sD
      generalize upd H4 D (.lst (ts.map V.ref)) = H5 at sD eD hts5 s5 ⊢
      dsimp only [gName]
      have hat : ∀ (i : Nat) (v : V), (ts.map V.ref)[i]? = some v → ∃ t x, v = .ref t ∧ xs[i]? = some x ∧ x ∈ xs ∧ H5 t = some (.tup [.str x.1, .str x.2.1, .int x.2.2]) := fun i v hv => by
        rw [List.getElem?_map] at hv
        obtain ⟨t, ht, rfl⟩ := Option.map_eq_some_iff.mp hv
        have hi : i < xs.length := by rw [← htl]; exact (List.getElem?_eq_some_iff.mp ht).1
        have hx : xs[i]? = some xs[i] := List.getElem?_eq_getElem hi
        exact ⟨t, _, rfl, hx, List.mem_of_getElem? hx, hts5 i t _ ht hx⟩
      refine ⟨_, rfl, D, rfl, ⟨_, SqL.of eD⟩, for_list (K := K) (xs := ts.map V.ref) (fun i σ H' => ∃ (o1 o2 o3 : Option V), σ = [some (.str (rowT (xs.map callT))), some (.ref D), o1, o2, o3] ∧ Same H5 H')
        ⟨none, none, none, rfl, Same.refl H5⟩ (fun i σ H' _ p => by obtain ⟨_, _, _, _, S'⟩ := p; exact SqL.of (S' _ _ eD)) (fun i v σ H6 hv p => ?_) (fun σ H6 p => ?_)⟩
      · obtain ⟨o1, o2, o3, rfl, S6⟩ := p
        obtain ⟨t, x, rfl, hx, hm, ht⟩ := hat i v hv
        have n1 := c.house x hm
        have n2 := c.breach x hm
        have l1 := (nlen n1).2
        have l2 := (nlen n2).2
        refine ⟨t, _, rfl, SqT.of (S6 _ _ ht), rfl, _, _, rfl, _, _, rfl, _, _, rfl, rfl, ?_⟩
        refine ⟨_, rfl, _, rfl, .inl ⟨x.1, rfl, by omega, fun H7 S7 => ⟨_, rfl, ?_⟩⟩⟩
        rw [n1]
        refine iteF ?_
        refine ⟨_, rfl, _, rfl, .inl ⟨x.2.1, rfl, by omega, fun H8 S8 => ⟨_, rfl, ?_⟩⟩⟩
        rw [n2]
        refine iteF ?_
        refine ⟨_, rfl, rfl, _, rfl, ?_⟩
        rw [decide_eq_false (show ¬ V.int (x.2.2 : Int) = .non from fun z => nomatch z)]
        refine iteF ?_
        have hl := c.least x hm
        refine ⟨_, rfl, _, _, rfl, rfl, _, rfl, ?_⟩
        rw [decide_eq_false (show ¬ ((x.2.2 : Int) < 1) by omega)]
        refine iteF ?_
        exact ⟨_, _, _, rfl, (S6.trans S7).trans S8⟩
      · obtain ⟨o1, o2, o3, rfl, S6⟩ := p
        refine ⟨_, rfl, D, rfl, ⟨_, SqL.of (S6 _ _ eD)⟩, ?_⟩
        refine comp_list (K := K) (xs := ts.map V.ref) (fun i ys σ' H' => ∃ (o1 o2 o3 : Option V) (us : List Addr), σ' = [o1, o2, o3] ∧ Same H6 H' ∧ ys = us.map V.ref ∧ us.length = i ∧ ∀ (j : Nat) (t : Addr) (x : Call), us[j]? = some t → xs[j]? = some x → H' t = some (.tup [.str x.1, .str x.2.1]))
          ⟨none, none, none, [], rfl, Same.refl H6, rfl, rfl, fun j t x hb => by simp at hb⟩ (sizeLine_big (by rw [List.length_map]; omega)) (fun i ys σ H' p => by obtain ⟨_, _, _, us, _, _, rfl, hl, _⟩ := p; rw [List.length_map]; omega) (fun i ys σ H' p => by obtain ⟨_, _, _, _, _, S', _⟩ := p; exact SqL.of (S' _ _ (S6 _ _ eD))) ?_ ?_
        · rintro i v ys σ' H7 hv ⟨o1, o2, o3, us, rfl, S7, rfl, hul, hus⟩
          obtain ⟨t, x, rfl, hx, hm, ht⟩ := hat i v hv
          refine ⟨t, _, rfl, SqT.of (S7 _ _ (S6 _ _ ht)), rfl, _, _, rfl, _, _, rfl, _, _, rfl, rfl, ?_⟩
          refine iteT ?_
          refine ⟨_, rfl, _, rfl, sizeLine_big (by show 2 ≤ 1000000; decide), fun u hu => ?_⟩
          have sT := Same.new (o := .tup [V.str x.1, .str x.2.1]) hu
          exact ⟨_, _, _, us ++ [u], rfl, S7.trans sT, by rw [List.map_append]; rfl, by rw [List.length_append, hul]; rfl, at_more hul hx (fun j a b ha hb => sT _ _ (hus j a b ha hb)) upd_same⟩
        · rintro ys σ' H7 ⟨o1, o2, o3, us, rfl, S7, rfl, hul, hus⟩ D2 hD2
          rw [List.length_map, htl] at hul
          have s2 := Same.new (o := .lst (us.map V.ref)) hD2
          have e2 : upd H7 D2 (.lst (us.map V.ref)) D2 = some (.lst (us.map V.ref)) := upd_same
          have hus8 : ∀ (j : Nat) (t : Addr) (x : Call), us[j]? = some t → xs[j]? = some x → upd H7 D2 (.lst (us.map V.ref)) t = some (.tup [.str x.1, .str x.2.1]) := fun j t x h1 h2 => s2 _ _ (hus j t x h1 h2)
          have s68 := S7.trans s2
          generalize upd H7 D2 (.lst (us.map V.ref)) = H8 at s2 e2 hus8 s68 ⊢
          have hP : L2.Pairs H8 us := L2.Pairs.of fun r hr => by
            obtain ⟨j, hj, e⟩ := List.mem_iff_getElem.mp hr
            have hjx : j < xs.length := by omega
            exact ⟨_, _, hus8 j r xs[j] (by rw [List.getElem?_eq_getElem hj, e]) (List.getElem?_eq_getElem hjx)⟩
          have em : us.map (L2.pairAt H8) = xs.map fun x => (x.1, x.2.1) := by
            apply List.ext_getElem (by simp [hul])
            intro j h1 h2
            rw [List.getElem_map, List.getElem_map]
            exact pairAt_of (hus8 j _ _ (List.getElem?_eq_getElem (by simpa using h1)) (List.getElem?_eq_getElem (by simpa using h2)))
          refine ⟨D2, us, rfl, e2, by omega, hP, by rw [em]; exact c.rise, fun H9 S9 => ⟨_, rfl, ?_⟩⟩
          refine iteF ?_
          have s59 : Same H5 H9 := (S6.trans s68).trans S9
          refine ⟨_, rfl, k D (ts.map V.ref) H9 (s5.trans s59) nD (s59 _ _ eD) ⟨by rw [List.length_map, htl], fun i v hv => ?_⟩⟩
          obtain ⟨t, x, rfl, hx, hm, ht⟩ := hat i v hv
          exact ⟨x, t, hx, rfl, s59 _ _ ht⟩
end
end K7

set_option linter.all false
set_option maxRecDepth 100000
set_option Elab.async false
set_option maxHeartbeats 8000000
namespace K7
open PySem L2 PyProof.Rows
structure KvOk (kv : List Key × V) : Prop where
  ex : ∃ (a b : Str) (m : Nat), kv = ([.inr a, .inr b], .int (m : Int)) ∧ nameB a = true ∧ nameB b = true ∧ 0 < m ∧ m < 10 ^ 60
theorem putK_mem {kvs : List (List Key × V)} {k : List Key} {v : V} {q : List Key × V} (h : q ∈ putK kvs k v) : q ∈ kvs ∨ q = (k, v) := by
  unfold putK at h
  split at h
  · obtain ⟨z, hz, e⟩ := List.mem_map.mp h
    split at e
    · next hk => exact .inr (by rw [← e, hk])
    · exact .inl (e ▸ hz)
  · rcases List.mem_append.mp h with h | h
    · exact .inl h
    · exact .inr (by simpa using h)
theorem putK_len {kvs : List (List Key × V)} {k : List Key} {v : V} : (putK kvs k v).length ≤ kvs.length + 1 := by
  unfold putK
  split
  · rw [List.length_map]; omega
  · simp
theorem valV_mem {kvs : List (List Key × V)} {q : List Key × V} (h : q ∈ kvs) : ∃ v, valV kvs q.1 = some v ∧ (q.1, v) ∈ kvs := by
  unfold valV
  cases hf : kvs.find? (fun kv => decide (kv.1 = q.1)) with
  | none =>
    have := List.find?_eq_none.mp hf q h
    simp at this
  | some z =>
    have h1 := List.mem_of_find?_eq_some hf
    have h2 := List.find?_some hf
    have h3 : z.1 = q.1 := of_decide_eq_true h2
    exact ⟨z.2, rfl, by rw [← h3]; exact h1⟩
inductive ICalling (vs : List V) (H : Hp) (Q : VK) (E : XK) : Prop
  | mk (p c : Addr) (ns : List Int) (a : Int) (l : Addr) (ws : List Str) (h0 : vs = [.ref p, .ref l]) (hp : PenAt H p c ns a) (ha : a ≤ 900000) (e : H l = some (.lst (ws.map V.str))) (w1 : 1 ≤ ws.length) (w2 : ws.length ≤ 10) (hn : ∀ z ∈ ws, nameB z = true)
      (q : ∀ (T : Addr) (ls : List V) (xs : List Call) (a' : Int) (H' : Hp), H T = none → H' T = some (.lst ls) → CallsAt H' ls xs → Calling xs → a ≤ a' → a' ≤ a + 60 → PenAt H' p c ns a' → KeepBut p H H' → Q (.ref T) H') : ICalling vs H Q E
def spCalling : Sp := fun vs H Q E => ICalling vs H Q E
section
variable {P : Program} {w : World} {K : PySem.W.Frag} {mg : Str → Option Value} {base : Heap}
theorem scCalling : FnScope ["_law_pen_here", "_law_names_here", "_law_pairs", "_law_k", "_law_pair"] ["_law_pen_here", "_law_names_here"] (defScope sCalling) := ⟨rfl, rfl, rfl, by decide +kernel, rfl, by decide +kernel, by decide +kernel⟩
theorem ok_calling {f fT : Addr} {fd fdT : FuncData} (F : Fun K "_law_calling" "_law_calling" sCalling f fd) (hlen : mg "len" = none) (hrng : mg "range" = none) (hlist : mg "list" = none) (hsor : mg "sorted" = none)
    (GT : FnOk P w K mg base CX0 1 fT fdT ["_law_pen_here", "_law_many"] spTake) (mT : mg "_law_take" = some (.ref fT)) (kT : PySem.W.keepIn K (.ref fT) = true) (bT : Binds K fdT ["_law_pen_here", "_law_many"] []) :
    FnOk P w K mg base CX0 2 f fd ["_law_pen_here", "_law_names_here"] spCalling := by
  refine F.ok scCalling (fun vs H Q E h => ?_) (fun cdv A outer s H vs Q E hr h => ?_)
  · obtain ⟨p, c, ns, a, l, ws, rfl, _⟩ := h
    rfl
  · obtain ⟨p, c, ns, a, l, ws, rfl, hp, ha, e, w1, w2, hn, k⟩ := h
    have hun := hr.un
    have hu : (A.deeper (PyProof.Rows.envOfC "_law_calling" (defScope sCalling) s.heap.objs.size f cdv)).units + 1 < cLine := by omega
    refine ⟨_, pss_cons (ps_set (i := 2) scCalling.nd rfl (Or.inr rfl) pe_dnewT)
      (pss_cons (ps_for PassesOwn.never rfl (pi_range1 rfl hrng (pa_c (pe_call GT hr rfl mT kT bT .nil pass0 (pa_c (pv 0) (pa_c pe_int pa_nil))) pa_nil)) (pg_name (i := 3) scCalling.nd rfl (Or.inl rfl))
        (pss_cons (ps_set (i := 4) scCalling.nd rfl (Or.inl rfl) (pe_tup (pa_c (pe_ix ix_list (pv 1) (pe_call GT hr rfl mT kT bT .nil pass0 (pa_c (pv 0) (pa_c (pe_callB call_len_seq (by rfl) hlen PySem.boot_len (pa_c (pv 1) pa_nil)) pa_nil))) (fun _ _ => rfl)) (pa_c (pe_ix ix_list (pv 1) (pe_call GT hr rfl mT kT bT .nil pass0 (pa_c (pv 0) (pa_c (pe_callB call_len_seq (by rfl) hlen PySem.boot_len (pa_c (pv 1) pa_nil)) pa_nil))) (fun _ _ => rfl)) pa_nil))))
        (pss_one (ps_dput hu (pv 2) (pv 4) (pe_ix ix_list (pe_lst (pa_c pe_int (pa_c (pe_op op_add pe_int (pe_call GT hr rfl mT kT bT .nil pass0 (pa_c (pv 0) (pa_c (pe_op op_pow pe_int pe_int) pa_nil)))) (pa_c (pe_op op_sub (pe_op op_pow pe_int pe_int) pe_int) pa_nil)))) (pe_call GT hr rfl mT kT bT .nil pass0 (pa_c (pv 0) (pa_c pe_int pa_nil))) (fun _ _ => rfl)) (by rfl)))))
      (pss_one (ps_ret (pe_comp (N := ["_law_pair", "_law_pairs"]) (src := [none, some 2]) (osc := defScope sCalling) (oN := ["_law_pen_here", "_law_names_here", "_law_pairs", "_law_k", "_law_pair"]) ⟨by rfl, by decide +kernel, by decide +kernel, by decide +kernel, rfl, by rfl⟩
        (pi_list (pe_callB call_sortedL2 (by rfl) hsor (by kernel_rfl) (pa_c (pe_callTy (call_listD rfl) (by rfl) hlist (by kernel_rfl) (pa_c (pv 2) pa_nil)) pa_nil)))
        fun cl s H fp pins C => ⟨pg_name (i := 0) (show (["_law_pair", "_law_pairs"] : List Str).Nodup by decide +kernel) rfl (Or.inl rfl), pts_nil, pe_op op_catA (pv 0) (pe_tup (pa_c (pe_dget (show _ + 1 < cLine from hu) (pv 1) (pv 0) (fun _ _ => rfl)) pa_nil))⟩)))), ?_⟩
    intro D hD
    have sD := Same.new (o := .dT []) hD
    have eD : upd H D (.dT []) D = some (.dT []) := upd_same
    generalize upd H D (.dT []) = H1 at sD eD ⊢
    have hp1 := hp.same sD
    have nDp : D ≠ p := fun z => by
      obtain ⟨l', _, e'⟩ := hp.ob
      rw [z, e'] at hD
      cases hD
    have nDc : D ≠ c := fun z => by
      have e' := hp.ce
      rw [z, e'] at hD
      cases hD
    have nlp : l ≠ p := fun z => by
      obtain ⟨l', _, e'⟩ := hp.ob
      rw [z, e'] at e
      cases e
    have nDl : D ≠ l := fun z => by rw [z, e] at hD; cases hD
    have big : ∀ n : Nat, n ≤ 100 → n ≤ sizeLine := fun n h => sizeLine_big (Nat.le_trans h (by decide))
    refine ⟨_, rfl, p, c, ns, a, _, rfl, hp1, by omega, by decide, by decide +kernel, fun r1 a1 H2 r10 r11 la1 ua1 hp2 kp2 => ?_⟩
    refine ⟨r1, rfl, by omega, by omega, for_range (n := r1.toNat) (fun i σ H' => ∃ (o3 o4 : Option V) (kvs : List (List Key × V)) (a' : Int), σ = [some (.ref p), some (.ref l), some (.ref D), o3, o4] ∧ H' D = some (.dT kvs) ∧ kvs.length ≤ i ∧ (∀ q ∈ kvs, KvOk q) ∧ PenAt H' p c ns a' ∧ a1 ≤ a' ∧ a' ≤ a1 + 4 * i ∧ KeepBut p H H')
      ⟨none, none, [], a1, rfl, kp2 _ _ eD nDp, Nat.le_refl _, fun q hq => by simp at hq, hp2, by omega, by omega, fun b o eb hb => kp2 b o (sD b o eb) hb⟩ ?_ ?_⟩
    · rintro i σ H5 hi ⟨o3, o4, kvs, a5, rfl, eD5, hkl, hkv, hp5, la5, ua5, k5⟩
      dsimp only [gName]
      have e5 := k5 _ _ e nlp
      refine ⟨_, rfl, _, rfl, _, rfl, l, _, rfl, .inl (SqL.of e5), p, c, ns, a5, _, rfl, hp5, by omega, by rw [List.length_map]; omega, by rw [List.length_map]; omega, fun r6 a6 H6 r60 r61 la6 ua6 hp6 kp6 => ?_⟩
      obtain ⟨v1, hv1, hat1⟩ := atI_in (xs := ws.map V.str) (i := r6) r60 r61
      obtain ⟨na, hna, rfl⟩ := List.mem_map.mp hv1
      have e6 := kp6 _ _ e5 nlp
      refine ⟨l, _, r6, _, rfl, rfl, SqL.of e6, hat1, ?_⟩
      refine ⟨_, rfl, _, rfl, _, rfl, l, _, rfl, .inl (SqL.of e6), p, c, ns, a6, _, rfl, hp6, by omega, by rw [List.length_map]; omega, by rw [List.length_map]; omega, fun r7 a7 H7 r70 r71 la7 ua7 hp7 kp7 => ?_⟩
      obtain ⟨v2, hv2, hat2⟩ := atI_in (xs := ws.map V.str) (i := r7) r70 r71
      obtain ⟨nb, hnb, rfl⟩ := List.mem_map.mp hv2
      have e7 := kp7 _ _ e6 nlp
      refine ⟨l, _, r7, _, rfl, rfl, SqL.of e7, hat2, big 2 (by decide), fun t ht => ?_⟩
      have st := Same.new (o := .tup [V.str na, .str nb]) ht
      have et : upd H7 t (.tup [V.str na, .str nb]) t = some (.tup [V.str na, .str nb]) := upd_same
      generalize upd H7 t (.tup [V.str na, .str nb]) = H8 at st et ⊢
      have hp8 := hp7.same st
      have eD8 := st _ _ (kp7 _ _ (kp6 _ _ eD5 nDp) nDp)
      have ntp : t ≠ p := fun z => by
        obtain ⟨l', _, e'⟩ := hp8.ob
        rw [z, e'] at et
        cases et
      have ntD : t ≠ D := fun z => by rw [z, eD8] at et; cases et
      have k58 : KeepBut p H5 H8 := (kp6.trans kp7).same st
      refine ⟨_, rfl, _, _, rfl, rfl, ⟨by decide, by decide, by decide⟩, p, c, ns, a7, _, rfl, hp8, by omega, by decide, by decide +kernel, fun r9 a9 H9 r90 r91 la9 ua9 hp9 kp9 => ?_⟩
      have r91' : r9 < 1000000 := by
        have : (10 : Int) ^ (6 : Int).toNat = 1000000 := by decide
        omega
      refine ⟨_, _, rfl, rfl, _, _, rfl, rfl, ⟨by decide, by decide, by decide⟩, _, _, rfl, rfl, big 3 (by decide), fun u hu => ?_⟩
      have su := Same.new (o := .lst [V.int 1, .int (1 + r9), .int (10 ^ (60 : Int).toNat - 1)]) hu
      have eu : upd H9 u (.lst [V.int 1, .int (1 + r9), .int (10 ^ (60 : Int).toNat - 1)]) u = some (.lst [V.int 1, .int (1 + r9), .int (10 ^ (60 : Int).toNat - 1)]) := upd_same
      generalize upd H9 u (.lst [V.int 1, .int (1 + r9), .int (10 ^ (60 : Int).toNat - 1)]) = H10 at su eu ⊢
      have hp10 := hp9.same su
      have nup : u ≠ p := fun z => by
        obtain ⟨l', _, e'⟩ := hp10.ob
        rw [z, e'] at eu
        cases eu
      refine ⟨_, rfl, p, c, ns, a9, _, rfl, hp10, by omega, by decide, by decide +kernel, fun r12 a12 H12 r120 r121 la12 ua12 hp12 kp12 => ?_⟩
      obtain ⟨v, hv, hat⟩ := atI_in (xs := [V.int 1, .int (1 + r9), .int (10 ^ (60 : Int).toNat - 1)]) (i := r12) r120 (by show r12 < 3; omega)
      obtain ⟨m, rfl, hm1, hm2⟩ : ∃ m : Nat, v = .int (m : Int) ∧ 0 < m ∧ m < 10 ^ 60 := by
        simp only [List.mem_cons, List.not_mem_nil, or_false] at hv
        rcases hv with rfl | rfl | rfl
        · exact ⟨1, rfl, by decide, by decide +kernel⟩
        · refine ⟨(1 + r9).toNat, by congr 1; omega, by omega, ?_⟩
          have h1 : (1 + r9).toNat < 10 ^ 7 := by
            have : (10 : Nat) ^ 7 = 10000000 := by decide
            omega
          exact Nat.lt_of_lt_of_le h1 (by decide +kernel)
        · exact ⟨10 ^ 60 - 1, by decide +kernel, by decide +kernel, by decide +kernel⟩
      refine ⟨u, _, r12, _, rfl, rfl, SqL.of (kp12 _ _ eu nup), hat, ?_⟩
      have k812 : KeepBut p H8 H12 := (kp9.same su).trans kp12
      have eD12 := k812 _ _ eD8 nDp
      have et12 := k812 _ _ et ntp
      refine ⟨_, rfl, _, rfl, D, _, rfl, DPut.t (k := [.inr na, .inr nb]) eD12 et12 (Nat.lt_of_lt_of_le (show kvs.length < 100 by omega) (big 100 (by decide))), ?_⟩
      refine ⟨_, _, putK kvs [.inr na, .inr nb] (.int (m : Int)), a12, rfl, upd_same, ?_, fun q hq => ?_, hp12.upd nDp nDc, by omega, by omega, fun b o eb hb => ?_⟩
      · have := putK_len (kvs := kvs) (k := [.inr na, .inr nb]) (v := .int (m : Int))
        omega
      · rcases putK_mem hq with hq | rfl
        · exact hkv q hq
        · exact ⟨na, nb, m, rfl, hn _ hna, hn _ hnb, hm1, hm2⟩
      · have nb' : b ≠ D := fun z => by rw [z, hD] at eb; cases eb
        rw [upd_ne nb']
        exact k812 _ _ (k58 _ _ (k5 _ _ eb hb) hb) hb
    · rintro σ H5 ⟨o3, o4, kvs, a5, rfl, eD5, hkl, hkv, hp5, la5, ua5, k5⟩
      refine ⟨_, rfl, D, kvs, rfl, eD5, fun l1 rs hl1 hrl hrs hnd => ?_⟩
      have hk8 : kvs.length ≤ 8 := by omega
      have s1 := Same.new (o := .lst (rs.map V.ref)) hl1
      have e1 : upd H5 l1 (.lst (rs.map V.ref)) l1 = some (.lst (rs.map V.ref)) := upd_same
      generalize upd H5 l1 (.lst (rs.map V.ref)) = H6 at s1 e1 ⊢
      have what : ∀ (j : Nat) (r : Addr), rs[j]? = some r → ∃ (x y : Str) (v : V), kvs[j]? = some ([.inr x, .inr y], v) ∧ H6 r = some (.tup [.str x, .str y]) ∧ nameB x = true ∧ nameB y = true := fun j r hr => by
        have hj : j < kvs.length := by rw [← hrl]; exact (List.getElem?_eq_some_iff.mp hr).1
        obtain ⟨x, y, m, ek, h1, h2, _⟩ := (hkv kvs[j] (List.getElem_mem hj)).ex
        have ek' : kvs[j]? = some ([.inr x, .inr y], .int (m : Int)) := by rw [List.getElem?_eq_getElem hj, ek]
        exact ⟨x, y, _, ek', s1 _ _ (hrs j r _ hr ek'), h1, h2⟩
      have hout : ∀ r ∈ rs, ∃ (x y : Str) (m : Nat), H6 r = some (.tup [.str x, .str y]) ∧ nameB x = true ∧ nameB y = true ∧ valV kvs [.inr x, .inr y] = some (.int (m : Int)) ∧ 0 < m ∧ m < 10 ^ 60 := fun r hr => by
        obtain ⟨j, hj⟩ := List.getElem?_of_mem hr
        obtain ⟨x, y, v, ek, e2, h1, h2⟩ := what j r hj
        obtain ⟨v2, ev, hm⟩ := valV_mem (List.mem_of_getElem? ek)
        obtain ⟨x', y', m, ek2, _, _, h3, h4⟩ := (hkv _ hm).ex
        cases ek2
        exact ⟨x, y, m, e2, h1, h2, ev, h3, h4⟩
      have hP : L2.Pairs H6 rs := L2.Pairs.of fun r hr => by
        obtain ⟨x, y, _, e2, _⟩ := hout r hr
        exact ⟨x, y, e2⟩
      have hnd6 : (rs.map (L2.pairAt H6)).Nodup := by
        have em : (rs.map (L2.pairAt H6)).map (fun z => ([.inr z.1, .inr z.2] : List Key)) = kvs.map (·.1) := by
          apply List.ext_getElem (by simp [hrl])
          intro j h1 h2
          have hj : j < rs.length := by simpa using h1
          obtain ⟨x, y, v, ek, e2, _⟩ := what j rs[j] (List.getElem?_eq_getElem hj)
          have hjk : j < kvs.length := by omega
          rw [List.getElem?_eq_getElem hjk] at ek
          have ek' : kvs[j] = ([.inr x, .inr y], v) := by simpa using ek
          rw [List.getElem_map, List.getElem_map, List.getElem_map, pairAt_of e2, ek']
        rw [← em] at hnd
        exact List.Pairwise.imp (fun h z => h (by rw [z])) (List.pairwise_map.mp hnd)
      refine ⟨l1, rs, rfl, e1, by omega, hP, hnd6, fun l2 out hl2 hpm hri => ?_⟩
      have s2 := Same.new (o := .lst (out.map V.ref)) hl2
      have e2 : upd H6 l2 (.lst (out.map V.ref)) l2 = some (.lst (out.map V.ref)) := upd_same
      generalize upd H6 l2 (.lst (out.map V.ref)) = H7 at s2 e2 ⊢
      have hol := hpm.length_eq
      have eD7 := s2 _ _ (s1 _ _ eD5)
      refine ⟨l2, rfl, ⟨_, SqL.of e2⟩, ?_⟩
      refine comp_list (K := K) (xs := out.map V.ref) (fun i ys σ' H' => ∃ (o : Option V) (ts : List Addr) (xs : List Call), σ' = [o, some (.ref D)] ∧ Same H7 H' ∧ ys = ts.map V.ref ∧ ts.length = i ∧ xs.length = i ∧ (∀ (j : Nat) (t : Addr) (x : Call), ts[j]? = some t → xs[j]? = some x → H' t = some (.tup [.str x.1, .str x.2.1, .int x.2.2])) ∧ xs.map (fun x => (x.1, x.2.1)) = (out.take i).map (L2.pairAt H6) ∧ ∀ x ∈ xs, nameB x.1 = true ∧ nameB x.2.1 = true ∧ 0 < x.2.2 ∧ x.2.2 < 10 ^ 60)
        ⟨none, [], [], rfl, Same.refl H7, rfl, rfl, rfl, fun j t x hb => by simp at hb, rfl, fun x hx => by simp at hx⟩ (sizeLine_big (by rw [List.length_map]; omega)) (fun i ys σ H' p => by obtain ⟨_, ts, _, _, _, rfl, hl, _⟩ := p; rw [List.length_map]; omega) (fun i ys σ H' p => by obtain ⟨_, _, _, _, S', _⟩ := p; exact SqL.of (S' _ _ e2)) ?_ ?_
      · rintro i v ys σ' H8 hv ⟨o, ts, xs, rfl, S8, rfl, htl, hxl, hts, hxm, hxo⟩
        rw [List.getElem?_map] at hv
        obtain ⟨r, hr, rfl⟩ := Option.map_eq_some_iff.mp hv
        obtain ⟨x, y, m, er, h1, h2, ev, h3, h4⟩ := hout r (hpm.mem_iff.mp (List.mem_of_getElem? hr))
        have er8 := S8 _ _ (s2 _ _ er)
        dsimp only [gName]
        refine iteT ?_
        refine ⟨_, rfl, _, rfl, _, rfl, D, .int (m : Int), rfl, ev ▸ DGet.t (k := [.inr x, .inr y]) (S8 _ _ eD7) er8, big 1 (by decide), fun q hq => ?_⟩
        have sq := Same.new (o := .tup [V.int (m : Int)]) hq
        refine ⟨r, q, _, _, rfl, rfl, sq _ _ er8, upd_same, (show 2 + 1 ≤ 1000000 by decide), fun R HR SR eR => ?_⟩
        have s8R := sq.trans SR
        refine ⟨_, ts ++ [R], xs ++ [(x, y, m)], rfl, S8.trans s8R, by rw [List.map_append]; rfl, by rw [List.length_append, htl]; rfl, by rw [List.length_append, hxl]; rfl, ?_, ?_, fun z hz => ?_⟩
        · exact at_more (x := (x, y, m)) htl (by rw [List.getElem?_append_right (by omega), hxl]; simp) (fun j t z ht hz => by
            have hj : j < xs.length := by rw [hxl, ← htl]; exact (List.getElem?_eq_some_iff.mp ht).1
            rw [List.getElem?_append_left hj] at hz
            exact s8R _ _ (hts j t z ht hz)) eR
        · rw [List.map_append, hxm, List.take_add_one, hr]
          simp [pairAt_of er]
        · rcases List.mem_append.mp hz with hz | hz
          · exact hxo z hz
          · have : z = (x, y, m) := by simpa using hz
            subst this
            exact ⟨h1, h2, h3, h4⟩
      · rintro ys σ' H8 ⟨o, ts, xs, rfl, S8, rfl, htl, hxl, hts, hxm, hxo⟩ D3 hD3
        rw [List.length_map] at htl hxl hxm
        rw [List.take_length] at hxm
        have sF := Same.new (o := .lst (ts.map V.ref)) hD3
        have s5F : Same H5 (upd H8 D3 (.lst (ts.map V.ref))) := ((s1.trans s2).trans S8).trans sF
        have nD3 : H D3 = none := by
          cases hh : H D3 with
          | none => rfl
          | some o =>
            by_cases z : D3 = p
            · obtain ⟨l', _, e'⟩ := hp5.ob
              have := ((s1.trans s2).trans S8) _ _ (z ▸ e')
              rw [hD3] at this
              cases this
            · have := ((s1.trans s2).trans S8) _ _ (k5 _ _ hh z)
              rw [hD3] at this
              cases this
        refine k D3 (ts.map V.ref) xs a5 _ nD3 upd_same ⟨by rw [List.length_map]; omega, fun i v hv => ?_⟩ ⟨by omega, fun x hx => (hxo x hx).1, fun x hx => (hxo x hx).2.1, fun x hx => (hxo x hx).2.2.1, fun x hx => (hxo x hx).2.2.2, by rw [hxm]; exact hri⟩ (by omega) (by omega) (hp5.same s5F) (k5.same s5F)
        rw [List.getElem?_map] at hv
        obtain ⟨t, ht, rfl⟩ := Option.map_eq_some_iff.mp hv
        have hi : i < xs.length := by have := (List.getElem?_eq_some_iff.mp ht).1; omega
        exact ⟨xs[i], t, List.getElem?_eq_getElem hi, rfl, sF _ _ (hts i t _ ht (List.getElem?_eq_getElem hi))⟩
end
end K7

set_option linter.all false
set_option maxRecDepth 100000
set_option Elab.async false
set_option maxHeartbeats 4000000
namespace K7
open PySem L2
structure OkD (b k : Nat) (d : PyData) : Prop where
  sh : d.showable = true
  dp : d.depth ≤ k
  len : d.shown.length ≤ b
theorem OkD.mono {b b' k k' : Nat} {d : PyData} (h : OkD b k d) (hb : b ≤ b') (hk : k ≤ k') : OkD b' k' d := ⟨h.sh, Nat.le_trans h.dp hk, Nat.le_trans h.len hb⟩
theorem okAll {b k : Nat} : ∀ {ds : List PyData}, (∀ d ∈ ds, OkD b k d) → PyData.showableAll ds = true ∧ PyData.depthAll ds ≤ k ∧ ((ds.map PyData.shown).map (·.length)).sum ≤ ds.length * b
  | [], _ => ⟨rfl, Nat.zero_le _, by simp⟩
  | d :: r, h => by
    obtain ⟨h1, h2, h3⟩ := okAll (ds := r) fun x hx => h x (List.mem_cons_of_mem _ hx)
    obtain ⟨g1, g2, g3⟩ := h d List.mem_cons_self
    refine ⟨?_, ?_, ?_⟩
    · unfold PyData.showableAll
      rw [g1, h1]
      rfl
    · unfold PyData.depthAll
      exact Nat.max_le.mpr ⟨g2, h2⟩
    · rw [List.map_cons, List.map_cons, List.sum_cons, List.length_cons, Nat.succ_mul]
      omega
theorem OkD.tuple {b k n : Nat} {ds : List PyData} (h : ∀ d ∈ ds, OkD b k d) (hn : ds.length ≤ n) : OkD (n * (b + 2) + 3) (k + 1) (.tuple ds) := by
  obtain ⟨h1, h2, h3⟩ := okAll h
  refine ⟨?_, ?_, ?_⟩
  · unfold PyData.showable; exact h1
  · unfold PyData.depth; omega
  · unfold PyData.shown
    rw [PyProof.Rows.shownAll_eq_map]
    unfold tupleText
    have hj := StrLaws.join_length_le (Str.ofString ", ") (ds.map PyData.shown)
    have e1 : (Str.ofString ", ").length = 2 := by decide +kernel
    have e2 : (Str.ofString "(").length = 1 := by decide +kernel
    have e3 : ∀ c : Bool, (Str.ofString (if c = true then ",)" else ")")).length ≤ 2 := by decide +kernel
    have e4 := e3 ((ds.map PyData.shown).length == 1)
    rw [e1, List.length_map] at hj
    rw [Str.length_append, Str.length_append, e2]
    have : ds.length * b + ds.length * 2 ≤ n * (b + 2) := by
      rw [← Nat.mul_add]
      exact Nat.mul_le_mul_right _ hn
    omega
theorem OkD.list {b k n : Nat} {ds : List PyData} (h : ∀ d ∈ ds, OkD b k d) (hn : ds.length ≤ n) : OkD (n * (b + 2) + 3) (k + 1) (.list ds) := by
  obtain ⟨h1, h2, h3⟩ := okAll h
  refine ⟨?_, ?_, ?_⟩
  · unfold PyData.showable; exact h1
  · unfold PyData.depth; omega
  · unfold PyData.shown
    rw [PyProof.Rows.shownAll_eq_map, listText_eq_join]
    have hj := StrLaws.join_length_le (Str.ofString ", ") (ds.map PyData.shown)
    have e1 : (Str.ofString ", ").length = 2 := by decide +kernel
    have e2 : (Str.ofString "[").length = 1 := by decide +kernel
    have e3 : (Str.ofString "]").length = 1 := by decide +kernel
    rw [e1, List.length_map] at hj
    rw [Str.length_append, Str.length_append, e2, e3]
    have : ds.length * b + ds.length * 2 ≤ n * (b + 2) := by
      rw [← Nat.mul_add]
      exact Nat.mul_le_mul_right _ hn
    omega
theorem OkD.str {z : Str} (h : PyData.strOk z = true) (hl : z.length ≤ 100) : OkD 1002 0 (.str z) := by
  refine ⟨by unfold PyData.showable; rfl, by unfold PyData.depth; exact Nat.le_refl _, ?_⟩
  have hz : z.cps.size ≤ 100 := hl
  have hlay : (PyData.str z).layable0 = true := by
    unfold PyData.layable0 PyData.canLay0 PyData.depth PyData.weight
    rw [h, decide_eq_true (show (0 : Nat) ≤ 64 by decide), decide_eq_true (show z.cps.size ≤ 2 ^ 20 by omega)]
    rfl
  have := PyProof.Rows.len_repr_of_layable hlay
  unfold PyData.shown
  omega
theorem int_len {i : Int} (h0 : 0 ≤ i) (h1 : i < 10 ^ 60) : (Str.ofString (toString i)).length ≤ 60 := by
  obtain ⟨n, rfl⟩ : ∃ n : Nat, i = n := ⟨i.toNat, by omega⟩
  rw [PySem.ofString_length]
  show (Int.repr (n : Int)).length ≤ 60
  have e : Int.repr (n : Int) = Nat.repr n := rfl
  rw [e]
  exact (Nat.length_repr_le_iff (by decide)).mpr (by omega)
theorem OkD.int {i : Int} (h0 : 0 ≤ i) (h1 : i < 10 ^ 60) : OkD 1002 0 (.int i) := by
  refine ⟨?_, by unfold PyData.depth; exact Nat.le_refl _, ?_⟩
  · unfold PyData.showable
    refine decide_eq_true ?_
    have h2 : i.natAbs < 2 ^ 200 := by
      have : (10 : Int) ^ 60 < ((2 ^ 200 : Nat) : Int) := by decide +kernel
      omega
    by_cases hz : i.natAbs = 0
    · rw [hz]; decide
    · have := (Nat.log2_lt hz).mpr h2
      omega
  · unfold PyData.shown
    have := int_len h0 h1
    omega
theorem strOk_mk {z : Str} (h : nameB z = true) : PyData.strOk z = true := by
  unfold nameB at h
  rw [Bool.and_eq_true, List.all_eq_true] at h
  unfold PyData.strOk
  rw [Array.all_eq_true_iff_forall_mem]
  intro c hc
  have := of_decide_eq_true (h.2 c (by simpa using hc))
  exact decide_eq_true (by omega)
theorem OkD.name {z : Str} (h : nameB z = true) : OkD 1002 0 (.str z) := OkD.str (strOk_mk h) (by have := nameB_len h; omega)
end K7

set_option linter.all false
set_option maxRecDepth 100000
set_option Elab.async false
set_option maxHeartbeats 8000000
namespace K7
open PySem L2 PyProof.Rows
structure Reads (P : Program) (w : World) (K : PySem.W.Frag) (mg : Str → Option Value) (base : Heap) (fR : Addr) (z : Str) (d : PyData) (H : Hp) : Prop where
  ex : ∃ (sp : Sp) (fd : FuncData), FnOk P w K mg base CX0 2 fR fd ["text"] sp ∧ PySem.W.keepIn K (.ref fR) = true ∧ Binds K fd ["text"] [] ∧
    ∀ (H1 : Hp) (Q1 : VK), Same H H1 → (∀ (T : Addr) (ls : List V) (H2 : Hp), Same H1 H2 → H1 T = none → H2 T = some (.lst ls) → RdV true H2 (.ref T) d → Q1 (.ref T) H2) → sp [.str z] H1 Q1 E0
inductive IReadRight (P : Program) (w : World) (K : PySem.W.Frag) (mg : Str → Option Value) (base : Heap) (vs : List V) (H : Hp) (Q : VK) (E : XK) : Prop
  | mk (fR : Addr) (z : Str) (o : Addr) (d : PyData) (h0 : vs = [.ref fR, .str z, .ref o]) (F : Reads P w K mg base fR z d H) (rd : RdV true H (.ref o) d) (ok : OkD 500000 3 d) (q : ∀ H', Same H H' → Q (.bl true) H') : IReadRight P w K mg base vs H Q E
def spReadRight (P : Program) (w : World) (K : PySem.W.Frag) (mg : Str → Option Value) (base : Heap) : Sp := fun vs H Q E => IReadRight P w K mg base vs H Q E
theorem rep_ok {d : PyData} (o : OkD 500000 3 d) : d.showable = true ∧ d.depth ≤ 20 ∧ d.shown.length ≤ sizeLine := ⟨o.sh, Nat.le_trans o.dp (by decide), Nat.le_trans o.len (sizeLine_big (by decide))⟩
theorem Same.updNew {H H' : Hp} {T : Addr} {o : HO} (s : Same H H') (h : H T = none) : Same H (upd H' T o) := fun b u e => by
  rw [upd_ne (fun z => by rw [z, h] at e; cases e)]
  exact s b u e
section
variable {P : Program} {w : World} {K : PySem.W.Frag} {mg : Str → Option Value} {base : Heap}
theorem scReadRight : FnScope ["_law_reads", "_law_text", "_law_owed", "_law_turn", "_law_found"] ["_law_reads", "_law_text", "_law_owed"] (defScope sReadRight) := ⟨rfl, rfl, rfl, by decide +kernel, rfl, by decide +kernel, by decide +kernel⟩
theorem ok_readRight {f : Addr} {fd : FuncData} (F : Fun K "_law_read_right" "_law_read_right" sReadRight f fd) (T : Txt K mg) (hrng : mg "range" = none) (hrepr : mg "repr" = none) :
    FnOk P w K mg base CX0 3 f fd ["_law_reads", "_law_text", "_law_owed"] (spReadRight P w K mg base) := by
  refine F.ok scReadRight (fun vs H Q E h => ?_) (fun cdv A outer s H vs Q E hr h => ?_)
  · obtain ⟨fR, z, o, d, rfl, _⟩ := h
    rfl
  · obtain ⟨fR, z, o, d, rfl, hF, rd, ok, k⟩ := h
    have hr2 : Room 2 _ := hr.mono (by decide)
    refine ⟨_, pss_cons (ps_for PassesOwn.never rfl (pi_range1 rfl hrng (pa_c pe_int pa_nil)) (pg_name (i := 3) scReadRight.nd rfl (Or.inl rfl))
        (pss_cons (ps_set (i := 4) scReadRight.nd rfl (Or.inl rfl) (pe_callV (ps := ["text"]) (pv 0) hr2 (pa_c (pv 1) pa_nil)))
        (pss_cons (ps_if (PW.pt (pw_or (pt_not (pt_val (pe_callB call_isinst (by rfl) T.isi (by kernel_rfl) (pa_c (pv 4) (pa_c (pe_bltn (v := .ty "list") (by rfl) T.list (by kernel_rfl) rfl) pa_nil)))))
          (pw_or1 (pt_cmpR op_ne (pe_callB (call_repr hr) (by rfl) hrepr (by kernel_rfl) (pa_c (pv 4) pa_nil)) (pe_callB (call_repr hr) (by rfl) hrepr (by kernel_rfl) (pa_c (pv 2) pa_nil)) (nomark _))))) (pss_one (ps_ret pe_bl)) pss_nil)
        (pss_one (ps_expr (pe_bm0 PySem.F.plainAttrs_list PySem.F.slot_list_clear PySem.F.type_list_clear mt_clear (pv 4)))))))
      (pss_one (ps_ret pe_bl)), ?_⟩
    obtain ⟨w1, w2, w3⟩ := rep_ok ok
    obtain ⟨sp, fdR, FR, kR, bR, call⟩ := hF.ex
    refine ⟨2, rfl, by decide, by decide, for_range (n := 2) (fun i σ H' => ∃ (o3 o4 : Option V), σ = [some (.ref fR), some (.str z), some (.ref o), o3, o4] ∧ Same H H') ⟨none, none, rfl, Same.refl H⟩ ?_ ?_⟩
    · rintro i σ H1 hi ⟨o3, o4, rfl, S1⟩
      dsimp only [gName]
      refine ⟨_, rfl, fR, sp, rfl, ⟨fdR, FR, kR, bR⟩, _, rfl, call H1 _ S1 fun T2 ls H2 S2 hT2 eT2 rT2 => ?_⟩
      have rd2 := rd.same (S1.trans S2)
      refine ⟨_, rfl, _, "list", _, true, rfl, TyOf.lst eT2, kit_same, _, rfl, ?_⟩
      refine iteF ?_
      refine ⟨_, rfl, T2, true, d, rfl, rT2, w1, w2, w3, ?_⟩
      refine ⟨_, rfl, o, true, d, rfl, rd2, w1, w2, w3, ?_⟩
      refine ⟨rfl, _, rfl, ?_⟩
      rw [decide_eq_true rfl]
      refine iteF ?_
      refine ⟨_, rfl, .inl ⟨rfl, _, SqL.of eT2⟩, T2, _, rfl, rfl, eT2, ?_⟩
      exact ⟨_, _, rfl, Same.updNew (S1.trans S2) (S1.free hT2)⟩
    · rintro σ H1 ⟨o3, o4, rfl, S1⟩
      exact k _ S1
end
end K7

set_option linter.all false
set_option maxRecDepth 100000
set_option Elab.async false
set_option maxHeartbeats 8000000
namespace K7
open PySem L2 PyProof.Rows
def oD : Option Str → PyData
  | none => .none
  | some z => .str z
def linkD (x : Link) : PyData := .tuple [oD x.1, .str x.2.1, .str x.2.2]
def callD (x : Call) : PyData := .tuple [.str x.1, .str x.2.1, .int x.2.2]
theorem rdvs_of {m : Bool} {H : Hp} : ∀ {vs : List V} {ds : List PyData}, vs.length = ds.length → (∀ (i : Nat) (v : V) (d : PyData), vs[i]? = some v → ds[i]? = some d → RdV m H v d) → RdVs m H vs ds
  | [], [], _, _ => .nil
  | v :: vs, d :: ds, hl, h => .cons (h 0 v d rfl rfl) (rdvs_of (by simpa using hl) fun i a b ha hb => h (i + 1) a b ha hb)
theorem Chain.rd {xs : List Link} {H : Hp} {ls : List V} (c : Chain xs) (hl : LinksAt H ls xs) {T : Addr} (e : H T = some (.lst ls)) : RdV true H (.ref T) (.list (xs.map linkD)) := by
  have hlen := c.len
  have h1 := hl.len
  refine .lst rfl e (by omega) (rdvs_of (by rw [List.length_map]; exact h1) fun i v d hv hd => ?_)
  obtain ⟨x, b, hx, rfl, hb⟩ := hl.at' i v hv
  rw [List.getElem?_map, hx] at hd
  have hd' : linkD x = d := by simpa using hd
  subst hd'
  have hm := List.mem_of_getElem? hx
  have l1 := (nlen (c.land x hm)).2
  have l2 := (nlen (c.house x hm)).2
  refine .tup hb (by show 3 ≤ 1000; decide) (.cons ?_ (.cons (.str _ (by omega)) (.cons (.str _ (by omega)) .nil)))
  rcases c.dash hm with z | ⟨w, z, hw⟩
  · rw [z]; exact .non
  · rw [z]
    have := (nlen hw).2
    exact .str _ (by omega)
theorem Chain.okD {xs : List Link} (c : Chain xs) : OkD 30173 2 (.list (xs.map linkD)) := by
  refine OkD.list (b := 3015) (k := 1) (n := 10) (fun d hd => ?_) (by rw [List.length_map]; have := c.len; omega)
  obtain ⟨x, hx, rfl⟩ := List.mem_map.mp hd
  refine OkD.tuple (b := 1002) (k := 0) (n := 3) (fun d hd => ?_) (Nat.le_refl _)
  simp only [List.mem_cons, List.not_mem_nil, or_false] at hd
  rcases hd with rfl | rfl | rfl
  · rcases c.dash hx with z | ⟨w, z, hw⟩
    · rw [z]
      exact ⟨by decide +kernel, by decide +kernel, by decide +kernel⟩
    · rw [z]
      exact OkD.name hw
  · exact OkD.name (c.land x hx)
  · exact OkD.name (c.house x hx)
theorem Calling.rd {xs : List Call} {H : Hp} {ls : List V} (c : Calling xs) (hl : CallsAt H ls xs) {T : Addr} (e : H T = some (.lst ls)) : RdV true H (.ref T) (.list (xs.map callD)) := by
  have hlen := c.len
  have h1 := hl.len
  refine .lst rfl e (by omega) (rdvs_of (by rw [List.length_map]; exact h1) fun i v d hv hd => ?_)
  obtain ⟨x, b, hx, rfl, hb⟩ := hl.at' i v hv
  rw [List.getElem?_map, hx] at hd
  have hd' : callD x = d := by simpa using hd
  subst hd'
  have hm := List.mem_of_getElem? hx
  have l1 := (nlen (c.house x hm)).2
  have l2 := (nlen (c.breach x hm)).2
  exact .tup hb (by show 3 ≤ 1000; decide) (.cons (.str _ (by omega)) (.cons (.str _ (by omega)) (.cons (.int _) .nil)))
theorem OkD.num {m : Nat} (h : m < 10 ^ 60) : OkD 1002 0 (.int (m : Int)) := OkD.int (by omega) (by
  have : ((10 ^ 60 : Nat) : Int) = (10 : Int) ^ 60 := by decide +kernel
  omega)
theorem Calling.okD {xs : List Call} (c : Calling xs) : OkD 30173 2 (.list (xs.map callD)) := by
  refine OkD.list (b := 3015) (k := 1) (n := 10) (fun d hd => ?_) (by rw [List.length_map]; have := c.len; omega)
  obtain ⟨x, hx, rfl⟩ := List.mem_map.mp hd
  refine OkD.tuple (b := 1002) (k := 0) (n := 3) (fun d hd => ?_) (Nat.le_refl _)
  simp only [List.mem_cons, List.not_mem_nil, or_false] at hd
  rcases hd with rfl | rfl | rfl
  · exact OkD.name (c.house x hx)
  · exact OkD.name (c.breach x hx)
  · exact OkD.num (c.most x hx)
structure Rising (ns : List Str) : Prop where
  len : ns.length ≤ 10
  name : ∀ z ∈ ns, nameB z = true
  rise : risingB ns = true
theorem rd_strs {H : Hp} {ns : List Str} {T : Addr} (hl : ns.length ≤ 40) (hn : ∀ z ∈ ns, nameB z = true) (e : H T = some (.lst (ns.map V.str))) : RdV true H (.ref T) (.list (ns.map PyData.str)) := by
  refine .lst rfl e (by rw [List.length_map]; omega) (rdvs_of (by simp) fun i v d hv hd => ?_)
  rw [List.getElem?_map] at hv hd
  obtain ⟨z, hz, rfl⟩ := Option.map_eq_some_iff.mp hv
  rw [hz] at hd
  have hd' : PyData.str z = d := by simpa using hd
  subst hd'
  have := (nlen (hn z (List.mem_of_getElem? hz))).2
  exact .str _ (by omega)
theorem Rising.okD {ns : List Str} (c : Rising ns) : OkD 30173 2 (.list (ns.map PyData.str)) := by
  refine OkD.list (b := 3015) (k := 1) (n := 10) (fun d hd => ?_) (by rw [List.length_map]; exact c.len)
  obtain ⟨x, hx, rfl⟩ := List.mem_map.mp hd
  exact (OkD.name (c.name x hx)).mono (by decide) (by decide)
structure Places (ps : List Nat) : Prop where
  len : ps.length ≤ 9
  most : ∀ m ∈ ps, m < 10 ^ 60
theorem rd_nums {H : Hp} {ps : List Nat} {T : Addr} (hl : ps.length ≤ 40) (e : H T = some (.lst (ps.map fun m : Nat => V.int (m : Int)))) : RdV true H (.ref T) (.list (ps.map fun m : Nat => PyData.int (m : Int))) := by
  refine .lst rfl e (by rw [List.length_map]; omega) (rdvs_of (by simp) fun i v d hv hd => ?_)
  rw [List.getElem?_map] at hv hd
  obtain ⟨z, hz, rfl⟩ := Option.map_eq_some_iff.mp hv
  rw [hz] at hd
  have hd' : PyData.int (z : Int) = d := by simpa using hd
  subst hd'
  exact .int _
theorem Places.okD {ps : List Nat} (c : Places ps) : OkD 30173 2 (.list (ps.map fun m : Nat => PyData.int (m : Int))) := by
  refine OkD.list (b := 3015) (k := 1) (n := 10) (fun d hd => ?_) (by rw [List.length_map]; have := c.len; omega)
  obtain ⟨x, hx, rfl⟩ := List.mem_map.mp hd
  exact (OkD.num (c.most x hx)).mono (by decide) (by decide)
structure Paper (H : Hp) (pp : Addr) (L C N M : Addr) (xs : List Link) (cs : List Call) (ns : List Str) (ps : List Nat) (ll cl : List V) : Prop where
  at' : H pp = some (.tup [.ref L, .ref C, .ref N, .ref M])
  links : H L = some (.lst ll)
  linksAt : LinksAt H ll xs
  chain : Chain xs
  calls : H C = some (.lst cl)
  callsAt : CallsAt H cl cs
  calling : Calling cs
  names : H N = some (.lst (ns.map V.str))
  rising : Rising ns
  places : H M = some (.lst (ps.map fun m : Nat => V.int (m : Int)))
  pl : Places ps
def paperD (xs : List Link) (cs : List Call) (ns : List Str) (ps : List Nat) : PyData := .tuple [.list (xs.map linkD), .list (cs.map callD), .list (ns.map PyData.str), .list (ps.map fun m : Nat => PyData.int (m : Int))]
theorem LinksAt.same {H H' : Hp} {vs : List V} {xs : List Link} (h : LinksAt H vs xs) (S : Same H H') : LinksAt H' vs xs := ⟨h.len, fun i v hv => by
  obtain ⟨x, b, h1, h2, h3⟩ := h.at' i v hv
  exact ⟨x, b, h1, h2, S _ _ h3⟩⟩
theorem CallsAt.same {H H' : Hp} {vs : List V} {xs : List Call} (h : CallsAt H vs xs) (S : Same H H') : CallsAt H' vs xs := ⟨h.len, fun i v hv => by
  obtain ⟨x, b, h1, h2, h3⟩ := h.at' i v hv
  exact ⟨x, b, h1, h2, S _ _ h3⟩⟩
section
variable {H H' : Hp} {pp L C N M : Addr} {xs : List Link} {cs : List Call} {ns : List Str} {ps : List Nat} {ll cl : List V}
theorem Paper.same (p : Paper H pp L C N M xs cs ns ps ll cl) (S : Same H H') : Paper H' pp L C N M xs cs ns ps ll cl :=
  ⟨S _ _ p.at', S _ _ p.links, p.linksAt.same S, p.chain, S _ _ p.calls, p.callsAt.same S, p.calling, S _ _ p.names, p.rising, S _ _ p.places, p.pl⟩
theorem Paper.rd (p : Paper H pp L C N M xs cs ns ps ll cl) : RdV true H (.ref pp) (paperD xs cs ns ps) :=
  .tup p.at' (by show 4 ≤ 1000; decide) (.cons (p.chain.rd p.linksAt p.links) (.cons (p.calling.rd p.callsAt p.calls) (.cons (rd_strs (by have := p.rising.len; omega) p.rising.name p.names) (.cons (rd_nums (by have := p.pl.len; omega) p.places) .nil))))
theorem Paper.okD (p : Paper H pp L C N M xs cs ns ps ll cl) : OkD 500000 3 (paperD xs cs ns ps) := by
  refine (OkD.tuple (b := 30173) (k := 2) (n := 4) (fun d hd => ?_) (Nat.le_refl _)).mono (by decide) (by decide)
  simp only [List.mem_cons, List.not_mem_nil, or_false] at hd
  rcases hd with rfl | rfl | rfl | rfl
  · exact p.chain.okD
  · exact p.calling.okD
  · exact p.rising.okD
  · exact p.pl.okD
end
end K7

set_option linter.all false
set_option maxRecDepth 100000
set_option Elab.async false
set_option maxHeartbeats 8000000
namespace K7
open PySem L2 PyProof.Rows
inductive IRight (vs : List V) (H : Hp) (Q : VK) (E : XK) : Prop
  | mk (pp L C N M : Addr) (xs : List Link) (cs : List Call) (ns : List Str) (ps : List Nat) (ll cl : List V) (h0 : vs = [.ref pp]) (p : Paper H pp L C N M xs cs ns ps ll cl) (q : ∀ H', Same H H' → Q (.bl true) H') : IRight vs H Q E
def spRight : Sp := fun vs H Q E => IRight vs H Q E
theorem iteFb {c : Bool} {p q : Prop} (h : c = false) (hq : q) : if c = true then p else q := by
  rw [if_neg (by rw [h]; simp)]
  exact hq
section
variable {P : Program} {w : World} {K : PySem.W.Frag} {mg : Str → Option Value} {base : Heap}
theorem scRight : FnScope ["_law_papers", "_law_links", "_law_calls", "_law_names_here", "_law_places", "_law_kept", "_law_texts", "_law_others"] ["_law_papers"] (defScope sRight) := ⟨rfl, rfl, rfl, by decide +kernel, rfl, by decide +kernel, by decide +kernel⟩
theorem ok_right {f f1 f2 f3 g1 g2 g3 g4 fRR r1 r2 r3 : Addr} {fd fd1 fd2 fd3 gd1 gd2 gd3 gd4 fdRR rd1 rd2 rd3 : FuncData} (F : Fun K "_law_right" "_law_right" sRight f fd) (T : Txt K mg) (hrepr : mg "repr" = none)
    (G1 : FnOk P w K mg base CX0 1 f1 fd1 ["_law_links"] spLChainT) (m1 : mg "_law_chain_text" = some (.ref f1)) (k1 : PySem.W.keepIn K (.ref f1) = true) (b1 : Binds K fd1 ["_law_links"] [])
    (G2 : FnOk P w K mg base CX0 2 f2 fd2 ["_law_calls"] spCallingT) (m2 : mg "_law_calling_text" = some (.ref f2)) (k2 : PySem.W.keepIn K (.ref f2) = true) (b2 : Binds K fd2 ["_law_calls"] [])
    (G3 : FnOk P w K mg base CX0 1 f3 fd3 ["_law_some"] spListed) (m3 : mg "_law_listed_text" = some (.ref f3)) (k3 : PySem.W.keepIn K (.ref f3) = true) (b3 : Binds K fd3 ["_law_some"] [])
    (J1 : FnOk P w K mg base CX0 2 g1 gd1 ["chain"] spChainT) (n1 : mg "chain_text" = some (.ref g1)) (l1 : PySem.W.keepIn K (.ref g1) = true) (c1 : Binds K gd1 ["chain"] [])
    (J2 : FnOk P w K mg base CX0 2 g2 gd2 ["calling"] spCallingT) (n2 : mg "calling_text" = some (.ref g2)) (l2 : PySem.W.keepIn K (.ref g2) = true) (c2 : Binds K gd2 ["calling"] [])
    (J3 : FnOk P w K mg base CX0 2 g3 gd3 ["names"] spInRow) (n3 : mg "names_text" = some (.ref g3)) (l3 : PySem.W.keepIn K (.ref g3) = true) (c3 : Binds K gd3 ["names"] [])
    (J4 : FnOk P w K mg base CX0 2 g4 gd4 ["places"] spPlacesT) (n4 : mg "places_text" = some (.ref g4)) (l4 : PySem.W.keepIn K (.ref g4) = true) (c4 : Binds K gd4 ["places"] [])
    (GR : FnOk P w K mg base CX0 3 fRR fdRR ["_law_reads", "_law_text", "_law_owed"] (spReadRight P w K mg base)) (mR : mg "_law_read_right" = some (.ref fRR)) (kR : PySem.W.keepIn K (.ref fRR) = true) (bR : Binds K fdRR ["_law_reads", "_law_text", "_law_owed"] [])
    (R1 : FnOk P w K mg base CX0 2 r1 rd1 ["text"] spReadChain) (p1 : mg "read_chain" = some (.ref r1)) (q1 : PySem.W.keepIn K (.ref r1) = true) (d1 : Binds K rd1 ["text"] [])
    (R2 : FnOk P w K mg base CX0 2 r2 rd2 ["text"] spReadCalling) (p2 : mg "read_calling" = some (.ref r2)) (q2 : PySem.W.keepIn K (.ref r2) = true) (d2 : Binds K rd2 ["text"] [])
    (R3 : FnOk P w K mg base CX0 2 r3 rd3 ["text"] spReadNames) (p3 : mg "read_names" = some (.ref r3)) (q3 : PySem.W.keepIn K (.ref r3) = true) (d3 : Binds K rd3 ["text"] []) :
    FnOk P w K mg base CX0 4 f fd ["_law_papers"] spRight := by
  refine F.ok scRight (fun vs H Q E h => ?_) (fun cdv A outer s H vs Q E hr h => ?_)
  · obtain ⟨pp, L, C, N, M, xs, cs, ns, ps, ll, cl, rfl, _⟩ := h
    rfl
  · obtain ⟨pp, L, C, N, M, xs, cs, ns, ps, ll, cl, rfl, p, k⟩ := h
    have hr1 : Room 1 _ := hr.mono (by decide)
    have hr2 : Room 2 _ := hr.mono (by decide)
    have hu : (A.deeper (PyProof.Rows.envOfC "_law_right" (defScope sRight) s.heap.objs.size f cdv)).units < cLine := by have := hr.un; omega
    have nd1 : (["_law_place"] : List Str).Nodup := by decide +kernel
    have nd2 : (["_law_link"] : List Str).Nodup := by decide +kernel
    refine ⟨_, pss_cons (ps_asg (pv 0) (pg_tup rfl (pgs_cons (pg_name (i := 1) scRight.nd rfl (Or.inl rfl)) (pgs_cons (pg_name (i := 2) scRight.nd rfl (Or.inl rfl)) (pgs_cons (pg_name (i := 3) scRight.nd rfl (Or.inl rfl)) (pgs_cons (pg_name (i := 4) scRight.nd rfl (Or.inl rfl)) pgs_nil))))))
      (pss_cons (ps_set (i := 5) scRight.nd rfl (Or.inl rfl) (pe_callB (call_repr hr) (by rfl) hrepr (by kernel_rfl) (pa_c (pv 0) pa_nil)))
      (pss_cons (ps_set (i := 6) scRight.nd rfl (Or.inl rfl) (pe_lst (pa_c (pe_call G1 hr1 rfl m1 k1 b1 .nil pass0 (pa_c (pv 1) pa_nil)) (pa_c (pe_call G2 hr2 rfl m2 k2 b2 .nil pass0 (pa_c (pv 2) pa_nil)) (pa_c (pe_call G3 hr1 rfl m3 k3 b3 .nil pass0 (pa_c (pv 3) pa_nil)) pa_nil)))))
      (pss_cons (ps_expr (pe_bm PySem.F.plainAttrs_list PySem.F.slot_list_append PySem.F.type_list_append mt_append (pv 6) (pa_c (pe_call G3 hr1 rfl m3 k3 b3 .nil pass0 (pa_c (pe_comp (N := ["_law_place"]) (src := [none]) (osc := defScope sRight) (oN := ["_law_papers", "_law_links", "_law_calls", "_law_names_here", "_law_places", "_law_kept", "_law_texts", "_law_others"]) ⟨by rfl, by decide +kernel, by decide +kernel, by decide +kernel, rfl, by rfl⟩ (pi_list (pv 4))
          fun cl s H fp pins C => ⟨pg_name (i := 0) nd1 rfl (Or.inl rfl), pts_nil, pe_callTy call_strF (by rfl) T.str (by kernel_rfl) (pa_c (pv 0) pa_nil)⟩) pa_nil)) pa_nil)))
      (pss_cons (ps_if (pt_cmpR (op_neL hu) (pe_lst (pa_c (pe_call J1 hr2 rfl n1 l1 c1 .nil pass0 (pa_c (pv 1) pa_nil)) (pa_c (pe_call J2 hr2 rfl n2 l2 c2 .nil pass0 (pa_c (pv 2) pa_nil)) (pa_c (pe_call J3 hr2 rfl n3 l3 c3 .nil pass0 (pa_c (pv 3) pa_nil)) (pa_c (pe_call J4 hr2 rfl n4 l4 c4 .nil pass0 (pa_c (pv 4) pa_nil)) pa_nil))))) (pv 6) (nomark _)) (pss_one (ps_ret pe_bl)) pss_nil)
      (pss_cons (ps_if (PW.pt (pw_or (pt_not (pt_val (pe_call GR hr rfl mR kR bR .nil pass0 (pa_c (pe_glob (v := .ref r1) (by rfl) p1 rfl) (pa_c (pe_ix ix_list (pv 6) pe_int (fun _ _ => rfl)) (pa_c (pv 1) pa_nil))))))
          (pw_or1 (pt_not (pt_val (pe_call GR hr rfl mR kR bR .nil pass0 (pa_c (pe_glob (v := .ref r2) (by rfl) p2 rfl) (pa_c (pe_ix ix_list (pv 6) pe_int (fun _ _ => rfl)) (pa_c (pv 2) pa_nil))))))))) (pss_one (ps_ret pe_bl)) pss_nil)
      (pss_cons (ps_set (i := 7) scRight.nd rfl (Or.inl rfl) (pe_op op_cat (pe_op op_cat (pe_comp (te := tOp (rIxT K) (tVar 0) (tC (.int 1))) (N := ["_law_link"]) (src := [none]) (osc := defScope sRight) (oN := ["_law_papers", "_law_links", "_law_calls", "_law_names_here", "_law_places", "_law_kept", "_law_texts", "_law_others"]) ⟨by rfl, by decide +kernel, by decide +kernel, by decide +kernel, rfl, by rfl⟩ (pi_list (pv 1))
          fun cl s H fp pins C => ⟨pg_name (i := 0) nd2 rfl (Or.inl rfl), pts_nil, pe_ix ix_tup (pv 0) pe_int (fun _ _ => rfl)⟩) (pe_revL (pv 3) (pe_un un_neg pe_int))) (pe_slice sl_list (pv 3) po_none (po_some pe_int))))
      (pss_cons (ps_if (PW.pt (pw_or (pt_cmpR op_ne (pe_call J3 hr2 rfl n3 l3 c3 .nil pass0 (pa_c (pv 7) pa_nil)) (pe_call G3 hr1 rfl m3 k3 b3 .nil pass0 (pa_c (pv 7) pa_nil)) (nomark _))
          (pw_or1 (pt_cmpR op_ne (pe_call J3 hr2 rfl n3 l3 c3 .nil pass0 (pa_c (pe_lst pa_nil) pa_nil)) pe_str (nomark _))))) (pss_one (ps_ret pe_bl)) pss_nil)
      (pss_one (ps_ret (pe_and (pe_call GR hr rfl mR kR bR .nil pass0 (pa_c (pe_glob (v := .ref r3) (by rfl) p3 rfl) (pa_c (pe_ix ix_list (pv 6) pe_int (fun _ _ => rfl)) (pa_c (pv 3) pa_nil)))) (pe_one (pe_cmpR op_eq (pe_callB (call_repr hr) (by rfl) hrepr (by kernel_rfl) (pa_c (pv 0) pa_nil)) (pv 5) (nomark _))))))))))))), ?_⟩
    obtain ⟨w1, w2, w3⟩ := rep_ok p.okD
    have big : ∀ n : Nat, n ≤ 100 → n ≤ sizeLine := fun n h => sizeLine_big (Nat.le_trans h (by decide))
    have cl9 := p.chain.len
    have cc8 := p.calling.len
    have nn10 := p.rising.len
    have pl9 := p.pl.len
    have sumN : ∀ ws : List Str, ws.length ≤ 60 → (∀ z ∈ ws, nameB z = true) → (ws.map (·.length)).sum + ws.length ≤ 1000000 := fun ws h1 h2 => by
      have := sum_le (fun z : Str => z.length) 8 ws (fun z hz => (nlen (h2 z hz)).2)
      omega
    have sumP : ((ps.map numT).map (·.length)).sum + (ps.map numT).length ≤ 1000000 := by
      have := sum_le (fun z : Str => z.length) 60 (ps.map numT) (fun z hz => by obtain ⟨x, hx, rfl⟩ := List.mem_map.mp hz; exact numT_len (p.pl.most x hx))
      rw [List.length_map] at this ⊢
      omega
    refine ⟨_, rfl, pp, _, rfl, SqT.of p.at', rfl, _, _, rfl, _, _, rfl, _, _, rfl, _, _, rfl, rfl, ?_⟩
    refine ⟨_, rfl, pp, true, _, rfl, p.rd, w1, w2, w3, ?_⟩
    refine ⟨_, rfl, L, ll, xs, rfl, p.links, p.linksAt, by omega, p.chain.ne, fun x hx => p.chain.ok hx, fun H1 S1 => ?_⟩
    have p1' := p.same S1
    refine ⟨_, rfl, C, cl, cs, rfl, p1'.calls, p1'.callsAt, by omega, fun x hx => p.calling.ok hx, fun H2 S2 => ?_⟩
    have p2' := p1'.same S2
    refine ⟨_, rfl, N, ns, rfl, p2'.names, sumN ns (by omega) p.rising.name, fun H3 S3 => ⟨big 3 (by decide), fun tx htx => ?_⟩⟩
    have s3 := Same.new (o := .lst [V.str (rowT (xs.map linkT)), .str (rowT (cs.map callT)), .str (rowT ns)]) htx
    have p4 := (p2'.same S3).same s3
    have s04 : Same H (upd H3 tx (.lst [V.str (rowT (xs.map linkT)), .str (rowT (cs.map callT)), .str (rowT ns)])) := ((S1.trans S2).trans S3).trans s3
    have ntx : H tx = none := ((S1.trans S2).trans S3).free htx
    have etx : upd H3 tx (.lst [V.str (rowT (xs.map linkT)), .str (rowT (cs.map callT)), .str (rowT ns)]) tx = some (.lst [V.str (rowT (xs.map linkT)), .str (rowT (cs.map callT)), .str (rowT ns)]) := upd_same
    generalize upd H3 tx (.lst [V.str (rowT (xs.map linkT)), .str (rowT (cs.map callT)), .str (rowT ns)]) = H4 at s3 p4 s04 etx ⊢
    refine ⟨_, rfl, .inl ⟨rfl, _, SqL.of etx⟩, _, rfl, M, rfl, ⟨_, SqL.of p4.places⟩, ?_⟩
    refine comp_list (K := K) (xs := ps.map fun m : Nat => V.int (m : Int)) (fun i ys σ' H' => ∃ (o1 : Option V), σ' = [o1] ∧ Same H4 H' ∧ ys = ((ps.take i).map numT).map V.str) ⟨none, rfl, Same.refl H4, by simp⟩
      (sizeLine_big (by simp; omega)) (fun i ys σ H' p => by obtain ⟨_, _, _, rfl⟩ := p; simp; omega) (fun i ys σ H' q => by obtain ⟨_, _, S, _⟩ := q; exact SqL.of (S _ _ p4.places)) ?_ ?_
    · rintro i v ys σ' H5 hv ⟨o1, rfl, S, rfl⟩
      rw [List.getElem?_map] at hv
      obtain ⟨x, hx, rfl⟩ := Option.map_eq_some_iff.mp hv
      have o := p.pl.most x (List.mem_of_getElem? hx)
      dsimp only [gName]
      refine iteT ?_
      refine ⟨_, rfl, _, numT x, rfl, .int _ (log_small o), ?_⟩
      refine ⟨_, rfl, S, ?_⟩
      rw [List.take_add_one, hx]
      simp
    · rintro ys σ' H5 ⟨o1, rfl, S5, rfl⟩ D hD
      rw [List.length_map, List.take_length]
      refine ⟨D, ps.map numT, rfl, upd_same, sumP, fun H6 S6 => ?_⟩
      have s46 := (S5.trans (Same.new hD)).trans S6
      refine ⟨tx, _, _, rfl, rfl, s46 _ _ etx, big 4 (by decide), ?_⟩
      have s07 : Same H (upd H6 tx (.lst ([rowT (xs.map linkT), rowT (cs.map callT), rowT ns, rowT (ps.map numT)].map V.str))) := Same.updNew (s04.trans s46) ntx
      have e7 : upd H6 tx (.lst ([rowT (xs.map linkT), rowT (cs.map callT), rowT ns, rowT (ps.map numT)].map V.str)) tx = some (.lst ([rowT (xs.map linkT), rowT (cs.map callT), rowT ns, rowT (ps.map numT)].map V.str)) := upd_same
      show tSeq _ _ _ _ (upd H6 tx (.lst ([rowT (xs.map linkT), rowT (cs.map callT), rowT ns, rowT (ps.map numT)].map V.str)))
      generalize upd H6 tx (.lst ([rowT (xs.map linkT), rowT (cs.map callT), rowT ns, rowT (ps.map numT)].map V.str)) = H7 at s07 e7 ⊢
      have p7 := p.same s07
      refine ⟨_, rfl, L, ll, xs, rfl, p7.links, p7.linksAt, by omega, fun x hx => p.chain.ok hx, fun H8 S8 => ?_⟩
      have p8 := p7.same S8
      refine ⟨_, rfl, C, cl, cs, rfl, p8.calls, p8.callsAt, by omega, fun x hx => p.calling.ok hx, fun H9 S9 => ?_⟩
      have p9 := p8.same S9
      refine ⟨_, rfl, N, ns, rfl, p9.names, sumN ns (by omega) p.rising.name, ?_⟩
      refine ⟨_, rfl, M, ps, rfl, p9.places, by omega, p.pl.most, fun H10 S10 => ⟨big 4 (by decide), fun t2 ht2 => ?_⟩⟩
      have s10 := Same.new (o := .lst ([rowT (xs.map linkT), rowT (cs.map callT), rowT ns, rowT (ps.map numT)].map V.str)) ht2
      have e11 : upd H10 t2 (.lst ([rowT (xs.map linkT), rowT (cs.map callT), rowT ns, rowT (ps.map numT)].map V.str)) t2 = some (.lst ([rowT (xs.map linkT), rowT (cs.map callT), rowT ns, rowT (ps.map numT)].map V.str)) := upd_same
      have s711 := ((S8.trans S9).trans S10).trans s10
      generalize hH11 : upd H10 t2 (.lst ([rowT (xs.map linkT), rowT (cs.map callT), rowT ns, rowT (ps.map numT)].map V.str)) = H11 at s10 e11 s711
      refine ⟨_, rfl, t2, tx, _, _, rfl, rfl, SqL.of (hH11 ▸ e11), SqL.of (hH11 ▸ s711 _ _ e7), flat_strs [rowT (xs.map linkT), rowT (cs.map callT), rowT ns, rowT (ps.map numT)], flat_strs _, _, rfl, ?_⟩
      refine iteFb (show (!eqVs ([rowT (xs.map linkT), rowT (cs.map callT), rowT ns, rowT (ps.map numT)].map V.str) ([rowT (xs.map linkT), rowT (cs.map callT), rowT ns, rowT (ps.map numT)].map V.str)) = false by rw [eqVs_strs, decide_eq_true rfl]; rfl) ?_
      show tSeq _ _ _ _ (upd H10 t2 (.lst ([rowT (xs.map linkT), rowT (cs.map callT), rowT ns, rowT (ps.map numT)].map V.str)))
      rw [hH11]
      have p11 := p7.same s711
      have e711 := s711 _ _ e7
      have o1 : OkD 500000 3 (.list (xs.map linkD)) := p.chain.okD.mono (by decide) (by decide)
      have o2 : OkD 500000 3 (.list (cs.map callD)) := p.calling.okD.mono (by decide) (by decide)
      have o3 : OkD 500000 3 (.list (ns.map PyData.str)) := p.rising.okD.mono (by decide) (by decide)
      refine ⟨_, rfl, tx, _, 0, _, rfl, rfl, SqL.of e711, atI_nat (j := 0) rfl, _, rfl, r1, _, L, _, rfl, ⟨spReadChain, rd1, R1, q1, d1, fun Ha Qa Sa hq => ⟨xs, rfl, p.chain, fun Ta ls Hb Sb hTa ea hla => hq Ta ls Hb Sb hTa ea (p.chain.rd hla ea)⟩⟩, p11.chain.rd p11.linksAt p11.links, o1, fun H12 S12 => ⟨_, rfl, ?_⟩⟩
      refine iteF ?_
      have p12 := p11.same S12
      refine ⟨_, rfl, tx, _, 1, _, rfl, rfl, SqL.of (S12 _ _ e711), atI_nat (j := 1) rfl, _, rfl, r2, _, C, _, rfl, ⟨spReadCalling, rd2, R2, q2, d2, fun Ha Qa Sa hq => ⟨cs, rfl, p.calling, fun Ta ls Hb Sb hTa ea hla => hq Ta ls Hb Sb hTa ea (p.calling.rd hla ea)⟩⟩, p12.calling.rd p12.callsAt p12.calls, o2, fun H13 S13 => ⟨_, rfl, ?_⟩⟩
      refine iteF ?_
      have p13 := p12.same S13
      have e13 := S13 _ _ (S12 _ _ e711)
      refine ⟨_, rfl, L, rfl, ⟨_, SqL.of p13.links⟩, ?_⟩
      have hll := p13.linksAt.len
      refine comp_list (K := K) (xs := ll) (fun i ys σ' H' => ∃ (o1 : Option V), σ' = [o1] ∧ Same H13 H' ∧ ys = ((xs.take i).map (·.2.1)).map V.str) ⟨none, rfl, Same.refl H13, by simp⟩
        (sizeLine_big (by omega)) (fun i ys σ H' p => by obtain ⟨_, _, _, rfl⟩ := p; simp; omega) (fun i ys σ H' q => by obtain ⟨_, _, S, _⟩ := q; exact SqL.of (S _ _ p13.links)) ?_ ?_
      · rintro i v ys σ' H14 hv ⟨o, rfl, S, rfl⟩
        obtain ⟨x, b, hx, rfl, hb⟩ := p13.linksAt.at' i v hv
        dsimp only [gName]
        refine iteT ?_
        refine ⟨_, rfl, b, _, 1, _, rfl, rfl, SqT.of (S _ _ hb), atI_nat (j := 1) rfl, ?_⟩
        refine ⟨_, rfl, S, ?_⟩
        rw [List.take_add_one, hx]
        simp
      · rintro ys σ' H14 ⟨o, rfl, S14, rfl⟩ D2 hD2
        rw [hll, List.take_length]
        have sA := Same.new (o := .lst ((xs.map (·.2.1)).map V.str)) hD2
        have eA : upd H14 D2 (.lst ((xs.map (·.2.1)).map V.str)) D2 = some (.lst ((xs.map (·.2.1)).map V.str)) := upd_same
        have sA3 := S14.trans sA
        generalize upd H14 D2 (.lst ((xs.map (·.2.1)).map V.str)) = H15 at sA eA sA3 ⊢
        have p15 := p13.same sA3
        refine ⟨_, rfl, _, rfl, N, _, rfl, rfl, SqL.of p15.names, fun R hR => ?_⟩
        have sR := Same.new (o := .lst (ns.map V.str).reverse) hR
        have eR : upd H15 R (.lst (ns.map V.str).reverse) R = some (.lst (ns.map V.str).reverse) := upd_same
        generalize upd H15 R (.lst (ns.map V.str).reverse) = H16 at sR eR ⊢
        refine ⟨D2, R, _, _, rfl, rfl, sR _ _ eA, eR, big _ (by rw [List.length_reverse, List.length_map, List.length_map, List.length_map]; omega), fun O1 hO1 => ?_⟩
        have sO := Same.new (o := .lst ((xs.map (·.2.1)).map V.str ++ (ns.map V.str).reverse)) hO1
        have eO : upd H16 O1 (.lst ((xs.map (·.2.1)).map V.str ++ (ns.map V.str).reverse)) O1 = some (.lst ((xs.map (·.2.1)).map V.str ++ (ns.map V.str).reverse)) := upd_same
        generalize upd H16 O1 (.lst ((xs.map (·.2.1)).map V.str ++ (ns.map V.str).reverse)) = H17 at sO eO ⊢
        have sRO := sR.trans sO
        refine ⟨_, rfl, _, rfl, N, _, rfl, SqL.of (sRO _ _ p15.names), fun S hS => ?_⟩
        have ec : cutV (ns.map V.str) none (some 1) = (ns.map V.str).take 1 := cut_to (α := Nat) _ 1
        rw [ec]
        have sS := Same.new (o := .lst ((ns.map V.str).take 1)) hS
        have eS : upd H17 S (.lst ((ns.map V.str).take 1)) S = some (.lst ((ns.map V.str).take 1)) := upd_same
        generalize upd H17 S (.lst ((ns.map V.str).take 1)) = H18 at sS eS ⊢
        refine ⟨O1, S, _, _, rfl, rfl, sS _ _ eO, eS, big _ (by rw [List.length_append, List.length_reverse, List.length_take, List.length_map, List.length_map, List.length_map]; omega), fun O hO => ?_⟩
        have eW : (xs.map (·.2.1)).map V.str ++ (ns.map V.str).reverse ++ (ns.map V.str).take 1 = (xs.map (·.2.1) ++ ns.reverse ++ ns.take 1).map V.str := by
          rw [List.map_append, List.map_append, List.map_reverse, List.map_take]
        rw [eW]
        have hwl : (xs.map (·.2.1) ++ ns.reverse ++ ns.take 1).length ≤ 60 := by
          rw [List.length_append, List.length_append, List.length_reverse, List.length_take, List.length_map]
          omega
        have hwn : ∀ z ∈ xs.map (·.2.1) ++ ns.reverse ++ ns.take 1, nameB z = true := fun z hz => by
          rcases List.mem_append.mp hz with hz | hz
          · rcases List.mem_append.mp hz with hz | hz
            · obtain ⟨x, hx, rfl⟩ := List.mem_map.mp hz
              exact p.chain.land x hx
            · exact p.rising.name z (List.mem_reverse.mp hz)
          · exact p.rising.name z (List.mem_of_mem_take hz)
        have hws := sumN _ hwl hwn
        generalize xs.map (·.2.1) ++ ns.reverse ++ ns.take 1 = ws at hws ⊢
        have sW := Same.new (o := .lst (ws.map V.str)) hO
        have eWs : upd H18 O (.lst (ws.map V.str)) O = some (.lst (ws.map V.str)) := upd_same
        have s1318 := ((sA3.trans sRO).trans sS).trans sW
        generalize upd H18 O (.lst (ws.map V.str)) = H19 at sW eWs s1318 ⊢
        refine ⟨_, rfl, O, ws, rfl, eWs, hws, _, rfl, O, ws, rfl, eWs, hws, fun H20 S20 => ⟨rfl, _, rfl, ?_⟩⟩
        rw [decide_eq_true rfl]
        refine iteF ?_
        refine ⟨Nat.zero_le _, fun l0 hl0 => ⟨l0, [], rfl, upd_same, by decide, rfl, _, rfl, ?_⟩⟩
        rw [decide_eq_true (show V.str (rowT []) = V.str "." from rfl)]
        refine iteF ?_
        have sl0 := Same.new (o := .lst []) hl0
        have s13z := (s1318.trans S20).trans sl0
        have pz := p13.same s13z
        have sz : Same H13 (upd H20 l0 (.lst [])) := s13z
        generalize upd H20 l0 (.lst []) = H21 at s13z pz sz ⊢
        refine ⟨_, rfl, tx, _, 2, _, rfl, rfl, SqL.of (s13z _ _ e13), atI_nat (j := 2) rfl, _, rfl, r3, _, N, _, rfl, ⟨spReadNames, rd3, R3, q3, d3, fun Ha Qa Sa hq => ⟨ns, rfl, by omega, p.rising.name, p.rising.rise, fun Ta Hb Sb hTa ea => hq Ta _ Hb Sb hTa ea (rd_strs (by omega) p.rising.name ea)⟩⟩, rd_strs (by omega) p.rising.name pz.names, o3, fun H22 S22 => ⟨_, rfl, ?_⟩⟩
        refine iteT ?_
        have pe := pz.same S22
        refine ⟨_, rfl, pp, true, _, rfl, pe.rd, w1, w2, w3, _, rfl, rfl, ?_⟩
        rw [decide_eq_true rfl]
        exact k _ ((((s07.trans s711).trans S12).trans S13).trans (s13z.trans S22))
end
end K7

set_option linter.all false
set_option maxRecDepth 100000
set_option Elab.async false
set_option maxHeartbeats 16000000
namespace K7
open PySem L2 PyProof.Rows
def spLaw (K : PySem.W.Frag) : Sp := fun vs H Q _ => ∃ (a : Addr) (ns : List Int), vs = [.ref a] ∧ SqL K H a (ns.map V.int) ∧ ns.length ≤ 63 ∧ ∀ H', Q (.bl true) H'
inductive PaperX (H : Hp) (Pp pp : Addr) : Prop
  | mk (L C N M : Addr) (xs : List Link) (cs : List Call) (ns : List Str) (ps : List Nat) (ll cl : List V) (p : Paper H pp L C N M xs cs ns ps ll cl) (h1 : L ≠ Pp) (h2 : C ≠ Pp) (h3 : N ≠ Pp) (h4 : M ≠ Pp) : PaperX H Pp pp
theorem PaperX.keep {H H' : Hp} {p Pp pp : Addr} {d : List (Key × V)} {l : List V} (hp : H p = some (.dK d)) (hP : H Pp = some (.lst l)) (k : ∀ b o, H b = some o → b ≠ p → b ≠ Pp → H' b = some o) (x : PaperX H Pp pp) : PaperX H' Pp pp := by
  obtain ⟨L, C, N, M, xs, cs, ns, ps, ll, cl, q, h1, h2, h3, h4⟩ := x
  have kt : ∀ b z, H b = some (.tup z) → H' b = some (.tup z) := fun b z e => k b _ e (fun y => by rw [y, hp] at e; cases e) (fun y => by rw [y, hP] at e; cases e)
  have kl : ∀ b z, H b = some (.lst z) → b ≠ Pp → H' b = some (.lst z) := fun b z e hb => k b _ e (fun y => by rw [y, hp] at e; cases e) hb
  exact ⟨L, C, N, M, xs, cs, ns, ps, ll, cl, ⟨kt _ _ q.at', kl _ _ q.links h1, ⟨q.linksAt.len, fun i v hv => by
    obtain ⟨x, b, e1, e2, e3⟩ := q.linksAt.at' i v hv
    exact ⟨x, b, e1, e2, kt _ _ e3⟩⟩, q.chain, kl _ _ q.calls h2, ⟨q.callsAt.len, fun i v hv => by
    obtain ⟨x, b, e1, e2, e3⟩ := q.callsAt.at' i v hv
    exact ⟨x, b, e1, e2, kt _ _ e3⟩⟩, q.calling, kl _ _ q.names h3, q.rising, kl _ _ q.places h4, q.pl⟩, h1, h2, h3, h4⟩
theorem rising_of {ms ns : List Str} (hp : ms.Perm ns) (hs : sortedS ms = true) (hn : ns.Nodup) : risingB ms = true := by
  unfold risingB
  refine decide_eq_true ?_
  have h2 := (sortedS_pair ms hs).and (hp.nodup_iff.mpr hn)
  refine h2.imp fun {a b} h => ?_
  rcases Decidable.em (a.cps.toList < b.cps.toList) with z | z
  · exact z
  · exact absurd (cps_inj (List.le_antisymm (List.not_lt.mp h.1) (List.not_lt.mp z))) h.2
theorem lst_but {H H' : Hp} {p c b : Addr} {ns : List Int} {a : Int} {z : List V} (e : H b = some (.lst z)) (hp : PenAt H p c ns a) (k : KeepBut p H H') : H' b = some (.lst z) := by
  obtain ⟨l, _, e'⟩ := hp.ob
  exact k _ _ e fun y => by rw [y, e'] at e; cases e
theorem tup_but {H H' : Hp} {p c b : Addr} {ns : List Int} {a : Int} {z : List V} (e : H b = some (.tup z)) (hp : PenAt H p c ns a) (k : KeepBut p H H') : H' b = some (.tup z) := by
  obtain ⟨l, _, e'⟩ := hp.ob
  exact k _ _ e fun y => by rw [y, e'] at e; cases e
theorem LinksAt.but {H H' : Hp} {vs : List V} {xs : List Link} {p c : Addr} {ns : List Int} {a : Int} (h : LinksAt H vs xs) (hp : PenAt H p c ns a) (k : KeepBut p H H') : LinksAt H' vs xs := ⟨h.len, fun i v hv => by
  obtain ⟨x, b, h1, h2, h3⟩ := h.at' i v hv
  exact ⟨x, b, h1, h2, tup_but h3 hp k⟩⟩
theorem new_ne {H : Hp} {T b : Addr} {o : HO} (h : H T = none) (e : H b = some o) : T ≠ b := fun z => by rw [z, e] at h; cases h
section
variable {P : Program} {w : World} {K : PySem.W.Frag} {mg : Str → Option Value} {base : Heap}
abbrev lawN : List Str := ["_law_script", "_law_pen_here", "_law_papers", "_law_k", "_law_names_here", "_law_places", "_law_some", "_law_paper"]
theorem scL : FnScope lawN ["_law_script"] (defScope sLaw) := ⟨rfl, rfl, rfl, by decide +kernel, rfl, by decide +kernel, by decide +kernel⟩
theorem ok_law {f fP fT fN fC fG fR : Addr} {fd fdP fdT fdN fdC fdG fdR : FuncData} (F : Fun K "law" "law" sLaw f fd) (hrng : mg "range" = none) (hlen : mg "len" = none) (hsor : mg "sorted" = none)
    (GP : FnOk P w K mg base CX0 1 fP fdP ["_law_script"] (spPen K)) (mP : mg "_law_pen" = some (.ref fP)) (kP : PySem.W.keepIn K (.ref fP) = true) (bP : Binds K fdP ["_law_script"] [])
    (GT : FnOk P w K mg base CX0 1 fT fdT ["_law_pen_here", "_law_many"] spTake) (mT : mg "_law_take" = some (.ref fT)) (kT : PySem.W.keepIn K (.ref fT) = true) (bT : Binds K fdT ["_law_pen_here", "_law_many"] [])
    (GN : FnOk P w K mg base CX0 2 fN fdN ["_law_pen_here", "_law_many"] spNames) (mN : mg "_law_names" = some (.ref fN)) (kN : PySem.W.keepIn K (.ref fN) = true) (bN : Binds K fdN ["_law_pen_here", "_law_many"] [])
    (GC : FnOk P w K mg base CX0 2 fC fdC ["_law_pen_here", "_law_names_here"] spChain) (mC : mg "_law_chain" = some (.ref fC)) (kC : PySem.W.keepIn K (.ref fC) = true) (bC : Binds K fdC ["_law_pen_here", "_law_names_here"] [])
    (GG : FnOk P w K mg base CX0 2 fG fdG ["_law_pen_here", "_law_names_here"] spCalling) (mG : mg "_law_calling" = some (.ref fG)) (kG : PySem.W.keepIn K (.ref fG) = true) (bG : Binds K fdG ["_law_pen_here", "_law_names_here"] [])
    (GR : FnOk P w K mg base CX0 4 fR fdR ["_law_papers"] spRight) (mR : mg "_law_right" = some (.ref fR)) (kR : PySem.W.keepIn K (.ref fR) = true) (bR : Binds K fdR ["_law_papers"] []) :
    FnOk P w K mg base CX0 5 f fd ["_law_script"] (spLaw K) := by
  refine F.ok scL (fun vs H Q E h => ?_) (fun cdv A outer s H vs Q E hr h => ?_)
  · obtain ⟨a, ns, rfl, _⟩ := h
    rfl
  · obtain ⟨sc, ns, rfl, hS, hln, k⟩ := h
    have hr1 : Room 1 _ := hr.mono (by decide)
    have hr2 : Room 2 _ := hr.mono (by decide)
    have nd2 : (["_law_j", "_law_pen_here"] : List Str).Nodup := by decide +kernel
    refine ⟨_, pss_cons (ps_set (i := 1) scL.nd rfl (Or.inr rfl) (pe_call GP hr1 rfl mP kP bP .nil pass0 (pa_c (pv 0) pa_nil)))
      (pss_cons (ps_set (i := 2) scL.nd rfl (Or.inl rfl) (pe_lst pa_nil))
      (pss_cons (ps_for PassesOwn.never rfl (pi_range1 rfl hrng (pa_c pe_int pa_nil)) (pg_name (i := 3) scL.nd rfl (Or.inl rfl))
        (pss_cons (ps_set (i := 4) scL.nd rfl (Or.inl rfl) (pe_call GN hr2 rfl mN kN bN .nil pass0 (pa_c (pv 1) (pa_c (pe_op op_add pe_int (pe_call GT hr1 rfl mT kT bT .nil pass0 (pa_c (pv 1) (pa_c pe_int pa_nil)))) pa_nil))))
        (pss_cons (ps_setComp (i := 5) (N := ["_law_j", "_law_pen_here"]) (src := [none, some 1]) (osc := defScope sLaw) (oN := lawN) (te := tOp (rIxL K) (tLst (tCons (tC (.int 0)) (tCons (tCall spTake [] E0 (tCons (tVar 1) (tCons (tOp (rI CPow fun i j => .int (i ^ j.toNat)) (tC (.int 10)) (tC (.int 8))) tNil))) (tCons (tOp (rI0 fun i j => .int (i - j)) (tOp (rI CPow fun i j => .int (i ^ j.toNat)) (tC (.int 10)) (tC (.int 60))) (tC (.int 1))) tNil)))) (tCall spTake [] E0 (tCons (tVar 1) (tCons (tC (.int 3)) tNil)))) ⟨by rfl, by decide +kernel, by decide +kernel, by decide +kernel, rfl, by rfl⟩ scL.nd rfl
          (pi_range1 rfl hrng (pa_c (pe_call GT hr1 rfl mT kT bT .nil pass0 (pa_c (pv 1) (pa_c pe_int pa_nil))) pa_nil))
          fun cl s H fp pins C => ⟨pg_name (i := 0) nd2 rfl (Or.inl rfl), pts_nil, pe_ix ix_list (pe_lst (pa_c pe_int (pa_c (pe_call GT hr1 rfl mT kT bT .nil pass0 (pa_c (pv 1) (pa_c (pe_op op_pow pe_int pe_int) pa_nil))) (pa_c (pe_op op_sub (pe_op op_pow pe_int pe_int) pe_int) pa_nil)))) (pe_call GT hr1 rfl mT kT bT .nil pass0 (pa_c (pv 1) (pa_c pe_int pa_nil))) (fun _ _ => rfl)⟩)
        (pss_cons (ps_set (i := 6) scL.nd rfl (Or.inl rfl) (pe_callB call_sortedS (by rfl) hsor (by kernel_rfl) (pa_c (pe_slice sl_list (pv 4) po_none (po_some (pe_call GT hr1 rfl mT kT bT .nil pass0 (pa_c (pv 1) (pa_c (pe_op op_add (pe_callB call_len_seq (by rfl) hlen PySem.boot_len (pa_c (pv 4) pa_nil)) pe_int) pa_nil))))) pa_nil)))
        (pss_one (ps_expr (pe_bm PySem.F.plainAttrs_list PySem.F.slot_list_append PySem.F.type_list_append mt_append (pv 2) (pa_c (pe_tup (pa_c (pe_call GC hr2 rfl mC kC bC .nil pass0 (pa_c (pv 1) (pa_c (pv 4) pa_nil))) (pa_c (pe_call GG hr2 rfl mG kG bG .nil pass0 (pa_c (pv 1) (pa_c (pv 4) pa_nil))) (pa_c (pv 6) (pa_c (pv 5) pa_nil))))) pa_nil))))))))
      (pss_cons (ps_for PassesOwn.never rfl (pi_list (pe_op op_cat (pv 2) (pe_revL (pv 2) (pe_un un_neg pe_int)))) (pg_name (i := 7) scL.nd rfl (Or.inl rfl))
        (pss_one (ps_if (pt_not (pt_val (pe_call GR hr rfl mR kR bR .nil pass0 (pa_c (pv 7) pa_nil)))) (pss_one (ps_ret pe_bl)) pss_nil)))
      (pss_one (ps_ret pe_bl))))), ?_⟩
    have big : ∀ n : Nat, n ≤ 100 → n ≤ sizeLine := fun n h => sizeLine_big (Nat.le_trans h (by decide))
    refine ⟨_, rfl, sc, ns, rfl, hS, hln, fun p c H1 hp1 s1 np => ?_⟩
    refine ⟨Nat.zero_le _, fun Pp hPp => ?_⟩
    have sP := Same.new (o := .lst []) hPp
    have eP : upd H1 Pp (.lst []) Pp = some (.lst []) := upd_same
    generalize upd H1 Pp (.lst []) = H2 at sP eP ⊢
    have hp2 := hp1.same sP
    have nPp : Pp ≠ p := fun z => by
      obtain ⟨l', _, e'⟩ := hp2.ob
      rw [z, e'] at eP
      cases eP
    have nPc : Pp ≠ c := new_ne hPp hp1.ce
    refine ⟨3, rfl, by decide, by decide, for_range (n := 3) (fun i σ H' => ∃ (o3 o4 o5 o6 o7 : Option V) (pps : List Addr) (a' : Int), σ = [some (.ref sc), some (.ref p), some (.ref Pp), o3, o4, o5, o6, o7] ∧ H' Pp = some (.lst (pps.map V.ref)) ∧ pps.length = i ∧ (∀ pp ∈ pps, PaperX H' Pp pp) ∧ PenAt H' p c ns a' ∧ a' ≤ 300 * i)
      ⟨none, none, none, none, none, [], 0, rfl, eP, rfl, fun pp h => by simp at h, hp2, by simp⟩ ?_ ?_⟩
    · rintro i σ H5 hi ⟨o3, o4, o5, o6, o7, pps, a5, rfl, eP5, hpl, hpx, hp5, ua5⟩
      dsimp only [gName]
      refine ⟨_, rfl, _, rfl, p, c, ns, a5, _, rfl, hp5, by omega, by decide, by decide +kernel, fun r6 a6 H6 r60 r61 la6 ua6 hp6 kp6 => ?_⟩
      obtain ⟨n6, rfl⟩ := Int.eq_ofNat_of_zero_le r60
      refine ⟨_, _, rfl, rfl, p, c, ns, a6, 1 + n6, rfl, hp6, by omega, by omega, fun l ws a7 H7 hl7 el7 wl7 Nw la7 ua7 hp7 kp7 => ?_⟩
      have w2 : ws.length ≤ 10 := by omega
      have w1 : 1 ≤ ws.length := by omega
      have k57 := kp6.trans kp7
      refine ⟨_, rfl, p, c, ns, a7, _, rfl, hp7, by omega, by decide, by decide +kernel, fun r8 a8 H8 r80 r81 la8 ua8 hp8 kp8 => ?_⟩
      refine ⟨r8, rfl, by omega, by omega, ?_⟩
      refine comp_range (n := r8.toNat) (fun i ys σ' H' => ∃ (o : Option V) (ps : List Nat) (a' : Int), σ' = [o, some (.ref p)] ∧ ys = ps.map (fun m : Nat => V.int (m : Int)) ∧ ps.length = i ∧ (∀ m ∈ ps, m < 10 ^ 60) ∧ PenAt H' p c ns a' ∧ a8 ≤ a' ∧ a' ≤ a8 + 2 * i ∧ KeepBut p H8 H')
        ⟨none, [], a8, rfl, rfl, rfl, fun m h => by simp at h, hp8, by omega, by omega, KeepBut.refl p H8⟩ (sizeLine_big (by omega)) (fun i ys σ H p => by obtain ⟨_, ps, _, _, rfl, e, _⟩ := p; rw [List.length_map, e]; exact Nat.le_refl _) ?_ ?_
      · rintro j ys σ' H9 hj ⟨o, ps, a9, rfl, rfl, hpsl, hpsm, hp9, la9, ua9, k9⟩
        dsimp only [gName]
        refine iteT ?_
        refine ⟨_, rfl, _, _, rfl, rfl, ⟨by decide, by decide, by decide⟩, p, c, ns, a9, _, rfl, hp9, by omega, by decide, by decide +kernel, fun r10 a10 H10 r100 r101 la10 ua10 hp10 kp10 => ?_⟩
        have r101' : r10 < 100000000 := by
          have : (10 : Int) ^ (8 : Int).toNat = 100000000 := by decide
          omega
        refine ⟨_, _, rfl, rfl, ⟨by decide, by decide, by decide⟩, _, _, rfl, rfl, big 3 (by decide), fun u hu => ?_⟩
        have su := Same.new (o := .lst [V.int 0, .int r10, .int (10 ^ (60 : Int).toNat - 1)]) hu
        have eu : upd H10 u (.lst [V.int 0, .int r10, .int (10 ^ (60 : Int).toNat - 1)]) u = some (.lst [V.int 0, .int r10, .int (10 ^ (60 : Int).toNat - 1)]) := upd_same
        generalize upd H10 u (.lst [V.int 0, .int r10, .int (10 ^ (60 : Int).toNat - 1)]) = H11 at su eu ⊢
        have hp11 := hp10.same su
        refine ⟨_, rfl, p, c, ns, a10, _, rfl, hp11, by omega, by decide, by decide +kernel, fun r12 a12 H12 r120 r121 la12 ua12 hp12 kp12 => ?_⟩
        obtain ⟨v, hv, hat⟩ := atI_in (xs := [V.int 0, .int r10, .int (10 ^ (60 : Int).toNat - 1)]) (i := r12) r120 (by show r12 < 3; omega)
        obtain ⟨m, rfl, hm2⟩ : ∃ m : Nat, v = .int (m : Int) ∧ m < 10 ^ 60 := by
          simp only [List.mem_cons, List.not_mem_nil, or_false] at hv
          rcases hv with rfl | rfl | rfl
          · exact ⟨0, rfl, by decide +kernel⟩
          · refine ⟨r10.toNat, by congr 1; omega, ?_⟩
            have h1 : r10.toNat < 10 ^ 8 := by
              have : (10 : Nat) ^ 8 = 100000000 := by decide
              omega
            exact Nat.lt_of_lt_of_le h1 (by decide +kernel)
          · exact ⟨10 ^ 60 - 1, by decide +kernel, by decide +kernel⟩
        refine ⟨u, _, r12, _, rfl, rfl, SqL.of (lst_but eu hp11 kp12), hat, ?_⟩
        refine ⟨_, ps ++ [m], a12, rfl, by rw [List.map_append]; rfl, by rw [List.length_append, hpsl]; rfl, fun z hz => ?_, hp12, by omega, by omega, k9.trans ((kp10.same su).trans kp12)⟩
        rcases List.mem_append.mp hz with hz | hz
        · exact hpsm z hz
        · rw [List.mem_singleton.mp hz]; exact hm2
      · rintro ys σ' H9 ⟨o, ps, a9, rfl, rfl, hpsl, hpsm, hp9, la9, ua9, k9⟩ M hM
        have sM := Same.new (o := .lst (ps.map fun m : Nat => V.int (m : Int))) hM
        have eM : upd H9 M (.lst (ps.map fun m : Nat => V.int (m : Int))) M = some (.lst (ps.map fun m : Nat => V.int (m : Int))) := upd_same
        have eP9 := lst_but (lst_but eP5 hp5 (k57.trans kp8)) hp8 k9
        have nMP := new_ne hM eP9
        generalize upd H9 M (.lst (ps.map fun m : Nat => V.int (m : Int))) = H10 at sM eM ⊢
        have hp10 := hp9.same sM
        have k510 : KeepBut p H5 H10 := ((k57.trans kp8).trans k9).same sM
        have el10 : H10 l = some (.lst (ws.map V.str)) := sM _ _ (lst_but (lst_but el7 hp7 kp8) hp8 k9)
        have hr8 : (r8.toNat : Int) ≤ 9 := by omega
        dsimp only [gName]
        refine ⟨_, rfl, _, rfl, _, rfl, l, _, rfl, .inl (SqL.of el10), _, _, rfl, rfl, p, c, ns, a9, _, rfl, hp10, by omega, by rw [List.length_map]; omega, by rw [List.length_map]; omega, fun r11 a11 H11 r110 r111 la11 ua11 hp11 kp11 => ?_⟩
        obtain ⟨n11, rfl⟩ := Int.eq_ofNat_of_zero_le r110
        have el11 := lst_but el10 hp10 kp11
        refine ⟨_, rfl, l, _, rfl, SqL.of el11, fun S hS => ?_⟩
        have ec : cutV (ws.map V.str) none (some (n11 : Int)) = (ws.take n11).map V.str := by rw [cut_to (α := Nat), List.map_take]
        have sS := Same.new (o := .lst ((ws.take n11).map V.str)) hS
        have eS : upd H11 S (.lst ((ws.take n11).map V.str)) S = some (.lst ((ws.take n11).map V.str)) := upd_same
        rw [ec]
        generalize upd H11 S (.lst ((ws.take n11).map V.str)) = H12 at sS eS ⊢
        refine ⟨S, ws.take n11, rfl, SqL.of eS, by rw [List.length_take]; omega, fun N ms hN hpm hso => ?_⟩
        have sN := Same.new (o := .lst (ms.map V.str)) hN
        have eN : upd H12 N (.lst (ms.map V.str)) N = some (.lst (ms.map V.str)) := upd_same
        have hp12 := hp11.same sS
        have eP10 := sM _ _ eP9
        have eP12 := sS _ _ (lst_but eP10 hp10 kp11)
        have nNP := new_ne hN eP12
        generalize upd H12 N (.lst (ms.map V.str)) = H13 at sN eN ⊢
        have hp13 := hp12.same sN
        have k1013 : KeepBut p H10 H13 := (kp11.same sS).same sN
        have eP13 := sN _ _ eP12
        have el13 := lst_but el10 hp10 k1013
        have eM13 := lst_but eM hp10 k1013
        have hri : Rising ms := ⟨by rw [hpm.length_eq, List.length_take]; omega, fun z hz => Nw.ok z (List.mem_of_mem_take (hpm.mem_iff.mp hz)), rising_of hpm hso (Nw.take n11).nd⟩
        refine ⟨_, rfl, .inl ⟨rfl, _, SqL.of eP13⟩, _, rfl, _, rfl, p, c, ns, a11, l, ws, rfl, hp13, by omega, el13, w1, w2, Nw.ok, fun L ll xs a14 H14 hL eL hLk hCh la14 ua14 hp14 kp14 => ?_⟩
        have nLP := new_ne hL eP13
        have eP14 := lst_but eP13 hp13 kp14
        refine ⟨_, rfl, _, rfl, p, c, ns, a14, l, ws, rfl, hp14, by omega, lst_but el13 hp13 kp14, w1, w2, Nw.ok, fun C cl cs a15 H15 hC eC hCk hCg la15 ua15 hp15 kp15 => ?_⟩
        have nCP := new_ne hC eP14
        have eP15 := lst_but eP14 hp14 kp15
        refine ⟨_, rfl, _, rfl, big 4 (by decide), fun tt htt => ?_⟩
        have stt := Same.new (o := .tup [V.ref L, .ref C, .ref N, .ref M]) htt
        have ett : upd H15 tt (.tup [V.ref L, .ref C, .ref N, .ref M]) tt = some (.tup [V.ref L, .ref C, .ref N, .ref M]) := upd_same
        generalize upd H15 tt (.tup [V.ref L, .ref C, .ref N, .ref M]) = H16 at stt ett ⊢
        have eP16 := stt _ _ eP15
        have k1316 : KeepBut p H13 H16 := (kp14.trans kp15).same stt
        have k516 : KeepBut p H5 H16 := (k510.trans k1013).trans k1316
        have hp16 := hp15.same stt
        have paper : Paper H16 tt L C N M xs cs ms ps ll cl := ⟨ett, stt _ _ (lst_but eL hp14 kp15), (hLk.but hp14 kp15).same stt, hCh, stt _ _ eC, hCk.same stt, hCg, lst_but eN hp13 k1316, hri, lst_but eM13 hp13 k1316, ⟨by omega, hpsm⟩⟩
        refine ⟨Pp, _, _, rfl, rfl, eP16, big _ (by rw [List.length_map]; omega), ?_⟩
        obtain ⟨l5, _, e5⟩ := hp5.ob
        obtain ⟨l16, _, e16⟩ := hp16.ob
        refine ⟨_, _, _, _, _, pps ++ [tt], a15, rfl, by rw [upd_same, List.map_append]; rfl, by rw [List.length_append, hpl]; rfl, fun pp hpp => ?_, hp16.upd nPp nPc, by omega⟩
        rcases List.mem_append.mp hpp with hpp | hpp
        · exact (hpx pp hpp).keep e5 eP5 fun b o eb h1 h2 => by
            rw [upd_ne h2]
            exact k516 b o eb h1
        · have epp : pp = tt := by simpa using hpp
          subst epp
          exact PaperX.keep e16 eP16 (fun b o eb h1 h2 => by
            rw [upd_ne h2]
            exact eb) ⟨L, C, N, M, xs, cs, ms, ps, ll, cl, paper, nLP, nCP, nNP, nMP⟩
    · rintro σ H5 ⟨o3, o4, o5, o6, o7, pps, a5, rfl, eP5, hpl, hpx, hp5, ua5⟩
      refine ⟨_, rfl, _, rfl, _, rfl, Pp, _, rfl, rfl, SqL.of eP5, fun R hR => ?_⟩
      have sR := Same.new (o := .lst (pps.map V.ref).reverse) hR
      have eR : upd H5 R (.lst (pps.map V.ref).reverse) R = some (.lst (pps.map V.ref).reverse) := upd_same
      generalize upd H5 R (.lst (pps.map V.ref).reverse) = H6 at sR eR ⊢
      refine ⟨Pp, R, _, _, rfl, rfl, sR _ _ eP5, eR, big _ (by rw [List.length_reverse, List.length_map]; omega), fun O hO => ?_⟩
      have sO := Same.new (o := .lst (pps.map V.ref ++ (pps.map V.ref).reverse)) hO
      have eO : upd H6 O (.lst (pps.map V.ref ++ (pps.map V.ref).reverse)) O = some (.lst (pps.map V.ref ++ (pps.map V.ref).reverse)) := upd_same
      generalize upd H6 O (.lst (pps.map V.ref ++ (pps.map V.ref).reverse)) = H7 at sO eO ⊢
      have s57 := sR.trans sO
      refine ⟨O, rfl, ⟨_, SqL.of eO⟩, for_list (K := K) (xs := pps.map V.ref ++ (pps.map V.ref).reverse) (fun i σ H' => ∃ (o3 o4 o5 o6 o7 : Option V), σ = [some (.ref sc), some (.ref p), some (.ref Pp), o3, o4, o5, o6, o7] ∧ Same H7 H')
        ⟨_, _, _, _, _, rfl, Same.refl H7⟩ (fun i σ H' _ q => by obtain ⟨_, _, _, _, _, _, S'⟩ := q; exact SqL.of (S' _ _ eO)) (fun i v σ H8 hv q => ?_) (fun σ H8 q => ?_)⟩
      · obtain ⟨o3, o4, o5, o6, o7, rfl, S8⟩ := q
        obtain ⟨pp, hpp, rfl⟩ : ∃ pp, pp ∈ pps ∧ v = .ref pp := by
          rcases List.mem_append.mp (List.mem_of_getElem? hv) with hm | hm
          · obtain ⟨pp, h1, h2⟩ := List.mem_map.mp hm
            exact ⟨pp, h1, h2.symm⟩
          · obtain ⟨pp, h1, h2⟩ := List.mem_map.mp (List.mem_reverse.mp hm)
            exact ⟨pp, h1, h2.symm⟩
        obtain ⟨L, C, N, M, xs, cs, nm, ps, ll, cl, paper, _⟩ := hpx pp hpp
        dsimp only [gName]
        refine ⟨_, rfl, pp, L, C, N, M, xs, cs, nm, ps, ll, cl, rfl, (paper.same s57).same S8, fun H9 S9 => ⟨_, rfl, ?_⟩⟩
        refine iteF ?_
        exact ⟨_, _, _, _, _, rfl, S8.trans S9⟩
      · exact k _
end
end K7

set_option linter.all false
set_option maxRecDepth 100000
set_option Elab.async false
set_option maxHeartbeats 8000000
namespace K7
open PySem L2
theorem all_mk {l : PySem.W.OpenLaw} {w : World} {K : PySem.W.Frag} {h : Heap} {mg : Str → Option Value} {fa : Addr} (X : K.In h) (G : h.Ns mainGlobals mg) (hfa : mg "law" = some (.ref fa))
    {fDa : Addr} {odDa anDa : Option Addr} {slDa : Array (Option Value)} {ocDa kVDa dcDa pmDa cdDa ctDa : Value} {fI : Addr} {odI anI : Option Addr} {slI : Array (Option Value)} {ocI kVI dcI pmI cdI ctI : Value} {fCt : Addr} {odCt anCt : Option Addr} {slCt : Array (Option Value)} {ocCt kVCt dcCt pmCt cdCt ctCt : Value} {fGt : Addr} {odGt anGt : Option Addr} {slGt : Array (Option Value)} {ocGt kVGt dcGt pmGt cdGt ctGt : Value} {fNt : Addr} {odNt anNt : Option Addr} {slNt : Array (Option Value)} {ocNt kVNt dcNt pmNt cdNt ctNt : Value} {fPt : Addr} {odPt anPt : Option Addr} {slPt : Array (Option Value)} {ocPt kVPt dcPt pmPt cdPt ctPt : Value} {fIn : Addr} {odIn anIn : Option Addr} {slIn : Array (Option Value)} {ocIn kVIn dcIn pmIn cdIn ctIn : Value} {fRi : Addr} {odRi anRi : Option Addr} {slRi : Array (Option Value)} {ocRi kVRi dcRi pmRi cdRi ctRi : Value} {fNo : Addr} {odNo anNo : Option Addr} {slNo : Array (Option Value)} {ocNo kVNo dcNo pmNo cdNo ctNo : Value} {fWo : Addr} {odWo anWo : Option Addr} {slWo : Array (Option Value)} {ocWo kVWo dcWo pmWo cdWo ctWo : Value} {fTh : Addr} {odTh anTh : Option Addr} {slTh : Array (Option Value)} {ocTh kVTh dcTh pmTh cdTh ctTh : Value} {fRc : Addr} {odRc anRc : Option Addr} {slRc : Array (Option Value)} {ocRc kVRc dcRc pmRc cdRc ctRc : Value} {fRg : Addr} {odRg anRg : Option Addr} {slRg : Array (Option Value)} {ocRg kVRg dcRg pmRg cdRg ctRg : Value} {fRn : Addr} {odRn anRn : Option Addr} {slRn : Array (Option Value)} {ocRn kVRn dcRn pmRn cdRn ctRn : Value} {fP : Addr} {odP anP : Option Addr} {slP : Array (Option Value)} {ocP kVP dcP pmP cdP ctP : Value} {fT : Addr} {odT anT : Option Addr} {slT : Array (Option Value)} {ocT kVT dcT pmT cdT ctT : Value} {fN : Addr} {odN anN : Option Addr} {slN : Array (Option Value)} {ocN kVN dcN pmN cdN ctN : Value} {fCh : Addr} {odCh anCh : Option Addr} {slCh : Array (Option Value)} {ocCh kVCh dcCh pmCh cdCh ctCh : Value} {fCa : Addr} {odCa anCa : Option Addr} {slCa : Array (Option Value)} {ocCa kVCa dcCa pmCa cdCa ctCa : Value} {fLc : Addr} {odLc anLc : Option Addr} {slLc : Array (Option Value)} {ocLc kVLc dcLc pmLc cdLc ctLc : Value} {fLi : Addr} {odLi anLi : Option Addr} {slLi : Array (Option Value)} {ocLi kVLi dcLi pmLi cdLi ctLi : Value} {fLg : Addr} {odLg anLg : Option Addr} {slLg : Array (Option Value)} {ocLg kVLg dcLg pmLg cdLg ctLg : Value} {fRR : Addr} {odRR anRR : Option Addr} {slRR : Array (Option Value)} {ocRR kVRR dcRR pmRR cdRR ctRR : Value} {fRt : Addr} {odRt anRt : Option Addr} {slRt : Array (Option Value)} {ocRt kVRt dcRt pmRt cdRt ctRt : Value} {fL : Addr} {odL anL : Option Addr} {slL : Array (Option Value)} {ocL kVL dcL pmL cdL ctL : Value}
    {t_LONGEST : Tok}
    {t_MOST_FIGURES : Tok}
    (aDa : PySem.W.nsIn K mainGlobals "or_dash" = some (some (.ref fDa))) (lDa : K.lookup fDa = some ⟨ocDa, odDa, .func (PySem.W.fnOf "or_dash" "or_dash" (defArgs sOrDash) (defBody sOrDash) (defScope sOrDash) .none kVDa dcDa pmDa anDa cdDa ctDa), slDa⟩) (cDa : PySem.W.codeIn K cdDa "or_dash" = true) (kDa : PySem.W.keepIn K (.ref fDa) = true)
    (aI : PySem.W.nsIn K mainGlobals "in_a_row" = some (some (.ref fI))) (lI : K.lookup fI = some ⟨ocI, odI, .func (PySem.W.fnOf "in_a_row" "in_a_row" (defArgs sInARow) (defBody sInARow) (defScope sInARow) .none kVI dcI pmI anI cdI ctI), slI⟩) (cI : PySem.W.codeIn K cdI "in_a_row" = true) (kI : PySem.W.keepIn K (.ref fI) = true)
    (aCt : PySem.W.nsIn K mainGlobals "chain_text" = some (some (.ref fCt))) (lCt : K.lookup fCt = some ⟨ocCt, odCt, .func (PySem.W.fnOf "chain_text" "chain_text" (defArgs sChainText) (defBody sChainText) (defScope sChainText) .none kVCt dcCt pmCt anCt cdCt ctCt), slCt⟩) (cCt : PySem.W.codeIn K cdCt "chain_text" = true) (kCt : PySem.W.keepIn K (.ref fCt) = true)
    (aGt : PySem.W.nsIn K mainGlobals "calling_text" = some (some (.ref fGt))) (lGt : K.lookup fGt = some ⟨ocGt, odGt, .func (PySem.W.fnOf "calling_text" "calling_text" (defArgs sCallingText) (defBody sCallingText) (defScope sCallingText) .none kVGt dcGt pmGt anGt cdGt ctGt), slGt⟩) (cGt : PySem.W.codeIn K cdGt "calling_text" = true) (kGt : PySem.W.keepIn K (.ref fGt) = true)
    (aNt : PySem.W.nsIn K mainGlobals "names_text" = some (some (.ref fNt))) (lNt : K.lookup fNt = some ⟨ocNt, odNt, .func (PySem.W.fnOf "names_text" "names_text" (defArgs sNamesText) (defBody sNamesText) (defScope sNamesText) .none kVNt dcNt pmNt anNt cdNt ctNt), slNt⟩) (cNt : PySem.W.codeIn K cdNt "names_text" = true) (kNt : PySem.W.keepIn K (.ref fNt) = true)
    (aPt : PySem.W.nsIn K mainGlobals "places_text" = some (some (.ref fPt))) (lPt : K.lookup fPt = some ⟨ocPt, odPt, .func (PySem.W.fnOf "places_text" "places_text" (defArgs sPlacesText) (defBody sPlacesText) (defScope sPlacesText) .none kVPt dcPt pmPt anPt cdPt ctPt), slPt⟩) (cPt : PySem.W.codeIn K cdPt "places_text" = true) (kPt : PySem.W.keepIn K (.ref fPt) = true)
    (aIn : PySem.W.nsIn K mainGlobals "is_name" = some (some (.ref fIn))) (lIn : K.lookup fIn = some ⟨ocIn, odIn, .func (PySem.W.fnOf "is_name" "is_name" (defArgs sIsName) (defBody sIsName) (defScope sIsName) .none kVIn dcIn pmIn anIn cdIn ctIn), slIn⟩) (cIn : PySem.W.codeIn K cdIn "is_name" = true) (kIn : PySem.W.keepIn K (.ref fIn) = true)
    (aRi : PySem.W.nsIn K mainGlobals "is_rising" = some (some (.ref fRi))) (lRi : K.lookup fRi = some ⟨ocRi, odRi, .func (PySem.W.fnOf "is_rising" "is_rising" (defArgs sRising) (defBody sRising) (defScope sRising) .none kVRi dcRi pmRi anRi cdRi ctRi), slRi⟩) (cRi : PySem.W.codeIn K cdRi "is_rising" = true) (kRi : PySem.W.keepIn K (.ref fRi) = true)
    (aNo : PySem.W.nsIn K mainGlobals "number_of" = some (some (.ref fNo))) (lNo : K.lookup fNo = some ⟨ocNo, odNo, .func (PySem.W.fnOf "number_of" "number_of" (defArgs sNumberOf) (defBody sNumberOf) (defScope sNumberOf) .none kVNo dcNo pmNo anNo cdNo ctNo), slNo⟩) (cNo : PySem.W.codeIn K cdNo "number_of" = true) (kNo : PySem.W.keepIn K (.ref fNo) = true)
    (aWo : PySem.W.nsIn K mainGlobals "words_of" = some (some (.ref fWo))) (lWo : K.lookup fWo = some ⟨ocWo, odWo, .func (PySem.W.fnOf "words_of" "words_of" (defArgs sWordsOf) (defBody sWordsOf) (defScope sWordsOf) .none kVWo dcWo pmWo anWo cdWo ctWo), slWo⟩) (cWo : PySem.W.codeIn K cdWo "words_of" = true) (kWo : PySem.W.keepIn K (.ref fWo) = true)
    (aTh : PySem.W.nsIn K mainGlobals "in_threes" = some (some (.ref fTh))) (lTh : K.lookup fTh = some ⟨ocTh, odTh, .func (PySem.W.fnOf "in_threes" "in_threes" (defArgs sInThrees) (defBody sInThrees) (defScope sInThrees) .none kVTh dcTh pmTh anTh cdTh ctTh), slTh⟩) (cTh : PySem.W.codeIn K cdTh "in_threes" = true) (kTh : PySem.W.keepIn K (.ref fTh) = true)
    (aRc : PySem.W.nsIn K mainGlobals "read_chain" = some (some (.ref fRc))) (lRc : K.lookup fRc = some ⟨ocRc, odRc, .func (PySem.W.fnOf "read_chain" "read_chain" (defArgs sReadChain) (defBody sReadChain) (defScope sReadChain) .none kVRc dcRc pmRc anRc cdRc ctRc), slRc⟩) (cRc : PySem.W.codeIn K cdRc "read_chain" = true) (kRc : PySem.W.keepIn K (.ref fRc) = true)
    (aRg : PySem.W.nsIn K mainGlobals "read_calling" = some (some (.ref fRg))) (lRg : K.lookup fRg = some ⟨ocRg, odRg, .func (PySem.W.fnOf "read_calling" "read_calling" (defArgs sReadCalling) (defBody sReadCalling) (defScope sReadCalling) .none kVRg dcRg pmRg anRg cdRg ctRg), slRg⟩) (cRg : PySem.W.codeIn K cdRg "read_calling" = true) (kRg : PySem.W.keepIn K (.ref fRg) = true)
    (aRn : PySem.W.nsIn K mainGlobals "read_names" = some (some (.ref fRn))) (lRn : K.lookup fRn = some ⟨ocRn, odRn, .func (PySem.W.fnOf "read_names" "read_names" (defArgs sReadNames) (defBody sReadNames) (defScope sReadNames) .none kVRn dcRn pmRn anRn cdRn ctRn), slRn⟩) (cRn : PySem.W.codeIn K cdRn "read_names" = true) (kRn : PySem.W.keepIn K (.ref fRn) = true)
    (aP : PySem.W.nsIn K mainGlobals "_law_pen" = some (some (.ref fP))) (lP : K.lookup fP = some ⟨ocP, odP, .func (PySem.W.fnOf "_law_pen" "_law_pen" (defArgs sPen) (defBody sPen) (defScope sPen) .none kVP dcP pmP anP cdP ctP), slP⟩) (cP : PySem.W.codeIn K cdP "_law_pen" = true) (kP : PySem.W.keepIn K (.ref fP) = true)
    (aT : PySem.W.nsIn K mainGlobals "_law_take" = some (some (.ref fT))) (lT : K.lookup fT = some ⟨ocT, odT, .func (PySem.W.fnOf "_law_take" "_law_take" (defArgs sTake) (defBody sTake) (defScope sTake) .none kVT dcT pmT anT cdT ctT), slT⟩) (cT : PySem.W.codeIn K cdT "_law_take" = true) (kT : PySem.W.keepIn K (.ref fT) = true)
    (aN : PySem.W.nsIn K mainGlobals "_law_names" = some (some (.ref fN))) (lN : K.lookup fN = some ⟨ocN, odN, .func (PySem.W.fnOf "_law_names" "_law_names" (defArgs sNames) (defBody sNames) (defScope sNames) .none kVN dcN pmN anN cdN ctN), slN⟩) (cN : PySem.W.codeIn K cdN "_law_names" = true) (kN : PySem.W.keepIn K (.ref fN) = true)
    (aCh : PySem.W.nsIn K mainGlobals "_law_chain" = some (some (.ref fCh))) (lCh : K.lookup fCh = some ⟨ocCh, odCh, .func (PySem.W.fnOf "_law_chain" "_law_chain" (defArgs sChain) (defBody sChain) (defScope sChain) .none kVCh dcCh pmCh anCh cdCh ctCh), slCh⟩) (cCh : PySem.W.codeIn K cdCh "_law_chain" = true) (kCh : PySem.W.keepIn K (.ref fCh) = true)
    (aCa : PySem.W.nsIn K mainGlobals "_law_calling" = some (some (.ref fCa))) (lCa : K.lookup fCa = some ⟨ocCa, odCa, .func (PySem.W.fnOf "_law_calling" "_law_calling" (defArgs sCalling) (defBody sCalling) (defScope sCalling) .none kVCa dcCa pmCa anCa cdCa ctCa), slCa⟩) (cCa : PySem.W.codeIn K cdCa "_law_calling" = true) (kCa : PySem.W.keepIn K (.ref fCa) = true)
    (aLc : PySem.W.nsIn K mainGlobals "_law_chain_text" = some (some (.ref fLc))) (lLc : K.lookup fLc = some ⟨ocLc, odLc, .func (PySem.W.fnOf "_law_chain_text" "_law_chain_text" (defArgs sLChainText) (defBody sLChainText) (defScope sLChainText) .none kVLc dcLc pmLc anLc cdLc ctLc), slLc⟩) (cLc : PySem.W.codeIn K cdLc "_law_chain_text" = true) (kLc : PySem.W.keepIn K (.ref fLc) = true)
    (aLi : PySem.W.nsIn K mainGlobals "_law_listed_text" = some (some (.ref fLi))) (lLi : K.lookup fLi = some ⟨ocLi, odLi, .func (PySem.W.fnOf "_law_listed_text" "_law_listed_text" (defArgs sListedText) (defBody sListedText) (defScope sListedText) .none kVLi dcLi pmLi anLi cdLi ctLi), slLi⟩) (cLi : PySem.W.codeIn K cdLi "_law_listed_text" = true) (kLi : PySem.W.keepIn K (.ref fLi) = true)
    (aLg : PySem.W.nsIn K mainGlobals "_law_calling_text" = some (some (.ref fLg))) (lLg : K.lookup fLg = some ⟨ocLg, odLg, .func (PySem.W.fnOf "_law_calling_text" "_law_calling_text" (defArgs sLCallingText) (defBody sLCallingText) (defScope sLCallingText) .none kVLg dcLg pmLg anLg cdLg ctLg), slLg⟩) (cLg : PySem.W.codeIn K cdLg "_law_calling_text" = true) (kLg : PySem.W.keepIn K (.ref fLg) = true)
    (aRR : PySem.W.nsIn K mainGlobals "_law_read_right" = some (some (.ref fRR))) (lRR : K.lookup fRR = some ⟨ocRR, odRR, .func (PySem.W.fnOf "_law_read_right" "_law_read_right" (defArgs sReadRight) (defBody sReadRight) (defScope sReadRight) .none kVRR dcRR pmRR anRR cdRR ctRR), slRR⟩) (cRR : PySem.W.codeIn K cdRR "_law_read_right" = true) (kRR : PySem.W.keepIn K (.ref fRR) = true)
    (aRt : PySem.W.nsIn K mainGlobals "_law_right" = some (some (.ref fRt))) (lRt : K.lookup fRt = some ⟨ocRt, odRt, .func (PySem.W.fnOf "_law_right" "_law_right" (defArgs sRight) (defBody sRight) (defScope sRight) .none kVRt dcRt pmRt anRt cdRt ctRt), slRt⟩) (cRt : PySem.W.codeIn K cdRt "_law_right" = true) (kRt : PySem.W.keepIn K (.ref fRt) = true)
    (aL : PySem.W.nsIn K mainGlobals "law" = some (some (.ref fL))) (lL : K.lookup fL = some ⟨ocL, odL, .func (PySem.W.fnOf "law" "law" (defArgs sLaw) (defBody sLaw) (defScope sLaw) .none kVL dcL pmL anL cdL ctL), slL⟩) (cL : PySem.W.codeIn K cdL "law" = true) (kL : PySem.W.keepIn K (.ref fL) = true)
    (z_isinstance : PySem.W.nsIn K mainGlobals "isinstance" = some none)
    (z_str : PySem.W.nsIn K mainGlobals "str" = some none)
    (z_len : PySem.W.nsIn K mainGlobals "len" = some none)
    (z_all : PySem.W.nsIn K mainGlobals "all" = some none)
    (z_int : PySem.W.nsIn K mainGlobals "int" = some none)
    (z_set : PySem.W.nsIn K mainGlobals "set" = some none)
    (z_list : PySem.W.nsIn K mainGlobals "list" = some none)
    (z_sorted : PySem.W.nsIn K mainGlobals "sorted" = some none)
    (z_range : PySem.W.nsIn K mainGlobals "range" = some none)
    (z_repr : PySem.W.nsIn K mainGlobals "repr" = some none)
    (z_abs : PySem.W.nsIn K mainGlobals "abs" = some none)
    (z_min : PySem.W.nsIn K mainGlobals "min" = some none)
    (q_LONGEST : PySem.W.nsIn K mainGlobals "LONGEST" = some (some (.int 8 t_LONGEST)))
    (q_MOST_FIGURES : PySem.W.nsIn K mainGlobals "MOST_FIGURES" = some (some (.int 60 t_MOST_FIGURES)))
    : ∃ fd : FuncData, (∀ (s : Shared) (v : Value), BindsTo s fd ⟨[v], []⟩ [("_law_script", v)]) ∧ ∀ base : Heap, K.In base → base.Ns mainGlobals mg → FnOk l.prog w K mg base CX0 5 fa fd ["_law_script"] (spLaw K) := by
  have e := hfa.symm.trans (PySem.W.mg_of X G aL)
  cases e
  have FDa := fun_mk (st := sOrDash) lDa cDa kDa
  have mDa := PySem.W.mg_of X G aDa
  have bDa := FDa.binds (ps := ["word"]) fun _ _ _ _ _ _ us hl => match us, hl with | [_], _ => rfl
  have FI := fun_mk (st := sInARow) lI cI kI
  have mI := PySem.W.mg_of X G aI
  have bI := FI.binds (ps := ["words"]) fun _ _ _ _ _ _ us hl => match us, hl with | [_], _ => rfl
  have FCt := fun_mk (st := sChainText) lCt cCt kCt
  have mCt := PySem.W.mg_of X G aCt
  have bCt := FCt.binds (ps := ["chain"]) fun _ _ _ _ _ _ us hl => match us, hl with | [_], _ => rfl
  have FGt := fun_mk (st := sCallingText) lGt cGt kGt
  have mGt := PySem.W.mg_of X G aGt
  have bGt := FGt.binds (ps := ["calling"]) fun _ _ _ _ _ _ us hl => match us, hl with | [_], _ => rfl
  have FNt := fun_mk (st := sNamesText) lNt cNt kNt
  have mNt := PySem.W.mg_of X G aNt
  have bNt := FNt.binds (ps := ["names"]) fun _ _ _ _ _ _ us hl => match us, hl with | [_], _ => rfl
  have FPt := fun_mk (st := sPlacesText) lPt cPt kPt
  have mPt := PySem.W.mg_of X G aPt
  have bPt := FPt.binds (ps := ["places"]) fun _ _ _ _ _ _ us hl => match us, hl with | [_], _ => rfl
  have FIn := fun_mk (st := sIsName) lIn cIn kIn
  have mIn := PySem.W.mg_of X G aIn
  have bIn := FIn.binds (ps := ["thing"]) fun _ _ _ _ _ _ us hl => match us, hl with | [_], _ => rfl
  have FRi := fun_mk (st := sRising) lRi cRi kRi
  have mRi := PySem.W.mg_of X G aRi
  have bRi := FRi.binds (ps := ["things"]) fun _ _ _ _ _ _ us hl => match us, hl with | [_], _ => rfl
  have FNo := fun_mk (st := sNumberOf) lNo cNo kNo
  have mNo := PySem.W.mg_of X G aNo
  have bNo := FNo.binds (ps := ["word"]) fun _ _ _ _ _ _ us hl => match us, hl with | [_], _ => rfl
  have FWo := fun_mk (st := sWordsOf) lWo cWo kWo
  have mWo := PySem.W.mg_of X G aWo
  have bWo := FWo.binds (ps := ["text"]) fun _ _ _ _ _ _ us hl => match us, hl with | [_], _ => rfl
  have FTh := fun_mk (st := sInThrees) lTh cTh kTh
  have mTh := PySem.W.mg_of X G aTh
  have bTh := FTh.binds (ps := ["words"]) fun _ _ _ _ _ _ us hl => match us, hl with | [_], _ => rfl
  have FRc := fun_mk (st := sReadChain) lRc cRc kRc
  have mRc := PySem.W.mg_of X G aRc
  have bRc := FRc.binds (ps := ["text"]) fun _ _ _ _ _ _ us hl => match us, hl with | [_], _ => rfl
  have FRg := fun_mk (st := sReadCalling) lRg cRg kRg
  have mRg := PySem.W.mg_of X G aRg
  have bRg := FRg.binds (ps := ["text"]) fun _ _ _ _ _ _ us hl => match us, hl with | [_], _ => rfl
  have FRn := fun_mk (st := sReadNames) lRn cRn kRn
  have mRn := PySem.W.mg_of X G aRn
  have bRn := FRn.binds (ps := ["text"]) fun _ _ _ _ _ _ us hl => match us, hl with | [_], _ => rfl
  have FP := fun_mk (st := sPen) lP cP kP
  have mP := PySem.W.mg_of X G aP
  have bP := FP.binds (ps := ["_law_script"]) fun _ _ _ _ _ _ us hl => match us, hl with | [_], _ => rfl
  have FT := fun_mk (st := sTake) lT cT kT
  have mT := PySem.W.mg_of X G aT
  have bT := FT.binds (ps := ["_law_pen_here", "_law_many"]) fun _ _ _ _ _ _ us hl => match us, hl with | [_, _], _ => rfl
  have FN := fun_mk (st := sNames) lN cN kN
  have mN := PySem.W.mg_of X G aN
  have bN := FN.binds (ps := ["_law_pen_here", "_law_many"]) fun _ _ _ _ _ _ us hl => match us, hl with | [_, _], _ => rfl
  have FCh := fun_mk (st := sChain) lCh cCh kCh
  have mCh := PySem.W.mg_of X G aCh
  have bCh := FCh.binds (ps := ["_law_pen_here", "_law_names_here"]) fun _ _ _ _ _ _ us hl => match us, hl with | [_, _], _ => rfl
  have FCa := fun_mk (st := sCalling) lCa cCa kCa
  have mCa := PySem.W.mg_of X G aCa
  have bCa := FCa.binds (ps := ["_law_pen_here", "_law_names_here"]) fun _ _ _ _ _ _ us hl => match us, hl with | [_, _], _ => rfl
  have FLc := fun_mk (st := sLChainText) lLc cLc kLc
  have mLc := PySem.W.mg_of X G aLc
  have bLc := FLc.binds (ps := ["_law_links"]) fun _ _ _ _ _ _ us hl => match us, hl with | [_], _ => rfl
  have FLi := fun_mk (st := sListedText) lLi cLi kLi
  have mLi := PySem.W.mg_of X G aLi
  have bLi := FLi.binds (ps := ["_law_some"]) fun _ _ _ _ _ _ us hl => match us, hl with | [_], _ => rfl
  have FLg := fun_mk (st := sLCallingText) lLg cLg kLg
  have mLg := PySem.W.mg_of X G aLg
  have bLg := FLg.binds (ps := ["_law_calls"]) fun _ _ _ _ _ _ us hl => match us, hl with | [_], _ => rfl
  have FRR := fun_mk (st := sReadRight) lRR cRR kRR
  have mRR := PySem.W.mg_of X G aRR
  have bRR := FRR.binds (ps := ["_law_reads", "_law_text", "_law_owed"]) fun _ _ _ _ _ _ us hl => match us, hl with | [_, _, _], _ => rfl
  have FRt := fun_mk (st := sRight) lRt cRt kRt
  have mRt := PySem.W.mg_of X G aRt
  have bRt := FRt.binds (ps := ["_law_papers"]) fun _ _ _ _ _ _ us hl => match us, hl with | [_], _ => rfl
  have FL := fun_mk (st := sLaw) lL cL kL
  have mL := PySem.W.mg_of X G aL
  have bL := FL.binds (ps := ["_law_script"]) fun _ _ _ _ _ _ us hl => match us, hl with | [_], _ => rfl
  have n_isinstance := PySem.W.mg_none_of X G z_isinstance
  have n_str := PySem.W.mg_none_of X G z_str
  have n_len := PySem.W.mg_none_of X G z_len
  have n_all := PySem.W.mg_none_of X G z_all
  have n_int := PySem.W.mg_none_of X G z_int
  have n_set := PySem.W.mg_none_of X G z_set
  have n_list := PySem.W.mg_none_of X G z_list
  have n_sorted := PySem.W.mg_none_of X G z_sorted
  have n_range := PySem.W.mg_none_of X G z_range
  have n_repr := PySem.W.mg_none_of X G z_repr
  have n_abs := PySem.W.mg_none_of X G z_abs
  have n_min := PySem.W.mg_none_of X G z_min
  have g_LONGEST := PySem.W.mg_of X G q_LONGEST
  have g_MOST_FIGURES := PySem.W.mg_of X G q_MOST_FIGURES
  refine ⟨PySem.W.fnOf "law" "law" (defArgs sLaw) (defBody sLaw) (defScope sLaw) .none kVL dcL pmL anL cdL ctL, fun s v => .of_eq rfl, fun base _ _ => ?_⟩
  have T : Txt K mg := ⟨n_isinstance, n_str, n_len, n_all, n_int, n_set, n_list, n_sorted, ⟨_, g_LONGEST⟩, ⟨_, g_MOST_FIGURES⟩⟩
  have GT := ok_take (P := l.prog) (w := w) (base := base) FT n_len n_abs
  have GN := ok_names FN n_len n_range n_min GT mT kT bT
  have GDa := ok_dash (P := l.prog) (w := w) (mg := mg) (base := base) FDa
  have GI := ok_inRow (P := l.prog) (w := w) (mg := mg) (base := base) FI
  have GCt := ok_chainT FCt GI mI kI bI GDa mDa kDa bDa
  have GGt := ok_callingT FGt GI mI kI bI
  have GNt := ok_namesT FNt GI mI kI bI
  have GPt := ok_placesT FPt n_str GI mI kI bI
  have GIn := ok_isName (P := l.prog) (w := w) (base := base) FIn T
  have GRi := ok_rising (P := l.prog) (w := w) (base := base) FRi T n_list n_sorted
  have GRj := ok_rising2 (P := l.prog) (w := w) (base := base) FRi T
  have GNo := ok_numOf (P := l.prog) (w := w) (base := base) FNo T
  have GWo := ok_words (P := l.prog) (w := w) (base := base) FWo T
  have GTh := ok_threes (P := l.prog) (w := w) (base := base) FTh T
  have GRc := ok_readChain FRc T GWo mWo kWo bWo GTh mTh kTh bTh GIn mIn kIn bIn
  have GRg := ok_readCalling FRg T GWo mWo kWo bWo GTh mTh kTh bTh GNo mNo kNo bNo GRj mRi kRi bRi GIn mIn kIn bIn
  have GRn := ok_readNames FRn T GWo mWo kWo bWo GRi mRi kRi bRi GIn mIn kIn bIn
  have GCh := ok_chain FCh n_len n_range n_int GT mT kT bT
  have GCa := ok_calling FCa n_len n_range n_list n_sorted GT mT kT bT
  have GLc := ok_lChainT (P := l.prog) (w := w) (mg := mg) (base := base) FLc
  have GLi := ok_listed (P := l.prog) (w := w) (base := base) FLi n_int
  have GLg := ok_lCallingT FLg n_str GLi mLi kLi bLi
  have GRR := ok_readRight (P := l.prog) (w := w) (base := base) FRR T n_range n_repr
  have GRt := ok_right FRt T n_repr GLc mLc kLc bLc GLg mLg kLg bLg GLi mLi kLi bLi GCt mCt kCt bCt GGt mGt kGt bGt GNt mNt kNt bNt GPt mPt kPt bPt GRR mRR kRR bRR GRc mRc kRc bRc GRg mRg kRg bRg GRn mRn kRn bRn
  exact ok_law FL n_range n_len n_sorted (ok_pen FP n_list) mP kP bP GT mT kT bT GN mN kN bN GCh mCh kCh bCh GCa mCa kCa bCa GRt mRt kRt bRt
theorem walk {l : PySem.W.OpenLaw} {q : Program} {loose : List Str} {XP : (Str → Option Value) → Heap → Prop} {YP : World → Heap → Prop} {d : DefRec} {K : Params → PySem.W.Frag} (hn : l.most = some 63) (hdf : d.params.defaults = [])
    (hY : ∀ (w : World) (h : Heap), YP w h → (K w.params).In h)
    (F : ∀ (w : World) (mg : Str → Option Value) (fa : Addr) (h : Heap), (K w.params).In h → h.Ns mainGlobals mg → mg d.name = some (.ref fa) →
      ∃ fd : FuncData, (∀ (s : Shared) (u : Value), BindsTo s fd ⟨[u], []⟩ [("_law_script", u)]) ∧ ∀ base : Heap, (K w.params).In base → base.Ns mainGlobals mg → FnOk l.prog w (K w.params) mg base CX0 5 fa fd ["_law_script"] (spLaw (K w.params))) :
    PySem.W.WalkO q loose XP YP l.row.toRowW d [] (fun f vs => PySem.call f vs) :=
  L2.walk_of (n := 63) (k := 5) (x := "_law_script") (CX := fun _ => CX0) (sp := fun w => spLaw (K w.params)) hn (by decide) hdf ⟨rfl, by decide, by decide, rfl⟩ hY F (fun _ _ a ns hl _ hS => ⟨a, ns, rfl, hS, hl, fun _ => rfl⟩) fun _ _ _ _ _ z => z
end K7
open PySem PySem.W PyProof.Rows
set_option maxRecDepth 100000 in
set_option maxHeartbeats 0 in
theorem PySem.Challenge.cw_dykelengths_k73_papers_written_and_read_holds : PySem.Challenge.rw_dykelengths_k73_papers_written_and_read.Holds := by
  w_on; o_law; k_head; (case hw => w_witness2)
  k_fill
  refine K7.walk (l := PySem.Challenge.rw_dykelengths_k73_papers_written_and_read) rfl rfl (fun w h Y => PySem.W.kIn_of Y) ?F
  case F =>
    intro w mg fa h KX G hmg
    refine' K7.all_mk KX G hmg ?aDa ?lDa ?cDa ?kDa ?aI ?lI ?cI ?kI ?aCt ?lCt ?cCt ?kCt ?aGt ?lGt ?cGt ?kGt ?aNt ?lNt ?cNt ?kNt ?aPt ?lPt ?cPt ?kPt ?aIn ?lIn ?cIn ?kIn ?aRi ?lRi ?cRi ?kRi ?aNo ?lNo ?cNo ?kNo ?aWo ?lWo ?cWo ?kWo ?aTh ?lTh ?cTh ?kTh ?aRc ?lRc ?cRc ?kRc ?aRg ?lRg ?cRg ?kRg ?aRn ?lRn ?cRn ?kRn ?aP ?lP ?cP ?kP ?aT ?lT ?cT ?kT ?aN ?lN ?cN ?kN ?aCh ?lCh ?cCh ?kCh ?aCa ?lCa ?cCa ?kCa ?aLc ?lLc ?cLc ?kLc ?aLi ?lLi ?cLi ?kLi ?aLg ?lLg ?cLg ?kLg ?aRR ?lRR ?cRR ?kRR ?aRt ?lRt ?cRt ?kRt ?aL ?lL ?cL ?kL ?z_isinstance ?z_str ?z_len ?z_all ?z_int ?z_set ?z_list ?z_sorted ?z_range ?z_repr ?z_abs ?z_min ?q_LONGEST ?q_MOST_FIGURES
    (case aDa => k_is); (case lDa => k_is); (case cDa => k_is); (case kDa => k_is)
    (case aI => k_is); (case lI => k_is); (case cI => k_is); (case kI => k_is)
    (case aCt => k_is); (case lCt => k_is); (case cCt => k_is); (case kCt => k_is)
    (case aGt => k_is); (case lGt => k_is); (case cGt => k_is); (case kGt => k_is)
    (case aNt => k_is); (case lNt => k_is); (case cNt => k_is); (case kNt => k_is)
    (case aPt => k_is); (case lPt => k_is); (case cPt => k_is); (case kPt => k_is)
    (case aIn => k_is); (case lIn => k_is); (case cIn => k_is); (case kIn => k_is)
    (case aRi => k_is); (case lRi => k_is); (case cRi => k_is); (case kRi => k_is)
    (case aNo => k_is); (case lNo => k_is); (case cNo => k_is); (case kNo => k_is)
    (case aWo => k_is); (case lWo => k_is); (case cWo => k_is); (case kWo => k_is)
    (case aTh => k_is); (case lTh => k_is); (case cTh => k_is); (case kTh => k_is)
    (case aRc => k_is); (case lRc => k_is); (case cRc => k_is); (case kRc => k_is)
    (case aRg => k_is); (case lRg => k_is); (case cRg => k_is); (case kRg => k_is)
    (case aRn => k_is); (case lRn => k_is); (case cRn => k_is); (case kRn => k_is)
    (case aP => k_is); (case lP => k_is); (case cP => k_is); (case kP => k_is)
    (case aT => k_is); (case lT => k_is); (case cT => k_is); (case kT => k_is)
    (case aN => k_is); (case lN => k_is); (case cN => k_is); (case kN => k_is)
    (case aCh => k_is); (case lCh => k_is); (case cCh => k_is); (case kCh => k_is)
    (case aCa => k_is); (case lCa => k_is); (case cCa => k_is); (case kCa => k_is)
    (case aLc => k_is); (case lLc => k_is); (case cLc => k_is); (case kLc => k_is)
    (case aLi => k_is); (case lLi => k_is); (case cLi => k_is); (case kLi => k_is)
    (case aLg => k_is); (case lLg => k_is); (case cLg => k_is); (case kLg => k_is)
    (case aRR => k_is); (case lRR => k_is); (case cRR => k_is); (case kRR => k_is)
    (case aRt => k_is); (case lRt => k_is); (case cRt => k_is); (case kRt => k_is)
    (case aL => k_is); (case lL => k_is); (case cL => k_is); (case kL => k_is)
    (case z_isinstance => k_is); (case z_str => k_is); (case z_len => k_is); (case z_all => k_is)
    (case z_int => k_is); (case z_set => k_is); (case z_list => k_is); (case z_sorted => k_is)
    (case z_range => k_is); (case z_repr => k_is); (case z_abs => k_is); (case z_min => k_is)
    (case q_LONGEST => k_is); (case q_MOST_FIGURES => k_is)
